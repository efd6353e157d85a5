import PyProof.Rows.All
import Wide.All
import OpenK.AllK
import Wide.FinOn
import HandS.ForMost
import HandS.OwnEq
import HandS.SlotsOwn
import HandS.Property
import HandS.Gcd
import HandS.WideBits
import HandS.Style
import HandS.FStr
import HandS.IsInst
import HandS.RaiseMore
import HandS.Codes
import HandS.Defaults
import KE.RegKCallOwn
import PyProof.ReprRoads
import HandS.ClsMeth
import HandS.Star
import HandS.MakeKwOnly
import HandS.MakeKw
import HandS.StrMore
import KE.GoesMore
import KE.GoesEnum
import HandS.Walk
import HandS.Zip
import KE.KDictZip
import HandS.TryOnly
import HandS.ExcInit
import HandS.ExcField
import HandS.WordsExc
import HandS.TryMany
import HandS.ExcIs
import KE.KExcIs
import PyProof.ExcBaseAll.ArithmeticError
import KE.KExcInit
import PyProof.ExcBaseAll.LookupError
import PyProof.ExcBaseAll.RuntimeError
import PyProof.ExcBaseAll.ValueError
import HandS.OwnIter
import HandS.IterVal
import PySem.Challenge.RW_surepipes_k60_orders_made_and_asked
import PyProof.Rows.StrFirst
import PyProof.Rows.StrItems
import PyProof.StrLawsChain
import PyProof.StrLawsTight
import PyProof.StrLawsAffix
import KE.IntTextLaws
import HandS.Text
import HandS.Dict
import HandS.Lambda
import HandS.EndTab
import HandS.HotCalls
import KE.KNest
import PyProof.ReprNest
import KE.KFmtOwn
import HandS.SetFor
import HandS.Strs
import HandS.ListItems
import PyProof.AutoSeq1
import KE.OsRunLaw
set_option Elab.async false
set_option linter.all false
set_option maxRecDepth 100000
set_option maxHeartbeats 4000000
namespace Lb
open PySem PySem.Spec PyProof.Rows L2
open SlX (cmpback)

/-! own operators of plain instances -/
section
variable {X : Cx} {CX : CXT} {pins : List (Addr × Obj)} {σ : L2.St} {H : Hp} {s : Shared} {a C dx p g : Addr} {f : Str} {n : Nat} {sp : Sp} {E : XK} {v : V} {u : Value}

/-- what a comparison sees as the type of a value -/
theorem looks_ty {x : V} {u t : Value} (I : Inv X pins σ H s) (rx : RelV x u) (ty : TyOf X.K H x t) : PySem.W.Looks (model X.prog X.w) s.heap (typeOf u) t := by
  obtain ⟨P, k, hp, _⟩ := kit_of I rx (.base ty)
  exact k.ty _ _ I.kIn hp

/-- the instance as the library takes it -/
theorem inst_at {fs : List (Str × V)} (I : Inv X pins σ H s) (e : H a = some (.ins C dx fs)) : ∃ od, PySem.W.InstAt s.heap a (PySem.W.instObj C dx) C (some od) := by
  obtain ⟨mA, O, _⟩ := ins_get I.hok e
  obtain ⟨od, J, _⟩ := O.look
  exact ⟨od, J⟩

/-- x OP y by the def of the class of x for OP -/
def rOwnOp (K : PySem.W.Frag) (C : Addr) (sp : Sp) (E : XK) : R2 := fun x y H Q =>
  ∃ a dx fs t, x = .ref a ∧ H a = some (.ins C dx fs) ∧ TyOf K H y t ∧ PySem.W.notFirst K C t = true ∧ sp [x, y] H Q E
theorem op_ownCmp {K : PySem.W.Frag} {op : CmpOp} (hK : X.K = K) (hop : ∀ a b, compareOp op a b = richCompare op a b)
    (hs : PySem.W.findIn K (.ref C) (cmpInfo op).2.1 = some (some (.ref g))) (hf : PySem.W.isFn K (.ref g) = true)
    (F : FnR X.prog X.w X.K X.mg X.base CX n g sp) (hr : Room n X.A) (hx : Passes CX X E) : OpR X (compareOp op) (rOwnOp K C sp E) := by
  subst hK
  intro pins s σ H x y v u Q I rx ry h
  obtain ⟨a, dx, fs, t, rfl, ha, ty, hn, q⟩ := h
  cases (show v = Value.ref a from rx)
  obtain ⟨od, J⟩ := inst_at I ha
  obtain ⟨m, hF⟩ := I.fr
  rw [hop]
  refine PySem.W.cmp_K (op := op) (tb := t) hr.units0 hF I.ok.mod.kin J (looks_ty I ry ty) hn hs hf ?_
  refine wpAny_mono (wpAny_call (SlX.run_at (us := [.ref a, u]) (ws := [.ref a, y]) F hr I.env0 hx I (.cons rfl (.cons ry .nil)) q)) (fun w s' z => ?_) fun _ _ x => x
  obtain ⟨z', H', I', rz, qz⟩ := z
  exact cmpback rz ⟨z', H', I', rz, qz⟩

/-- x != y where the class of x has __eq__ alone: its answer turned -/
theorem ne_try {K : PySem.W.Frag} {prog : Program} {w : World} {A : Around} {EE : Value → Shared → Prop} {s : Shared} {x C f : Addr} {ox : Obj} {od : Option Obj} {b : Value} {Q : Option Value → Shared → Prop}
    (hu : A.units + 1 < cLine) (KX : K.In s.heap) (J : PySem.W.InstAt s.heap x ox C od)
    (hne : PySem.W.findIn K (.ref C) "__ne__" = some (some (.builtin "object.__ne__"))) (hm : PySem.W.mroIn K C (.type "object") = some true)
    (he : PySem.W.findIn K (.ref C) "__eq__" = some (some (.ref f))) (hf : PySem.W.isFn K (.ref f) = true)
    (h : wpAny (model prog w) A.in1 (call (.ref f) [.ref x, b]) (fun v s' => ∃ k, v = .bool k ∧ Q (some (.bool (!k))) s') EE s) :
    wpAny (model prog w) A (tryCompare (.ref x) "__ne__" b) Q EE s := by
  have hb := PySem.F.cmp_object.ne.bind
  simp only [tryCompare, callSpecialIfBound?, bindSpecialIfBound?]
  refine wpAny_bind (wpAny_holding (wpAny_bind (wpAny_bind (wpAny_bind (J.type.here ((PySem.W.looks_findIn KX hne).here ?_))))))
  refine wpAny_bind (wpAny_askSetting (wpAny_ite ?_))
  have body : wpAny (model prog w) A (call (.builtin "object.__ne__") ([.ref x] ++ [b])) (fun v s' => ∃ k, v = .bool k ∧ Q (some (.bool k)) s') EE s := by
    refine wpAny_call (codeAny_call_builtin PySem.F.cmp_object.ne.plain PySem.F.cmpEntry_ne
      (PySem.W.check_slot PySem.F.cmpKind_ne PySem.F.cmpSplit_ne (J.type.andThen (PySem.W.looks_mroIn KX hm)) (PySem.F.cmpArgs_ne _ _) ?_))
    unfold Builtin.«object.__ne__»
    refine wpAny_bind (m := slotArgs "__ne__" 1 _) (wpAny_pure ?_)
    refine wpAny_bind (m := cRoomFor _ _) (wpAny_cRoomFor hu ?_)
    refine wpAny_bind (m := callSpecialIfBound? (.ref x) (Str.ofString "__eq__") [b]) (PySem.W.ifBound_K KX J he hf (wpAny_mono h (fun v s' z => ?_) fun _ _ e => e))
    obtain ⟨k, rfl, q⟩ := z
    refine wpAny_bind (wpAny_truthy_bool ?_)
    exact wpAny_pure ⟨!k, rfl, q⟩
  have fin : wpAny (model prog w) A (call (.builtin "object.__ne__") ([.ref x] ++ [b]) >>= fun v => pure (some v)) (fun r s' => ∃ k, r = some (.bool k) ∧ Q (some (.bool k)) s') EE s :=
    wpAny_bind (wpAny_mono body (fun v s' ⟨k, e, q⟩ => wpAny_pure ⟨k, by rw [e], q⟩) fun _ _ e => e)
  have fin2 : wpAny (model prog w) A (call (.builtin "object.__ne__") ([.ref x] ++ [b]) >>= fun v => pure (some v)) (fun r s' => wpAny (model prog w) A (match r with
      | some .notImplemented | none => pure none
      | some v => pure (some v)) Q EE s') EE s := wpAny_mono fin (fun r s' ⟨k, e, q⟩ => by subst e; exact wpAny_pure q) fun _ _ e => e
  split
  · exact wpAny_bind ((PySem.W.Looks.of_pure (hb _)).here (wpAny_pure (by exact fin2)))
  · exact wpAny_tryCatch (wpAny_bind ((PySem.W.Looks.of_pure (hb _)).here (wpAny_pure (by exact fin2))))

/-- how a promise at a bool is handed back -/
def rOwnNe (K : PySem.W.Frag) (C : Addr) (sp : Sp) (E : XK) : R2 := fun x y H Q =>
  ∃ a dx fs t, x = .ref a ∧ H a = some (.ins C dx fs) ∧ TyOf K H y t ∧ PySem.W.notFirst K C t = true ∧ sp [x, y] H (fun z H' => ∃ k, z = .bl k ∧ Q (.bl (!k)) H') E
theorem op_ownNe {K : PySem.W.Frag} (hK : X.K = K) (hne : PySem.W.findIn K (.ref C) "__ne__" = some (some (.builtin "object.__ne__"))) (hm : PySem.W.mroIn K C (.type "object") = some true)
    (hs : PySem.W.findIn K (.ref C) "__eq__" = some (some (.ref g))) (hf : PySem.W.isFn K (.ref g) = true)
    (F : FnR X.prog X.w X.K X.mg X.base CX n g sp) (hr : Room (n + 1) X.A) (hx : Passes CX X E) : OpR X (compareOp .NotEq) (rOwnNe K C sp E) := by
  subst hK
  intro pins s σ H x y v u Q I rx ry h
  obtain ⟨a, dx, fs, t, rfl, ha, ty, hn, q⟩ := h
  cases (show v = Value.ref a from rx)
  obtain ⟨od, J⟩ := inst_at I ha
  have KX := I.kIn
  have hb := looks_ty I ry ty
  have hu := hr.units
  have body : wpAny (model X.prog X.w) X.A.in1 (call (.ref g) [.ref a, u]) (fun v s' => ∃ k, v = .bool k ∧ EP X pins σ Q (.bool (!k)) s') X.xe s := by
    refine wpAny_mono (wpAny_call (SlX.run_at (us := [.ref a, u]) (ws := [.ref a, y]) F hr.in1 I.env0.in1 hx I (.cons rfl (.cons ry .nil)) q)) (fun w s' z => ?_) fun _ _ x => x
    obtain ⟨z', H', I', rz, k, ez, qz⟩ := z
    subst ez
    exact ⟨k, rz, .bl (!k), H', I', rfl, qz⟩
  have one : wpAny (model X.prog X.w) X.A (tryCompare (.ref a) "__ne__" u) (fun r s' => ∃ v, r = some v ∧ EP X pins σ Q v s') X.xe s :=
    ne_try (by omega) KX J hne hm hs hf (wpAny_mono body (fun v s' ⟨k, e, q⟩ => ⟨k, e, _, rfl, q⟩) fun _ _ e => e)
  show wpAny (model X.prog X.w) X.A (richCompare .NotEq (.ref a) u) (EP X pins σ Q) X.xe s
  unfold richCompare
  simp only [oneThing_ref]
  refine wpAny_holding (wpAny_bind (wpAny_cRoomFor hr.units0 ?_))
  refine wpAny_bind (J.type.here (wpAny_bind (hb.here ?_)))
  split
  · rename_i q'
    have e : PySem.W.subIn X.K t (.ref C) = some false := by
      rcases Bool.or_eq_true_iff.mp hn with e | e
      · rw [beq_iff_eq.mp e] at q'; simp at q'
      · exact beq_iff_eq.mp e
    refine wpAny_bind ((PySem.W.looks_subIn KX e).here ?_)
    simp only [Bool.false_eq_true, if_false]
    refine wpAny_bind (wpAny_mono one (fun r s' z => ?_) fun _ _ e => e)
    obtain ⟨v, rfl, hq⟩ := z
    exact wpAny_pure hq
  · refine wpAny_bind (wpAny_pure ?_)
    simp only [Bool.false_eq_true, if_false]
    refine wpAny_bind (wpAny_mono one (fun r s' z => ?_) fun _ _ e => e)
    obtain ⟨v, rfl, hq⟩ := z
    exact wpAny_pure hq

/-- str(x), x an instance whose class has __str__ -/
def rOwnTx (C : Addr) (sp : Sp) (E : XK) : List V → Hp → VK → Prop := fun xs H Q =>
  ∃ a dx fs, xs = [.ref a] ∧ H a = some (.ins C dx fs) ∧ sp xs H (fun z H' => ∃ y, z = .str y ∧ Q z H') E
theorem call_strOwn (hs : PySem.W.findIn X.K (.ref C) "__str__" = some (some (.ref g))) (hf : PySem.W.isFn X.K (.ref g) = true)
    (F : FnR X.prog X.w X.K X.mg X.base CX n g sp) (hr : Room (n + 2) X.A) (hx : Passes CX X E) : CallR X (.type "str") (rOwnTx C sp E) := by
  intro pins s σ H xs us Q I r h
  obtain ⟨a, dx, fs, rfl, ha, q⟩ := h
  obtain ⟨u, rfl, ru⟩ := vals1 r
  cases (show u = Value.ref a from ru)
  obtain ⟨od, J⟩ := inst_at I ha
  have hu := hr.units
  have hr2 : Room n X.A.in1.in1 := (show Room (n + 1) X.A.in1 from Room.in1 hr).in1
  refine PySem.W.kso_call (by show X.A.units + 1 + 1 < cLine; omega) I.kIn J hs hf ?_
  refine wpAny_mono (wpAny_call (SlX.run_at (us := [.ref a]) (ws := [.ref a]) F hr2 I.env0.in1.in1 hx I (.cons rfl .nil) q)) (fun w s' z => ?_) fun _ _ x => x
  obtain ⟨z', H', I', rz, y, ez, qz⟩ := z
  subst ez
  obtain ⟨t, rfl⟩ := (show ∃ t, w = Value.str y t from rz)
  exact ⟨.str y, H', I', ⟨t, rfl⟩, qz⟩
/-- repr(x), x an instance whose class has __repr__ -/
theorem call_reprOwn (hs : PySem.W.findIn X.K (.ref C) "__repr__" = some (some (.ref g))) (hf : PySem.W.isFn X.K (.ref g) = true)
    (F : FnR X.prog X.w X.K X.mg X.base CX n g sp) (hr : Room (n + 1) X.A) (hx : Passes CX X E) : CallR X (.builtin "repr") (rOwnTx C sp E) := by
  intro pins s σ H xs us Q I r h
  obtain ⟨a, dx, fs, rfl, ha, q⟩ := h
  obtain ⟨u, rfl, ru⟩ := vals1 r
  cases (show u = Value.ref a from ru)
  obtain ⟨od, J⟩ := inst_at I ha
  have hu := hr.units
  refine Calls.call_function_entry PySem.F.kind_repr PySem.F.plain_repr PySem.F.entry_repr (PySem.F.args_repr1 _) ?_
  unfold Builtin.«repr»
  refine wpAny_bind (m := oneArg "repr" _) (wpAny_pure ?_)
  refine wpAny_bind (m := cRoomFor _ _) (wpAny_cRoomFor (by show X.A.units + 1 < cLine; omega) ?_)
  refine wpAny_bind (wpAny_bind (J.type.here ((PySem.W.looks_findIn I.kIn hs).here ?_)))
  refine wpAny_bind (m := callSpecialIfBound? (.ref a) (Str.ofString "__repr__")) (PySem.W.ifBound_K I.kIn J hs hf ?_)
  refine wpAny_mono (wpAny_call (SlX.run_at (us := [.ref a]) (ws := [.ref a]) F hr.in1 I.env0.in1 hx I (.cons rfl .nil) q)) (fun w s' z => ?_) fun _ _ x => x
  obtain ⟨z', H', I', rz, y, ez, qz⟩ := z
  subst ez
  obtain ⟨t, rfl⟩ := (show ∃ t, w = Value.str y t from rz)
  refine wpAny_bind (wpAny_isInstance (T := "str") (b := true) rfl isSubtype_str_str ?_)
  exact wpAny_pure ⟨_, rfl, .str y, H', I', ⟨t, rfl⟩, qz⟩
end
end Lb

set_option Elab.async false
set_option linter.all false
set_option maxRecDepth 100000
set_option maxHeartbeats 4000000
namespace Lb
open PySem PySem.Spec PyProof.Rows L2
open SlX (cmpback)

/-! repr of data: wants that no repr is running -/
mutual
theorem dp_plain {K : PySem.W.Frag} {H : Hp} : ∀ (d : PyData) (v : V), Dp K H v d → d.hasDict = false
  | .none, _, _ => by simp only [PyData.hasDict]
  | .bool _, _, _ => by simp only [PyData.hasDict]
  | .int _, _, _ => by simp only [PyData.hasDict]
  | .str _, _, _ => by simp only [PyData.hasDict]
  | .list ds, _, h => by
    cases h with
    | lst _ q => simp only [PyData.hasDict]; exact dp_plains ds _ q
  | .tuple ds, _, h => by
    cases h with
    | tup _ q => simp only [PyData.hasDict]; exact dp_plains ds _ q
  | .dict _, _, h => by cases h
theorem dp_plains {K : PySem.W.Frag} {H : Hp} : ∀ (ds : List PyData) (vs : List V), DpAll K H vs ds → PyData.hasDictAll ds = false
  | [], _, _ => by simp only [PyData.hasDictAll]
  | d :: ds, _, h => by
    cases h with
    | cons h1 h2 => simp only [PyData.hasDictAll, dp_plain d _ h1, dp_plains ds _ h2, Bool.or_self]
end
section
variable {X : Cx}
def rRepr (K : PySem.W.Frag) : List V → Hp → VK → Prop := fun xs H Q =>
  ∃ x d, xs = [x] ∧ Dp K H x d ∧ d.showable = true ∧ d.shown.length ≤ sizeLine ∧ d.depth ≤ 60 ∧ Q (.str d.shown) H
theorem call_repr {K : PySem.W.Frag} (hK : X.K = K) (hg : X.A.guards = some []) (hu : X.A.units + 64 < cLine) : CallR X (.builtin "repr") (rRepr K) := by
  subst hK
  intro pins s σ H xs us Q I r h
  obtain ⟨x, d, rfl, hd, hs, hz, hdp, q⟩ := h
  obtain ⟨u, rfl, ru⟩ := vals1 r
  have hpl := dp_plain d x hd
  obtain ⟨as, rd⟩ := Dp.reads I d x u hd ru
  cases x with
  | non =>
    cases hd
    cases (show u = Value.none from ru)
    exact PySem.P.repr_of_none ⟨.str _, H, I.tok _, ⟨_, rfl⟩, q⟩
  | bl b =>
    cases hd
    cases (show u = Value.bool b from ru)
    exact PySem.P.repr_of_bool ⟨.str _, H, I.tok _, ⟨_, rfl⟩, q⟩
  | int i =>
    cases hd
    obtain ⟨t, rfl⟩ := (show ∃ t, u = Value.int i t from ru)
    have hi : i.natAbs.log2 < 1920 := of_decide_eq_true (by simpa only [PyData.showable] using hs)
    exact PySem.P.repr_of_int hi ⟨.str _, H, I.tok _, ⟨_, rfl⟩, q⟩
  | str y =>
    cases hd
    obtain ⟨t, rfl⟩ := (show ∃ t, u = Value.str y t from ru)
    exact PySem.P.repr_of_str ⟨.str _, H, I.tok _, ⟨_, rfl⟩, q⟩ hz
  | byt y => cases hd
  | flt y => cases hd
  | ty y => cases hd
  | ref a =>
    cases (show u = Value.ref a from ru)
    refine PySem.repr_of_reads' rd hs (PyData.noDict_hsm hpl) hg (by omega) (fun _ _ e => e) (fun h' w tk k => ?_) hz
    exact ⟨.str _, H, I.kept k, ⟨_, rfl⟩, q⟩

/-! the layer's rules with the written part told apart (within a comprehension the context is another) -/
variable {K : PySem.W.Frag}
theorem ix_listK (hK : X.K = K) : IxR X (rIxL K) := by subst hK; exact ix_list
theorem ix_tupK (hK : X.K = K) : IxR X (rIxT K) := by subst hK; exact ix_tup
theorem sl_listK (hK : X.K = K) : SlR X (rSlL K) := by subst hK; exact sl_list
theorem call_lenK (hK : X.K = K) : CallR X (.builtin "len") (fun xs H Q => ∃ p ys, xs = [.ref p] ∧ (SqL K H p ys ∨ SqT K H p ys) ∧ Q (.int ys.length) H) := by subst hK; exact call_len_seq
theorem call_isiK' (hK : X.K = K) : CallR X (.builtin "isinstance") (rIsi K) := by subst hK; exact call_isi
theorem cr_allK (hK : X.K = K) (hc : X.calm = true) : CallR X (.builtin "all") (rAll K) := by subst hK; exact cr_all hc
theorem cr_anyK (hK : X.K = K) (hc : X.calm = true) : CallR X (.builtin "any") (rAny K) := by subst hK; exact cr_any hc
theorem pe_fldK {e : Expr} {f : Str} {pos : Pos} {ta : TE} (hK : X.K = K) (he : PE X e ta) (hb : attributeBase e f X.env (eval e X.env) = eval e X.env) : PE X (.Attribute e f pos) (tFld K ta f) := by subst hK; exact pe_fld he hb
theorem ps_fldK {o value : Expr} {f : Str} {pos pos' : Pos} {ta tv : TE} (hK : X.K = K) (ha : PE X o ta) (hv : PE X value tv) (hs : swapsWith value (some (.Attribute o f pos')) pos.line X.env = pure false) :
    PS X (.Assign [.Attribute o f pos'] value pos) (sFld K ta tv f) := by subst hK; exact ps_fld ha hv hs
theorem pg_tupK {pos : Pos} {es : List Expr} {k : Nat} {t : TGs} {n : Nat} (hK : X.K = K) (hc : X.calm = true) (h : PGs X es t)
    (hn : (assignEach es X.env).length = n := by rfl) (hst : (assignEach es X.env).findIdx? (·.1) = none := by rfl) : PG X (.Tuple es k pos) (gTup K n t) := by subst hK; exact pg_tup hc h hn hst
theorem pi_listK {tg l : Expr} {tl : TE} (hK : X.K = K) (hl : PE X l tl) : PI X tg l (iList K tl) := by subst hK; exact pi_list hl
end
end Lb

set_option Elab.async false
set_option linter.all false
set_option maxRecDepth 100000
set_option maxHeartbeats 4000000
namespace Lb
open PySem PySem.Spec PyProof.Rows L2

/-! defs that may show data (repr): they are called where no repr runs -/
structure FnG (P : Program) (w : World) (K : PySem.W.Frag) (mg : Str → Option Value) (base : Heap) (CX : CXT)
    (k : Nat) (f : Addr) (fd : FuncData) (ps : List Str) (sp : Sp) : Prop where
  len : ∀ vs H Q E, sp vs H Q E → vs.length = ps.length
  run : ∀ (A : Around) (outer : List Env) (s : Shared) (H : Hp) (args : Args) (us : List Value) (vs : List V) (Q : VK) (E : XK),
    A.guards = some [] → Room k A → Env0 P w K mg base A outer s H → BindsTo s fd args (ps.zip us) → Vals vs us → sp vs H Q E →
    codeAny (model P w) A (.call (.ref f) args) (CR CX outer P w H s Q E) s

section
variable {P : Program} {w : World} {K : PySem.W.Frag} {mg : Str → Option Value} {base : Heap} {CX : CXT} {k j : Nat} {f : Addr} {fd : FuncData} {ps : List Str} {sp : Sp}
theorem FnG.of (F : FnOk P w K mg base CX k f fd ps sp) : FnG P w K mg base CX k f fd ps sp :=
  ⟨F.len, fun A outer s H args us vs Q E _ hr e0 hb r hs => F.run A outer s H args us vs Q E hr e0 hb r hs⟩
theorem FnG.mono (F : FnG P w K mg base CX j f fd ps sp) (h : j ≤ k) : FnG P w K mg base CX k f fd ps sp :=
  ⟨F.len, fun A outer s H args us vs Q E g hr => F.run A outer s H args us vs Q E g (hr.mono h)⟩
/-- the rule for the body of such a def -/
theorem okG {x qual : Str} {st : Stmt} {N : List Str} (F : Fun K x qual st f fd) (S : FnScope N ps (defScope st))
    (len : ∀ vs H Q E, sp vs H Q E → vs.length = ps.length)
    (hbody : ∀ (cdv : Value) (A : Around) (outer : List Env) (s : Shared) (H : Hp) (vs : List V) (Q : VK) (E : XK),
      (A.deeper (envOfC qual (defScope st) s.heap.objs.size f cdv)).guards = some [] →
      Room k (A.deeper (envOfC qual (defScope st) s.heap.objs.size f cdv)) → sp vs H Q E →
      ∃ t, PSs (cxOf CX P w K mg base N qual (defScope st) f cdv A outer s H E).nox (defBody st) t ∧
        t { nx := fun _ H' => Q .non H', rt := Q } (start N vs) H) :
    FnG P w K mg base CX (k + 1) f fd ps sp := by
  obtain ⟨oc, od, kV, doc, pm, an, cdv, ct, osl, rfl, lk, hcd⟩ := F.ex
  refine ⟨len, fun A outer s H args us vs Q E hgu hr e0 hb r hsp => ?_⟩
  have hl := len vs H Q E hsp
  have KX : K.In s.heap := e0.mod.kin.keeps fun b o e => (e0.bs b o e).1
  have lim : s.heap.NoLimit := e0.mod.nolimit.keeps fun b o e => (e0.bs b o e).1
  have hkind : ∀ y ∈ ps.zip us, (defScope st).names.lookup y.1 = some .local ∨
      ((defScope st).names.lookup y.1 = some .cell ∧ ((cellsFrom (s.heap.objs.size + 1) (defScope st).names []).lookup y.1).isSome = true) := by
    rintro ⟨n, v⟩ hy
    rcases S.par n (List.of_mem_zip hy).1 with q | q
    · exact .inl q
    · exact .inr ⟨q, PySem.W.cellsFrom_some _ _ _ (.inl q)⟩
  refine codeAny_call_function hr.depth (KX _ _ lk) rfl S.co S.gen rfl (PySem.W.codeRec_of KX hcd) (hb _ _ _ _ ?_)
  refine wpAny_newFunctionEnv_cells S.kind hkind fun env he s1 y => ?_
  subst he
  refine ⟨lim.keeps y.toInCall.keep, codeAny_func ?_⟩
  have hgd : (A.deeper (envOfC qual (defScope st) s.heap.objs.size f cdv)).guards = some [] := by
    first
      | exact hgu
      | simpa [Around.deeper] using hgu
  obtain ⟨t, ht, hq⟩ := hbody cdv A outer s H vs Q E hgd (hr.deeper _) hsp
  have I := inv_start (CX := CX) (E := E) S hr.hd e0 hl r y
  have fin : ∀ {σ' : L2.St} {H' : Hp} {s' : Shared} {v : V} {u : Value},
      Inv (cxOf CX P w K mg base N qual (defScope st) f cdv A outer s H E) [] σ' H' s' → RelV v u → Q v H' → CE outer P w H s Q u s' :=
    fun {σ' H' s' v u} J rv q => ⟨v, H', J.os, J.bare, J.base, J.hok, rv, q⟩
  refine wpAny_mono (ht.nox.run [] s1 (start N vs) H _ I hq) (fun fl s' hs => ?_) fun _ _ hs => hs
  cases fl with
  | ret u =>
    obtain ⟨v, σ', H', J, rv, q⟩ := hs
    exact fin J rv q
  | next =>
    obtain ⟨σ', H', J, q⟩ := hs
    exact fin (v := V.non) (u := Value.none) J rfl q
  | brk => exact hs.elim fun _ h => h.elim fun _ h => h.2.elim
  | cont => exact hs.elim fun _ h => h.elim fun _ h => h.2.elim
end

section
variable {X : Cx} {CX : CXT} {k : Nat} {f : Addr} {fd : FuncData} {ps : List Str} {sp : Sp} {dvs : List V} {ds : List Value} {E : XK} {x : Str} {p pos : Pos} {e : Expr} {es : List Expr} {t : TA}
theorem run_fnG {pins : List (Addr × Obj)} {σ : L2.St} {H : Hp} {s : Shared} {Q : VK} {us : List Value} {vs : List V} (F : FnG X.prog X.w X.K X.mg X.base CX k f fd ps sp) (gu : X.A.guards = some [])
    (hr : Room k X.A) (hb : Binds X.K fd ps ds) (hd : Vals dvs ds) (hx : Passes CX X E) (I : Inv X pins σ H s) (r : Vals vs us) (h : sp (vs ++ dvs) H Q E) :
    wpAny (model X.prog X.w) X.A (call (.ref f) us) (EP X pins σ Q) X.xe s := by
  have r2 := r.append hd
  have hl : (us ++ ds).length = ps.length := r2.length ▸ F.len _ H Q E h
  have code := F.run X.A X.stack s H ⟨us, []⟩ (us ++ ds) (vs ++ dvs) Q E gu hr I.env0 (hb s us I.kIn hl) r2 h
  refine wpAny_call (codeAny_mono code fun r s' hq => ?_)
  rcases r with er | fl
  · first | exact hx pins σ H s er s' I hq | (cases er <;> first | exact I.after hq | exact hq.elim)
  · first | (cases fl <;> first | exact I.after hq | exact hq.elim) | exact hx pins σ H s fl s' I hq
theorem pe_callG (F : FnG X.prog X.w X.K X.mg X.base CX k f fd ps sp) (gu : X.A.guards = some []) (hr : Room k X.A) (hg : Gl X x) (hm : X.mg x = some (.ref f))
    (hk : PySem.W.keepIn X.K (.ref f) = true) (hb : Binds X.K fd ps ds) (hd : Vals dvs ds) (hx : Passes CX X E) (ha : PA X (e :: es) t)
    (hdb : (x == ("__debug__" : Str)) = false := by decide) (he : starEach (e :: es) X.env = (false, eval e X.env) :: starEach es X.env := by rfl)
    (hpl : (backTo pos (starEach es X.env)).any (·.1) = false := by rfl) : PE X (.Call (.Name x p) (e :: es) [] pos) (tCall sp dvs E t) := by
  refine ⟨fun pins s σ H Q I h => wpAny_Call_Name_kw (ld_glob I hg hm ?_ hdb)⟩
  refine PySem.W.callWith_K (h₀ := X.base) I.ok.mod.kin hk (thn (ha.run pos pins s σ H _ I h) fun us s1 q => ?_) he hpl
  obtain ⟨vs, H1, I1, r, q⟩ := q
  exact ⟨I1.kIn, run_fnG F gu hr hb hd hx I1 r q⟩
theorem pe_call0G (F : FnG X.prog X.w X.K X.mg X.base CX k f fd ps sp) (gu : X.A.guards = some []) (hr : Room k X.A) (hg : Gl X x) (hm : X.mg x = some (.ref f))
    (hk : PySem.W.keepIn X.K (.ref f) = true) (hb : Binds X.K fd ps ds) (hd : Vals dvs ds) (hx : Passes CX X E)
    (hdb : (x == ("__debug__" : Str)) = false := by decide) : PE X (.Call (.Name x p) [] [] pos) (tCall sp dvs E tNil) :=
  ⟨fun pins s σ H Q I h => wpAny_Call_Name_kw (ld_glob I hg hm (PySem.W.callWith_K0 I.kIn hk (run_fnG (us := []) F gu hr hb hd hx I .nil h)) hdb)⟩
end

/-- the law's call: like the layer's own end, for such a def -/
theorem law_callG {P : Program} {w : World} {K : PySem.W.Frag} {mg mb : Str → Option Value} {CX : CXT} {k : Nat} {fa a : Addr} {fd : FuncData} {x : Str} {sp : Sp} {s1 : Shared} {vs : List Value} {ns : List Int}
    (KX : K.In s1.heap) (hns : s1.heap.Ns mainGlobals mg) (hb : s1.heap.Ns builtinsNs mb) (hbb : ∀ x : Str, x ≠ "__name__" → mb x = bootBuiltins x) (hlim : s1.heap.NoLimit) (hg : s1.gens = #[])
    (ha : s1.heap.get? a = some { cls := .type "list", data := .seq vs.toArray }) (hi : IntsAre vs ns) (hl : ns.length ≤ sizeLine) (hr : Room k callerA)
    (F : ∀ base : Heap, K.In base → base.Ns mainGlobals mg → FnG P w K mg base CX k fa fd [x] sp) (hbind : ∀ (s : Shared) (u : Value), BindsTo s fd ⟨[u], []⟩ [(x, u)])
    (hsp : ∀ H : Hp, Only H → SqL K H a (ns.map V.int) → sp [.ref a] H (fun v _ => v = .bl true) fun _ _ _ => False)
    (hCX : ∀ H e s', CX [] H s1 (fun _ _ _ => False) e s' → False) :
    codeAny (model P w) callerA (.call (.ref fa) ⟨[.ref a], []⟩) (fun r s' => r = .ok (.ret (.bool true)) ∧ OldK s1.heap s'.heap ∧ s'.os = s1.os ∧ AllBare s'.gens) s1 := by
  have rv := vals_ints hi
  have core : ∀ H : Hp, Only H → SqL K H a (ns.map V.int) → HOk P w H s1.heap → (∀ b u, H b = some u → b = a) → (∀ u, H a = some u → K.lookup a = none) →
      codeAny (model P w) callerA (.call (.ref fa) ⟨[.ref a], []⟩) (fun r s' => r = .ok (.ret (.bool true)) ∧ OldK s1.heap s'.heap ∧ s'.os = s1.os ∧ AllBare s'.gens) s1 := by
    intro H hO hS hok hA hK
    have free_of : ∀ {b : Addr} {o : Obj}, s1.heap.get? b = some o → (∀ z : Data, o.data = z → ∃ es ep, z = .dict es ep) → H b = none := by
      intro b o e d
      cases q : H b with
      | none => rfl
      | some u =>
        cases hA b u q
        rw [ha] at e
        cases e
        obtain ⟨es, ep, z⟩ := d _ rfl
        cases z
    have nsK : ∀ {b : Addr} {m : Str → Option Value}, s1.heap.Ns b m → (hidT s1.heap H).Ns b m := by
      rintro b m ⟨o, es, ep, e, d, r⟩
      exact ⟨o, es, ep, hidT_get e (free_of e fun z hz => ⟨es, ep, hz ▸ d⟩), d, r⟩
    have hKb : K.In (hidT s1.heap H) := by
      intro b o e
      refine hidT_get (KX b o e) ?_
      cases q : H b with
      | none => rfl
      | some u =>
        cases hA b u q
        rw [hK u q] at e
        cases e
    have hM : Mod K mg (hidT s1.heap H) := by
      obtain ⟨mc, c1, c2⟩ := hlim
      exact ⟨hKb, nsK hns, ⟨mb, nsK hb, hbb⟩, ⟨mc, nsK c1, c2⟩⟩
    have e0 : Env0 P w K mg (hidT s1.heap H) callerA [] s1 H :=
      ⟨rfl, hM, fun b o e => of_hidT e, Nat.le_of_eq (hidT_size _ _), trivial, fun b hb => (List.not_mem_nil hb).elim, hok, .of_eq hg⟩
    have code := (F _ hKb (nsK hns)).run callerA [] s1 H ⟨[.ref a], []⟩ [.ref a] [.ref a] _ _ rfl hr e0 (hbind s1 (.ref a)) (.cons rfl .nil) (hsp H hO hS)
    refine codeAny_mono code fun r s' h => ?_
    cases r with
    | error e => exact (hCX H e s' h).elim
    | ok fl =>
      cases fl with
      | ret u =>
        obtain ⟨v, H', os, bare, un, hok', r', q⟩ := h
        cases (show v = .bl true from q)
        cases (show u = Value.bool true from r')
        refine ⟨rfl, .of_keep fun b o e => ?_, os, bare⟩
        rcases hO b with z | ⟨ob, xs, z⟩
        · exact un.keep b o e z (fun z => List.not_mem_nil z) (fun z => List.not_mem_nil z)
        · obtain ⟨e1, _⟩ := hok b _ z
          obtain ⟨e2, _⟩ := hok' b _ (un.frzs b ob _ z)
          rw [e] at e1
          cases e1
          exact e2
      | next => exact h.elim
      | brk => exact h.elim
      | cont => exact h.elim
  cases hk : K.lookup a with
  | some o =>
    have e := KX a o hk
    rw [ha] at e
    cases e
    refine core (fun _ => none) (fun _ => .inl rfl) (.inr ⟨_, vs.toArray, _, hk, rfl, rfl, rfl, ?_, ?_⟩) (fun b u z => nomatch (show (none : Option HO) = some u from z)) (fun b u z => nomatch (show (none : Option HO) = some u from z)) (fun u z => nomatch (show (none : Option HO) = some u from z))
    · rw [List.size_toArray, hi.length]
      exact hl
    · simpa using rv
  | none =>
    have at_ : ∀ {b : Addr} {u : HO}, (if b = a then some (HO.frz { cls := .type "list", data := .seq vs.toArray } (.lst (ns.map V.int))) else none) = some u →
        b = a ∧ u = HO.frz { cls := .type "list", data := .seq vs.toArray } (.lst (ns.map V.int)) := by
      intro b u e
      by_cases hb : b = a
      · rw [if_pos hb] at e
        exact ⟨hb, (Option.some.inj e).symm⟩
      · rw [if_neg hb] at e
        cases e
    refine core (fun b => if b = a then some (.frz { cls := .type "list", data := .seq vs.toArray } (.lst (ns.map V.int))) else none) (fun b => ?_)
      (.inl (.inr ⟨{ cls := .type "list", data := .seq vs.toArray }, if_pos rfl⟩)) (fun b u e => ?_) (fun b u e => (at_ e).1) (fun _ _ => hk)
    · by_cases hb : b = a
      · exact .inr ⟨_, _, if_pos hb⟩
      · exact .inl (if_neg hb)
    · obtain ⟨rfl, rfl⟩ := at_ e
      exact ⟨ha, by rw [List.length_map]; exact hl, vs, _, rv, ha⟩

theorem walkG {l : PySem.W.OpenLaw} {n k : Nat} {q : Program} {loose : List Str} {XP : (Str → Option Value) → Heap → Prop} {YP : World → Heap → Prop} {d : DefRec} {K : Params → PySem.W.Frag} {sp : PySem.W.Frag → Sp} {x : Str}
    (hn : l.most = some n) (hn2 : n ≤ sizeLine) (hdf : d.params.defaults = []) (hr : Room k callerA)
    (hY : ∀ (w : World) (h : Heap), YP w h → (K w.params).In h)
    (F : ∀ (w : World) (mg : Str → Option Value) (fa : Addr) (h : Heap), (K w.params).In h → h.Ns mainGlobals mg → mg d.name = some (.ref fa) →
      ∃ fd : FuncData, (∀ (s : Shared) (u : Value), BindsTo s fd ⟨[u], []⟩ [(x, u)]) ∧
        ∀ base : Heap, (K w.params).In base → base.Ns mainGlobals mg → FnG l.prog w (K w.params) mg base CX0 k fa fd [x] (sp (K w.params)))
    (hsp : ∀ (K : PySem.W.Frag) (H : Hp) (a : Addr) (ns : List Int), ns.length ≤ n → Only H → SqL K H a (ns.map V.int) → sp K [.ref a] H (fun v _ => v = .bl true) fun _ _ _ => False) :
    PySem.W.WalkO q loose XP YP l.row.toRowW d [] (fun f vs => PySem.call f vs) := by
  refine Att.attach_call hn hdf fun w s0 s1 mg mb fa o pm cd doc a vs ns G Y ho hd hcd hmg hobj hints hlen hg => ?_
  obtain ⟨fd, hb, hF⟩ := F w mg fa _ (hY w _ Y) G.T.g hmg
  exact law_callG (hY w _ Y) G.T.g G.T.b G.T.builtins G.T.nolimit hg hobj hints (Nat.le_trans hlen hn2) hr hF hb (fun H hO hS => hsp _ H a ns hlen hO hS) fun _ _ _ z => z
end Lb

set_option Elab.async false
set_option linter.all false
set_option maxRecDepth 100000
set_option maxHeartbeats 4000000
namespace Lb
open PySem PySem.Spec PyProof.Rows L2

/-! sizes of ints -/
/-- fewer than n bits -/
def Bd (n : Nat) (x : Int) : Prop := x.natAbs < 2 ^ n
theorem Bd.mono {n m : Nat} {x : Int} (h : Bd n x) (k : n ≤ m) : Bd m x := Nat.lt_of_lt_of_le h (Nat.pow_le_pow_right (by decide) k)
theorem Bd.mul {n m : Nat} {x y : Int} (h : Bd n x) (k : Bd m y) : Bd (n + m) (x * y) := by
  unfold Bd at *
  rw [Int.natAbs_mul, Nat.pow_add]
  exact Nat.mul_lt_mul'' h k
theorem Bd.add {n : Nat} {x y : Int} (h : Bd n x) (k : Bd n y) : Bd (n + 1) (x + y) := by
  unfold Bd at *
  have := Int.natAbs_add_le x y
  rw [Nat.pow_succ]
  omega
theorem Bd.neg {n : Nat} {x : Int} (h : Bd n x) : Bd n (-x) := by
  unfold Bd at *
  rw [Int.natAbs_neg]
  exact h
theorem Bd.sub {n : Nat} {x y : Int} (h : Bd n x) (k : Bd n y) : Bd (n + 1) (x - y) := by
  rw [Int.sub_eq_add_neg]
  exact h.add k.neg
theorem Bd.le {n : Nat} {x y : Int} (h : Bd n x) (k : y.natAbs ≤ x.natAbs) : Bd n y := Nat.lt_of_le_of_lt k h
theorem Bd.of {n : Nat} {x : Int} (h : x.natAbs < 2 ^ n) : Bd n x := h
theorem Bd.cm {n m : Nat} {x y : Int} (h : Bd n x) (k : Bd m y) (l : n + m ≤ 134217728) : CMulX x y := mulx_ok h k l
theorem Bd.log {n : Nat} {x : Int} (h : Bd n x) (p : 0 < n) : x.natAbs.log2 < n := PySem.Flt.log2_lt_of p h
theorem Bd.cd {n : Nat} {x y : Int} (h : Bd n y) (p : 0 < y) (l : n ≤ 8999) : CDivW x y := wide_div p (h.mono (Nat.le_succ n)) (Nat.succ_pos n) (by omega)
/-- a divisor of few bits is divided by C itself -/
theorem divp_small {i j : Int} (p : 0 < j) (h : Bd 8000 j) : CDivP i j := by
  refine ⟨p, ?_⟩
  have hj : (j == 0) = false := by simpa using (show j ≠ 0 by omega)
  have hl := h.log (by decide)
  have h1 : (j.natAbs.log2) / 30 + 1 ≤ 300 := by omega
  show (decide ((if j == 0 then 0 else j.natAbs.log2 / 30 + 1) > 300) && _) = false
  rw [hj]
  simp only [Bool.false_eq_true, if_false]
  rw [decide_eq_false (by omega), Bool.false_and]

/-! the pot: two ints, turned by each draw -/
def PotAt (H : Hp) (p : Addr) : Prop := ∃ a b : Int, H p = some (.lst [.int a, .int b]) ∧ 0 ≤ a ∧ 0 ≤ b ∧ b ≤ 2147483629
/-- all but p is kept -/
structure Mov (p : Addr) (H H' : Hp) : Prop where
  keep : ∀ b o, b ≠ p → H b = some o → H' b = some o
  pot : PotAt H' p
theorem Mov.trans {p : Addr} {H H1 H2 : Hp} (a : Mov p H H1) (b : Mov p H1 H2) : Mov p H H2 := ⟨fun c o n e => b.keep c o n (a.keep c o n e), b.pot⟩
theorem Mov.same {p : Addr} {H H1 H2 : Hp} (a : Mov p H H1) (b : Same H1 H2) : Mov p H H2 :=
  ⟨fun c o n e => b _ _ (a.keep c o n e), let ⟨x, y, e, r⟩ := a.pot; ⟨x, y, b _ _ e, r⟩⟩
theorem Same.mov {p : Addr} {H H1 : Hp} (a : Same H H1) (q : PotAt H p) : Mov p H H1 :=
  ⟨fun c o _ e => a _ _ e, let ⟨x, y, e, r⟩ := q; ⟨x, y, a _ _ e, r⟩⟩
theorem Mov.refl {p : Addr} {H : Hp} (q : PotAt H p) : Mov p H H := ⟨fun _ _ _ e => e, q⟩
theorem Mov.tup {p b : Addr} {H H1 : Hp} {xs : List V} (a : Mov p H H1) (q : PotAt H p) (e : H b = some (.tup xs)) : H1 b = some (.tup xs) :=
  a.keep _ _ (let ⟨_, _, e', _⟩ := q; ne_of e e' (fun z => nomatch z)) e
theorem Mov.ins {p b C dx : Addr} {H H1 : Hp} {fs : List (Str × V)} (a : Mov p H H1) (q : PotAt H p) (e : H b = some (.ins C dx fs)) : H1 b = some (.ins C dx fs) :=
  a.keep _ _ (let ⟨_, _, e', _⟩ := q; ne_of e e' (fun z => nomatch z)) e
theorem Mov.free {p b : Addr} {H H1 : Hp} (a : Mov p H H1) (q : PotAt H p) (e : H1 b = none) : H b = none := by
  cases z : H b with
  | none => rfl
  | some o =>
    by_cases hb : b = p
    · subst hb
      obtain ⟨_, _, e', _⟩ := a.pot
      rw [e] at e'
      cases e'
    · rw [a.keep b o hb z] at e
      cases e
theorem Same.upd {H : Hp} {p : Addr} {o : HO} (h : H p = none) : Same H (upd H p o) := fun a u e => by
  rw [upd_ne (ne_of_none e h)]
  exact e
theorem SqL.mov {K : PySem.W.Frag} {p a : Addr} {H H1 : Hp} {xs : List V} (m : Mov p H H1) (n : a ≠ p) (h : SqL K H a xs) : SqL K H1 a xs := by
  rcases h with (h | ⟨o, h⟩) | h
  · exact .inl (.inl (m.keep _ _ n h))
  · exact .inl (.inr ⟨o, m.keep _ _ n h⟩)
  · exact .inr h
theorem SqT.same {K : PySem.W.Frag} {a : Addr} {H H1 : Hp} {xs : List V} (m : Same H H1) (h : SqT K H a xs) : SqT K H1 a xs := by
  rcases h with (h | ⟨o, h⟩) | h
  · exact .inl (.inl (m _ _ h))
  · exact .inl (.inr ⟨o, m _ _ h⟩)
  · exact .inr h
/-- a written list's size -/
theorem sz {n : Nat} (h : Nat.ble n 1000 = true := by rfl) : n ≤ sizeLine :=
  Nat.le_trans (Nat.le_of_ble_eq_true h) (by decide)
theorem szlt {n : Nat} (k : n ≤ 10000) : n < sizeLine := Nat.lt_of_le_of_lt k (by decide)
theorem szle {n : Nat} (k : n ≤ 10000) : n ≤ sizeLine := Nat.le_of_lt (szlt k)
end Lb

set_option Elab.async false
set_option linter.all false
set_option maxRecDepth 100000
set_option maxHeartbeats 4000000
namespace Lb
open PySem PySem.Spec PyProof.Rows L2

/-- // by any divisor but 0, of few bits -/
def CDivX (_ j : Int) : Prop := j ≠ 0 ∧ j.natAbs.log2 < 9000
theorem op_fdivX {X : Cx} : OpR X (binaryOp .FloorDiv) (rI CDivX fun i j => .int (i.fdiv j)) :=
  opI fun i j _ _ _ _ _ hc q => floordiv_int hc.1 q (.inl (PyProof.noPylong_of_log2 hc.2))
theorem Bd.cx {n : Nat} {x y : Int} (h : Bd n y) (p : y ≠ 0) (l : n ≤ 8999) : CDivX x y :=
  ⟨p, Nat.lt_of_lt_of_le ((h.mono (Nat.le_succ n)).log (Nat.succ_pos n)) (by omega)⟩

/-! two lists, item by item -/
theorem Paired.imp {α β : Type} {F G : α → β → Prop} : ∀ {xs : List α} {ys : List β}, Paired F xs ys → (∀ a b, F a b → G a b) → Paired G xs ys
  | _, _, .nil, _ => .nil
  | _, _, .cons r t, f => .cons (f _ _ r) (Paired.imp t f)
theorem Paired.snoc {α β : Type} {F : α → β → Prop} {a : α} {b : β} (h : F a b) : ∀ {xs : List α} {ys : List β}, Paired F xs ys → Paired F (xs ++ [a]) (ys ++ [b])
  | _, _, .nil => .cons h .nil
  | _, _, .cons r t => .cons r (Paired.snoc h t)
theorem Paired.at_ {α β : Type} {F : α → β → Prop} : ∀ {xs : List α} {ys : List β} {i : Nat} {a : α}, Paired F xs ys → xs[i]? = some a → ∃ b, ys[i]? = some b ∧ F a b
  | _, _, i, _, .nil, e => by simp at e
  | _, _, 0, a, .cons r t, e => by simp at e; subst e; exact ⟨_, rfl, r⟩
  | _, _, i + 1, a, .cons r t, e => by
    obtain ⟨b, h1, h2⟩ := Paired.at_ (i := i) (a := a) t (by simpa using e)
    exact ⟨b, by simpa using h1, h2⟩
theorem Paired.at_r {α β : Type} {F : α → β → Prop} : ∀ {xs : List α} {ys : List β} {i : Nat} {b : β}, Paired F xs ys → ys[i]? = some b → ∃ a, xs[i]? = some a ∧ F a b
  | _, _, i, _, .nil, e => by simp at e
  | _, _, 0, a, .cons r t, e => by simp at e; subst e; exact ⟨_, rfl, r⟩
  | _, _, i + 1, a, .cons r t, e => by
    obtain ⟨b, h1, h2⟩ := Paired.at_r (i := i) (b := a) t (by simpa using e)
    exact ⟨b, by simpa using h1, h2⟩
theorem Paired.len {α β : Type} {F : α → β → Prop} : ∀ {xs : List α} {ys : List β}, Paired F xs ys → xs.length = ys.length
  | _, _, .nil => rfl
  | _, _, .cons _ t => congrArg Nat.succ (Paired.len t)
/-- a tuple of two ints -/
def Fr (H : Hp) (q : Addr) (t b : Int) : Prop := H q = some (.tup [.int t, .int b])
abbrev Rows (H : Hp) (as : List Addr) (fr : List (Int × Int)) : Prop := Paired (fun a x => Fr H a x.1 x.2) as fr
theorem Rows.same {H H' : Hp} {as : List Addr} {fr : List (Int × Int)} (r : Rows H as fr) (s : Same H H') : Rows H' as fr := Paired.imp r fun _ _ h => s _ _ h
theorem Rows.mov {p : Addr} {H H' : Hp} {as : List Addr} {fr : List (Int × Int)} (r : Rows H as fr) (m : Mov p H H') (hp : PotAt H p) : Rows H' as fr := Paired.imp r fun _ _ h => m.tup hp h
/-- a test with a known answer -/
theorem iteP {c A B : Prop} [Decidable c] (hc : c) (h : A) : if c then A else B := by rw [if_pos hc]; exact h
theorem iteN {c A B : Prop} [Decidable c] (hc : ¬ c) (h : B) : if c then A else B := by rw [if_neg hc]; exact h
theorem al3 {H H2 : Hp} {p : Addr} {o : HO} (e : upd H p o = H2) (h : H p = none) : Same H H2 ∧ H2 p = some o := by
  subst e
  exact ⟨Lb.Same.upd h, upd_same⟩
theorem Rows.snoc {H : Hp} {as : List Addr} {fr : List (Int × Int)} {q : Addr} {t b : Int} (r : Rows H as fr) (f : H q = some (.tup [.int t, .int b])) : Rows H (as ++ [q]) (fr ++ [(t, b)]) := Paired.snoc (F := fun (a : Addr) (x : Int × Int) => Fr H a x.1 x.2) (b := (t, b)) f r
theorem Rows.nil {H : Hp} : Rows H [] [] := Paired.nil
theorem Mov.ne {p l : Addr} {H H1 : Hp} (m : Mov p H H1) (h : H1 l = none) : l ≠ p := by
  obtain ⟨_, _, e, _⟩ := m.pot
  exact (ne_of_none e h).symm
/-- a list of another length is not the pot -/
theorem PotAt.ne {p l : Addr} {H : Hp} {xs : List V} (m : PotAt H p) (h : H l = some (.lst xs)) (n : xs.length ≠ 2) : l ≠ p := by
  rintro rfl
  obtain ⟨_, _, e, _⟩ := m
  rw [h] at e
  injection e with e
  injection e with e
  rw [e] at n
  exact n rfl
/-- a new object is changed -/
theorem Same.updl {H H2 : Hp} {l : Addr} {o : HO} (s : L2.Same H H2) (hl : H l = none) : L2.Same H (L2.upd H2 l o) := fun b u e => by
  rw [upd_ne (ne_of_none e hl)]
  exact s _ _ e
/-- what isinstance and the comparisons ask of the class at C -/
structure Inst (K : PySem.W.Frag) (C : Addr) : Prop where
  ca : PySem.W.findIn K (.ref C) "__class__" = some (some (.builtin "object.__class__"))
  cn : PySem.W.specialIn K (.builtin "object.__class__") "__get__" = some (some (.builtin "getset_descriptor.__get__"))
  ct : PySem.W.takesIn K (.builtin "object.__class__") = some true
  cm : PySem.W.mroIn K C (.type "object") = some true
  kNone : PySem.W.kitOne K (.type "NoneType") (.ref C) = some false
  kBool : PySem.W.kitOne K (.type "bool") (.ref C) = some false
  kInt : PySem.W.kitOne K (.type "int") (.ref C) = some false
  kStr : PySem.W.kitOne K (.type "str") (.ref C) = some false
  kList : PySem.W.kitOne K (.type "list") (.ref C) = some false
  kTup : PySem.W.kitOne K (.type "tuple") (.ref C) = some false
  kDict : PySem.W.kitOne K (.type "dict") (.ref C) = some false
  nNone : PySem.W.notFirst K C (.type "NoneType") = true
  nBool : PySem.W.notFirst K C (.type "bool") = true
  nInt : PySem.W.notFirst K C (.type "int") = true
  nStr : PySem.W.notFirst K C (.type "str") = true
  nList : PySem.W.notFirst K C (.type "list") = true
  nTup : PySem.W.notFirst K C (.type "tuple") = true
  nDict : PySem.W.notFirst K C (.type "dict") = true
theorem Inst.kSelf {K : PySem.W.Frag} {C : Addr} : PySem.W.kitOne K (.ref C) (.ref C) = some true := by
  unfold PySem.W.kitOne
  rw [if_pos (beq_self_eq_true _)]
theorem Inst.nSelf {K : PySem.W.Frag} {C : Addr} : PySem.W.notFirst K C (.ref C) = true := by
  unfold PySem.W.notFirst
  rw [beq_self_eq_true, Bool.true_or]
theorem Inst.ty {K : PySem.W.Frag} {C x dx : Addr} {H : Hp} {fs : List (Str × V)} (I : Inst K C) (cl : Cls K C) (e : H x = some (.ins C dx fs)) : TyOf K H (.ref x) (.ref C) := .ins e cl I.ca I.cn I.ct I.cm
theorem kit_own {K : PySem.W.Frag} {C : Addr} {T : String} (h1 : PySem.W.isClsIn K C = true) (h2 : PySem.W.typeIn K (.ref C) = some (.type "type")) (h3 : PySem.W.subIn K (.type T) (.ref C) = some false) :
    PySem.W.kitOne K (.type T) (.ref C) = some false ∧ PySem.W.notFirst K C (.type T) = true := by
  have ne : (Value.type T == Value.ref C) = false := Bool.eq_false_iff.mpr fun q => nomatch beq_iff_eq.mp q
  constructor
  · unfold PySem.W.kitOne
    rw [ne, if_neg (by decide)]
    unfold PySem.W.kitCls
    have h1' : (PySem.W.clsIn K C).isSome = true := h1
    dsimp only
    rw [h1', h2]
    rw [if_pos (by simp)]
    exact h3
  · unfold PySem.W.notFirst
    rw [h3]
    simp
/-- a def of the class by its special name -/
structure OwnM (K : PySem.W.Frag) (C : Addr) (x : Str) (f : Addr) : Prop where
  at_ : PySem.W.findIn K (.ref C) x = some (some (.ref f))
  fn : PySem.W.isFn K (.ref f) = true
/-- a value that is plainly no instance of the class at C: how isinstance and the comparisons see it -/
def NotC (K : PySem.W.Frag) (C : Addr) (H : Hp) (y : V) : Prop := ∃ t, TyOf K H y t ∧ PySem.W.kitOne K t (.ref C) = some false ∧ PySem.W.notFirst K C t = true
end Lb

set_option Elab.async false
set_option linter.all false
set_option maxRecDepth 100000
set_option maxHeartbeats 4000000
namespace Lb
open PySem PySem.Spec PyProof.Rows L2

/-! lists of bools, shown -/
theorem dp_bools {K : PySem.W.Frag} {H : Hp} : ∀ bs : List Bool, DpAll K H (bs.map V.bl) (bs.map PyData.bool)
  | [] => .nil
  | b :: r => .cons (.bl b) (dp_bools r)
theorem show_bools : ∀ bs : List Bool, PyData.showableAll (bs.map PyData.bool) = true
  | [] => by simp only [List.map_nil, PyData.showableAll]
  | b :: r => by simp only [List.map_cons, PyData.showableAll, PyData.showable, show_bools r, Bool.and_self]
theorem depth_bools : ∀ bs : List Bool, PyData.depthAll (bs.map PyData.bool) ≤ 1
  | [] => by simp only [List.map_nil, PyData.depthAll]; omega
  | b :: r => by
    have := depth_bools r
    simp only [List.map_cons, PyData.depthAll, PyData.depth]
    omega
theorem len_bools : ∀ bs : List Bool, ((PyData.shownAll (bs.map PyData.bool)).map (·.length)).sum ≤ 5 * bs.length ∧ (PyData.shownAll (bs.map PyData.bool)).length = bs.length
  | [] => by simp only [List.map_nil, PyData.shownAll]; exact ⟨Nat.le_refl _, rfl⟩
  | b :: r => by
    obtain ⟨h1, h2⟩ := len_bools r
    simp only [List.map_cons, PyData.shownAll, List.sum_cons, List.length_cons, h2]
    refine ⟨?_, trivial⟩
    have : (PyData.shown (.bool b)).length ≤ 5 := by
      simp only [PyData.shown]
      cases b <;> decide +kernel
    omega
theorem bools_ok (bs : List Bool) (n : bs.length ≤ 1000) : (PyData.list (bs.map PyData.bool)).showable = true ∧ (PyData.list (bs.map PyData.bool)).shown.length ≤ sizeLine ∧ (PyData.list (bs.map PyData.bool)).depth ≤ 60 := by
  refine ⟨?_, ?_, ?_⟩
  · simp only [PyData.showable, show_bools]
  · have e := listText_len_le (PyData.shownAll (bs.map PyData.bool))
    obtain ⟨h1, h2⟩ := len_bools bs
    simp only [PyData.shown]
    have : sizeLine = 16777216 := by decide
    omega
  · have := depth_bools bs
    simp only [PyData.depth]
    omega
theorem TyOf.same {K : PySem.W.Frag} {H H' : Hp} {y : V} {t : Value} (s : L2.Same H H') (h : TyOf K H y t) : TyOf K H' y t := by
  cases h with
  | non => exact .non
  | bl x => exact .bl x
  | int i => exact .int i
  | str x => exact .str x
  | flt x => exact .flt x
  | lst e => exact .lst (s _ _ e)
  | frz e => exact .frz (s _ _ e)
  | tup e => exact .tup (s _ _ e)
  | dK e => exact .dK (s _ _ e)
  | dT e => exact .dT (s _ _ e)
  | ins e cl a b c d => exact .ins (s _ _ e) cl a b c d
theorem NotC.same {K : PySem.W.Frag} {C : Addr} {H H' : Hp} {y : V} (s : L2.Same H H') (h : NotC K C H y) : NotC K C H' y := by
  obtain ⟨t, a, b, c⟩ := h
  exact ⟨t, TyOf.same s a, b, c⟩
theorem map_replicate_bl (n : Nat) (b : Bool) : (List.replicate n b).map V.bl = List.replicate n (V.bl b) := by simp
theorem all_replicate_true (n : Nat) : (List.replicate n true).all id = true := by simp
end Lb

set_option Elab.async false
set_option linter.all false
set_option maxRecDepth 100000
set_option maxHeartbeats 4000000
namespace Lb
open PySem PySem.Spec PyProof.Rows L2

/-- for i, x in enumerate(xs) -/
theorem for_enum {K : PySem.W.Frag} {a : Addr} {xs : List V} {g : TG} {tb : TS} {D : Ends} {σ : L2.St} {H : Hp} (Pv : Nat → L2.St → Hp → Prop) (h0 : Pv 0 σ H) (hq : ∀ i σ H, Pv i σ H → SqL K H a xs)
    (hs : ∀ (i : Nat) (x : V) (T : Addr) (σ : L2.St) (H : Hp), xs[i]? = some x → Pv i σ H → H T = none → g (.ref T) σ (L2.upd H T (.tup [.int (i : Nat), x])) fun σ2 H2 => tb { D with nx := Pv (i + 1), ct := Pv (i + 1), bk := D.nx } σ2 H2)
    (hd : ∀ σ H, Pv xs.length σ H → D.nx σ H) :
    ∃ W : Nat → Nat → L2.St → Hp → Prop, (∃ m, W 0 m σ H) ∧ ∀ i m σ H, W i m σ H →
      ((Ite K a).stop i H ∧ D.nx σ H) ∨ ((Ite K a).go i H ∧ ∃ N : L2.St → Hp → Prop, (∀ σ' H', N σ' H' → ∃ m', m' < m ∧ W (i + 1) m' σ' H') ∧
        ∀ v H', (Ite K a).yld i H v H' → g v σ H' fun σ2 H2 => tb { D with nx := N, ct := N, bk := D.nx } σ2 H2) := by
  refine ⟨fun i m σ H => m = xs.length - i ∧ i ≤ xs.length ∧ Pv i σ H, ⟨xs.length, rfl, Nat.zero_le _, h0⟩, ?_⟩
  rintro i m σ H ⟨rfl, hi, p⟩
  have q := hq i σ H p
  rcases Nat.lt_or_ge i xs.length with h | h
  · have hx : xs[i]? = some xs[i] := List.getElem?_eq_getElem h
    refine .inr ⟨⟨xs, _, q, hx⟩, Pv (i + 1), fun σ' H' p' => ⟨xs.length - (i + 1), by omega, rfl, h, p'⟩, ?_⟩
    rintro v H' ⟨T, x, rfl, hT, rfl, f⟩
    exact hs i x T σ H (f xs q) p hT
  · have e : i = xs.length := by omega
    subst e
    exact .inl ⟨⟨xs, q, Nat.le_refl _⟩, hd σ H p⟩

/-! a list that is being made at D, above the heap H0 -/
structure Blt {α : Type} (R : Hp → Addr → α → Prop) (H0 : Hp) (D : Addr) (done : List α) (H : Hp) : Prop where
  same : L2.Same H0 H
  ex : ∃ bs : List Addr, H D = some (.lst (bs.map V.ref)) ∧ Paired (R H) bs done
theorem Blt.start {α : Type} {R : Hp → Addr → α → Prop} {H0 : Hp} {D : Addr} (h : H0 D = none) : Blt R H0 D [] (L2.upd H0 D (.lst [])) :=
  ⟨Lb.Same.upd h, [], upd_same, .nil⟩
/-- one more item, made on the way from H to H2 -/
theorem Blt.step {α : Type} {R : Hp → Addr → α → Prop} {H0 H H2 : Hp} {D r : Addr} {done : List α} {x : α} (b : Blt R H0 D done H) (hD : H0 D = none) (s : L2.Same H H2)
    (keep : ∀ H H' a x, R H a x → (∀ o, H a = some o → H' a = some o) → R H' a x) (nl : ∀ H a x l, R H a x → H a = some (.lst l) → False) (hr : R H2 r x) :
    ∃ acc, H2 D = some (.lst acc) ∧ acc.length = done.length ∧ Blt R H0 D (done ++ [x]) (L2.upd H2 D (.lst (acc ++ [V.ref r]))) := by
  obtain ⟨s0, bs, e, p⟩ := b
  have e2 := s _ _ e
  have ch : ∀ a y, R H2 a y → R (L2.upd H2 D (.lst (bs.map V.ref ++ [V.ref r]))) a y := by
    intro a y h
    refine keep _ _ a y h fun o ho => ?_
    have na : a ≠ D := by
      rintro rfl
      exact nl _ _ _ _ h e2
    rw [upd_ne na]
    exact ho
  refine ⟨_, e2, by rw [List.length_map, Paired.len p], Same.updl (s0.trans s) hD, bs ++ [r], by rw [upd_same, List.map_append]; rfl, ?_⟩
  exact Paired.snoc (ch _ _ hr) (Paired.imp p fun a y h => ch _ _ (keep _ _ a y h fun o ho => s _ _ ho))

/-! an element of a list of ints -/
theorem inV_ints (z : Int) : ∀ ns : List Int, inV (.int z) (ns.map V.int) = decide (z ∈ ns)
  | [] => by simp [inV]
  | n :: r => by
    have ih := inV_ints z r
    unfold inV at ih ⊢
    rw [List.map_cons, List.any_cons, ih]
    have : eqV (.int n) (.int z) = decide (z = n) := by
      by_cases h : z = n
      · subst h; simp [eqV]
      · have h' : ¬ n = z := fun e => h e.symm
        simp [eqV, h, h']
    rw [this]
    by_cases h : z = n <;> simp [h]
theorem flat_ints : ∀ ns : List Int, (ns.map V.int).all flatV = true
  | [] => rfl
  | n :: r => by rw [List.map_cons, List.all_cons, flat_ints r]; rfl
end Lb

set_option Elab.async false
set_option linter.all false
set_option maxRecDepth 100000
set_option maxHeartbeats 4000000
namespace Lb
open PySem PySem.Spec PyProof.Rows L2
open SlX (cmpback)

/-! own operators between an instance and an int, or two instances -/
/-- what the text holds of an operator of a class beside ints: its def at g, the turned one at r -/
structure OwnBin (K : PySem.W.Frag) (C : Addr) (op : Operator) (g r : Addr) : Prop where
  first : PySem.W.selfFirst K C = true
  at_ : PySem.W.findIn K (.ref C) (PySem.dunder op.info.2) = some (some (.ref g))
  fn : PySem.W.isFn K (.ref g) = true
  rat : PySem.W.findIn K (.ref C) (dunderR op.info.2) = some (some (.ref r))
  rfn : PySem.W.isFn K (.ref r) = true
  i1 : ∃ fo, PySem.W.findIn K (.type "int") (PySem.dunder op.info.2) = some fo
  i2 : ∃ ro, PySem.W.findIn K (.type "int") (dunderR op.info.2) = some ro
  ss1 : PySem.W.subIn K (.type "int") (.ref C) = some false
  ss2 : PySem.W.subIn K (.ref C) (.type "int") = some false
  tyC : ∀ T, Value.type T ≠ .ref C := by intro T z; cases z

section
variable {X : Cx} {pins : List (Addr × Obj)} {σ : L2.St} {H : Hp} {s : Shared} {a C dx p g r : Addr} {f : Str} {n : Nat} {sp : Sp} {E : XK} {v : V} {u : Value} {op : Operator}

/-- a def that raises nothing, run in an expression -/
theorem run_at0 {A : Around} {Q : VK} {us : List Value} {ws : List V} (F : FnR X.prog X.w X.K X.mg X.base CX0 n g sp) (hr : Room n A) (e0 : Env0 X.prog X.w X.K X.mg X.base A X.stack s H) (I : Inv X pins σ H s) (r : Vals ws us) (h : sp ws H Q E) :
    codeAny (model X.prog X.w) A (.call (.ref g) ⟨us, []⟩) (fun r s' => match r with | .ok (.ret v) => EP X pins σ Q v s' | _ => False) s := by
  refine codeAny_mono (F A X.stack s H us ws Q E hr e0 r h) fun r s' hq => ?_
  cases r with
  | error e => exact False.elim hq
  | ok fl =>
    cases fl with
    | ret u => exact I.after hq
    | next => exact False.elim hq
    | brk => exact False.elim hq
    | cont => exact False.elim hq
theorem call_at0 {A : Around} {Ex : Value → Shared → Prop} {Q : VK} {us : List Value} {ws : List V} (F : FnR X.prog X.w X.K X.mg X.base CX0 n g sp) (hr : Room n A) (e0 : Env0 X.prog X.w X.K X.mg X.base A X.stack s H) (I : Inv X pins σ H s) (r : Vals ws us) (h : sp ws H Q E) :
    wpAny (model X.prog X.w) A (call (.ref g) us) (EP X pins σ Q) Ex s := by
  refine wpAny_call (codeAny_mono (run_at0 F hr e0 I r h) fun r s' hq => ?_)
  cases r with
  | error e => exact False.elim hq
  | ok fl => cases fl <;> first | exact hq | exact False.elim hq
/-- an operator, wherever it is run -/
def OpRA (X : Cx) (A : Around) (f : Value → Value → Sem Value) (r : R2) : Prop :=
  ∀ (pins : List (Addr × Obj)) (s : Shared) (σ : L2.St) (H : Hp) (x y : V) (v u : Value) (Q : VK) (Ex : Value → Shared → Prop), Inv X pins σ H s → Env0 X.prog X.w X.K X.mg X.base A X.stack s H → RelV x v → RelV y u → r x y H Q →
    wpAny (model X.prog X.w) A (f v u) (EP X pins σ Q) Ex s
theorem OpRA.here {f : Value → Value → Sem Value} {r : R2} (h : OpRA X X.A f r) : OpR X f r := fun pins s σ H x y v u Q I rx ry q => h pins s σ H x y v u Q _ I I.env0 rx ry q
theorem OpRA.or {A : Around} {f : Value → Value → Sem Value} {r r' : R2} (h : OpRA X A f r) (h' : OpRA X A f r') : OpRA X A f (fun x y H Q => r x y H Q ∨ r' x y H Q) := fun pins s σ H x y v u Q Ex I e0 rx ry q =>
  q.elim (h pins s σ H x y v u Q Ex I e0 rx ry) (h' pins s σ H x y v u Q Ex I e0 rx ry)
/-- x OP y, x an instance, y an int or an instance of its class -/
def rBin (C : Addr) (sp : Sp) (E : XK) : R2 := fun x y H Q =>
  ∃ a dx fs, x = .ref a ∧ H a = some (.ins C dx fs) ∧ ((∃ m, y = .int m) ∨ ∃ b dy fy, y = .ref b ∧ H b = some (.ins C dy fy)) ∧ sp [x, y] H Q E
theorem ownBin_at {K : PySem.W.Frag} {A : Around} (hK : X.K = K) (B : OwnBin K C op g r) (F : FnR X.prog X.w X.K X.mg X.base CX0 n g sp) (hr : Room n A) : OpRA X A (binaryOp op) (rBin C sp E) := by
  subst hK
  intro pins s σ H x y v u Q Ex I e0 rx ry h
  obtain ⟨a, dx, fs, rfl, ha, hy, q⟩ := h
  cases (show v = Value.ref a from rx)
  obtain ⟨od, J⟩ := inst_at I ha
  obtain ⟨m, hF⟩ := I.fr
  have one : wpAny (model X.prog X.w) A (call (.ref g) [.ref a, u]) (PySem.W.CmpBack (EP X pins σ Q)) Ex s := by
    refine wpAny_mono (call_at0 (us := [.ref a, u]) (ws := [.ref a, y]) F hr e0 I (.cons rfl (.cons ry .nil)) q) (fun w s' z => ?_) fun _ _ x => x
    obtain ⟨z', H', I', rz, qz⟩ := z
    exact cmpback rz ⟨z', H', I', rz, qz⟩
  rcases hy with ⟨k, rfl⟩ | ⟨b, dy, fy, rfl, hb⟩
  · obtain ⟨t, rfl⟩ := ry
    obtain ⟨fo, h1⟩ := B.i1
    obtain ⟨ro, h2⟩ := B.i2
    exact PySem.W.ksp_binT (T := "int") hF I.ok.mod.kin J rfl B.first B.at_ B.fn B.rat (.inr ⟨_, rfl⟩) h1 h2 B.ss1 one
  · cases (show u = Value.ref b from ry)
    obtain ⟨od', J'⟩ := inst_at I hb
    exact PySem.W.binop_K hF I.ok.mod.kin J J'.type B.first B.at_ B.fn one
/-- n OP y, y an instance: its turned def, where the int's own says nothing -/
def rBinR (C : Addr) (sp : Sp) (E : XK) : R2 := fun x y H Q =>
  ∃ m b dy fy, x = .int m ∧ y = .ref b ∧ H b = some (.ins C dy fy) ∧ sp [y, x] H Q E
/-- what the library says of an int's own operator -/
structure IntBin (op : Operator) (id : String) (nm : String) (f : Int → Int → Sem Fin) : Prop where
  fills : fillsNumberSlot (.type "int") op.info.2 = pure true
  slot : Slot "int" (PySem.dunder op.info.2) id
  entry : entryFor table id = some (Builtin.Int.intBinary nm f)
  args : ∀ x y, argsOk id ⟨[x, y], []⟩
theorem int_no {M : Model} {A : Around} {Ex : Value → Shared → Prop} {Q : Fin → Shared → Prop} {k : Int} {t : Tok} {b : Addr} {nm : String} {fI : Int → Int → Sem Fin} (J : s.heap.get? b = some (PySem.W.instObj C dx))
    (h : Q (.done (.ret .notImplemented)) s) : wpAny M A (Builtin.Int.intBinary nm fI false ⟨[.int k t, .ref b], []⟩) Q Ex s := by
  unfold Builtin.Int.intBinary
  refine wpAny_bind (m := slotArgs _ _ _) (wpAny_pure ?_)
  refine wpAny_bind (m := Builtin.Int.intOfSelf _) (wpAny_pure ?_)
  refine wpAny_bind (m := asInt? _) (wpAny_bind (wpAny_load J (wpAny_pure ?_)))
  exact wpAny_bind (wpAny_rule (wpAny_pure h))
theorem int_add : IntBin .Add "int.__add__" "__add__" (fun x y => retInt (x + y)) := ⟨F.fills_int_add, F.slot_int_add, F.entry_int_add, F.args_int_add_2⟩
theorem int_sub : IntBin .Sub "int.__sub__" "__sub__" (fun x y => retInt (x - y)) := ⟨F.fills_int_sub, F.slot_int_sub, F.entry_int_sub, F.args_int_sub_2⟩
theorem int_mul : IntBin .Mult "int.__mul__" "__mul__" (fun x y => Builtin.intProduct "__mul__" x y) := ⟨F.fills_int_mul, F.slot_int_mul, F.entry_int_mul, F.args_int_mul_2⟩
theorem ownBinR_at {K : PySem.W.Frag} {A : Around} {id nm : String} {fI : Int → Int → Sem Fin} (hK : X.K = K) (L : IntBin op id nm fI) (B : OwnBin K C op g r) (F : FnR X.prog X.w X.K X.mg X.base CX0 n r sp) (hr : Room n A) : OpRA X A (binaryOp op) (rBinR C sp E) := by
  subst hK
  intro pins s σ H x y v u Q Ex I e0 rx ry h
  obtain ⟨k, b, dy, fy, rfl, rfl, hb, q⟩ := h
  obtain ⟨t, rfl⟩ := rx
  cases (show u = Value.ref b from ry)
  obtain ⟨od, J⟩ := inst_at I hb
  have KX := I.kIn
  obtain ⟨cd, rest, hcd, hm⟩ := PySem.W.ksp_first B.first
  have L4 : PySem.W.Looks (model X.prog X.w) s.heap (fillsNumberSlot (.ref C) op.info.2) true := PySem.W.fills_K KX hcd hm B.at_
  have L5 : PySem.W.Looks (model X.prog X.w) s.heap (isSubtype (.ref C) (.type "int")) false := PySem.W.looks_subIn KX B.ss2
  have two : wpAny (model X.prog X.w) A (call (.ref r) [.ref b, .int k t]) (PySem.W.CmpBack (EP X pins σ Q)) Ex s := by
    refine wpAny_mono (call_at0 (us := [.ref b, .int k t]) (ws := [.ref b, .int k]) F hr e0 I (.cons rfl (.cons ⟨t, rfl⟩ .nil)) q) (fun w s' z => ?_) fun _ _ x => x
    obtain ⟨z', H', I', rz, qz⟩ := z
    exact cmpback rz ⟨z', H', I', rz, qz⟩
  have rt := B.rat
  have fl := L.fills
  have sl := L.slot
  rcases hi : op.info with ⟨sym, nm'⟩
  rw [hi] at L4 rt fl sl
  dsimp only at L4 rt fl sl
  have hne : (Value.type "int" == Value.ref C) = false := Bool.eq_false_iff.mpr fun q => by cases beq_iff_eq.mp q
  simp only [binaryOp, hi]
  refine wpAny_holding (wpAny_bind ?_)
  unfold binaryOp1
  refine wpAny_bind (wpAny_of_eq (show typeOf (.int k t) = pure (.type "int") from rfl) (wpAny_bind (J.type.here (wpAny_bind (wpAny_of_eq fl ?_)))))
  simp only [hne, Bool.false_eq_true, if_false]
  refine wpAny_bind (L4.here ?_)
  simp only [Bool.and_self, if_true]
  refine wpAny_bind (L5.here ?_)
  have hpy : numberSlotInPython (.type "int") nm' = pure false := rfl
  simp only [Bool.false_eq_true, if_false, pure_bind, Bool.not_false, Bool.and_self, if_true, hpy]
  simp only [tryMethod]
  refine wpAny_bind (wpAny_bind (wpAny_callSpecial?_slot (typeIs_int _ _ _) sl (wpAny_call_entry sl (typeIs_int _ _ _) L.entry ?_ (L.args _ _))))
  refine int_no J.at_ ⟨_, rfl, ?_⟩
  refine wpAny_pure ?_
  refine wpAny_bind (wpAny_bind (PySem.W.special_fn KX J rt (beq_iff_eq.mp B.rfn) (wpAny_mono two (fun v s' hv => ?_) fun _ _ e => e)))
  cases v <;> first | exact hv.elim | exact wpAny_pure (wpAny_bind (wpAny_rule (wpAny_pure (wpAny_pure hv))))
theorem op_ownBin {K : PySem.W.Frag} (hK : X.K = K) (B : OwnBin K C op g r) (F : FnR X.prog X.w X.K X.mg X.base CX0 n g sp) (hr : Room n X.A) : OpR X (binaryOp op) (rBin C sp E) := (ownBin_at hK B F hr).here
theorem op_ownBinR {K : PySem.W.Frag} {id nm : String} {fI : Int → Int → Sem Fin} (hK : X.K = K) (L : IntBin op id nm fI) (B : OwnBin K C op g r) (F : FnR X.prog X.w X.K X.mg X.base CX0 n r sp) (hr : Room n X.A) : OpR X (binaryOp op) (rBinR C sp E) := (ownBinR_at hK L B F hr).here
/-! -x, abs(x), bool(x) of an instance -/
def rUnOwn (C : Addr) (sp : Sp) (E : XK) : V → Hp → VK → Prop := fun x H Q => ∃ a dx fs, x = .ref a ∧ H a = some (.ins C dx fs) ∧ sp [x] H Q E
theorem un_ownNeg {K : PySem.W.Frag} (hK : X.K = K) (hs : PySem.W.findIn K (.ref C) "__neg__" = some (some (.ref g))) (hf : PySem.W.isFn K (.ref g) = true) (F : FnR X.prog X.w X.K X.mg X.base CX0 n g sp) (hr : Room n X.A) :
    UnR X (unaryOp .USub) (rUnOwn C sp E) := by
  subst hK
  intro pins s σ H x v Q I rx h
  obtain ⟨a, dx, fs, rfl, ha, q⟩ := h
  cases (show v = Value.ref a from rx)
  obtain ⟨od, J⟩ := inst_at I ha
  obtain ⟨m, hF⟩ := I.fr
  exact PySem.W.ksp_neg hF I.ok.mod.kin J hs hf (call_at0 (us := [.ref a]) (ws := [.ref a]) F hr I.env0 I (.cons rfl .nil) q)
def rCallOwn (C : Addr) (sp : Sp) (E : XK) : List V → Hp → VK → Prop := fun xs H Q => ∃ a dx fs, xs = [.ref a] ∧ H a = some (.ins C dx fs) ∧ sp xs H Q E
theorem call_absOwn (hs : PySem.W.findIn X.K (.ref C) "__abs__" = some (some (.ref g))) (hf : PySem.W.isFn X.K (.ref g) = true) (F : FnR X.prog X.w X.K X.mg X.base CX0 n g sp) (hr : Room (n + 1) X.A) :
    CallR X (.builtin "abs") (rCallOwn C sp E) := by
  intro pins s σ H xs us Q I r h
  obtain ⟨a, dx, fs, rfl, ha, q⟩ := h
  obtain ⟨u, rfl, ru⟩ := vals1 r
  cases (show u = Value.ref a from ru)
  obtain ⟨od, J⟩ := inst_at I ha
  refine Calls.call_function_entry kind_abs plain_abs entry_abs (args_abs _) ?_
  unfold Builtin.«abs»
  refine wpAny_bind (m := oneArg "abs" _) (wpAny_pure ?_)
  refine wpAny_bind (PySem.W.special_fn I.kIn J hs (beq_iff_eq.mp hf) ?_)
  refine wpAny_mono (call_at0 (us := [.ref a]) (ws := [.ref a]) F hr.in1 I.env0.in1 I (.cons rfl .nil) q) (fun w s' z => ?_) fun _ _ x => x
  exact wpAny_pure ⟨_, rfl, z⟩
end
/-! sum of a list of instances -/
/-- how the sum goes: N i v H, the sum v of the first i -/
structure SumG (K : PySem.W.Frag) (add : R2) (l : Addr) (as : List Addr) (N : Nat → V → Hp → Prop) : Prop where
  zero : ∀ v H, N 0 v H → v = .int 0
  more : ∀ i v H, N (i + 1) v H → ∃ a, v = .ref a
  list : ∀ i v H, N i v H → SqL K H l (as.map V.ref)
  step : ∀ i v a H, as[i]? = some a → N i v H → add v (.ref a) H (N (i + 1))
theorem turn_fp {X : Cx} {pins : List (Addr × Obj)} {σ : L2.St} {H : Hp} {s : Shared} {it : Addr} {h' : Heap} {t' : Nat} (I : Inv X pins σ H s) (f : FpOk X pins H it) (k : ∀ b o, b ≠ it → s.heap.get? b = some o → h'.get? b = some o) : Inv X pins σ H { s with heap := h', toks := t' } := by
  obtain ⟨f0, f1, f2, f3, f4, f5⟩ := f
  exact I.turned k f0 f1 f3 f4 f5
section
variable {X : Cx} {pins : List (Addr × Obj)} {σ : L2.St} {add : R2} {l : Addr} {as : List Addr} {N : Nat → V → Hp → Prop} {Q : VK}
theorem sum_loop (hc : X.calm = true) (hadd : OpRA X X.A.in1 (binaryOp .Add) add) (G : SumG X.K add l as N) (hQ : ∀ v H, N as.length v H → Q v H) (it S : Addr) (hne : S ≠ it) :
    ∀ (k i : Nat) (s : Shared) (H : Hp) (v : V) (u : Value) (c : Nat) (st : Int), as.length - i = k → i ≤ as.length → Inv X pins σ H s → N i v H → RelV v u → ((st = 0 ∧ ∃ t, u = .int 0 t) ∨ (st = 2 ∧ ∃ a, u = .ref a)) →
      s.heap.IsListIter it l i → s.heap.get? S = some { cls := .type "list", dict := none, data := .seq #[u] c, slots := #[] } → FpOk X pins H it → FpOk X pins H S →
      codeAny (model X.prog X.w) X.A (.builtin "sum.loop" ⟨[.ref it, .ref S, rawInt st, rawInt 0], []⟩) (fun r s' => match r with | .ok (.ret v) => EP X pins σ Q v s' | _ => False) s := by
  intro k
  induction k with
  | zero =>
    intro i s H v u c st hk hi I n rv hu hit hS fi fS
    obtain ⟨its, rl, pl, hsz⟩ := I.list (G.list _ _ _ n)
    have hlen : its.length = as.length := by rw [← rl.length, List.length_map]
    have hin : i = as.length := by omega
    refine codeAny_builtin F.entry_sum_loop ?_
    rw [Around.under_plainId F.plain_sum_loop _]
    show wpAny _ X.A.in1 (seqItems? (.ref S) >>= _) _ _ s
    refine wpAny_bind (wpAny_seqItems hS rfl ?_)
    show wpAny _ X.A.in1 (tryCatch (pyNext (.ref it)) _ >>= _) _ _ s
    refine wpAny_bind (wpAny_tryCatch (wpAny_pyNext_list_end (I.ok.hd hc) hit pl.isList (by rw [List.getElem?_toArray, List.getElem?_eq_none (by omega)]) fun h' he => ?_))
    have I' := turn_fp (t' := s.toks) I fi he
    have q : Q v H := hQ _ _ (hin ▸ n)
    rcases hu with ⟨_, t, rfl⟩ | ⟨_, a, rfl⟩
    · exact wpAny_pure ⟨v, H, I', rv, q⟩
    · exact wpAny_pure ⟨v, H, I', rv, q⟩
  | succ k ih =>
    intro i s H v u c st hk hi I n rv hu hit hS fi fS
    obtain ⟨its, rl, pl, hsz⟩ := I.list (G.list _ _ _ n)
    have hlen : its.length = as.length := by rw [← rl.length, List.length_map]
    have hlt : i < as.length := by omega
    obtain ⟨u2, hu2, rx⟩ := rl.get (i := i) (x := .ref as[i]) (by rw [List.getElem?_map, List.getElem?_eq_getElem hlt]; rfl)
    cases (show u2 = Value.ref as[i] from rx)
    refine codeAny_builtin F.entry_sum_loop ?_
    rw [Around.under_plainId F.plain_sum_loop _]
    show wpAny _ X.A.in1 (seqItems? (.ref S) >>= _) _ _ s
    refine wpAny_bind (wpAny_seqItems hS rfl ?_)
    show wpAny _ X.A.in1 (tryCatch (pyNext (.ref it)) _ >>= _) _ _ s
    refine wpAny_bind (wpAny_tryCatch (wpAny_pyNext_list_item hit pl.isList (x := .ref as[i]) (by rw [List.getElem?_toArray]; exact hu2) fun h' hit' hs => ?_))
    have I' := turn_fp (t' := s.toks) I fi hs.extBut
    have hS' : h'.get? S = some { cls := .type "list", dict := none, data := .seq #[u] c, slots := #[] } := hs.extBut S _ hne hS
    -- both kept while the operator runs
    have fps : ∀ b ∈ [it, S], FpOk X pins H b := by
      intro b hb
      rcases List.mem_cons.mp hb with e | hb
      · exact e ▸ fi
      · exact (List.mem_singleton.mp hb) ▸ fS
    obtain ⟨oi, hoi, hci, hdi⟩ := id hit'
    have IP := I'.pinned (fp := [it, S]) fps (by
      intro b hb
      rcases List.mem_cons.mp hb with e | hb
      · exact ⟨oi, by rw [e]; exact hoi, fun v z => by rw [hdi] at z; cases z⟩
      · exact ⟨_, by rw [List.mem_singleton.mp hb]; exact hS', fun v z => by cases z⟩)
    have main : ∀ (Ex : Value → Shared → Prop), wpAny (model X.prog X.w) X.A.in1 (binaryOp .Add u (.ref as[i])) (fun r s' => ∃ a v' H', r = .ref a ∧ v' = .ref a ∧ Inv X pins σ H' s' ∧ N (i + 1) v' H' ∧ s'.heap.IsListIter it l (i + 1) ∧
        s'.heap.get? S = some { cls := .type "list", dict := none, data := .seq #[u] c, slots := #[] } ∧ FpOk X pins H' it ∧ FpOk X pins H' S) Ex { s with heap := h' } := fun Ex => by
      refine wpAny_mono (hadd _ _ σ H v (.ref as[i]) u (.ref as[i]) (N (i + 1)) Ex IP IP.env0.in1 rv rfl (G.step _ _ _ _ (List.getElem?_eq_getElem hlt) n)) (fun r s' z => ?_) fun _ _ e => e
      obtain ⟨v', H', I2, r2, n2⟩ := z
      obtain ⟨a, rfl⟩ := G.more _ _ _ n2
      have p1 := I2.pin (it, oi) (List.mem_append_right _ (List.mem_append_right _ (mem_pinsAt (by simp) hoi)))
      have p2 := I2.pin (S, _) (List.mem_append_right _ (List.mem_append_right _ (mem_pinsAt (by simp) hS')))
      exact ⟨a, _, H', r2, rfl, I2.unpinned, n2, ⟨oi, p1.1, hci, hdi⟩, p2.1, ⟨p1.2.1, fi.2⟩, ⟨p2.2.1, fS.2⟩⟩
    -- the sum is set
    have last : ∀ (s' : Shared) (H' : Hp) (a : Addr), Inv X pins σ H' s' → N (i + 1) (.ref a) H' → s'.heap.IsListIter it l (i + 1) → s'.heap.get? S = some { cls := .type "list", dict := none, data := .seq #[u] c, slots := #[] } → FpOk X pins H' it → FpOk X pins H' S →
        wpAny (model X.prog X.w) X.A.in1 (updateSeq S (fun _ => #[.ref a]) >>= fun _ => letGo [u, .ref as[i]] [] >>= fun _ => updateSeq S (fun _ => #[.ref a]) >>= fun _ => again (.builtin "sum.loop" ⟨[.ref it, .ref S, rawInt 2, rawInt 0], []⟩))
          (fun fin s' => match fin with | .done f => (match (Except.ok f : Result) with | .ok (.ret v) => EP X pins σ Q v s' | _ => False) | .again c' => c'.quiet = true ∧ codeAny (model X.prog X.w) X.A c' (fun r s' => match r with | .ok (.ret v) => EP X pins σ Q v s' | _ => False) s') (fun _ _ => False) s' := by
      intro s' H' a I2 n2 hit2 hS2 fi2 fS2
      refine wpAny_bind (wpAny_updateSeq hS2 rfl ?_)
      have hS3 := Heap.get?_update_self (Obj.mapSeq fun _ => #[Value.ref a]) hS2 rfl
      refine wpAny_bind (wpAny_letGo ?_)
      refine wpAny_bind (wpAny_updateSeq hS3 rfl ?_)
      have hS4 := Heap.get?_update_self (Obj.mapSeq fun _ => #[Value.ref a]) hS3 rfl
      have keep : ∀ b o, b ≠ S → s'.heap.get? b = some o → ((s'.heap.update S (Obj.mapSeq fun _ => #[Value.ref a])).update S (Obj.mapSeq fun _ => #[Value.ref a])).get? b = some o := fun b o nb e =>
        (Heap.get?_update_other _ _ (Ne.symm nb)).trans ((Heap.get?_update_other _ _ (Ne.symm nb)).trans e)
      have I3 := turn_fp (t' := s'.toks) I2 fS2 keep
      refine wpAny_pure ⟨plainId_quiet F.plain_sum_loop _, ih (i + 1) _ H' (.ref a) (.ref a) _ 2 (by omega) hlt I3 n2 rfl (.inr ⟨rfl, _, rfl⟩) ?_ hS4 fi2 fS2⟩
      obtain ⟨o, e, x, y⟩ := hit2
      exact ⟨o, keep _ _ (Ne.symm hne) e, x, y⟩
    rcases hu with ⟨rfl, t, rfl⟩ | ⟨rfl, a0, rfl⟩
    · refine wpAny_bind (wpAny_rule ?_)
      refine wpAny_bind (wpAny_attempt (wpAny_holding (wpAny_mono (main _) (fun r s' z => ?_) fun _ _ e => e)))
      obtain ⟨a, v', H', rfl, rfl, I2, n2, hit2, hS2, fi2, fS2⟩ := z
      exact last s' H' a I2 n2 hit2 hS2 fi2 fS2
    · refine wpAny_bind (wpAny_attempt (wpAny_holding (wpAny_mono (main _) (fun r s' z => ?_) fun _ _ e => e)))
      obtain ⟨a, v', H', rfl, rfl, I2, n2, hit2, hS2, fi2, fS2⟩ := z
      exact last s' H' a I2 n2 hit2 hS2 fi2 fS2
/-- sum(xs), xs a list of instances -/
def rSumOwn (K : PySem.W.Frag) (add : R2) : List V → Hp → VK → Prop := fun vs H Q => ∃ (l : Addr) (as : List Addr) (N : Nat → V → Hp → Prop), vs = [.ref l] ∧ SumG K add l as N ∧ N 0 (.int 0) H ∧ ∀ v H', N as.length v H' → Q v H'
theorem cr_sumOwn {K : PySem.W.Frag} (hK : X.K = K) (hc : X.calm = true) (hadd : OpRA X X.A.in1 (binaryOp .Add) add) : CallR X (.builtin "sum") (rSumOwn K add) := by
  subst hK
  intro pins s σ H xs us Q I r h
  obtain ⟨l, as, N, rfl, G, n0, q⟩ := h
  obtain ⟨u, rfl, ru⟩ := vals1 r
  cases (show u = Value.ref l from ru)
  obtain ⟨its, rl, pl, hsz⟩ := I.list (G.list _ _ _ n0)
  refine call_function_tree F.kind_sum F.plain_sum F.entry_sum (F.args_sum1 _) ?_
  unfold Builtin.«sum»
  simp only [List.length_cons, List.length_nil]
  rw [if_neg (by decide)]
  refine wpAny_bind (wpAny_of_eq (show Builtin.Builtins.bindParams "sum" ["start"] 0 { } = pure [none] from rfl) ?_)
  refine wpAny_bind (wpAny_pyIter_list pl.isList ?_)
  refine wpAny_bind (wpAny_mkInt ?_)
  refine wpAny_bind (wpAny_pure ?_)
  simp only [List.forIn_cons, List.forIn_nil]
  refine wpAny_bind (wpAny_bind (wpAny_bind (wpAny_isInstance (T := "int") (b := false) (typeIs_int _ _ _) PySem.sub_int_str ?_)))
  simp only [Bool.false_eq_true, if_false]
  refine wpAny_pure (wpAny_bind (wpAny_bind (wpAny_isInstance (T := "int") (b := false) (typeIs_int _ _ _) PySem.sub_int_bytes ?_)))
  simp only [Bool.false_eq_true, if_false]
  refine wpAny_pure (wpAny_bind (wpAny_bind (wpAny_isInstance (T := "int") (b := false) (typeIs_int _ _ _) PySem.sub_int_bytearray ?_)))
  simp only [Bool.false_eq_true, if_false]
  refine wpAny_pure (wpAny_pure ?_)
  refine wpAny_bind (wpAny_newObj_type ?_)
  have k1 : ∀ b o, s.heap.get? b = some o → ((s.heap.push ({ cls := .type "list_iterator", data := .fields #[.ref l, .int 0 0] } : Obj)).push ({ cls := .type "list", dict := none, data := .seq #[Value.int 0 s.toks] } : Obj)).get? b = some o := fun b o e => Heap.get?_push_of_some _ (Heap.get?_push_of_some _ e)
  have e1 : (s.heap.push ({ cls := .type "list_iterator", data := .fields #[.ref l, .int 0 0] } : Obj)).objs.size = s.heap.objs.size + 1 := Heap.size_push ..
  have I1 := I.kept (t' := s.toks + 1) k1
  have n1 : H (s.heap.push ({ cls := .type "list_iterator", data := .fields #[.ref l, .int 0 0] } : Obj)).objs.size = none := I.hok.fresh (by rw [e1]; exact Nat.le_succ _)
  have n2 : H s.heap.objs.size = none := I.hok.fresh (Nat.le_refl _)
  have f1 : FpOk X pins H s.heap.objs.size := I.fpOk (Nat.le_refl _) n2
  have f2 : FpOk X pins H (s.heap.push ({ cls := .type "list_iterator", data := .fields #[.ref l, .int 0 0] } : Obj)).objs.size := I.fpOk (by rw [e1]; exact Nat.le_succ _) n1
  refine wpAny_pure ⟨plainId_quiet F.plain_sum_loop _, codeAny_mono (sum_loop (N := N) (Q := Q) hc hadd G q s.heap.objs.size (s.heap.push ({ cls := .type "list_iterator", data := .fields #[.ref l, .int 0 0] } : Obj)).objs.size (by rw [e1]; exact Nat.succ_ne_self _) as.length 0 _ H (.int 0) (.int 0 s.toks) 0 0 (by omega) (Nat.zero_le _) I1 n0 ⟨_, rfl⟩ (.inl ⟨rfl, _, rfl⟩) ?_ ?_ f1 f2) ?_⟩
  · exact ⟨_, Heap.get?_push_of_some _ (Heap.get?_push_size _ rfl), rfl, rfl⟩
  · exact Heap.get?_push_size _ rfl
  · intro r s' z
    cases r with
    | error e => exact False.elim z
    | ok fl => cases fl <;> first | exact z | exact False.elim z
end
end Lb

set_option Elab.async false
set_option linter.all false
set_option maxRecDepth 100000
set_option maxHeartbeats 4000000
namespace Lb
open PySem PySem.Spec PyProof.Rows L2
section
variable {X : Cx} {CX : CXT} {k : Nat} {f C p g : Addr} {fd : FuncData} {ps ks : List Str} {sp : Sp} {E : XK} {x m : Str} {pos np apos : Pos} {o : Expr} {kws : List Keyword} {ta : TE} {tk : TA} {gf : List Value → List Value → List Value} {gV : List V → List V → List V}
theorem run_kbn {n : Nat} {pins : List (Addr × Obj)} {σ : L2.St} {H : Hp} {s : Shared} {Q : VK} {us ws : List Value} {vs zs : List V} (F : FnOk X.prog X.w X.K X.mg X.base CX k f fd ps sp) (hr : Room k X.A) (hb : KBn X.K fd ps n ks gf gV) (hx : Passes CX X E)
    (I : Inv X pins σ H s) (r : Vals vs us) (rz : Vals zs ws) (l1 : vs.length = n) (l2 : zs.length = ks.length) (h : sp (gV vs zs) H Q E) : wpAny (model X.prog X.w) X.A (call (.ref f) us (ks.zip ws)) (EP X pins σ Q) X.xe s := by
  refine wpAny_call (codeAny_mono (F.run X.A X.stack s H ⟨us, ks.zip ws⟩ (gf us ws) (gV vs zs) Q E hr I.env0 (hb.to s us ws I.kIn (r.length.symm.trans l1) (rz.length.symm.trans l2)) (hb.rel r rz) h) fun r s' hq => ?_)
  cases r with
  | error e => exact hx pins σ H s e s' I hq
  | ok fl =>
    cases fl with
    | ret u => exact I.after hq
    | next => exact False.elim hq
    | brk => exact False.elim hq
    | cont => exact False.elim hq
/-- f(k = v, ..) -/
def tCallK0 (m : Nat) (sp : Sp) (gV : List V → List V → List V) (E : XK) (tk : TA) : TE := fun σ H Q => tk σ H fun zs H2 => zs.length = m ∧ sp (gV [] zs) H2 Q E
theorem pe_callK0 (F : FnOk X.prog X.w X.K X.mg X.base CX k f fd ps sp) (hr : Room k X.A) (hg : Gl X x) (hm : X.mg x = some (.ref f)) (hk : PySem.W.keepIn X.K (.ref f) = true) (hb : KBn X.K fd ps 0 ks gf gV) (hx : Passes CX X E) (hkw : PK X kws tk)
    (hall : (backToKw pos (keywordEach kws X.env)).all (·.1.isSome) = true := by rfl) (hks : (backToKw pos (keywordEach kws X.env)).filterMap (·.1) = ks := by rfl) (hdb : (x == ("__debug__" : Str)) = false := by decide)
    (hpl : ((backTo pos (starEach [] X.env)).any (·.1) || (backToKw pos (keywordEach kws X.env)).any (·.1.isNone)) = false := by rfl) :
    PE X (.Call (.Name x np) [] kws pos) (tCallK0 ks.length sp gV E tk) := by
  refine ⟨fun pins s σ H Q I h => ?_⟩
  refine wpAny_Call_Name_kw (ld_glob I hg hm ?_ hdb)
  refine PySem.W.callWith_KW0 (h₀ := X.base) I.ok.mod.kin hk hall ?_ hpl
  refine thn (hkw.run pos pins s σ H _ I h) fun ws s2 ⟨zs, H2, I2, rz, l2, q2⟩ => ⟨I2.kIn, ?_⟩
  rw [hks]
  exact run_kbn (us := []) (vs := []) F hr hb hx I2 .nil rz rfl l2 q2
/-- o.m(k = v, ..) -/
def tMethK0 (C : Addr) (m : Str) (nk : Nat) (sp : Sp) (gV : List V → List V → List V) (E : XK) (ta : TE) (tk : TA) : TE := fun σ H Q => ta σ H fun x H1 => ∃ a dx fs, x = .ref a ∧ H1 a = some (.ins C dx fs) ∧ fs.lookup m = none ∧ tk σ H1 fun zs H2 => zs.length = nk ∧ sp (gV [.ref a] zs) H2 Q E
theorem pe_methK0 {pl : Sem Bool} (he : PE X o ta) (c : Cls X.K C) (hm : Meth X.K C m f) (F : FnOk X.prog X.w X.K X.mg X.base CX k f fd ps sp) (hr : Room k X.A) (hb : KBn X.K fd ps 1 ks gf gV) (hx : Passes CX X E) (hkw : PK X kws tk)
    (hall : (backToKw pos (keywordEach kws X.env)).all (·.1.isSome) = true := by rfl) (hks : (backToKw pos (keywordEach kws X.env)).filterMap (·.1) = ks := by rfl)
    (hpl : ((backTo pos (starEach [] X.env)).any (·.1) || (backToKw pos (keywordEach kws X.env)).any (·.1.isNone)) = false := by rfl)
    (ht : eval (.Call (.Attribute o m apos) [] kws pos) X.env = (do
      let ov ← eval o X.env
      standAt apos.atName
      let (f, first) ← holding [ov] (getMethod ov m pl)
      callWith pos f first (backTo pos (starEach [] X.env)) (backToKw pos (keywordEach kws X.env))) := by rfl) :
    PE X (.Call (.Attribute o m apos) [] kws pos) (tMethK0 C m ks.length sp gV E ta tk) := by
  refine ⟨fun pins s σ H Q I h => ?_⟩
  refine PySem.W.methodCall_KW (pl := pl) (thn (he.run pins s σ H _ I h) fun u s1 ⟨x, H1, I1, rx, a, dx, fs, ex, ea, l, q⟩ => ?_) ht
  subst ex
  obtain rfl : u = Value.ref a := rx
  refine getmeth_ok I1 ea c hm l ?_
  refine PySem.W.callWith_KW0 (first := [.ref a]) (h₀ := X.base) I.ok.mod.kin hm.kp hall ?_ hpl
  refine thn (hkw.run pos pins s1 σ H1 _ I1 q) fun ws s2 ⟨zs, H2, I2, rz, l2, q2⟩ => ⟨I2.kIn, ?_⟩
  rw [hks]
  exact run_kbn (us := [.ref a]) (vs := [.ref a]) F hr hb hx I2 (.cons rfl .nil) rz rfl l2 q2
/-- C.m(), m a classmethod -/
theorem pe_cmeth0 {mc : Value} {pl : Sem Bool} (he : PE X o ta) (r : ClX.CRead X.K C mc) (c : ClX.CMet X.K C mc m p g) (F : FnR X.prog X.w X.K X.mg X.base CX k g sp) (hr : Room k X.A) (hx : Passes CX X E)
    (ht : eval (.Call (.Attribute o m apos) [] [] pos) X.env = (do
      let ov ← eval o X.env
      standAt apos.atName
      let (f, first) ← holding [ov] (getMethod ov m pl)
      callWith pos f first (backTo pos (starEach [] X.env)) (backToKw pos (keywordEach [] X.env))) := by rfl) :
    PE X (.Call (.Attribute o m apos) [] [] pos) (ClX.tCMeth C sp E ta tNil) := by
  refine ⟨fun pins s σ H Q I h => ?_⟩
  refine PySem.W.methodCall_KW (pl := pl) (thn (he.run pins s σ H _ I h) fun u s1 ⟨x, H1, I1, rx, ex, q⟩ => ?_) ht
  subst ex
  obtain rfl : u = Value.ref C := rx
  refine ClX.getmethcm_ok I1 r c fun s2 I2 => ?_
  have hb := ClX.base_none I1 (Nat.le_refl _)
  refine PySem.W.callWith_M0 (K := X.K) (first := []) ⟨ClX.pin_at I2, I2.kIn⟩ c.fi ?_
  exact ClX.run_cm (us := []) (vs := []) F hr hx I2 .nil q
/-- x(e, ..), x a local that holds a class -/
def tMakeL (i : Nat) (C : Addr) (sp : Sp) (dvs : List V) (E : XK) (t : TA) : TE := fun σ H Q => σ[i]? = some (some (.ref C)) ∧ tMake C sp dvs E t σ H Q
theorem pe_makeL {i : Nat} {e : Expr} {es : List Expr} {t : TA} {ds : List Value} {dvs : List V} (M : Mk X.K C f) (F : FnOk X.prog X.w X.K X.mg X.base CX k f fd ps sp) (hr : Room (k + 1) X.A) (hN : X.N[i]? = some x) (hv : Vis X.env.scope x) (hb : Binds X.K fd ps ds) (hd : Vals dvs ds) (hx : Passes CX X E)
    (ha : PA X (e :: es) t) (hdb : (x == ("__debug__" : Str)) = false := by decide) (hcd : (x == ("__classdict__" : Str)) = false := by decide) (he : starEach (e :: es) X.env = (false, eval e X.env) :: starEach es X.env := by rfl) (hpl : (backTo pos (starEach es X.env)).any (·.1) = false := by rfl) :
    PE X (.Call (.Name x np) (e :: es) [] pos) (tMakeL i C sp dvs E t) := by
  refine ⟨fun pins s σ H Q I h => ?_⟩
  obtain ⟨hs, ht⟩ := h
  refine wpAny_Call_Name_kw (thn ((pe_var (pos := np) hN hv hdb hcd).run pins s σ H (fun v H1 => v = .ref C ∧ H1 = H) I ⟨.ref C, hs, rfl, rfl⟩) fun u s1 ⟨v, H1, I1, r1, q1⟩ => ?_)
  obtain ⟨rfl, rfl⟩ := q1
  cases r1
  refine PySem.W.callWith_K (h₀ := X.base) I.ok.mod.kin M.kp (thn (ha.run pos pins s1 σ _ _ I1 ht) fun us s2 ⟨vs, H2, I2, r, q⟩ => ⟨I2.kIn, ?_⟩) he hpl
  exact run_make M F hr hb hd hx I2 r q
/-! bool(x) -/
theorem call_boolOwn {n : Nat} (hs : PySem.W.findIn X.K (.ref C) "__bool__" = some (some (.ref g))) (hf : PySem.W.isFn X.K (.ref g) = true) (F : FnR X.prog X.w X.K X.mg X.base CX0 n g sp) (hr : Room (n + 2) X.A) :
    CallR X (.type "bool") (fun xs H Q => ∃ a dx fs, xs = [.ref a] ∧ H a = some (.ins C dx fs) ∧ sp xs H (fun z H' => ∃ b, z = .bl b ∧ Q z H') E) := by
  intro pins s σ H xs us Q I r h
  obtain ⟨a, dx, fs, rfl, ha, q⟩ := h
  obtain ⟨u, rfl, ru⟩ := vals1 r
  cases (show u = Value.ref a from ru)
  obtain ⟨od, J⟩ := inst_at I ha
  obtain ⟨m, hF⟩ := I.fr
  have hr2 : Room n X.A.in1.in1 := (show Room (n + 1) X.A.in1 from Room.in1 hr).in1
  have one : wpAny (model X.prog X.w) X.A.in1.in1 (truthy (.ref a)) (fun b s' => EP X pins σ Q (.bool b) s') X.xe s := by
    refine PySem.W.truthy_K hF I.ok.mod.kin J hs hf (wpAny_mono (call_at0 (us := [.ref a]) (ws := [.ref a]) F hr2 I.env0.in1.in1 I (.cons rfl .nil) q) (fun w s' z => ?_) fun _ _ x => x)
    obtain ⟨z', H', I', rz, b, ez, qz⟩ := z
    subst ez
    cases (show w = Value.bool b from rz)
    exact ⟨.bl b, H', I', rfl, qz⟩
  refine callType_codes (T := "bool") (Bi := Builtin.«object.__init__») (Q₁ := fun r s₁ => ∃ b, r = .bool b ∧ EP X pins σ Q r s₁) PySem.F.called_bool (PySem.F.typeCall_bool_1 _) PySem.F.entry_object_init ?_ ?_
  · refine codeAny_call_builtin (by decide +kernel) PySem.F.entry_bool_new (wpAny_of_eq (PySem.F.newCall_bool_1 _) ?_)
    unfold Builtin.«bool.__new__»
    refine wpAny_bind (wpAny_of_eq (show isType (.type "bool") = pure true from rfl) ?_)
    simp only [Bool.not_true, Bool.false_eq_true, if_false]
    refine wpAny_bind (wpAny_of_eq PySem.F.conv_sub_bool ?_)
    simp only [Bool.not_true, Bool.false_eq_true, if_false]
    refine wpAny_bind (m := someArgs _ _ _ _) (wpAny_pure ?_)
    refine wpAny_bind (wpAny_mono one (fun b s₁ z => ?_) fun _ _ e => e)
    exact wpAny_pure ⟨b, rfl, z⟩
  · rintro obj s₁ ⟨b, rfl, hq⟩
    exact ⟨PySem.typeIs_bool _ _, PySem.F.args_object_init_2 _ _, object_init_meets PySem.F.called_bool.init.lookup PySem.F.called_bool.made PySem.F.newNe_bool X.prog X.w X.A.in1 _ s₁ ⟨PySem.typeIs_bool _ _, rfl, hq⟩⟩
end
/-! how a def binds -/
theorem kbn_of {K : PySem.W.Frag} {x qual : Str} {st : Stmt} {f : Addr} {fd : FuncData} {ps ks : List Str} {n : Nat} (F : Fun K x qual st f fd)
    (h : ∀ (kV doc pm : Value) (an : Option Addr) (cdv ct : Value) (us ws : List Value), us.length = n → ws.length = ks.length → bindArgs (PySem.W.fnOf x qual (defArgs st) (defBody st) (defScope st) .none kV doc pm an cdv ct) ⟨us, ks.zip ws⟩ = pure (ps.zip (us ++ ws))) :
    KBn K fd ps n ks (fun us ws => us ++ ws) (fun vs zs => vs ++ zs) := by
  obtain ⟨oc, od, kV, doc, pm, an, cdv, ct, osl, rfl, lk, hcd⟩ := F.ex
  exact ⟨fun s us ws X l1 l2 => BindsTo.of_eq (h kV doc pm an cdv ct us ws l1 l2), fun r1 r2 => r1.append r2⟩
/-- def f(a, *v) that raises nothing -/
theorem star_ok {P : Program} {w : World} {K : PySem.W.Frag} {mg : Str → Option Value} {base : Heap} {x qual : Str} {st : Stmt} {f : Addr} {fd : FuncData} {N ps : List Str} {pv : Str} {k : Nat} {sp : Sp} (F : Fun K x qual st f fd) (S : FnScope N (ps ++ [pv]) (defScope st))
    (hb : ∀ (kV doc pm : Value) (an : Option Addr) (cdv ct : Value) (us rest : List Value), us.length = ps.length → bindArgs (PySem.W.fnOf x qual (defArgs st) (defBody st) (defScope st) .none kV doc pm an cdv ct) ⟨us ++ rest, []⟩ = (newTuple rest >>= fun t => pure (ps.zip us ++ [(pv, t)])))
    (hbody : ∀ (cdv : Value) (A : Around) (outer : List Env) (s : Shared) (H : Hp) (vs : List V) (Q : VK) (E : XK), Room k (A.deeper (envOfC qual (defScope st) s.heap.objs.size f cdv)) → sp vs H Q E →
      ∃ t, PSs (cxOf CX0 P w K mg base N qual (defScope st) f cdv A outer s H E).nox (defBody st) t ∧ t { nx := fun _ H' => Q .non H', rt := Q } (start N vs) H) :
    FnR P w K mg base CX0 (k + 1) f (fun vs H Q E => ∃ ws rest, vs = ws ++ rest ∧ ws.length = ps.length ∧ rest.length ≤ sizeLine ∧ ∀ p, H p = Option.none → sp (ws ++ [V.ref p]) (upd H p (.tup rest)) Q E) := by
  obtain ⟨oc, od, kV, doc, pm, an, cdv, ct, osl, rfl, lk, hcd⟩ := F.ex
  exact StX.fn_star lk hcd S StX.cxUp_none (fun us rest l => hb kV doc pm an cdv ct us rest l) (fun A outer s H vs Q E hr h => let ⟨t, h1, q⟩ := hbody cdv A outer s H vs Q E hr h; ⟨t, h1.nox, q⟩)
end Lb

set_option Elab.async false
set_option linter.all false
set_option maxRecDepth 100000
set_option maxHeartbeats 4000000
namespace Lb
open PySem

/-! the digits of a number, cut -/
def pad : Nat → Nat → List Char
  | 0, _ => []
  | k + 1, r => pad k (r / 10) ++ [Nat.digitChar (r % 10)]
theorem digits_cut {n : Nat} (hn : 0 < n) : ∀ (k r : Nat), r < 10 ^ k → Nat.toDigits 10 (n * 10 ^ k + r) = Nat.toDigits 10 n ++ pad k r
  | 0, r, h => by
    have : r = 0 := by simpa using h
    subst this
    simp [pad]
  | k + 1, r, h => by
    have h1 : r / 10 < 10 ^ k := by
      rw [Nat.pow_succ] at h
      omega
    have ih := digits_cut hn k (r / 10) h1
    have e : n * 10 ^ (k + 1) + r = 10 * (n * 10 ^ k + r / 10) + r % 10 := by
      rw [Nat.pow_succ]
      have := Nat.div_add_mod r 10
      rw [← Nat.mul_assoc]
      omega
    have p : 0 < n * 10 ^ k + r / 10 := Nat.add_pos_left (Nat.mul_pos hn (Nat.pow_pos (by decide))) _
    rw [e, ← Nat.toDigits_append_toDigits (by decide) p (Nat.mod_lt _ (by decide)), ih, Nat.toDigits_of_lt_base (Nat.mod_lt _ (by decide))]
    simp [pad]
theorem pad_zero : ∀ k, pad k 0 = List.replicate k '0'
  | 0 => rfl
  | k + 1 => by
    rw [pad, pad_zero k, List.replicate_succ']
    rfl
theorem pad_eq : ∀ (k r : Nat), 1 ≤ k → r < 10 ^ k → pad k r = List.replicate (k - (Nat.toDigits 10 r).length) '0' ++ Nat.toDigits 10 r
  | 1, r, _, h => by
    have h : r < 10 := by simpa using h
    rw [Nat.toDigits_of_lt_base h]
    simp [pad, Nat.mod_eq_of_lt h]
  | k + 2, r, _, h => by
    have h1 : r / 10 < 10 ^ (k + 1) := by
      rw [Nat.pow_succ] at h
      omega
    have ih := pad_eq (k + 1) (r / 10) (by omega) h1
    rw [pad]
    by_cases h0 : r < 10
    · have : r / 10 = 0 := by omega
      rw [this, pad_zero, Nat.toDigits_of_lt_base h0, Nat.mod_eq_of_lt h0]
      rfl
    · have e : Nat.toDigits 10 r = Nat.toDigits 10 (r / 10) ++ [Nat.digitChar (r % 10)] := by
        rw [← Nat.toDigits_of_lt_base (Nat.mod_lt r (by decide : 10 > 0)), Nat.toDigits_append_toDigits (by decide) (by omega) (Nat.mod_lt _ (by decide)), Nat.div_add_mod]
      rw [ih, e, List.length_append]
      rw [show k + 1 + 1 - ((Nat.toDigits 10 (r / 10)).length + [Nat.digitChar (r % 10)].length) = k + 1 - (Nat.toDigits 10 (r / 10)).length by simp only [List.length_cons, List.length_nil]; omega]
      simp
/-- the text of digits -/
def chS (l : List Char) : Str := ⟨(l.map Char.toNat).toArray⟩
theorem chS_append (a b : List Char) : chS (a ++ b) = chS a ++ chS b := by
  show Str.mk _ = Str.mk _
  congr 1
  simp [chS]
theorem toS (n : Nat) : ((toString (n : Int) : String) : Str) = chS (Nat.toDigits 10 n) := by
  rw [show ((toString (n : Int) : String) : Str) = Str.ofString (toString (n : Int)) from rfl, Str.ofString_eq_toList]
  unfold chS
  congr 3
  show (Int.repr (n : Int)).toList = _
  simp [Int.repr, Nat.repr]
theorem zf {k r : Nat} (hk : 1 ≤ k) (hr : r < 10 ^ k) : Txt.zfill (chS (Nat.toDigits 10 r)) (k : Nat) = chS (pad k r) := by
  have hlen : (chS (Nat.toDigits 10 r)).length = (Nat.toDigits 10 r).length := by
    show (chS (Nat.toDigits 10 r)).cps.size = _
    simp [chS]
  rw [pad_eq k r hk hr]
  unfold Txt.zfill
  rw [hlen]
  by_cases h : ((k : Nat) : Int) ≤ ((Nat.toDigits 10 r).length : Nat)
  · rw [if_pos h, show k - (Nat.toDigits 10 r).length = 0 by omega]
    simp
  · rw [if_neg h]
    have e0 : (chS (Nat.toDigits 10 r)).cps[0]? = ((Nat.toDigits 10 r)[0]?).map Char.toNat := by simp [chS]
    have key : (chS (Nat.toDigits 10 r)).cps[0]? ≠ some 43 ∧ (chS (Nat.toDigits 10 r)).cps[0]? ≠ some 45 := by
      rw [e0]
      cases hd : (Nat.toDigits 10 r)[0]? with
      | none => simp
      | some c =>
        have hc := Nat.isDigit_of_mem_toDigits (by decide) (by decide) (List.mem_of_getElem? hd)
        have : 48 ≤ c.toNat := by
          have := hc
          simp only [Char.isDigit, Bool.and_eq_true, decide_eq_true_eq] at this
          exact UInt32.le_iff_toNat_le.mp this.1
        simp only [Option.map_some, ne_eq, Option.some.injEq]
        omega
    have e : zfilled (chS (Nat.toDigits 10 r)) (Int.toNat k - (Nat.toDigits 10 r).length) = Builtin.Str.padded (chS (Nat.toDigits 10 r)) (Int.toNat k - (Nat.toDigits 10 r).length) 0 48 := by
      unfold zfilled
      split
      · rename_i q; exact absurd q key.1
      · rename_i q; exact absurd q key.2
      · rfl
    rw [e, chS_append]
    unfold Builtin.Str.padded
    show Str.mk _ = Str.mk _
    congr 1
    simp [chS]
def cat : List Str → Str
  | [] => Str.empty
  | x :: r => x ++ cat r
theorem empty_add (x : Str) : Str.empty ++ x = x := by
  show Str.mk _ = Str.mk _
  simp [Str.empty]
theorem add_empty (x : Str) : x ++ Str.empty = x := by
  show Str.mk _ = Str.mk _
  simp [Str.empty]
theorem cat_append (a b : List Str) : cat (a ++ b) = cat a ++ cat b := by
  induction a with
  | nil => exact (empty_add _).symm
  | cons x r ih => rw [List.cons_append, cat, cat, ih, Str.append_assoc]
theorem cat_foldl : ∀ (l : List Str) (x : Str), (⟨l.foldl (fun acc p => acc ++ Str.empty.cps ++ p.cps) x.cps⟩ : Str) = x ++ cat l
  | [], x => (add_empty x).symm
  | y :: r, x => by
    rw [List.foldl_cons]
    have e : x.cps ++ Str.empty.cps ++ y.cps = (x ++ y).cps := by
      show _ = x.cps ++ y.cps
      simp [Str.empty]
    rw [e, cat_foldl r (x ++ y), cat, Str.append_assoc]
theorem join_empty : ∀ l : List Str, Txt.join Str.empty l = cat l
  | [] => rfl
  | x :: r => cat_foldl r x
theorem cat_length : ∀ l : List Str, (cat l).length = (l.map (·.length)).sum
  | [] => rfl
  | x :: r => by rw [cat, Str.length_append, cat_length r, List.map_cons, List.sum_cons]
theorem chS_length (l : List Char) : (chS l).length = l.length := by
  show (chS l).cps.size = _
  simp [chS]
theorem pad_length : ∀ k r, (pad k r).length = k
  | 0, _ => rfl
  | k + 1, r => by rw [pad, List.length_append, pad_length k]; rfl
/-- one turn: the last sixty digits are cut off -/
theorem turn60 {n : Nat} (h : 10 ^ 60 ≤ n) : ((toString (n : Int) : String) : Str) = ((toString ((n / 10 ^ 60 : Nat) : Int) : String) : Str) ++ Txt.zfill ((toString ((n % 10 ^ 60 : Nat) : Int) : String) : Str) (60 : Nat) ∧
    (Txt.zfill ((toString ((n % 10 ^ 60 : Nat) : Int) : String) : Str) (60 : Nat)).length = 60 := by
  have q : 0 < n / 10 ^ 60 := Nat.div_pos h (Nat.pow_pos (by decide))
  have r : n % 10 ^ 60 < 10 ^ 60 := Nat.mod_lt _ (Nat.pow_pos (by decide))
  rw [toS, toS, toS, zf (by decide) r]
  refine ⟨?_, by rw [chS_length, pad_length]⟩
  conv => lhs; rw [← Nat.div_add_mod n (10 ^ 60), Nat.mul_comm]
  rw [digits_cut q 60 _ r, chS_append]
end Lb
namespace Lb
open PySem L2
theorem vals_rev : ∀ {vs : List V} {us : List Value}, Vals vs us → Vals vs.reverse us.reverse
  | [], _, .nil => .nil
  | _ :: _, _, .cons r t => by
    rw [List.reverse_cons, List.reverse_cons]
    exact (vals_rev t).append (.cons r .nil)
theorem kit_of_own {K : PySem.W.Frag} {C : Addr} {T : String} (hm : PySem.W.kitMeta T = true) (h : PySem.W.subIn K (.ref C) (.type T) = some false) : PySem.W.kitOne K (.ref C) (.type T) = some false := by
  have ne : (Value.ref C == Value.type T) = false := Bool.eq_false_iff.mpr fun q => nomatch beq_iff_eq.mp q
  unfold PySem.W.kitOne
  rw [ne, if_neg (by decide)]
  unfold PySem.W.kitCls
  dsimp only
  rw [if_pos hm]
  exact h
end Lb

set_option Elab.async false
set_option linter.all false
set_option maxRecDepth 100000
set_option maxHeartbeats 4000000
set_option exponentiation.threshold 10000
namespace Lb
open PySem L2

/-! fractions in lowest terms -/
abbrev Q2 := Int × Int
theorem bd_one {n : Nat} : Bd (n + 1) 1 := by
  show 1 < 2 ^ (n + 1)
  exact Nat.one_lt_two_pow (Nat.succ_ne_zero n)
def rdD (t b : Int) : Int := if b < 0 then -((Nat.gcd t.natAbs b.natAbs : Nat) : Int) else ((Nat.gcd t.natAbs b.natAbs : Nat) : Int)
def rdT (t b : Int) : Int := t.fdiv (rdD t b)
def rdB (t b : Int) : Int := b.fdiv (rdD t b)
theorem rdT_one (t : Int) : rdT t 1 = t := by
  unfold rdT rdD
  simp [Int.fdiv_one]
theorem rdB_one (t : Int) : rdB t 1 = 1 := by
  unfold rdB rdD
  simp [Int.fdiv_one]
/-- a fraction in lowest terms, its parts below a power of two -/
structure Low (n : Nat) (x : Q2) : Prop where
  t : Bd n x.1
  b : Bd n x.2
  pos : 0 < x.2
  g : x.1.gcd x.2 = 1
theorem Low.mono {n m : Nat} {x : Q2} (h : Low n x) (k : n ≤ m) : Low m x := ⟨h.t.mono k, h.b.mono k, h.pos, h.g⟩
def rd (t b : Int) : Q2 := (rdT t b, rdB t b)
theorem rd_spec {t b : Int} (hb : b ≠ 0) : 0 < rdB t b ∧ (rdT t b).gcd (rdB t b) = 1 ∧ t = (rdD t b) * rdT t b ∧ b = (rdD t b) * rdB t b := by
  have hg : 0 < t.gcd b := Int.gcd_pos_of_ne_zero_right t hb
  obtain ⟨t1, ht⟩ := Int.gcd_dvd_left t b
  obtain ⟨b1, hb1⟩ := Int.gcd_dvd_right t b
  have g1 : t1.gcd b1 = 1 := by
    have h := Int.gcd_mul_left (t.gcd b : Int) t1 b1
    rw [← ht, ← hb1] at h
    have h' : t.gcd b * 1 = t.gcd b * t1.gcd b1 := by simpa using h
    exact (Nat.eq_of_mul_eq_mul_left hg h').symm
  have key : ∀ D x y : Int, D ≠ 0 → t = D * x → b = D * y → t.fdiv D = x ∧ b.fdiv D = y := fun D x y hD h1 h2 => by
    rw [h1, h2]
    exact ⟨Int.mul_fdiv_cancel_left _ hD, Int.mul_fdiv_cancel_left _ hD⟩
  have eg : ((Nat.gcd t.natAbs b.natAbs : Nat) : Int) = (t.gcd b : Int) := rfl
  unfold rdT rdB
  by_cases h : b < 0
  · have eD : rdD t b = -(t.gcd b : Int) := by unfold rdD; rw [if_pos h, eg]
    obtain ⟨e1, e2⟩ := key (rdD t b) (-t1) (-b1) (by omega) (by rw [eD, Int.neg_mul_neg]; exact ht) (by rw [eD, Int.neg_mul_neg]; exact hb1)
    rw [e1, e2]
    have hb2 : b1 < 0 := by
      have : (t.gcd b : Int) * b1 < (t.gcd b : Int) * 0 := by omega
      exact Int.lt_of_mul_lt_mul_left this (by omega)
    refine ⟨by omega, ?_, by rw [eD, Int.neg_mul_neg]; exact ht, by rw [eD, Int.neg_mul_neg]; exact hb1⟩
    rw [Int.neg_gcd, Int.gcd_neg]
    exact g1
  · have eD : rdD t b = (t.gcd b : Int) := by unfold rdD; rw [if_neg h, eg]
    obtain ⟨e1, e2⟩ := key (rdD t b) t1 b1 (by omega) (by rw [eD]; exact ht) (by rw [eD]; exact hb1)
    rw [e1, e2]
    have hb2 : 0 < b1 := by
      have : (t.gcd b : Int) * 0 < (t.gcd b : Int) * b1 := by omega
      exact Int.lt_of_mul_lt_mul_left this (by omega)
    exact ⟨hb2, g1, by rw [eD]; exact ht, by rw [eD]; exact hb1⟩
theorem rd_low {n : Nat} {t b : Int} (hb : b ≠ 0) (h1 : Bd n t) (h2 : Bd n b) : Low n (rd t b) := by
  obtain ⟨p, g, e3, e4⟩ := rd_spec (t := t) (b := b) hb
  have hD : 1 ≤ (rdD t b).natAbs := by
    rcases Nat.eq_zero_or_pos (rdD t b).natAbs with e | e
    · have := Int.natAbs_eq_zero.mp e
      rw [this, Int.zero_mul] at e4
      exact absurd e4 hb
    · exact e
  have le : ∀ z : Int, z.natAbs ≤ (rdD t b * z).natAbs := fun z => by
    rw [Int.natAbs_mul]
    exact Nat.le_mul_of_pos_left _ hD
  exact ⟨h1.le (by conv => rhs; rw [e3]
                   exact le _), h2.le (by conv => rhs; rw [e4]
                                          exact le _), p, g⟩
theorem rd_self {t b : Int} (p : 0 < b) (g : t.gcd b = 1) : rdT t b = t ∧ rdB t b = b := by
  have e : rdD t b = 1 := by
    unfold rdD
    rw [if_neg (by omega)]
    show ((t.gcd b : Nat) : Int) = 1
    omega
  unfold rdT rdB
  rw [e, Int.fdiv_one, Int.fdiv_one]
  exact ⟨rfl, rfl⟩

theorem mul_pos_ne {x y : Int} (h : 0 < x) (k : 0 < y) : x * y ≠ 0 := by
  have := Int.mul_pos h k
  omega
/-- the number -/
def val (x : Q2) : Rat := (x.1 : Rat) / (x.2 : Rat)
theorem ne_cast {b : Int} (h : b ≠ 0) : (b : Rat) ≠ 0 := fun z => h (Rat.intCast_inj.mp (z.trans Rat.intCast_zero.symm))
theorem pos_cast {b : Int} (h : 0 < b) : (0 : Rat) < (b : Rat) := by
  have := Rat.intCast_lt_intCast.mpr h
  simpa using this
theorem val_rd {t b : Int} (hb : b ≠ 0) : val (rd t b) = (t : Rat) / (b : Rat) := by
  obtain ⟨p, g, e3, e4⟩ := rd_spec (t := t) (b := b) hb
  have hD : rdD t b ≠ 0 := fun z => by
    rw [z, Int.zero_mul] at e4
    exact hb e4
  have h1 : (t : Rat) = (rdD t b : Rat) * (rdT t b : Rat) := by
    rw [← Rat.intCast_mul, ← e3]
  have h2 : (b : Rat) = (rdD t b : Rat) * (rdB t b : Rat) := by
    rw [← Rat.intCast_mul, ← e4]
  have h3 := ne_cast hD
  have h4 := ne_cast (show rdB t b ≠ 0 by omega)
  show (rdT t b : Rat) / (rdB t b : Rat) = _
  rw [h1, h2]
  grind
theorem val_lt {x y : Q2} (hx : 0 < x.2) (hy : 0 < y.2) : (x.1 * y.2 < y.1 * x.2) ↔ val x < val y := by
  have px := pos_cast hx
  have py := pos_cast hy
  have e1 : val x * ((x.2 : Rat) * y.2) = (x.1 : Rat) * y.2 := by unfold val; grind
  have e2 : val y * ((x.2 : Rat) * y.2) = (y.1 : Rat) * x.2 := by unfold val; grind
  have pp : (0 : Rat) < (x.2 : Rat) * y.2 := Rat.mul_pos px py
  rw [← Rat.intCast_lt_intCast, Rat.intCast_mul, Rat.intCast_mul, ← e1, ← e2]
  constructor
  · intro h
    exact Rat.lt_of_mul_lt_mul_right h (Rat.le_of_lt pp)
  · intro h
    exact Rat.mul_lt_mul_of_pos_right h pp
theorem val_le {x y : Q2} (hx : 0 < x.2) (hy : 0 < y.2) : (x.1 * y.2 ≤ y.1 * x.2) ↔ val x ≤ val y := by
  rw [← Int.not_lt, val_lt hy hx, Rat.not_lt]
theorem low_eq {t b t' b' : Int} (hb : 0 < b) (hb' : 0 < b') (g : t.gcd b = 1) (g' : t'.gcd b' = 1) (h : t * b' = t' * b) : t = t' ∧ b = b' := by
  have d1 : b ∣ b' := by
    have : b ∣ (b.gcd t : Int) * b' := Int.dvd_gcd_mul_iff_dvd_mul.mpr ⟨t', by grind⟩
    rw [Int.gcd_comm, g] at this
    simpa using this
  have d2 : b' ∣ b := by
    have : b' ∣ (b'.gcd t' : Int) * b := Int.dvd_gcd_mul_iff_dvd_mul.mpr ⟨t, by grind⟩
    rw [Int.gcd_comm, g'] at this
    simpa using this
  have e : b = b' := by
    have h1 := Int.le_of_dvd hb' d1
    have h2 := Int.le_of_dvd hb d2
    omega
  subst e
  refine ⟨?_, rfl⟩
  have : (t - t') * b = 0 := by grind
  rcases Int.mul_eq_zero.mp this with e | e <;> omega
theorem val_inj {n m : Nat} {x y : Q2} (hx : Low n x) (hy : Low m y) (h : val x = val y) : x = y := by
  have px := ne_cast (show x.2 ≠ 0 from by have := hx.pos; omega)
  have py := ne_cast (show y.2 ≠ 0 from by have := hy.pos; omega)
  have e : (x.1 : Rat) * y.2 = (y.1 : Rat) * x.2 := by
    unfold val at h
    grind
  rw [← Rat.intCast_mul, ← Rat.intCast_mul, Rat.intCast_inj] at e
  obtain ⟨h1, h2⟩ := low_eq hx.pos hy.pos hx.g hy.g e
  exact Prod.ext h1 h2
theorem val_add {x y : Q2} (hx : 0 < x.2) (hy : 0 < y.2) : val (rd (x.1 * y.2 + y.1 * x.2) (x.2 * y.2)) = val x + val y := by
  have px := ne_cast (show x.2 ≠ 0 by omega)
  have py := ne_cast (show y.2 ≠ 0 by omega)
  rw [val_rd (mul_pos_ne hx hy), Rat.intCast_add, Rat.intCast_mul, Rat.intCast_mul, Rat.intCast_mul]
  unfold val
  grind
theorem val_sub {x y : Q2} (hx : 0 < x.2) (hy : 0 < y.2) : val (rd (x.1 * y.2 - y.1 * x.2) (x.2 * y.2)) = val x - val y := by
  have px := ne_cast (show x.2 ≠ 0 by omega)
  have py := ne_cast (show y.2 ≠ 0 by omega)
  rw [val_rd (mul_pos_ne hx hy), Rat.intCast_sub, Rat.intCast_mul, Rat.intCast_mul, Rat.intCast_mul]
  unfold val
  grind
theorem val_mul {x y : Q2} (hx : 0 < x.2) (hy : 0 < y.2) : val (rd (x.1 * y.1) (x.2 * y.2)) = val x * val y := by
  have px := ne_cast (show x.2 ≠ 0 by omega)
  have py := ne_cast (show y.2 ≠ 0 by omega)
  rw [val_rd (mul_pos_ne hx hy), Rat.intCast_mul, Rat.intCast_mul]
  unfold val
  grind
theorem val_div {x y : Q2} (hx : 0 < x.2) (hy : 0 < y.2) (h0 : y.1 ≠ 0) : val (rd (x.1 * y.2) (x.2 * y.1)) = val x / val y := by
  have px := ne_cast (show x.2 ≠ 0 by omega)
  have py := ne_cast (show y.2 ≠ 0 by omega)
  have p0 := ne_cast h0
  rw [val_rd (Int.mul_ne_zero (by omega) h0), Rat.intCast_mul, Rat.intCast_mul]
  unfold val
  grind
theorem val_neg (x : Q2) : val (-x.1, x.2) = - val x := by
  show ((-x.1 : Int) : Rat) / x.2 = - ((x.1 : Rat) / x.2)
  rw [Rat.intCast_neg]
  grind
theorem val_zero : val (0, 1) = 0 := by
  show ((0 : Int) : Rat) / ((1 : Int) : Rat) = 0
  rw [Rat.intCast_zero]
  grind
theorem val_eq0 {x : Q2} (hx : 0 < x.2) : x.1 = 0 ↔ val x = 0 := by
  have px := ne_cast (show x.2 ≠ 0 by omega)
  constructor
  · intro h
    unfold val
    rw [h, Rat.intCast_zero]
    grind
  · intro h
    refine Classical.byContradiction fun k => ?_
    have := ne_cast k
    unfold val at h
    grind
theorem val_pos {x : Q2} (hx : 0 < x.2) : 0 < x.1 ↔ 0 < val x := by
  have h := val_lt (x := (0, 1)) (y := x) (by decide) hx
  rw [val_zero] at h
  rw [← h]
  simp
theorem val_negl {x : Q2} (hx : 0 < x.2) : x.1 < 0 ↔ val x < 0 := by
  have h := val_lt (x := x) (y := (0, 1)) hx (by decide)
  rw [val_zero] at h
  rw [← h]
  simp
end Lb

set_option Elab.async false
set_option linter.all false
set_option maxRecDepth 100000
set_option maxHeartbeats 4000000
namespace Lb
open PySem PySem.Spec PyProof.Rows L2
section
variable {X : Cx} {CX : CXT} {k : Nat} {f C p g : Addr} {fd : FuncData} {ps ks : List Str} {sp : Sp} {E : XK} {x m : Str} {pos np apos : Pos} {o fe e : Expr} {es : List Expr} {kws : List Keyword} {ta tf : TE} {t tk : TA} {gf : List Value → List Value → List Value} {gV : List V → List V → List V}
/-! an instance is called -/
def tCallI (C : Addr) (sp : Sp) (E : XK) (tf : TE) (t : TA) : TE := fun σ H Q => tf σ H fun y H1 => ∃ a, y = V.ref a ∧ t σ H1 fun vs H2 => (∃ dx fs, H2 a = some (.ins C dx fs)) ∧ sp (V.ref a :: vs) H2 Q E
theorem pe_callI (hf : PE X fe tf) (c : StX.CallO X.K C g) (F : FnR X.prog X.w X.K X.mg X.base CX k g sp) (hr : Room k X.A) (hx : Passes CX X E) (ha : PA X (e :: es) t)
    (ht : eval (.Call fe (e :: es) [] pos) X.env = (do callWith pos (← eval fe X.env) [] (backTo pos (starEach (e :: es) X.env)) (backToKw pos (keywordEach [] X.env))) := by rfl)
    (he : starEach (e :: es) X.env = (false, eval e X.env) :: starEach es X.env := by rfl) (hpl : (backTo pos (starEach es X.env)).any (·.1) = false := by rfl) : PE X (.Call fe (e :: es) [] pos) (tCallI C sp E tf t) := by
  refine ⟨fun pins s σ H Q I h => ?_⟩
  refine Call_ (thn (hf.run pins s σ H _ I h) fun u s1 ⟨y, H1, I1, ry, a, ey, q⟩ => ?_) ht
  subst ey
  obtain rfl : u = Value.ref a := ry
  refine StX.callO_with (thn (ha.run pos pins s1 σ H1 _ I1 q) fun us s2 ⟨vs, H2, I2, r, ⟨dx, fs, hi⟩, q2⟩ => ?_) he hpl
  obtain ⟨ox, od, J, hd⟩ := StX.insC_at I2 (X := X) (.inr ⟨dx, fs, hi⟩)
  exact ⟨⟨C, ox, od, J, hd⟩, StX.run_callO c F hr hx I2 (.inr ⟨dx, fs, hi⟩) r q2⟩
/-! C.m(e, ..), m a staticmethod -/
structure SMet (K : PySem.W.Frag) (C : Addr) (m : Str) (p g : Addr) : Prop where
  ty : PySem.W.typeIn K (.ref C) = some (.type "type")
  rd : PySem.W.readsIn K C (.type "type") = true
  ga : PySem.W.specialIn K (.ref C) "__getattribute__" = some (some (.builtin "type.__getattribute__"))
  at_ : PySem.W.findCls K (.ref C) (.type "type") m = some (.get (.builtin "staticmethod.__get__") (.ref p) .none (.ref C))
  rc : ∃ rest, PySem.W.recIn K p "staticmethod" = some (.ref g :: rest)
  kp : PySem.W.keepIn K (.ref g) = true
def tSMeth (C : Addr) (sp : Sp) (E : XK) (ta : TE) (t : TA) : TE := fun σ H Q => ta σ H fun x H1 => x = .ref C ∧ t σ H1 fun vs H2 => sp vs H2 Q E
theorem getsm_ok {pins : List (Addr × Obj)} {σ : L2.St} {H : Hp} {s : Shared} {A : Around} {Ex : Value → Shared → Prop} {pl : Sem Bool} {Q : Value × List Value → Shared → Prop} (I : Inv X pins σ H s) (c : SMet X.K C m p g)
    (h : ∀ s', Inv X pins σ H s' → Q (.ref g, []) s') : wpAny (model X.prog X.w) A (getMethod (.ref C) m pl) Q Ex s := by
  obtain ⟨rest, hp⟩ := c.rc
  obtain ⟨mm, F⟩ := I.fr
  exact PySem.W.method_cls I.kIn c.ga (PySem.W.cls_sm F I.ok.mod.kin c.ty c.rd c.at_ hp rfl (h _ (I.tok _)))
theorem pe_smeth {pl : Sem Bool} {ds : List Value} {dvs : List V} (he : PE X o ta) (c : SMet X.K C m p g) (F : FnOk X.prog X.w X.K X.mg X.base CX k g fd ps sp) (hr : Room k X.A) (hb : Binds X.K fd ps ds) (hd : Vals dvs ds) (hx : Passes CX X E) (ha : PA X (e :: es) t)
    (hst : starEach (e :: es) X.env = (false, eval e X.env) :: starEach es X.env := by rfl) (hpl : (backTo pos (starEach es X.env)).any (·.1) = false := by rfl)
    (ht : eval (.Call (.Attribute o m apos) (e :: es) [] pos) X.env = (do
      let ov ← eval o X.env
      standAt apos.atName
      let (f, first) ← holding [ov] (getMethod ov m pl)
      callWith pos f first (backTo pos (starEach (e :: es) X.env)) (backToKw pos (keywordEach [] X.env))) := by rfl) :
    PE X (.Call (.Attribute o m apos) (e :: es) [] pos) (tSMeth C (fun vs H Q E => sp (vs ++ dvs) H Q E) E ta t) := by
  refine ⟨fun pins s σ H Q I h => ?_⟩
  refine PySem.W.methodCall_KW (pl := pl) (thn (he.run pins s σ H _ I h) fun u s1 ⟨x, H1, I1, rx, ex, q⟩ => ?_) ht
  subst ex
  obtain rfl : u = Value.ref C := rx
  refine getsm_ok I1 c fun s2 I2 => ?_
  refine PySem.W.callWith_K (first := []) (h₀ := X.base) I.ok.mod.kin c.kp (thn (ha.run pos pins s2 σ H1 _ I2 q) fun us s3 ⟨vs, H2, I3, rv, q2⟩ => ⟨I3.kIn, ?_⟩) hst hpl
  exact run_fn F hr hb hd hx I3 rv q2
/-! an instance is called with keywords alone -/
abbrev KeptBy (s : Shared) (o : Addr) : Prop := ∃ D y z, PySem.W.InstAt s.heap o y D z ∧ y.data = .plain
theorem inst_kw {M : Model} {A : Around} {Bad : Value → Shared → Prop} {Fin : Value → Shared → Prop} {t : Shared} {o : Addr} {pos : Pos} {us : List (Bool × Sem Value)} {ns : List (Option Str × Sem Value)} (no : (us.any (·.1) || ns.any (·.1.isNone)) = false)
    (run : wpAny M A (evalArgs (.ref o) true us ns) (fun got t' => KeptBy t' o ∧ wpAny M A (call (.ref o) got.pos got.kw) Fin Bad t') Bad t) :
    wpAny M A (callWith pos (.ref o) [] us ns) Fin Bad t := by
  have last : ∀ {go : Sem Value} {t' : Shared}, wpAny M A go Fin Bad t' → wpAny M A (go >>= fun v => holding [v] point >>= fun _ => pure v) Fin Bad t' := by
    intro go t' g
    apply wpAny_bind
    refine wpAny_mono g ?_ fun _ _ b => b
    intro v t2 fin
    exact wpAny_bind (wpAny_holding (wpAny_point (wpAny_pure fin)))
  unfold callWith
  apply wpAny_bind
  apply wpAny_holding
  refine wpAny_mono run ?_ fun _ _ b => b
  rintro got t' ⟨⟨D, y, z, inst, dat⟩, go⟩
  apply wpAny_bind
  apply wpAny_standAt
  have keeper := PySem.W.kco_keeper (M := M) inst dat
  simp only [no]
  apply wpAny_bind
  apply keeper.here
  exact last (wpAny_operateT go)
def tCallIK (nk : Nat) (C : Addr) (sp : Sp) (gV : List V → List V → List V) (E : XK) (tf : TE) (tk : TA) : TE := fun σ H Q => tf σ H fun y H1 => ∃ a, y = V.ref a ∧ tk σ H1 fun zs H2 => (∃ dx fs, H2 a = some (.ins C dx fs)) ∧ zs.length = nk ∧ sp (gV [.ref a] zs) H2 Q E
theorem pe_callIK (hf : PE X fe tf) (c : StX.CallO X.K C g) (F : FnOk X.prog X.w X.K X.mg X.base CX k g fd ps sp) (hr : Room k X.A) (hb : KBn X.K fd ps 1 ks gf gV) (hx : Passes CX X E) (hkw : PK X kws tk)
    (hall : (backToKw pos (keywordEach kws X.env)).all (·.1.isSome) = true := by rfl) (hks : (backToKw pos (keywordEach kws X.env)).filterMap (·.1) = ks := by rfl)
    (hpl : ((backTo pos (starEach [] X.env)).any (·.1) || (backToKw pos (keywordEach kws X.env)).any (·.1.isNone)) = false := by rfl)
    (ht : eval (.Call fe [] kws pos) X.env = (do callWith pos (← eval fe X.env) [] (backTo pos (starEach [] X.env)) (backToKw pos (keywordEach kws X.env))) := by rfl) : PE X (.Call fe [] kws pos) (tCallIK ks.length C sp gV E tf tk) := by
  refine ⟨fun pins s σ H Q I h => ?_⟩
  rw [ht]
  refine wpAny_bind (thn (hf.run pins s σ H _ I h) fun u s1 ⟨y, H1, I1, ry, a, ey, q⟩ => ?_)
  subst ey
  obtain rfl : u = Value.ref a := ry
  refine inst_kw hpl (evalArgs_kw2_nil hall ?_)
  refine thn (hkw.run pos pins s1 σ H1 _ I1 q) fun ws s2 ⟨zs, H2, I2, rz, ⟨dx, fs, hi⟩, l2, q2⟩ => ?_
  obtain ⟨ox, od, J, hd⟩ := StX.insC_at I2 (X := X) (.inr ⟨dx, fs, hi⟩)
  refine ⟨⟨C, ox, od, J, hd⟩, ?_⟩
  rw [hks]
  refine wpAny_call (PySem.W.kco_code I2.kIn J hd c.at_ c.fn c.fi ?_)
  refine codeAny_mono (F.run X.A X.stack s2 H2 ⟨[.ref a], ks.zip ws⟩ (gf [.ref a] ws) (gV [.ref a] zs) Q E hr I2.env0 (hb.to s2 [.ref a] ws I2.kIn rfl (rz.length.symm.trans l2)) (hb.rel (.cons rfl .nil) rz) q2) fun r s' hq => ?_
  cases r with
  | error e => exact hx pins σ H2 s2 e s' I2 hq
  | ok fl =>
    cases fl with
    | ret u => exact I2.after hq
    | next => exact False.elim hq
    | brk => exact False.elim hq
    | cont => exact False.elim hq
end
end Lb

set_option Elab.async false
set_option linter.all false
set_option maxRecDepth 100000
set_option maxHeartbeats 4000000
namespace Lb
open PySem PySem.Spec PyProof.Rows L2
/-! enumerate of whatever iter() turns into a new object, with one argument -/
abbrev EnO (k : Nat) : Obj := { cls := .type "enumerate", data := .fields #[.none, .bool false, .ref k, rawInt 0, .none, .none] }
theorem made_enum {v : Value} {o : Obj} {Z : Heap → Prop} (B : Begins v o Z) :
    Meets (Builtin.«enumerate.__new__» ⟨[.type "enumerate", v], []⟩) (fun _ R s => Z s.heap ∧ R (.ok (.ret (.ref (s.heap.push o).objs.size))) { s with heap := (s.heap.push o).push (EnO s.heap.objs.size) }) := by
  refine .of_wp fun P w A R s ⟨z, fin⟩ => ?_
  obtain ⟨hp, gl, od, tk, out⟩ := s
  have sb := sub_enumerate
  have it : ∀ {A' : Around} {Bad Q : Value → Shared → Prop}, Q (.ref hp.objs.size) ⟨hp.push o, gl, od, tk, out⟩ → wpAny (model P w) A' (pyIter v) Q Bad ⟨hp, gl, od, tk, out⟩ := fun q => B.iter P w _ _ ⟨hp, gl, od, tk, out⟩ _ z q
  wp_walk using it
  refine wpAny_stack_any fun _ => wpAny_pure ?_
  split
  · rename_i cc _ _ _ _ _
    cases (cc == Value.type "enumerate") <;> (wp_walk using it; exact ⟨_, rfl, fin⟩)
  · wp_walk using it
    exact ⟨_, rfl, fin⟩
theorem enum_called {P : Program} {w : World} {A : Around} {Bad : Value → Shared → Prop} {s : Shared} {v : Value} {o : Obj} {Z : Heap → Prop} {Q : Value → Shared → Prop} (B : Begins v o Z) (z : Z s.heap)
    (fin : ∀ h2, IsEnum h2 (s.heap.objs.size + 1) s.heap.objs.size 0 .none → h2.get? s.heap.objs.size = some o → (∀ b ob, s.heap.get? b = some ob → h2.get? b = some ob) → Q (.ref (s.heap.objs.size + 1)) { s with heap := h2 }) :
    wpAny (model P w) A (call (.type "enumerate") [v]) Q Bad s := by
  refine callType_new F.called_enumerate (by decide) (F.typeCall_enumerate_1 _) (F.newCall_enumerate_1 _) (fun ob => F.args_object_init_2 ob _) F.entry_enumerate_new (made_enum B) ⟨z, ?_⟩
  have n1 : (s.heap.push o).objs.size = s.heap.objs.size + 1 := Heap.size_push ..
  have top : ((s.heap.push o).push (EnO s.heap.objs.size)).get? (s.heap.push o).objs.size = some (EnO s.heap.objs.size) := Heap.get?_push_size _ rfl
  rw [n1] at top
  show _ ∧ _
  rw [n1]
  exact ⟨⟨_, top, rfl⟩, fin _ top (Heap.get?_push_of_some _ (Heap.get?_push_size _ B.free)) fun b ob q => Heap.get?_push_of_some _ (Heap.get?_push_of_some _ q)⟩
/-- the tuple at a, each item in a new pair with its place -/
def IteT (K : PySem.W.Frag) (a : Addr) : It where
  go i H := ∃ (xs : List V) (x : V), SqT K H a xs ∧ xs[i]? = some x
  yld i H v H' := ∃ T x, v = .ref T ∧ H T = none ∧ H' = L2.upd H T (.tup [.int (i : Nat), x]) ∧ ∀ xs, SqT K H a xs → xs[i]? = some x
  stop i H := ∃ xs : List V, SqT K H a xs ∧ xs.length ≤ i
theorem enum_turn {P : Program} {w : World} {K : PySem.W.Frag} {elts : List Expr} {kk : Nat} {tpos : Pos} (a e it : Addr) :
    Turn P w K (.Tuple elts kk tpos) (IteT K a) [e, it] e (fun i h => (∃ old, IsEnum h e it ((i : Nat) : Int) old) ∧ h.IsTupleIter it a i ∧ e ≠ it) where
  mem := List.mem_cons_self
  self := fun A i s Q E st h => by
    obtain ⟨⟨_, he⟩, _⟩ := st
    exact wpAny_pyIter_enum he h
  obj := by
    rintro i h ⟨⟨old, he⟩, ⟨o, ho, hc, hd⟩, _⟩ b hb
    rw [List.mem_cons, List.mem_singleton] at hb
    rcases hb with rfl | rfl
    · exact ⟨_, he, fun v q => nomatch q⟩
    · exact ⟨o, ho, fun v q => by rw [hd] at q; cases q⟩
  keep := by
    rintro i h h' ⟨⟨old, he⟩, hi, ne⟩ k
    exact ⟨⟨old, k e (by simp) _ he⟩, hi.at fun o q => k it (by simp) o q, ne⟩
  item := by
    rintro X rfl rfl rfl hc i pins s σ H E I hf ⟨⟨old, he⟩, hi, ne⟩ ⟨xs, x, hq, hx⟩
    obtain ⟨its, rv, ⟨ot, hot, cot, rt⟩, hz⟩ := I.tuple hq
    obtain ⟨u, hu, ru⟩ := rv.get hx
    have ai : a ≠ it := by
      rintro rfl
      obtain ⟨o, ho, hc', _⟩ := id hi
      have := hot.symm.trans ho
      injection this with this
      rw [← this, cot] at hc'
      exact absurd hc' (by decide)
    have ae : e ≠ a := by
      rintro rfl
      have := hot.symm.trans he
      injection this with this
      rw [this] at cot
      injection cot with cot
      exact absurd cot (by decide)
    have D := Draws.tuple (prog := X.prog) (w := X.w) (A := X.A.in1) (I.ok.hd hc) it a ai its.toArray
    have li := rv.length
    have lt : i < its.toArray.size := by
      have := (List.getElem?_eq_some_iff.mp hu).1
      simpa using this
    have be : e < s.heap.objs.size := Heap.lt_size he
    have bi : it < s.heap.objs.size := by obtain ⟨_, q, _⟩ := id hi; exact Heap.lt_size q
    refine wpAny_pyNext_enum_itemD D he ⟨hi, ⟨ot, hot, cot, rt⟩⟩ lt ne (by simp [ne, ae]) fun y h' tk py ho st' hT _ hk => ?_
    obtain rfl : y = u := by
      have : its.toArray[i]? = some u := by simpa using hu
      exact Option.some.inj (py.symm.trans this)
    refine ⟨_, rfl, wpAny_letOwnedTupleGo_enum (s := { s with heap := h', toks := tk + 1 }) ho fun h2 he2 sb => ?_⟩
    have new : ObjOk X.prog X.w (L2.upd H s.heap.objs.size (.tup [.int (i : Nat), x])) h2 s.heap.objs.size (.tup [.int (i : Nat), x]) :=
      ⟨by show 2 ≤ sizeLine; decide, [.int i tk, y], .cons ⟨_, rfl⟩ (.cons ru .nil), ⟨_, (sb.2 _ (Nat.ne_of_gt be)).trans hT, rfl, _, rfl⟩⟩
    have I1 : Inv X pins σ (L2.upd H s.heap.objs.size (.tup [.int (i : Nat), x])) { s with heap := h2, toks := tk + 1 } := by
      refine I.turnedNew (ch := [e, it]) (fun b ob hb q => ?_) hf (Nat.le_refl _) new
      simp only [List.mem_cons, List.not_mem_nil, or_false, not_or] at hb
      exact (sb.2 b hb.1).trans (hk b ob hb.1 hb.2 q)
    refine ⟨.ref s.heap.objs.size, _, I1, rfl, ⟨_, x, rfl, I.hok.fresh (Nat.le_refl _), rfl, fun ys hy => by rw [I.tuple_inj hy hq]; exact hx⟩, ⟨⟨y, ?_⟩, st'.1.at fun o q => (sb.2 it (Ne.symm ne)).trans q, ne⟩, fun b hb => ?_⟩
    · rw [show ((i + 1 : Nat) : Int) = (i : Int) + 1 by omega]
      exact he2
    · have : b < s.heap.objs.size := by
        rw [List.mem_cons, List.mem_singleton] at hb
        rcases hb with rfl | rfl
        · exact be
        · exact bi
      rw [upd_ne (Nat.ne_of_lt this)]
      exact (hf b hb).1
  done := by
    rintro X rfl rfl rfl hc i pins s σ H E I hf ⟨⟨old, he⟩, hi, ne⟩ ⟨xs, hq, hx⟩
    obtain ⟨its, rv, ⟨ot, hot, cot, rt⟩, hz⟩ := I.tuple hq
    have ll := rv.length
    have out : its.toArray[i]? = none := by
      rw [Array.getElem?_eq_none_iff]
      show its.length ≤ i
      omega
    have D : Draws X.prog X.w X.A.in1 it [it, a] 0 (fun _ _ => True) (fun _ h => h.IsTupleIter it a i ∧ h.IsTuple a its.toArray) :=
      { live := fun _ _ st => by
          obtain ⟨⟨o, ho, _⟩, _⟩ := st
          exact ⟨o, ho⟩
        frame := fun _ _ _ st k => ⟨st.1.at fun o q => k it (by simp) o q, st.2.at fun o q => k a (by simp) o q⟩
        item := fun j _ _ _ lt => absurd lt (Nat.not_lt_zero _)
        done := fun t Q E' st q => wpAny_nextOf_tuple_end (I.ok.hd hc) st.1 st.2 out q }
    obtain ⟨f0, f1, f2, f3, f4, f5⟩ := hf it (by simp)
    exact wpAny_pyNext_enum_endD D he ⟨hi, ⟨ot, hot, cot, rt⟩⟩ fun h2 eb => ⟨rfl, I.turned (t' := s.toks) (fun b o nb q => eb b o nb q) f0 f1 f3 f4 f5⟩
def iEnumT (K : PySem.W.Frag) (ta : TA) : TI := fun σ H R => ta σ H fun vs H1 => ∃ a xs, vs = [.ref a] ∧ SqT K H1 a xs ∧ R (IteT K a) H1
theorem pi_enumT {X : Cx} {e : Expr} {ta : TA} {p pos tpos : Pos} {elts : List Expr} {kk : Nat} (hg : Gl X "enumerate") (hm : X.mg "enumerate" = none) (ha : PA X [e] ta) (hs : starEach [e] X.env = [(false, eval e X.env)] := by rfl) :
    PI X (.Tuple elts kk tpos) (.Call (.Name "enumerate" p) [e] [] pos) (iEnumT X.K ta) := by
  constructor
  intro pins s σ H R I h
  refine Call_ (ld_blt I hg hm boot_enumerate (PyProof.Rows.callWith_type1 (thn (ha.run pos pins s σ H _ I h) ?_) hs rfl))
  rintro us s1 ⟨vs, H1, I1, r1, a, xs, rfl, hq, q⟩
  obtain ⟨u, rfl⟩ : ∃ u, us = [u] := by
    cases r1 with
    | cons r rr => cases rr; exact ⟨_, rfl⟩
  obtain rfl : u = Value.ref a := by
    cases r1 with
    | cons r rr => exact r
  obtain ⟨its, rv, tt, hz⟩ := I1.tuple hq
  refine enum_called (begins_tuple a its.toArray) tt fun h2 he hi hk => wpAny_pyIter_enum he ?_
  have I2 : Inv X pins σ H1 { s1 with heap := h2 } := I1.kept (t' := s1.toks) hk
  refine ⟨_, [s1.heap.objs.size + 1, s1.heap.objs.size], _, _, H1, rfl, I2, enum_turn a _ s1.heap.objs.size, ⟨⟨.none, he⟩, ⟨_, hi, rfl, rfl⟩, Nat.succ_ne_self _⟩, fun b hb => ?_, q⟩
  have nb : s1.heap.objs.size ≤ b := by
    rw [List.mem_cons, List.mem_singleton] at hb
    rcases hb with z | z
    · rw [z]
      exact Nat.le_succ _
    · rw [z]
      exact Nat.le_refl _
  exact I1.fpOk nb (I1.hok.fresh nb)
/-- for i, x in enumerate(a tuple) -/
theorem for_enumT {K : PySem.W.Frag} {a : Addr} {xs : List V} {g : TG} {tb : TS} {D : Ends} {σ : L2.St} {H : Hp} (Pv : Nat → L2.St → Hp → Prop) (h0 : Pv 0 σ H) (hq : ∀ i σ H, Pv i σ H → SqT K H a xs)
    (hs : ∀ (i : Nat) (x : V) (T : Addr) (σ : L2.St) (H : Hp), xs[i]? = some x → Pv i σ H → H T = none → g (.ref T) σ (L2.upd H T (.tup [.int (i : Nat), x])) fun σ2 H2 => tb { D with nx := Pv (i + 1), ct := Pv (i + 1), bk := D.nx } σ2 H2)
    (hd : ∀ σ H, Pv xs.length σ H → D.nx σ H) :
    ∃ W : Nat → Nat → L2.St → Hp → Prop, (∃ m, W 0 m σ H) ∧ ∀ i m σ H, W i m σ H →
      ((IteT K a).stop i H ∧ D.nx σ H) ∨ ((IteT K a).go i H ∧ ∃ N : L2.St → Hp → Prop, (∀ σ' H', N σ' H' → ∃ m', m' < m ∧ W (i + 1) m' σ' H') ∧
        ∀ v H', (IteT K a).yld i H v H' → g v σ H' fun σ2 H2 => tb { D with nx := N, ct := N, bk := D.nx } σ2 H2) := by
  refine ⟨fun i m σ H => m = xs.length - i ∧ i ≤ xs.length ∧ Pv i σ H, ⟨xs.length, rfl, Nat.zero_le _, h0⟩, ?_⟩
  rintro i m σ H ⟨rfl, hi, p⟩
  have q := hq i σ H p
  by_cases h : i < xs.length
  · refine .inr ⟨⟨xs, xs[i], q, List.getElem?_eq_getElem h⟩, Pv (i + 1), fun σ' H' p' => ⟨xs.length - (i + 1), by omega, rfl, h, p'⟩, ?_⟩
    rintro v H' ⟨T, x, rfl, hT, rfl, f⟩
    exact hs i x T σ H (f xs q) p hT
  · obtain rfl : i = xs.length := by omega
    exact .inl ⟨⟨xs, q, Nat.le_refl _⟩, hd σ H p⟩
theorem pi_tupK {X : Cx} {K : PySem.W.Frag} {tg l : Expr} {tl : TE} (hK : X.K = K) (hl : PE X l tl) : PI X tg l (iTup K tl) := by subst hK; exact pi_tup hl
end Lb

set_option Elab.async false
set_option linter.all false
set_option maxRecDepth 100000
set_option maxHeartbeats 4000000
namespace Lb
open PySem L2
/-- all but lists is kept -/
def NL (H H' : Hp) : Prop := ∀ b o, (∀ l, o ≠ HO.lst l) → H b = some o → H' b = some o
theorem NL.trans {H H1 H2 : Hp} (h : NL H H1) (k : NL H1 H2) : NL H H2 := fun b o n e => k b o n (h b o n e)
theorem NL.of {H H1 : Hp} (h : L2.Same H H1) : NL H H1 := fun b o _ e => h b o e
theorem NL.refl {H : Hp} : NL H H := fun _ _ _ e => e
theorem NL.mov {p : Addr} {H H1 : Hp} (m : Mov p H H1) (hp : PotAt H p) : NL H H1 := fun b o n e => m.keep b o (fun z => by
  obtain ⟨x, y, q, _⟩ := hp
  rw [z, q] at e
  exact n _ (Option.some.inj e).symm) e
theorem NL.upd {H : Hp} {l : Addr} {ys : List V} {o : HO} (h : H l = some (.lst ys)) : NL H (L2.upd H l o) := fun b u n e => by
  have : b ≠ l := fun z => by
    rw [z, h] at e
    exact n _ (Option.some.inj e).symm
  rw [upd_ne this]
  exact e
theorem Mov.updl {p l : Addr} {H H' : Hp} {o : HO} (m : Mov p H H') (h : H l = none) (n : l ≠ p) : Mov p H (L2.upd H' l o) := by
  refine ⟨fun b u nb e => ?_, ?_⟩
  · rw [upd_ne (ne_of_none e h)]
    exact m.keep b u nb e
  · obtain ⟨x, y, q, z⟩ := m.pot
    exact ⟨x, y, by rw [upd_ne (Ne.symm n)]; exact q, z⟩
theorem Same.free {H H' : Hp} {b : Addr} (s : L2.Same H H') (h : H' b = none) : H b = none := by
  cases z : H b with
  | none => rfl
  | some o =>
    rw [s b o z] at h
    cases h
theorem Fr.nl {p : Addr} {H H' : Hp} {t b : Int} (h : Fr H p t b) (s : NL H H') : Fr H' p t b := s _ _ (fun _ z => nomatch z) h
theorem eqv2 (x y : Int) : PyData.eqv (.list [.int x, .int y]) (.list [.int 0, .int 0]) = (decide (x = 0) && decide (y = 0)) := by
  simp only [PyData.eqv, PyData.eqvAll, Bool.and_true]
  rfl
end Lb

set_option Elab.async false
set_option linter.all false
set_option maxRecDepth 100000
set_option maxHeartbeats 4000000
/-! == of lists and tuples whose items have an own ==: either answer -/
namespace LbE
open PySem PySem.SeqAt
open AutoSeq1 (wpAny_loadPart')
open MeetsSeq MeetsSeq2 MeetsSeq3 SeqRoads2
open GQ (FinOf call_here)
section
variable {prog : Program} {w : World} {A : Around} {R : Result → Shared → Prop}
/-- at each moment the two lists are read anew: N items each; how the i-th two compare -/
def ListB (prog : Program) (w : World) (A : Around) (E : Value → Shared → Prop) (l b : Addr) (N : Nat) (e : Nat → Bool) (I : Shared → Prop) : Prop :=
  ∀ s, I s → ∃ (items items2 : Array Value) (n n2 : Nat), s.heap.get? l = some { cls := .type "list", data := .seq items n } ∧ s.heap.get? b = some { cls := .type "list", data := .seq items2 n2 } ∧ items.size = N ∧ items2.size = N ∧
    ∀ (i : Nat) (h1 : i < items.size) (h2 : i < items2.size), wpAny (model prog w) A.in1 (eqBool items[i] items2[i]) (fun r s' => r = e i ∧ I s') E s
theorem eq_loopB (l b : Addr) (N : Nat) (e : Nat → Bool) (I : Shared → Prop) (hl : ListB prog w A (fun e s' => R (.error e) s') l b N e I) (k : Nat) :
    ∀ i : Nat, N - i = k → i ≤ N → (∀ s, I s → R (.ok (.ret (.bool (((List.range N).drop i).all e)))) s) → ∀ s, I s →
      wpAny (model prog w) A.in1 (Builtin.«list.__eq__.loop» ⟨[.ref l, .ref b, rawInt i, rawInt 2], []⟩) (FinOf prog w A R) (fun e s' => R (.error e) s') s := by
  induction k with
  | zero =>
    intro i hk hi fin s h
    obtain ⟨items, items2, n, n2, hl1, hb1, hs1, hs2, _⟩ := hl _ h
    have hi' : i = N := by omega
    have hd : (List.range N).drop i = [] := by simp; omega
    have hR := fin s h
    rw [hd] at hR
    obtain ⟨hp, g, d, tk, os⟩ := s
    wp_walk using wpAny_loadPart' hl1, wpAny_loadPart' hb1
    have hi1 : items[((i : Nat) : Int).toNat]? = none := by simp; omega
    have hi2 : items2[((i : Nat) : Int).toNat]? = none := by simp; omega
    rw [hi1, hi2]
    wp_walk using wpAny_loadPart' hl1, wpAny_loadPart' hb1
    show R (.ok (.ret (.bool (items.size == items2.size)))) _
    rw [hs1, hs2]
    simpa using hR
  | succ k ih =>
    intro i hk hi fin s h
    obtain ⟨items, items2, n, n2, hl1, hb1, hs1, hs2, turn⟩ := hl _ h
    have hlt : i < items.size := by omega
    have hlt2 : i < items2.size := by omega
    have ht := turn i hlt hlt2
    have hd : (List.range N).drop i = i :: (List.range N).drop (i + 1) := by
      rw [List.drop_eq_getElem_cons (by rw [List.length_range]; omega)]
      simp
    rw [hd] at fin
    obtain ⟨hp, g, d, tk, os⟩ := s
    wp_walk using wpAny_loadPart' hl1, wpAny_loadPart' hb1
    have hi1 : items[((i : Nat) : Int).toNat]? = some items[i] := by simp [hlt]
    have hi2 : items2[((i : Nat) : Int).toNat]? = some items2[i] := by simp [hlt2]
    have hc : ((i : Int) + 1) = ((i + 1 : Nat) : Int) := by omega
    rw [hi1, hi2]
    refine wpAny_bind (wpAny_mono ht (fun r s2 h2 => ?_) fun _ _ x => x)
    obtain ⟨hr, h2⟩ := h2
    subst hr
    cases hb' : e i with
    | true =>
      have hrec := ih (i + 1) (by omega) (by omega) (fun s hs => by
        have := fin s hs
        rw [List.all_cons, hb'] at this
        simpa using this) s2 h2
      obtain ⟨hp2, g2, d2, tk2, os2⟩ := s2
      wp_walk
      rw [hc]
      exact ⟨plainId_quiet plain_eq_loop _, codeAny_builtin entry_eq_loop (by
        rw [Around.under_plainId plain_eq_loop _]
        exact hrec)⟩
    | false =>
      have hR := fin s2 h2
      rw [List.all_cons, hb'] at hR
      obtain ⟨items3, items4, n3, n4, hl3, hb3, hs3, hs4, _⟩ := hl _ h2
      obtain ⟨hp2, g2, d2, tk2, os2⟩ := s2
      wp_walk using wpAny_loadPart' hl3, wpAny_loadPart' hb3
      have hi3 : items3[((i : Nat) : Int).toNat]? = some (items3[i]'(by omega)) := by simp [show i < items3.size by omega]
      have hi4 : items4[((i : Nat) : Int).toNat]? = some (items4[i]'(by omega)) := by simp [show i < items4.size by omega]
      rw [hi3, hi4]
      wp_walk
      simpa using hR
theorem list_eqB (l b : Addr) (N : Nat) (e : Nat → Bool) (I : Shared → Prop) (hl : ListB prog w A (fun e s' => R (.error e) s') l b N e I)
    (fin : ∀ s, I s → R (.ok (.ret (.bool ((List.range N).all e)))) s) {s : Shared} (h : I s) :
    wpAny (model prog w) A.in1 (Builtin.«list.__eq__» ⟨[.ref l, .ref b], []⟩) (FinOf prog w A R) (fun e s' => R (.error e) s') s := by
  obtain ⟨items, items2, n, n2, hl1, hb1, hs1, hs2, _⟩ := hl _ h
  have hrec := eq_loopB (A := A) (R := R) l b N e I hl _ 0 rfl (Nat.zero_le _) (by simpa using fin) s h
  obtain ⟨hp, g, d, tk, os⟩ := s
  have f3 := AutoSeq1.sub_list_list
  have hne : ¬ (items.size != items2.size) = true := by simp [hs1, hs2]
  wp_walk using wpAny_loadPart' hl1, wpAny_loadPart' hb1
  exact ⟨plainId_quiet plain_eq_loop _, codeAny_builtin entry_eq_loop (by
    rw [Around.under_plainId plain_eq_loop _]
    exact hrec)⟩
theorem list_neB (l b : Addr) {items items2 : Array Value} {n n2 : Nat} {s : Shared} (hl1 : s.heap.get? l = some { cls := .type "list", data := .seq items n }) (hb1 : s.heap.get? b = some { cls := .type "list", data := .seq items2 n2 }) (hs : items.size ≠ items2.size)
    (fin : R (.ok (.ret (.bool false))) s) :
    wpAny (model prog w) A.in1 (Builtin.«list.__eq__» ⟨[.ref l, .ref b], []⟩) (FinOf prog w A R) (fun e s' => R (.error e) s') s := by
  obtain ⟨hp, g, d, tk, os⟩ := s
  have f3 := AutoSeq1.sub_list_list
  have hne : (items.size != items2.size) = true := by simp [hs]
  wp_walk using wpAny_loadPart' hl1, wpAny_loadPart' hb1
  exact fin
theorem tuple_eqB (l b : Addr) (items items2 : Array Value) (n n2 : Nat) (dd dd2 : Option Addr) (sl sl2 : Array (Option Value)) (hsz : items.size = items2.size) (e : Nat → Bool) (I : Shared → Prop)
    (turn : ∀ i (h1 : i < items.size) (h2 : i < items2.size) s, I s → wpAny (model prog w) A.in1 (eqBool items[i] items2[i]) (fun r s' => r = e i ∧ I s') (fun e s' => R (.error e) s') s)
    (fin : ∀ s, I s → R (.ok (.ret (.bool ((List.range items.size).all e)))) s) {s : Shared} (hl1 : s.heap.get? l = some { cls := .type "tuple", dict := dd, data := .seq items n, slots := sl }) (hb1 : s.heap.get? b = some { cls := .type "tuple", dict := dd2, data := .seq items2 n2, slots := sl2 }) (h : I s) :
    wpAny (model prog w) A.in1 (Builtin.«tuple.__eq__» ⟨[.ref l, .ref b], []⟩) (FinOf prog w A R) (fun e s' => R (.error e) s') s := by
  have f2 := AutoSeq1.sub_tuple_tuple
  have hZ : (items.toList.zip items2.toList).length = items.size := by simp [hsz]
  have h0 := h
  obtain ⟨hp, g, d, tk, os⟩ := s
  wp_walk using wpAny_loadPart' hl1, wpAny_loadPart' hb1, wpAny_forIn_list _ (fun rest b s' => I s' ∧ ∃ i, i ≤ items.size ∧ ((b.1 = none ∧ rest = (items.toList.zip items2.toList).drop i ∧ ((List.range items.size).take i).all e = true))) _
  case turn =>
    rintro ⟨y, x⟩ rest b s' ⟨hI, i, hi, hb', hz, hall⟩
    have hlt : i < (items.toList.zip items2.toList).length := by
      rcases Nat.lt_or_ge i (items.toList.zip items2.toList).length with h' | h'
      · exact h'
      · rw [List.drop_of_length_le h'] at hz; cases hz
    have h1 : i < items.size := hZ ▸ hlt
    have h2 : i < items2.size := hsz ▸ h1
    rw [List.drop_eq_getElem_cons hlt] at hz
    injection hz with hyx hrest
    have hy : y = items[i] := by have := congrArg Prod.fst hyx; simpa using this
    have hx : x = items2[i] := by have := congrArg Prod.snd hyx; simpa using this
    subst hy hx
    refine wpAny_bind (wpAny_mono (turn i h1 h2 s' hI) (fun r s2 q2 => ?_) fun _ _ x => x)
    obtain ⟨hr, q2⟩ := q2
    subst hr
    cases he : e i with
    | true =>
      wp_walk
      refine ⟨q2, i + 1, h1, rfl, hrest, ?_⟩
      rw [List.take_succ, List.all_append, hall, List.getElem?_range h1]
      simp [he]
    | false =>
      have hR : R (.ok (.ret (.bool false))) s2 := by
        have := fin s2 q2
        have e1 : (List.range items.size).all e = false := List.all_eq_false.mpr ⟨i, List.mem_range.mpr h1, by simp [he]⟩
        rw [e1] at this
        exact this
      wp_walk
      exact hR
  case fin =>
    rintro ⟨b1, b2⟩ s' ⟨hI, i, hi, hb', hz, hall⟩
    simp only at hb'
    subst hb'
    have hge : items.size ≤ i := by
      rcases Nat.lt_or_ge i (items.toList.zip items2.toList).length with h' | h'
      · rw [List.drop_eq_getElem_cons h'] at hz; cases hz
      · exact hZ ▸ h'
    have hi' : i = items.size := by omega
    have e1 : (List.range items.size).all e = true := by
      rw [hi', List.take_of_length_le (by simp)] at hall
      exact hall
    have hR : R (.ok (.ret (.bool true))) s' := by
      have := fin s' hI
      rw [e1] at this
      exact this
    wp_walk
    simpa [Builtin.Tuple.tupleCompareSizes, hsz] using hR
  case h =>
    exact ⟨h0, 0, Nat.zero_le _, rfl, rfl, rfl⟩
end
section
variable {prog : Program} {w : World} {A : Around} {E : Value → Shared → Prop} {s : Shared}
theorem rc_listB {l b : Addr} {N : Nat} {e : Nat → Bool} {Q : Value → Shared → Prop} (hu : A.units < cLine) (I : Shared → Prop) (hl : ListB prog w A E l b N e I)
    (fin : ∀ s, I s → Q (.bool ((List.range N).all e)) s) (h : I s) : wpAny (model prog w) A (richCompare .Eq (.ref l) (.ref b)) Q E s := by
  obtain ⟨items, items2, n, n2, hl1, hb1, _, _, _⟩ := hl _ h
  refine wpAny_richCompare_same_room (op := .Eq) ⟨_, hl1, rfl⟩ ⟨_, hb1, rfl⟩ F.slot_list_eq (call_here F.slot_list_eq ⟨_, hl1, rfl⟩ F.entry_list_eq (F.args_list_eq_2 _ _) ?_) hu
  exact list_eqB (R := wants (fun v s' => v ≠ .notImplemented ∧ Q v s') E) l b N e I hl (fun s' q => ⟨(fun x => nomatch x), fin s' q⟩) h
theorem rc_listN {l b : Addr} {items items2 : Array Value} {n n2 : Nat} {Q : Value → Shared → Prop} (hu : A.units < cLine) (hl1 : s.heap.get? l = some { cls := .type "list", data := .seq items n }) (hb1 : s.heap.get? b = some { cls := .type "list", data := .seq items2 n2 }) (hs : items.size ≠ items2.size)
    (fin : Q (.bool false) s) : wpAny (model prog w) A (richCompare .Eq (.ref l) (.ref b)) Q E s := by
  refine wpAny_richCompare_same_room (op := .Eq) ⟨_, hl1, rfl⟩ ⟨_, hb1, rfl⟩ F.slot_list_eq (call_here F.slot_list_eq ⟨_, hl1, rfl⟩ F.entry_list_eq (F.args_list_eq_2 _ _) ?_) hu
  exact list_neB (R := wants (fun v s' => v ≠ .notImplemented ∧ Q v s') E) l b hl1 hb1 hs ⟨(fun x => nomatch x), fin⟩
theorem rc_tupB {l b : Addr} {items items2 : Array Value} {Q : Value → Shared → Prop} {e : Nat → Bool} (hsz : items.size = items2.size) (hu : A.units < cLine) (I : Shared → Prop)
    (hl : s.heap.IsTuple l items) (hb : s.heap.IsTuple b items2)
    (turn : ∀ i (h1 : i < items.size) (h2 : i < items2.size) s, I s → wpAny (model prog w) A.in1 (eqBool items[i] items2[i]) (fun r s' => r = e i ∧ I s') E s)
    (fin : ∀ s, I s → Q (.bool ((List.range items.size).all e)) s) (h : I s) : wpAny (model prog w) A (richCompare .Eq (.ref l) (.ref b)) Q E s := by
  obtain ⟨⟨cls, dd, data, sl⟩, ho, hc, n, hd⟩ := id hl
  obtain ⟨⟨cls2, dd2, data2, sl2⟩, ho2, hc2, n2, hd2⟩ := id hb
  simp only at hc hd hc2 hd2
  subst hc hd hc2 hd2
  refine wpAny_richCompare_same_room (op := .Eq) ⟨_, ho, rfl⟩ ⟨_, ho2, rfl⟩ F.slot_tuple_eq (call_here F.slot_tuple_eq ⟨_, ho, rfl⟩ F.entry_tuple_eq (F.args_tuple_eq_2 _ _) ?_) hu
  exact tuple_eqB (R := wants (fun v s' => v ≠ .notImplemented ∧ Q v s') E) l b items items2 n n2 dd dd2 sl sl2 hsz e I turn (fun s' q => ⟨(fun x => nomatch x), fin s' q⟩) ho ho2 h
end
end LbE
namespace Lb
open PySem PySem.Spec PyProof.Rows L2
/-- how two values compare, by the abstract heap -/
abbrev EqvB := V → V → Hp → Bool → Prop
def MonB (D : EqvB) : Prop := ∀ x y H H' c, Ext H H' → D x y H c → D x y H' c
def EqGB (X : Cx) (n : Nat) (D : EqvB) : Prop :=
  ∀ (A : Around) (pins : List (Addr × Obj)) (s : Shared) (σ : L2.St) (H : Hp) (x y : V) (u v : Value) (c : Bool), L2.Sub X n A → Inv X pins σ H s → RelV x u → RelV y v → D x y H c →
    wpAny (model X.prog X.w) A (eqBool u v) (fun r s' => r = c ∧ ∃ H', Inv X pins σ H' s' ∧ Ext H H') X.xe s
def RcGB (X : Cx) (n : Nat) (D : EqvB) : Prop :=
  ∀ (A : Around) (pins : List (Addr × Obj)) (s : Shared) (σ : L2.St) (H : Hp) (x y : V) (u v : Value) (c : Bool), L2.Sub X n A → Inv X pins σ H s → RelV x u → RelV y v → D x y H c →
    wpAny (model X.prog X.w) A (richCompare .Eq u v) (fun r s' => r = .bool c ∧ ∃ H', Inv X pins σ H' s' ∧ Ext H H') X.xe s
section
variable {X : Cx} {n m : Nat} {D D' : EqvB}
theorem EqGB.mono (h : EqGB X n D) (hn : n ≤ m) : EqGB X m D := fun A pins s σ H x y u v c sb => h A pins s σ H x y u v c (sb.mono hn)
theorem EqGB.or (h : EqGB X n D) (h' : EqGB X n D') : EqGB X n (fun x y H c => D x y H c ∨ D' x y H c) := fun A pins s σ H x y u v c sb I rx ry d => by
  rcases d with d | d
  · exact h A pins s σ H x y u v c sb I rx ry d
  · exact h' A pins s σ H x y u v c sb I rx ry d
theorem MonB.or (h : MonB D) (h' : MonB D') : MonB (fun x y H c => D x y H c ∨ D' x y H c) := fun x y H H' c e d => d.elim (fun d => .inl (h x y H H' c e d)) fun d => .inr (h' x y H H' c e d)
/-- item by item -/
structure PrsB (D : EqvB) (xs ys : List V) (H : Hp) (e : Nat → Bool) : Prop where
  len : xs.length = ys.length
  at_ : ∀ (i : Nat) x y, xs[i]? = some x → ys[i]? = some y → D x y H (e i)
theorem PrsB.mon (hD : MonB D) {xs ys : List V} {H H' : Hp} {c : Nat → Bool} (e : Ext H H') (p : PrsB D xs ys H c) : PrsB D xs ys H' c := ⟨p.len, fun i x y h1 h2 => hD x y H H' _ e (p.at_ i x y h1 h2)⟩
theorem turnB (hD : MonB D) (h : EqGB X n D) {A : Around} (sb : L2.Sub X (n + 1) A) {pins : List (Addr × Obj)} {σ : L2.St} {H : Hp} {xs ys : List V} {its its2 : List Value} {e : Nat → Bool} (p : PrsB D xs ys H e) (r : Vals xs its) (r2 : Vals ys its2)
    (i : Nat) (h1 : i < its.toArray.size) (h2 : i < its2.toArray.size) (s' : Shared) (l : LoopI X pins σ H s') :
    wpAny (model X.prog X.w) A.in1 (eqBool its.toArray[i] its2.toArray[i]) (fun r s2 => r = e i ∧ LoopI X pins σ H s2) X.xe s' := by
  obtain ⟨H1, I1, e1⟩ := l
  have g1 : its[i]? = some its.toArray[i] := by
    have h1' : i < its.length := by simpa using h1
    rw [List.getElem?_eq_getElem h1'] <;> simp
  have g2 : its2[i]? = some its2.toArray[i] := by
    have h2' : i < its2.length := by simpa using h2
    rw [List.getElem?_eq_getElem h2'] <;> simp
  have k1 : i < xs.length := by rw [r.length]; simpa using h1
  have k2 : i < ys.length := by rw [r2.length]; simpa using h2
  obtain ⟨u, hu, ru⟩ := r.get (List.getElem?_eq_getElem k1)
  obtain ⟨v, hv, rv⟩ := r2.get (List.getElem?_eq_getElem k2)
  rw [g1] at hu
  rw [g2] at hv
  rw [Option.some.inj hu, Option.some.inj hv]
  refine wpAny_mono (h A.in1 pins s' σ H1 _ _ u v _ sb.in1 I1 ru rv (hD _ _ _ _ _ e1 (p.at_ i _ _ (List.getElem?_eq_getElem k1) (List.getElem?_eq_getElem k2)))) (fun r s2 q => ?_) fun _ _ x => x
  obtain ⟨hr, H2, I2, e2⟩ := q
  exact ⟨hr, H2, I2, e1.trans e2⟩
def DListB (D : EqvB) : EqvB := fun x y H c => ∃ a b xs ys, x = .ref a ∧ y = .ref b ∧ H a = some (.lst xs) ∧ H b = some (.lst ys) ∧ ((xs.length ≠ ys.length ∧ c = false) ∨ ∃ e, PrsB D xs ys H e ∧ c = (List.range xs.length).all e)
def DTupB (K : PySem.W.Frag) (D : EqvB) : EqvB := fun x y H c => ∃ a b xs ys e, x = .ref a ∧ y = .ref b ∧ SqT K H a xs ∧ SqT K H b ys ∧ PrsB D xs ys H e ∧ c = (List.range xs.length).all e
theorem mon_listB (hD : MonB D) : MonB (DListB D) := fun x y H H' c e d => by
  obtain ⟨a, b, xs, ys, hx, hy, h1, h2, p⟩ := d
  exact ⟨a, b, xs, ys, hx, hy, e _ _ h1, e _ _ h2, p.imp id fun ⟨f, p, q⟩ => ⟨f, p.mon hD e, q⟩⟩
theorem mon_tupB {K : PySem.W.Frag} (hD : MonB D) : MonB (DTupB K D) := fun x y H H' c e d => by
  obtain ⟨a, b, xs, ys, f, hx, hy, h1, h2, p, q⟩ := d
  exact ⟨a, b, xs, ys, f, hx, hy, L2.SqT.ext h1 e, L2.SqT.ext h2 e, p.mon hD e, q⟩
theorem rcGB_list (hD : MonB D) (h : EqGB X n D) : RcGB X (n + 1) (DListB D) := by
  intro A pins s σ H x y u v c sb I rx ry d
  obtain ⟨a, b, xs, ys, rfl, rfl, ha, hb, p⟩ := d
  cases rx
  cases ry
  rcases p with ⟨hne, rfl⟩ | ⟨f, p, rfl⟩
  · obtain ⟨z, its, k, r, e⟩ := I.hok a _ ha
    obtain ⟨z2, its2, k2, r2, e2⟩ := I.hok b _ hb
    refine LbE.rc_listN sb.room.units0 e e2 ?_ ⟨rfl, H, I, Ext.rfl'⟩
    rw [List.size_toArray, List.size_toArray, ← r.length, ← r2.length]
    exact hne
  · refine LbE.rc_listB (N := xs.length) (e := f) sb.room.units0 (fun s' => LoopI X pins σ H s') (fun s' q => ?_) (fun s' q => ⟨rfl, q⟩) ⟨H, I, Ext.rfl'⟩
    obtain ⟨H1, I1, e1⟩ := id q
    obtain ⟨z, its, k, r, e⟩ := I1.hok a _ (e1 _ _ ha)
    obtain ⟨z2, its2, k2, r2, e2⟩ := I1.hok b _ (e1 _ _ hb)
    refine ⟨its.toArray, its2.toArray, k, k2, e, e2, by rw [List.size_toArray, ← r.length], by rw [List.size_toArray, ← r2.length, ← p.len], fun i h1 h2 => ?_⟩
    exact turnB hD h sb p r r2 i h1 h2 s' q
theorem rcGB_tup (hD : MonB D) (h : EqGB X n D) : RcGB X (n + 1) (DTupB X.K D) := by
  intro A pins s σ H x y u v c sb I rx ry d
  obtain ⟨a, b, xs, ys, f, rfl, rfl, ha, hb, p, rfl⟩ := d
  cases rx
  cases ry
  obtain ⟨its, r, e, z⟩ := I.tuple ha
  obtain ⟨its2, r2, e2, z2⟩ := I.tuple hb
  have hsz : its.toArray.size = its2.toArray.size := by rw [List.size_toArray, List.size_toArray, ← r.length, ← r2.length]; exact p.len
  refine LbE.rc_tupB (e := f) hsz sb.room.units0 (fun s' => LoopI X pins σ H s') e e2 (fun i h1 h2 s' q => turnB hD h sb p r r2 i h1 h2 s' q) (fun s' q => ?_) ⟨H, I, Ext.rfl'⟩
  rw [List.size_toArray, ← r.length]
  exact ⟨rfl, q⟩
/-- from a rich comparison of references to == inside a list or tuple: the same object is equal to itself -/
theorem RcGB.eqG (h : RcGB X n D) (hr : ∀ x y H c, D x y H c → ∃ a b, x = .ref a ∧ y = .ref b ∧ (a = b → c = true)) : EqGB X n D := by
  intro A pins s σ H x y u v c sb I rx ry d
  obtain ⟨a, b, rfl, rfl, hs⟩ := hr _ _ _ _ d
  cases rx
  cases ry
  by_cases hab : a = b
  · obtain rfl := hs hab
    subst hab
    exact SeqAt.EqAt.same (A := A) (s := s) (.ref a) X.prog X.w X.xe _ ⟨rfl, H, I, Ext.rfl'⟩
  · refine GQ.eqBool_refG hab (wpAny_mono (h A pins s σ H (.ref a) (.ref b) _ _ c sb I rfl rfl d) (fun r s' q => ?_) fun _ _ x => x)
    obtain ⟨hr', q⟩ := q
    exact ⟨c, hr', rfl, q⟩
/-- instances of the class at C with the text's own == -/
def DInsB (C : Addr) (R : Addr → Addr → Hp → Bool → Prop) : EqvB := fun x y H c => ∃ a b dx dy fs gs, x = .ref a ∧ y = .ref b ∧ H a = some (.ins C dx fs) ∧ H b = some (.ins C dy gs) ∧ R a b H c
theorem mon_insB {C : Addr} {R : Addr → Addr → Hp → Bool → Prop} (hR : ∀ a b H H' c, Ext H H' → R a b H c → R a b H' c) : MonB (DInsB C R) := fun x y H H' c e d => by
  obtain ⟨a, b, dx, dy, fs, gs, hx, hy, h1, h2, r⟩ := d
  exact ⟨a, b, dx, dy, fs, gs, hx, hy, e _ _ h1, e _ _ h2, hR a b H H' c e r⟩
theorem rcGB_ins {CX : CXT} {C f : Addr} {fd : FuncData} {ps : List Str} {sp : Sp} {R : Addr → Addr → Hp → Bool → Prop} {E : XK} (F : FnOk X.prog X.w X.K X.mg X.base CX n f fd ps sp)
    (hR : ∀ a b H c, R a b H c → ∀ Q : VK, (∀ H', Ext H H' → Q (.bl c) H') → sp [.ref a, .ref b] H Q E)
    (hs : PySem.W.findIn X.K (.ref C) "__eq__" = some (some (.ref f))) (hf : PySem.W.isFn X.K (.ref f) = true) (hb : Binds X.K fd ps []) (hx : Passes CX X E) : RcGB X n (DInsB C R) := by
  intro A pins s σ H x y u v c sb I rx ry d
  obtain ⟨a, b, dx, dy, fs, gs, rfl, rfl, ha, hb', hr⟩ := d
  cases rx
  cases ry
  obtain ⟨mA, J, _⟩ := ins_get I.hok ha
  obtain ⟨mB, J', _⟩ := ins_get I.hok hb'
  obtain ⟨od, J, _⟩ := J.look
  obtain ⟨od', J', _⟩ := J'.look
  obtain ⟨m, hF⟩ := I.fr
  refine PySem.W.cmp_K (op := .Eq) (tb := .ref C) sb.room.units0 hF I.ok.mod.kin J J'.type (by simp [PySem.W.notFirst]) hs hf ?_
  have hsp := hR a b H c hr (fun v H' => v = .bl c ∧ Ext H H') fun H' e => ⟨rfl, e⟩
  have e0 : Env0 X.prog X.w X.K X.mg X.base A X.stack s H := by
    have e := I.env0
    exact ⟨by rw [sb.fr]; exact e.frames, e.mod, e.bs, e.bsz, e.funs, e.frf, e.hok, e.bare⟩
  have hl := F.len _ _ _ _ hsp
  have r2 : Vals [V.ref a, V.ref b] [Value.ref a, Value.ref b] := .cons rfl (.cons rfl .nil)
  refine wpAny_call (codeAny_mono (F.run A X.stack s H ⟨[.ref a, .ref b], []⟩ [.ref a, .ref b] [.ref a, .ref b] _ E sb.room e0 (by
    have := hb s [.ref a, .ref b] I.kIn (by simpa using hl)
    simpa using this) r2 hsp) fun r s' hq => ?_)
  cases r with
  | error e => exact hx pins σ H s e s' I hq
  | ok fl =>
    cases fl with
    | ret w =>
      obtain ⟨z, H', I', rz, ez, ex⟩ := I.after hq
      subst ez
      cases rz
      exact ⟨rfl, H', I', ex⟩
    | next => exact False.elim hq
    | brk => exact False.elim hq
    | cont => exact False.elim hq
/-- x == y as an expression -/
def rEqGB (D : EqvB) : R2 := fun x y H Q => ∃ c, D x y H c ∧ ∀ H', Ext H H' → Q (.bl c) H'
theorem op_eqGB (h : RcGB X n D) (hr : Room n X.A) : OpR X (compareOp .Eq) (rEqGB D) := by
  intro pins s σ H x y v u Q I rx ry hq
  obtain ⟨c, d, q⟩ := hq
  show wpAny (model X.prog X.w) X.A (richCompare .Eq v u) (EP X pins σ Q) X.xe s
  refine wpAny_mono (h X.A pins s σ H x y v u c ⟨hr, rfl⟩ I rx ry d) (fun r s' z => ?_) fun _ _ x => x
  obtain ⟨hr', H', I', e⟩ := z
  subst hr'
  exact ⟨.bl c, H', I', rfl, q H' e⟩
end
end Lb

set_option Elab.async false
set_option linter.all false
set_option maxRecDepth 100000
set_option maxHeartbeats 4000000
/-! list(zip(a, b)): a, b two tuples or two lists -/
namespace LbZ
open PySem PyProof.Rows

section
variable {prog : Program} {w : World} {A : Around} {E : Value → Shared → Prop} {s : Shared}
/-- one step of a zip of tuples whose last pair is still held -/
theorem heldT_item {z TI TO T i1 i2 l1 l2 : Addr} {f : Bool} {oT : Obj} {k : Nat} {xs ys : Array Value} {x y : Value} {Q : Option Value → Shared → Prop} (D : ZipApart z TI TO i1 i2 l1 l2)
    (hz : IsZipHeld s.heap z TI TO T f) (hT : s.heap.get? T = some oT) (hTI : IsPair s.heap TI (.ref i1) (.ref i2))
    (j1 : s.heap.IsTupleIter i1 l1 k) (j2 : s.heap.IsTupleIter i2 l2 k) (t1 : s.heap.IsTuple l1 xs) (t2 : s.heap.IsTuple l2 ys) (hx : xs[k]? = some x) (hy : ys[k]? = some y)
    (go : ∀ h', IsZipHeld h' z TI TO T true → h'.IsTupleIter i1 l1 (k + 1) → h'.IsTupleIter i2 l2 (k + 1) → IsPair h' s.heap.objs.size x y →
      (∀ c o, c ≠ z → c ≠ i1 → c ≠ i2 → s.heap.get? c = some o → h'.get? c = some o) → Q (some (.ref s.heap.objs.size)) { s with heap := h' }) :
    wpAny (model prog w) A (pyNext (.ref z)) Q E s := by
  have ty : s.TypeIs (.ref z) "zip" := ⟨_, hz, rfl⟩
  unfold pyNext
  refine wpAny_bind (wpAny_attempt (wpAny_callSpecial?_slot (name := Str.ofString "__next__") ty F.slot_zip_next (wpAny_call_entry F.slot_zip_next ty F.entry_zip_next ?_ (F.args_zip_next_1 _))))
  show wpAny _ _ (field (.ref z) 2 >>= _) _ _ _
  refine wpAny_bind (wpAny_field hz rfl (x := .bool false) rfl ?_)
  show wpAny _ _ (field (.ref z) 3 >>= _) _ _ _
  refine wpAny_bind (wpAny_field hz rfl (x := .ref TI) rfl (wpAny_bind (wpAny_seqItems hTI rfl ?_)))
  show wpAny _ _ (Builtin.SmallTypes.ownedTupleIsFree (.ref z) >>= _) _ _ _
  refine wpAny_bind (wpAny_tupleHeld_zip hz hT fun ha za sa => ?_)
  simp only [Bool.false_eq_true, if_false]
  refine wpAny_bind ?_
  rw [← Array.forIn_toList]
  simp only [List.forIn_cons, List.forIn_nil]
  refine wpAny_bind (wpAny_bind (wpAny_holding ?_))
  show wpAny _ _ (Builtin.SmallTypes.nextOf (.ref i1) >>= _) _ _ _
  refine wpAny_bind (RZ.nextOf_tuple_item (s := { s with heap := ha }) (j1.extBut sa.extBut D.i1z) (t1.extBut sa.extBut D.l1z) hx fun hb j1b sb => wpAny_pure (wpAny_pure ?_))
  refine wpAny_bind (wpAny_bind (wpAny_holding ?_))
  show wpAny _ _ (Builtin.SmallTypes.nextOf (.ref i2) >>= _) _ _ _
  refine wpAny_bind (RZ.nextOf_tuple_item (s := { s with heap := hb }) ((j2.extBut sa.extBut D.i2z).extBut sb.extBut D.i12.symm) ((t2.extBut sa.extBut D.l2z).extBut sb.extBut D.l2i1) hy fun hc j2c sc => wpAny_pure (wpAny_pure (wpAny_pure ?_)))
  show wpAny _ _ (newTuple [x, y] >>= _) _ _ _
  refine wpAny_bind (wpAny_newTuple (wpAny_pure ⟨_, rfl, wpAny_pure ?_⟩))
  have sz : hc.objs.size = s.heap.objs.size := by rw [sc.1, sb.1, sa.1]
  have zc : IsZipHeld hc z TI TO T true := sc.extBut _ _ D.i2z.symm (sb.extBut _ _ D.i1z.symm za)
  have j1c : hc.IsTupleIter i1 l1 (k + 1) := j1b.extBut sc.extBut D.i12
  have pr : IsPair (hc.push { cls := .type "tuple", data := .seq #[x, y] }) hc.objs.size x y := Heap.get?_push_size _ rfl
  show Q (some (.ref hc.objs.size)) _
  rw [sz] at pr ⊢
  exact go _ (Heap.get?_push_of_some _ zc) (j1c.at fun o e => Heap.get?_push_of_some _ e) (j2c.at fun o e => Heap.get?_push_of_some _ e) pr
    fun c o n1 n2 n3 e => Heap.get?_push_of_some _ (sc.extBut _ _ n3 (sb.extBut _ _ n2 (sa.extBut _ _ n1 e)))
theorem heldT_end {z TI TO T i1 i2 l1 l2 : Addr} {f : Bool} {oT : Obj} {k : Nat} {xs ys : Array Value} {Q : Option Value → Shared → Prop} (hh : A.handled = none) (D : ZipApart z TI TO i1 i2 l1 l2)
    (hz : IsZipHeld s.heap z TI TO T f) (hT : s.heap.get? T = some oT) (hTI : IsPair s.heap TI (.ref i1) (.ref i2))
    (j1 : s.heap.IsTupleIter i1 l1 k) (j2 : s.heap.IsTupleIter i2 l2 k) (t1 : s.heap.IsTuple l1 xs) (t2 : s.heap.IsTuple l2 ys) (over : xs[k]? = none ∨ ys[k]? = none)
    (go : ∀ h', (∀ c o, c ≠ z → c ≠ i1 → c ≠ i2 → s.heap.get? c = some o → h'.get? c = some o) → Q none { s with heap := h' }) : wpAny (model prog w) A (pyNext (.ref z)) Q E s := by
  have ty : s.TypeIs (.ref z) "zip" := ⟨_, hz, rfl⟩
  have out : ∀ h' e, (∀ c o, c ≠ z → c ≠ i1 → c ≠ i2 → s.heap.get? c = some o → h'.get? c = some o) → (∃ o, h'.get? e = some o ∧ o.cls = .type "StopIteration") →
      wpAny (model prog w) A (do if ← isInstance (.ref e) (.type "StopIteration") then pure (none : Option Value) else throw (.ref e)) Q E { s with heap := h' } := fun h' e hk ⟨o, ho, hc⟩ =>
    wpAny_bind (wpAny_isInstance (T := "StopIteration") (b := true) ⟨o, ho, hc⟩ isSubtype_stop (wpAny_pure (go _ hk)))
  unfold pyNext
  refine wpAny_bind (wpAny_attempt (wpAny_callSpecial?_slot (name := Str.ofString "__next__") ty F.slot_zip_next (wpAny_call_entry F.slot_zip_next ty F.entry_zip_next ?_ (F.args_zip_next_1 _))))
  show wpAny _ _ (field (.ref z) 2 >>= _) _ _ _
  refine wpAny_bind (wpAny_field hz rfl (x := .bool false) rfl ?_)
  show wpAny _ _ (field (.ref z) 3 >>= _) _ _ _
  refine wpAny_bind (wpAny_field hz rfl (x := .ref TI) rfl (wpAny_bind (wpAny_seqItems hTI rfl ?_)))
  show wpAny _ _ (Builtin.SmallTypes.ownedTupleIsFree (.ref z) >>= _) _ _ _
  refine wpAny_bind (wpAny_tupleHeld_zip hz hT fun ha za sa => ?_)
  simp only [Bool.false_eq_true, if_false]
  refine wpAny_bind ?_
  rw [← Array.forIn_toList]
  simp only [List.forIn_cons, List.forIn_nil]
  refine wpAny_bind (wpAny_bind (wpAny_holding ?_))
  show wpAny _ _ (Builtin.SmallTypes.nextOf (.ref i1) >>= _) _ _ _
  cases hx : xs[k]? with
  | none =>
    refine wpAny_bind (RZ.nextOf_tuple_end (s := { s with heap := ha }) hh (j1.extBut sa.extBut D.i1z) (t1.extBut sa.extBut D.l1z) hx fun hb e sb he => ?_)
    exact out hb e (fun c o n1 n2 _ q => sb _ _ n2 (sa.extBut _ _ n1 q)) he
  | some x =>
    have hy : ys[k]? = none := by
      rcases over with h | h
      · rw [hx] at h; cases h
      · exact h
    refine wpAny_bind (RZ.nextOf_tuple_item (s := { s with heap := ha }) (j1.extBut sa.extBut D.i1z) (t1.extBut sa.extBut D.l1z) hx fun hb j1b sb => wpAny_pure (wpAny_pure ?_))
    refine wpAny_bind (wpAny_bind (wpAny_holding ?_))
    show wpAny _ _ (Builtin.SmallTypes.nextOf (.ref i2) >>= _) _ _ _
    refine wpAny_bind (RZ.nextOf_tuple_end (s := { s with heap := hb }) hh ((j2.extBut sa.extBut D.i2z).extBut sb.extBut D.i12.symm) ((t2.extBut sa.extBut D.l2z).extBut sb.extBut D.l2i1) hy fun hc e sc he => ?_)
    exact out hc e (fun c o n1 n2 n3 q => sc _ _ n3 (sb.extBut _ _ n2 (sa.extBut _ _ n1 q))) he
end
end LbZ
namespace LbZ
open PySem
theorem zip_no_len : typeLookup (.type "zip") "__len__" = pure none := am_miss_of_fast (by decide +kernel)
theorem zip_no_hint : typeLookup (.type "zip") "__length_hint__" = pure none := am_miss_of_fast (by decide +kernel)
end LbZ
namespace Lb
open PySem PySem.Spec PyProof.Rows L2
/-- how a zip of the tuples at a and b stands before its turn i -/
structure ZSt (H : Hp) (h : Heap) (z TI TO i1 i2 a b : Addr) (i : Nat) : Prop where
  zip : IsZip h z TI TO .none ∨ ∃ T fl ys, IsZipHeld h z TI TO T fl ∧ H T = some (.tup ys)
  ti : IsPair h TI (.ref i1) (.ref i2)
  to : ∃ x y, IsPair h TO x y
  j1 : h.IsTupleIter i1 a i
  j2 : h.IsTupleIter i2 b i
theorem ZSt.live {H : Hp} {h : Heap} {z TI TO i1 i2 a b c : Addr} {i : Nat} (st : ZSt H h z TI TO i1 i2 a b i) (hc : c ∈ [z, TI, TO, i1, i2]) : ∃ o, h.get? c = some o := by
  simp only [List.mem_cons, List.not_mem_nil, or_false] at hc
  rcases hc with rfl | rfl | rfl | rfl | rfl
  · rcases st.zip with h | ⟨_, _, _, h, _⟩
    · exact ⟨_, h⟩
    · exact ⟨_, h⟩
  · exact ⟨_, st.ti⟩
  · obtain ⟨_, _, e⟩ := st.to
    exact ⟨_, e⟩
  · obtain ⟨o, e, _⟩ := st.j1
    exact ⟨o, e⟩
  · obtain ⟨o, e, _⟩ := st.j2
    exact ⟨o, e⟩
section
variable {X : Cx} {pins : List (Addr × Obj)} {σ : L2.St} {H : Hp} {s : Shared} {z TI TO i1 i2 a b q : Addr} {i : Nat} {xs ys : List V} {A : Around} {E : Value → Shared → Prop}
theorem FpOk.other {H' : Hp} {c : Addr} (f : FpOk X pins H c) (h : H' c = none) : FpOk X pins H' c := ⟨h, f.2⟩
abbrev Chain (X : Cx) (pins : List (Addr × Obj)) (H : Hp) (z TI TO i1 i2 : Addr) : Prop := ∀ c ∈ [z, TI, TO, i1, i2], FpOk X pins H c
theorem zip_turn {x y : V} (D : ZipApart z TI TO i1 i2 a b) (I : Inv X pins σ H s) (hf : Chain X pins H z TI TO i1 i2) (st : ZSt H s.heap z TI TO i1 i2 a b i)
    (qx : SqT X.K H a xs) (qy : SqT X.K H b ys) (hx : xs[i]? = some x) (hy : ys[i]? = some y) :
    wpAny (model X.prog X.w) A (pyNext (.ref z)) (fun r s' => ∃ T, r = some (.ref T) ∧ H T = none ∧ Inv X pins σ (L2.upd H T (.tup [x, y])) s' ∧ ZSt (L2.upd H T (.tup [x, y])) s'.heap z TI TO i1 i2 a b (i + 1) ∧ Chain X pins (L2.upd H T (.tup [x, y])) z TI TO i1 i2) E s := by
  obtain ⟨its, rv, p, _⟩ := I.tuple qx
  obtain ⟨its2, rv2, p2, _⟩ := I.tuple qy
  obtain ⟨u, hu, ru⟩ := rv.get hx
  obtain ⟨u2, hu2, ru2⟩ := rv2.get hy
  have fr : H s.heap.objs.size = none := I.hok.fresh (Nat.le_refl _)
  have chain : Chain X pins (L2.upd H s.heap.objs.size (.tup [x, y])) z TI TO i1 i2 := fun c hc =>
    let ⟨o, e⟩ := st.live hc
    FpOk.other (hf c hc) (by rw [upd_ne (Nat.ne_of_lt (Heap.lt_size e))]; exact (hf c hc).1)
  have new : ∀ {h' : Heap}, IsPair h' s.heap.objs.size u u2 → ObjOk X.prog X.w (L2.upd H s.heap.objs.size (.tup [x, y])) h' s.heap.objs.size (.tup [x, y]) := fun hT =>
    ⟨by show 2 ≤ sizeLine; decide, [u, u2], .cons ru (.cons ru2 .nil), ⟨_, hT, rfl, _, rfl⟩⟩
  obtain ⟨v, w, hTO⟩ := st.to
  rcases st.zip with hz | ⟨T, fl, zs, hz, hT⟩
  · refine RZ.pyNext_zipT_item D hz st.ti hTO st.j1 st.j2 p p2 (x := u) (y := u2) (by simpa using hu) (by simpa using hu2) fun h' z' TO' k1 k2 hN _ hk => ?_
    have I1 : Inv X pins σ (L2.upd H s.heap.objs.size (.tup [x, y])) { s with heap := h' } :=
      I.turnedNew (t' := s.toks) (ch := [z, TI, TO, i1, i2]) (fun c o hb e => hk c o (fun e' => hb (by simp [e'])) (fun e' => hb (by simp [e'])) (fun e' => hb (by simp [e'])) (fun e' => hb (by simp [e'])) e) hf (Nat.le_refl _) (new hN)
    exact ⟨_, rfl, fr, I1, ⟨.inr ⟨_, false, _, z', upd_same⟩, hk _ _ D.TIz D.TITO D.TIi1 D.TIi2 st.ti, ⟨_, _, TO'⟩, k1, k2⟩, chain⟩
  · obtain ⟨_, _, _, oT, hoT, _⟩ := I.hok T _ hT
    refine LbZ.heldT_item D hz hoT st.ti st.j1 st.j2 p p2 (x := u) (y := u2) (by simpa using hu) (by simpa using hu2) fun h' z' k1 k2 hN hk => ?_
    have I1 : Inv X pins σ (L2.upd H s.heap.objs.size (.tup [x, y])) { s with heap := h' } :=
      I.turnedNew (t' := s.toks) (ch := [z, TI, TO, i1, i2]) (fun c o hb e => hk c o (fun e' => hb (by simp [e'])) (fun e' => hb (by simp [e'])) (fun e' => hb (by simp [e'])) e) hf (Nat.le_refl _) (new hN)
    exact ⟨_, rfl, fr, I1, ⟨.inr ⟨T, true, zs, z', by rw [upd_ne (ne_of_none hT fr)]; exact hT⟩, hk _ _ D.TIz D.TIi1 D.TIi2 st.ti, ⟨_, _, hk _ _ D.TOz D.TOi1 D.TOi2 hTO⟩, k1, k2⟩, chain⟩
theorem zip_over (hh : A.handled = none) (D : ZipApart z TI TO i1 i2 a b) (I : Inv X pins σ H s) (hf : Chain X pins H z TI TO i1 i2) (st : ZSt H s.heap z TI TO i1 i2 a b i)
    (qx : SqT X.K H a xs) (qy : SqT X.K H b ys) (over : xs.length ≤ i ∨ ys.length ≤ i) :
    wpAny (model X.prog X.w) A (pyNext (.ref z)) (fun r s' => r = none ∧ Inv X pins σ H s') E s := by
  obtain ⟨its, rv, p, _⟩ := I.tuple qx
  obtain ⟨its2, rv2, p2, _⟩ := I.tuple qy
  have l1 := rv.length
  have l2 := rv2.length
  have he : its.toArray[i]? = none ∨ its2.toArray[i]? = none := by
    rcases over with q | q
    · exact .inl (by simp; omega)
    · exact .inr (by simp; omega)
  obtain ⟨v, w, hTO⟩ := st.to
  rcases st.zip with hz | ⟨T, fl, zs, hz, hT⟩
  · exact RZ.pyNext_zipT_end hh D hz st.ti hTO st.j1 st.j2 p p2 he fun h' hk => ⟨rfl, I.turnedL (t' := s.toks) (ch := [z, TI, TO, i1, i2]) (fun c o hb e =>
      hk c o (fun e' => hb (by simp [e'])) (fun e' => hb (by simp [e'])) (fun e' => hb (by simp [e'])) (fun e' => hb (by simp [e'])) e) hf⟩
  · obtain ⟨_, _, _, oT, hoT, _⟩ := I.hok T _ hT
    exact LbZ.heldT_end hh D hz hoT st.ti st.j1 st.j2 p p2 he fun h' hk => ⟨rfl, I.turnedL (t' := s.toks) (ch := [z, TI, TO, i1, i2]) (fun c o hb e =>
      hk c o (fun e' => hb (by simp [e'])) (fun e' => hb (by simp [e'])) (fun e' => hb (by simp [e'])) e) hf⟩
/-- a new pair -/
def PairAt (H : Hp) (T : Addr) (p : V × V) : Prop := H T = some (.tup [p.1, p.2])
theorem zip_loop {Rs : Result → Shared → Prop} {A1 : Around} {H0 : Hp} (hh : A1.in1.handled = none) (D : ZipApart z TI TO i1 i2 a b) (l1 : xs.length ≤ 10000) (qa : a ≠ q) (qb : b ≠ q)
    (hdone : ∀ H' s' ts, Inv X pins σ H' s' → H' q = some (.lst (ts.map V.ref)) → Paired (PairAt H') ts (xs.zip ys) → (∀ c o, c ≠ q → H0 c = some o → H' c = some o) → Rs (.ok (.ret .none)) s') (herr : ∀ e s, X.xe e s → Rs (.error e) s) (qx0 : SqT X.K H0 a xs) (qy0 : SqT X.K H0 b ys) :
    ∀ (m i : Nat) (H : Hp) (s : Shared) (ts : List Addr), min xs.length ys.length - i = m → i ≤ min xs.length ys.length → Inv X pins σ H s → Chain X pins H z TI TO i1 i2 → ZSt H s.heap z TI TO i1 i2 a b i →
      H q = some (.lst (ts.map V.ref)) → Paired (PairAt H) ts ((xs.zip ys).take i) → (∀ c o, c ≠ q → H0 c = some o → H c = some o) →
      codeAny (model X.prog X.w) A1 (.builtin "list.extend.loop" ⟨[.ref q, .ref z, .none], []⟩) Rs s := by
  have sqk : ∀ {H : Hp} {c : Addr} {zs : List V}, c ≠ q → (∀ c o, c ≠ q → H0 c = some o → H c = some o) → SqT X.K H0 c zs → SqT X.K H c zs := fun n k h =>
    h.elim (fun h => .inl (h.elim (fun h => .inl (k _ _ n h)) fun ⟨o, h⟩ => .inr ⟨o, k _ _ n h⟩)) fun h => .inr h
  intro m
  induction m with
  | zero =>
    intro i H s ts hm hi I hf st hq pt kp
    refine codeAny_builtin PySem.F.entry_extend_loop ?_
    rw [Around.under_plainId PySem.F.plain_extend_loop _]
    show wpAny _ A1.in1 (pyNext (.ref z) >>= _) _ _ s
    refine wpAny_bind (wpAny_mono (zip_over hh D I hf st (sqk qa kp qx0) (sqk qb kp qy0) (by omega)) (fun r s' hr => ?_) fun e s' he => herr e s' he)
    obtain ⟨rfl, I'⟩ := hr
    rw [List.take_of_length_le (by rw [List.length_zip]; omega)] at pt
    exact wpAny_pure (hdone H s' ts I' hq pt kp)
  | succ m ih =>
    intro i H s ts hm hi I hf st hq pt kp
    refine codeAny_builtin PySem.F.entry_extend_loop ?_
    rw [Around.under_plainId PySem.F.plain_extend_loop _]
    show wpAny _ A1.in1 (pyNext (.ref z) >>= _) _ _ s
    have h1 : i < xs.length := by omega
    have h2 : i < ys.length := by omega
    have hx := List.getElem?_eq_getElem h1
    have hy := List.getElem?_eq_getElem h2
    refine wpAny_bind (wpAny_mono (zip_turn D I hf st (sqk qa kp qx0) (sqk qb kp qy0) hx hy) (fun r s' hr => ?_) fun e s' he => herr e s' he)
    obtain ⟨T, rfl, hT, I', st', hf'⟩ := hr
    show wpAny _ A1.in1 (updateSeq q (·.push (.ref T)) >>= _) _ _ _
    have hq' : (L2.upd H T (.tup [xs[i], ys[i]])) q = some (.lst (ts.map V.ref)) := by rw [upd_ne (ne_of_none hq hT)]; exact hq
    have ht : ts.length = i := by
      have := Paired.len pt
      rw [List.length_take, List.length_zip] at this
      omega
    obtain ⟨zz, its, k, r2, hl, e⟩ := I'.lstM hq'
    have hl' : its.length = i := by rw [← hl, List.length_map, ht]
    have sl : sizeLine = 16777216 := by decide
    refine wpAny_bind (wpAny_updateSeq e rfl (wpAny_pure ⟨plainId_quiet PySem.F.plain_extend_loop _, ?_⟩) (by rw [List.size_toArray]; omega) (by show (its.toArray.push (.ref T)).size ≤ sizeLine + 1; rw [Array.size_push, List.size_toArray]; omega))
    have I2 := I'.lset (f := (·.push (.ref T))) (its' := its ++ [.ref T]) (ys := (ts ++ [T]).map V.ref) (t' := s'.toks) hq' e (by simp) (by rw [List.map_append]; exact r2.append (.cons rfl .nil)) (by rw [List.length_map, List.length_append]; show ts.length + 1 ≤ _; omega)
    have nc : ∀ c ∈ [z, TI, TO, i1, i2], c ≠ q := fun c hc e' => by
      have := (hf c hc).1
      rw [e', hq] at this
      cases this
    have keep : ∀ c o, c ≠ q → s'.heap.get? c = some o → (s'.heap.update q (Obj.mapSeq (·.push (.ref T)))).get? c = some o := fun c o n e' => (Heap.get?_update_other _ _ (Ne.symm n)).trans e'
    have st2 : ZSt (L2.upd (L2.upd H T (.tup [xs[i], ys[i]])) q (.lst ((ts ++ [T]).map V.ref))) (s'.heap.update q (Obj.mapSeq (·.push (.ref T)))) z TI TO i1 i2 a b (i + 1) := by
      refine ⟨?_, keep _ _ (nc TI (by simp)) st'.ti, let ⟨v, w, e'⟩ := st'.to; ⟨v, w, keep _ _ (nc TO (by simp)) e'⟩, st'.j1.at fun o e' => keep _ _ (nc i1 (by simp)) e', st'.j2.at fun o e' => keep _ _ (nc i2 (by simp)) e'⟩
      rcases st'.zip with hz | ⟨T1, fl, zs, hz, h1'⟩
      · exact .inl (keep _ _ (nc z (by simp)) hz)
      · refine .inr ⟨T1, fl, zs, keep _ _ (nc z (by simp)) hz, ?_⟩
        have : T1 ≠ q := fun e' => by
          rw [e', hq'] at h1'
          cases h1'
        rw [upd_ne this]
        exact h1'
    have up2 : ∀ c o, c ≠ q → H c = some o → (L2.upd (L2.upd H T (.tup [xs[i], ys[i]])) q (.lst ((ts ++ [T]).map V.ref))) c = some o := fun c o n e' => by
      rw [upd_ne n, upd_ne (ne_of_none e' hT)]
      exact e'
    have nT : T ≠ q := fun e' => by
      rw [e', hq] at hT
      cases hT
    refine ih (i + 1) _ _ (ts ++ [T]) (by omega) (by omega) I2 (fun c hc => FpOk.other (hf' c hc) (by rw [upd_ne (nc c hc)]; exact (hf' c hc).1)) st2 upd_same ?_ (fun c o n e' => up2 c o n (kp c o n e'))
    have hz : (xs.zip ys)[i]? = some (xs[i], ys[i]) := by
      rw [List.getElem?_zip_eq_some]
      exact ⟨hx, hy⟩
    rw [List.take_succ, hz]
    refine Paired.snoc (F := PairAt _) ?_ (Paired.imp pt fun t p h => up2 _ _ (fun e' => ?_) h)
    · show (L2.upd (L2.upd H T (.tup [xs[i], ys[i]])) q (.lst ((ts ++ [T]).map V.ref))) T = _
      rw [upd_ne nT, upd_same]
    · have h : H t = some (.tup [p.1, p.2]) := h
      rw [e', hq] at h
      cases h
/-- list(zip(a, b)) of two tuples -/
def tListZip (K : PySem.W.Frag) (ta : TA) : TE := fun σ H Q => ta σ H fun vs H1 => ∃ a b xs ys, vs = [.ref a, .ref b] ∧ SqT K H1 a xs ∧ SqT K H1 b ys ∧ xs.length ≤ 10000 ∧
  ∀ H' q ts, L2.Same H1 H' → H1 q = none → H' q = some (.lst (ts.map V.ref)) → Paired (PairAt H') ts (xs.zip ys) → Q (.ref q) H'
theorem call_zip_it {Q : VK} (hh : X.A.handled = none) (D : ZipApart z TI TO i1 i2 a b) (l1 : xs.length ≤ 10000) (I : Inv X pins σ H s) (hf : Chain X pins H z TI TO i1 i2) (hz0 : IsZip s.heap z TI TO .none) (st : ZSt H s.heap z TI TO i1 i2 a b 0)
    (qx : SqT X.K H a xs) (qy : SqT X.K H b ys) (go : ∀ H' q ts, L2.Same H H' → H q = none → H' q = some (.lst (ts.map V.ref)) → Paired (PairAt H') ts (xs.zip ys) → Q (.ref q) H') :
    wpAny (model X.prog X.w) X.A (call (.type "list") [.ref z]) (EP X pins σ Q) X.xe s := by
  refine callType_codes (Q₁ := fun obj s₁ => obj = .ref s.heap.objs.size ∧ s₁ = { s with heap := s.heap.push { cls := .type "list", data := .seq #[] } }) PySem.F.called_list (PySem.F.typeCall_list_1 _) PySem.F.entry_list_init
    (code_list_new _ ⟨rfl, rfl⟩) fun obj s₁ h₁ => ?_
  obtain ⟨rfl, rfl⟩ := h₁
  have hS : (s.heap.push { cls := .type "list", data := .seq #[] }).get? s.heap.objs.size = some { cls := .type "list", data := .seq #[] } := Heap.get?_push_size _ rfl
  refine ⟨⟨_, hS, rfl⟩, PySem.F.args_list_init_2 _ _, ?_⟩
  have fr : H s.heap.objs.size = none := I.hok.fresh (Nat.le_refl _)
  have ns : ∀ c ∈ [z, TI, TO, i1, i2], c ≠ s.heap.objs.size := fun c hc => let ⟨o, e⟩ := st.live hc; Nat.ne_of_lt (Heap.lt_size e)
  have la : a ≠ s.heap.objs.size ∧ b ≠ s.heap.objs.size := by
    obtain ⟨its, rv, ⟨o, e, _⟩, _⟩ := I.tuple qx
    obtain ⟨its2, rv2, ⟨o2, e2, _⟩, _⟩ := I.tuple qy
    exact ⟨Nat.ne_of_lt (Heap.lt_size e), Nat.ne_of_lt (Heap.lt_size e2)⟩
  have I1 : Inv X pins σ (L2.upd H s.heap.objs.size (.lst [])) { s with heap := s.heap.push { cls := .type "list", data := .seq #[] } } := I.lnew (its := []) (t' := s.toks) .nil (Nat.zero_le _)
  generalize hq : s.heap.objs.size = q at *
  show wpAny _ _ (do let old ← Builtin.List.listItems (.ref q); Builtin.List.listUpdate (.ref q) (fun _ => #[]); letGo old.toList.reverse; Builtin.List.listExtendWith (.ref q) (.ref z) .none) _ _ _
  refine wpAny_bind ?_
  unfold Builtin.List.listItems
  refine wpAny_bind (wpAny_seqItems hS rfl (wpAny_pure ?_))
  show wpAny _ _ (updateSeq q (fun _ => #[]) >>= fun _ => letGo (#[] : Array Value).toList.reverse >>= fun _ => Builtin.List.listExtendWith (.ref q) (.ref z) .none) _ _ _
  refine wpAny_bind (wpAny_updateSeq hS rfl ?_)
  have I2 := I1.lset (f := fun _ => #[]) (its := []) (its' := []) (ys := []) (t' := s.toks) upd_same hS rfl .nil (Nat.zero_le _)
  rw [upd_upd] at I2
  refine wpAny_bind (wpAny_letGo ?_)
  have nz : z ≠ q := ns z (by simp)
  unfold Builtin.List.listExtendWith
  have keep2 : ∀ c o, c ≠ q → s.heap.get? c = some o → ((s.heap.push { cls := .type "list", data := .seq #[] }).update q (Obj.mapSeq fun _ => #[])).get? c = some o := fun c o n e => (Heap.get?_update_other _ _ (Ne.symm n)).trans (Heap.get?_push_of_some _ e)
  have zty : Shared.TypeIs { s with heap := (s.heap.push { cls := .type "list", data := .seq #[] }).update q (Obj.mapSeq fun _ => #[]) } (.ref z) "zip" := ⟨_, keep2 _ _ nz hz0, rfl⟩
  refine wpAny_bind (wpAny_typeOf zty ?_)
  have g1 : Builtin.List.listSameRef (.ref q) (.ref z) = false := by simp [Builtin.List.listSameRef, nz.symm]
  have g2 : (Value.type "zip" == Value.type "list") = false := by decide
  have g3 : (Value.type "zip" == Value.type "tuple") = false := by decide
  simp only [g1, g2, g3, Bool.or_false, Bool.false_eq_true, if_false]
  refine wpAny_bind (wpAny_pyIter_zip (keep2 _ _ nz hz0) ?_)
  refine wpAny_bind (wpAny_holding ?_)
  unfold Builtin.List.listLengthHint
  refine wpAny_bind (wpAny_specialOf zty LbZ.zip_no_len ?_)
  show wpAny _ _ (specialOf (Value.ref z) (Str.ofString "__length_hint__") >>= _) _ _ _
  refine wpAny_bind (wpAny_specialOf zty LbZ.zip_no_hint (wpAny_pure ?_))
  obtain ⟨_, its3, k3, r3, _, e3⟩ := I2.lstM upd_same
  cases r3
  show wpAny _ _ (rule "list.extend.makes-room" >>= fun _ => Builtin.List.listTouch (.ref q) >>= fun _ => again (.builtin "list.extend.loop" ⟨[.ref q, .ref z, .none], []⟩)) _ _ _
  refine wpAny_bind (wpAny_rule (wpAny_bind ?_))
  show wpAny _ _ (updateSeq q (·.push .none) >>= fun _ => updateSeq q (·.pop)) _ _ _
  refine wpAny_bind (wpAny_updateSeq e3 rfl ?_)
  have I3 := I2.lset (f := (·.push Value.none)) (its' := [Value.none]) (ys := [.non]) (t' := s.toks) upd_same e3 (by simp) (.cons rfl .nil) (by decide)
  obtain ⟨_, its4, k4, r4, _, e4⟩ := I3.lstM upd_same
  obtain ⟨u4, rfl, _⟩ := r4.one
  refine wpAny_updateSeq e4 rfl ?_ (by show 1 ≤ sizeLine; decide) (by show 0 ≤ sizeLine + 1; exact Nat.zero_le _)
  have I4 := I3.lset (f := (·.pop)) (its := [u4]) (its' := []) (ys := []) (t' := s.toks) upd_same e4 (by rfl) .nil (Nat.zero_le _)
  rw [upd_upd, upd_upd] at I4
  have keep4 : ∀ c o, c ≠ q → s.heap.get? c = some o → ((((s.heap.push { cls := .type "list", data := .seq #[] }).update q (Obj.mapSeq fun _ => #[])).update q (Obj.mapSeq (·.push Value.none))).update q (Obj.mapSeq (·.pop))).get? c = some o := fun c o n e =>
    (Heap.get?_update_other _ _ (Ne.symm n)).trans ((Heap.get?_update_other _ _ (Ne.symm n)).trans (keep2 c o n e))
  have st4 : ZSt (L2.upd H q (.lst [])) ((((s.heap.push { cls := .type "list", data := .seq #[] }).update q (Obj.mapSeq fun _ => #[])).update q (Obj.mapSeq (·.push Value.none))).update q (Obj.mapSeq (·.pop))) z TI TO i1 i2 a b 0 :=
    ⟨.inl (keep4 _ _ nz hz0), keep4 _ _ (ns TI (by simp)) st.ti, let ⟨v, w, e⟩ := st.to; ⟨v, w, keep4 _ _ (ns TO (by simp)) e⟩, st.j1.at fun o e => keep4 _ _ (ns i1 (by simp)) e, st.j2.at fun o e => keep4 _ _ (ns i2 (by simp)) e⟩
  have S0 : L2.Same H (L2.upd H q (.lst [])) := Lb.Same.upd fr
  refine wpAny_pure ⟨plainId_quiet PySem.F.plain_extend_loop _, zip_loop (q := q) (H0 := L2.upd H q (.lst [])) (A1 := X.A.in1) (Rs := wants (fun r s₂ => r = .none ∧ EP X pins σ Q (.ref q) s₂) X.xe) hh D l1 la.1 la.2 ?_ (fun e s' he => he) (SqT.same S0 qx) (SqT.same S0 qy) _ 0 _ _ [] rfl (Nat.zero_le _) I4
    (fun c hc => FpOk.other (hf c hc) (by rw [upd_ne (ns c hc)]; exact (hf c hc).1)) st4 upd_same ?_ (fun c o n e => e)⟩
  · intro H' s' ts I' e pt kp
    exact ⟨rfl, .ref q, H', I', rfl, go H' q ts (fun c o e' => kp c o (ne_of_none e' fr) (by rw [upd_ne (ne_of_none e' fr)]; exact e')) fr e pt⟩
  · rw [List.take_zero]
    exact .nil
theorem pe_listZip {e e2 : Expr} {ta : TA} {p p2 pos pos2 : Pos} (hcalm : X.calm = true) (hg : Gl X "list") (hm : X.mg "list" = none) (hg2 : Gl X "zip") (hm2 : X.mg "zip" = none) (ha : PA X [e, e2] ta)
    (hs : starEach [e, e2] X.env = (false, eval e X.env) :: starEach [e2] X.env := by rfl) (hpl : (backTo pos2 (starEach [e2] X.env)).any (·.1) = false := by rfl)
    (hs2 : starEach [.Call (.Name "zip" p2) [e, e2] [] pos2] X.env = (false, eval (.Call (.Name "zip" p2) [e, e2] [] pos2) X.env) :: starEach [] X.env := by rfl) :
    PE X (.Call (.Name "list" p) [.Call (.Name "zip" p2) [e, e2] [] pos2] [] pos) (tListZip X.K ta) := by
  refine ⟨fun pins s σ H Q I h => ?_⟩
  refine wpAny_Call_Name_kw (ld_blt I hg hm (by decide +kernel : bootBuiltins "list" = some (.type "list")) ?_)
  refine PyProof.Rows.callWith_type1 ?_ hs2 rfl
  rw [hs2]
  refine Calls.spliced_cons ?_
  refine wpAny_Call_Name_kw (ld_blt I hg2 hm2 PyProof.Rows.boot_zip ?_)
  refine PyProof.Rows.callWith_type1 (thn (ha.run pos2 pins s σ H _ I h) fun us s1 ⟨vs, H1, I1, r1, q1⟩ => ?_) hs hpl
  obtain ⟨a, b, xs, ys, rfl, qx, qy, l1, go⟩ := q1
  cases r1 with
  | cons r rr =>
    cases rr with
    | cons r' rr =>
      cases rr
      cases r
      cases r'
      obtain ⟨its, rv, p1, _⟩ := I1.tuple qx
      obtain ⟨its2, rv2, p2, _⟩ := I1.tuple qy
      obtain ⟨o1, ho1, _⟩ := id p1
      obtain ⟨o2, ho2, _⟩ := id p2
      refine RZ.call_zipT (xs := its.toArray) (ys := its2.toArray) p1 p2 fun h' hz hTI hTO k1 k2 _ hk => ?_
      have I2 : Inv X pins σ H1 { s1 with heap := h' } := I1.kept (t' := s1.toks) hk
      have chain : Chain X pins H1 (s1.heap.objs.size + 4) (s1.heap.objs.size + 2) (s1.heap.objs.size + 3) s1.heap.objs.size (s1.heap.objs.size + 1) := fun c hc => by
        have hle : s1.heap.objs.size ≤ c := by
          simp only [List.mem_cons, List.not_mem_nil, or_false] at hc
          rcases hc with h | h | h | h | h <;> (rw [h]; first | exact Nat.le_add_right _ _ | exact Nat.le_refl _)
        exact I1.fpOk hle (I1.hok.fresh hle)
      show wpAny _ _ (pure []) _ _ _
      refine wpAny_pure ?_
      exact call_zip_it (I1.ok.hd hcalm) (PySem.W.ktu_apart s1.heap.objs.size a b (Heap.lt_size ho1) (Heap.lt_size ho2)) l1 I2 chain hz ⟨.inl hz, hTI, ⟨_, _, hTO⟩, k1, k2⟩ qx qy go
end
end Lb

set_option Elab.async false
set_option linter.all false
set_option maxRecDepth 100000
set_option maxHeartbeats 4000000
namespace Lb
open PySem PySem.Spec PyProof.Rows L2
/-- a thing is equal to itself -/
def ReflB (D : EqvB) : Prop := ∀ x H c, D x x H c → c = true
def DTupH (D : EqvB) : EqvB := fun x y H c => ∃ a b xs ys e, x = .ref a ∧ y = .ref b ∧ H a = some (.tup xs) ∧ H b = some (.tup ys) ∧ PrsB D xs ys H e ∧ c = (List.range xs.length).all e
section
variable {X : Cx} {n : Nat} {D : EqvB}
theorem RcGB.imp {D' : EqvB} (h : RcGB X n D) (k : ∀ x y H c, D' x y H c → D x y H c) : RcGB X n D' := fun A pins s σ H x y u v c sb I rx ry d => h A pins s σ H x y u v c sb I rx ry (k _ _ _ _ d)
theorem rcGB_tupH (hD : MonB D) (h : EqGB X n D) : RcGB X (n + 1) (DTupH D) :=
  (rcGB_tup hD h).imp fun _ _ _ _ ⟨a, b, xs, ys, e, h1, h2, h3, h4, h5, h6⟩ => ⟨a, b, xs, ys, e, h1, h2, SqT.of h3, SqT.of h4, h5, h6⟩
theorem mon_tupH (hD : MonB D) : MonB (DTupH D) := fun x y H H' c e d => by
  obtain ⟨a, b, xs, ys, f, hx, hy, h1, h2, p, q⟩ := d
  exact ⟨a, b, xs, ys, f, hx, hy, e _ _ h1, e _ _ h2, p.mon hD e, q⟩
theorem prs_refl (hD : ReflB D) {xs : List V} {H : Hp} {e : Nat → Bool} (p : PrsB D xs xs H e) : (List.range xs.length).all e = true := by
  rw [List.all_eq_true]
  intro i hi
  have hi := List.mem_range.mp hi
  have hx := List.getElem?_eq_getElem hi
  exact hD _ _ _ (p.at_ i _ _ hx hx)
theorem refl_tupH (hD : ReflB D) : ReflB (DTupH D) := by
  rintro x H c ⟨a, b, xs, ys, e, h1, h2, h3, h4, p, rfl⟩
  rw [h1] at h2
  cases h2
  rw [h3] at h4
  cases h4
  exact prs_refl hD p
theorem refl_list (hD : ReflB D) : ReflB (DListB D) := by
  rintro x H c ⟨a, b, xs, ys, h1, h2, h3, h4, p⟩
  rw [h1] at h2
  cases h2
  rw [h3] at h4
  cases h4
  rcases p with ⟨h, _⟩ | ⟨e, p, rfl⟩
  · exact absurd rfl h
  · exact prs_refl hD p
theorem eqGB_tupH (hD : MonB D) (hR : ReflB D) (h : EqGB X n D) : EqGB X (n + 1) (DTupH D) :=
  (rcGB_tupH hD h).eqG fun x y H c d => by
    obtain ⟨a, b, xs, ys, e, h1, h2, h3, h4, p, h5⟩ := id d
    refine ⟨a, b, h1, h2, fun q => ?_⟩
    subst q
    rw [← h2] at h1
    subst h1
    exact refl_tupH hR _ _ _ d
theorem eqGB_list (hD : MonB D) (hR : ReflB D) (h : EqGB X n D) : EqGB X (n + 1) (DListB D) :=
  (rcGB_list hD h).eqG fun x y H c d => by
    obtain ⟨a, b, xs, ys, h1, h2, h3, h4, p⟩ := id d
    refine ⟨a, b, h1, h2, fun q => ?_⟩
    subst q
    rw [← h2] at h1
    subst h1
    exact refl_list hR _ _ _ d
end
/-- item by item, by a decidable equality -/
theorem all_range_eq {α : Type} [DecidableEq α] (d : α) : ∀ {xs ys : List α}, xs.length = ys.length → (List.range xs.length).all (fun i => decide (xs.getD i d = ys.getD i d)) = decide (xs = ys) := by
  intro xs ys h
  rw [Bool.eq_iff_iff, List.all_eq_true, decide_eq_true_eq]
  constructor
  · intro k
    refine List.ext_getElem h fun i h1 h2 => ?_
    have := of_decide_eq_true (k i (List.mem_range.mpr h1))
    rw [List.getD_eq_getElem?_getD, List.getD_eq_getElem?_getD, List.getElem?_eq_getElem h1, List.getElem?_eq_getElem h2] at this
    exact this
  · rintro rfl i _
    exact decide_eq_true rfl
theorem atI_last2 {α : Type} {xs : List α} {j : Nat} (h : xs.length = j + 2) : atI xs (-2) = xs[j]? := by
  unfold atI ixN
  rw [if_neg (by decide), if_pos (by omega)]
  show xs[(_ : Int).toNat]? = _
  congr 1
  omega
end Lb

set_option Elab.async false
set_option linter.all false
set_option maxRecDepth 100000
set_option maxHeartbeats 4000000
namespace Lb
open PySem PySem.Spec PyProof.Rows L2
section
variable {X : Cx} {K : PySem.W.Frag}
theorem pg_lstK {pos : Pos} {es : List Expr} {k : Nat} {t : TGs} {n : Nat} (hK : X.K = K) (hc : X.calm = true) (h : PGs X es t)
    (hn : (assignEach es X.env).length = n := by rfl) (hst : (assignEach es X.env).findIdx? (·.1) = none := by rfl) : PG X (.Tuple es k pos) (gLst K n t) := by subst hK; exact pg_lst hc h hn hst
theorem pi_zipAK {e e2 : Expr} {ta : TA} {p pos tpos : Pos} {elts : List Expr} {kk : Nat} (hK : X.K = K) (hg : Gl X "zip") (hm : X.mg "zip" = none) (ha : PA X [e, e2] ta)
    (hs : starEach [e, e2] X.env = (false, eval e X.env) :: starEach [e2] X.env := by rfl) (hpl : (backTo pos (starEach [e2] X.env)).any (·.1) = false := by rfl) :
    PI X (.Tuple elts kk tpos) (.Call (.Name "zip" p) [e, e2] [] pos) (RZ.iZipA K ta) := by subst hK; exact RZ.pi_zipA hg hm ha hs hpl
end
theorem walk_zipT {K : PySem.W.Frag} {a b : Addr} {xs ys : List V} {n : Nat} (hn : n = min xs.length ys.length) : Walk (RZ.ItzT K a b) n (fun H => SqT K H a xs ∧ SqT K H b ys) (YPair (fun i => xs[i]?) (fun i => ys[i]?)) := by
  subst hn
  refine ⟨fun i _ hi q => ?_, fun _ q => ⟨xs, ys, q.1, q.2, by omega⟩, fun i H v H' _ q y => ?_⟩
  · have h1 : i < xs.length := by omega
    have h2 : i < ys.length := by omega
    exact ⟨xs, ys, xs[i], ys[i], q.1, q.2, by simp [h1], by simp [h2]⟩
  · obtain ⟨T, x, z, h1, h2, h3, h4, h5⟩ := y
    exact ⟨T, x, z, h1, h2, h3, h4 xs q.1, h5 ys q.2⟩
/-! data of whole numbers -/
def q2D (x : Q2) : PyData := .tuple [.int x.1, .int x.2]
def ptD (z : Q2 × Q2) : PyData := .tuple [q2D z.1, q2D z.2]
theorem eqv_q2 (x y : Q2) : PyData.eqv (q2D x) (q2D y) = decide (x = y) := by
  unfold q2D
  simp only [PyData.eqv, PyData.eqvAll, Bool.and_true]
  rw [Bool.eq_iff_iff]
  simp [Prod.ext_iff]
theorem eqv_pt (x y : Q2 × Q2) : PyData.eqv (ptD x) (ptD y) = decide (x = y) := by
  unfold ptD
  simp only [PyData.eqv, PyData.eqvAll, Bool.and_true, eqv_q2]
  rw [Bool.eq_iff_iff]
  simp [Prod.ext_iff]
theorem eqvAll_map {α : Type} [DecidableEq α] {f : α → PyData} (h : ∀ x y, PyData.eqv (f x) (f y) = decide (x = y)) : ∀ xs ys : List α, PyData.eqvAll (xs.map f) (ys.map f) = decide (xs = ys)
  | [], [] => by simp [PyData.eqvAll]
  | [], _ :: _ => by simp [PyData.eqvAll]
  | _ :: _, [] => by simp [PyData.eqvAll]
  | x :: xs, y :: ys => by
    simp only [List.map_cons, PyData.eqvAll, h, eqvAll_map h xs ys]
    rw [Bool.eq_iff_iff]
    simp
theorem eqv_list {α : Type} [DecidableEq α] {f : α → PyData} (h : ∀ x y, PyData.eqv (f x) (f y) = decide (x = y)) (xs ys : List α) : PyData.eqv (.list (xs.map f)) (.list (ys.map f)) = decide (xs = ys) := by
  simp only [PyData.eqv]
  exact eqvAll_map h xs ys
theorem lay_q2 (x : Q2) : PyData.canLay0 (q2D x) = true := by simp [q2D, PyData.canLay0, PyData.canLayAll0]
theorem lay_pt (z : Q2 × Q2) : PyData.canLay0 (ptD z) = true := by simp [ptD, PyData.canLay0, PyData.canLayAll0, lay_q2]
theorem dep_q2 (x : Q2) : PyData.depth (q2D x) = 1 := by simp [q2D, PyData.depth, PyData.depthAll]
theorem dep_pt (z : Q2 × Q2) : PyData.depth (ptD z) = 2 := by simp [ptD, PyData.depth, PyData.depthAll, dep_q2]
theorem lay_map {α : Type} {f : α → PyData} (h : ∀ x, PyData.canLay0 (f x) = true) : ∀ xs : List α, PyData.canLayAll0 (xs.map f) = true
  | [] => by simp [PyData.canLayAll0]
  | x :: xs => by simp [PyData.canLayAll0, h, lay_map h xs]
theorem dep_map {α : Type} {f : α → PyData} {k : Nat} (h : ∀ x, PyData.depth (f x) ≤ k) : ∀ xs : List α, PyData.depthAll (xs.map f) ≤ k
  | [] => by simp [PyData.depthAll]
  | x :: xs => by
    have h1 := h x
    have h2 := dep_map h xs
    simp only [List.map_cons, PyData.depthAll]
    omega
theorem shaped_of {d : PyData} (h : PyData.canLay0 d = true) (k : PyData.depth d ≤ 60) : SeqAt.shaped d = true := by
  unfold SeqAt.shaped
  rw [h, decide_eq_true (by omega)]
  rfl
theorem lay_list {α : Type} {f : α → PyData} (h : ∀ x, PyData.canLay0 (f x) = true) (xs : List α) : PyData.canLay0 (.list (xs.map f)) = true := by
  simp only [PyData.canLay0]
  exact lay_map h xs
theorem dep_list {α : Type} {f : α → PyData} {k : Nat} (h : ∀ x, PyData.depth (f x) ≤ k) (xs : List α) : PyData.depth (.list (xs.map f)) ≤ k + 1 := by
  simp only [PyData.depth]
  have := dep_map h xs
  omega
theorem rd_lt {t t' b : Int} (hb : 0 < b) (h : t < t') : val (rd t b) < val (rd t' b) := by
  rw [val_rd (by omega), val_rd (by omega), Rat.div_def, Rat.div_def]
  exact Rat.mul_lt_mul_of_pos_right (Rat.intCast_lt_intCast.mpr h) (Rat.inv_pos.mpr (pos_cast hb))
theorem rd_zero {b : Int} (hb : 0 < b) : rd 0 b = (0, 1) := by
  have h1 : Low (b.natAbs + 1) (rd 0 b) := rd_low (by omega) (show (0 : Nat) < _ from Nat.pow_pos (by decide)) (show b.natAbs < _ from Nat.lt_of_lt_of_le Nat.lt_two_pow_self (Nat.pow_le_pow_right (by decide) (Nat.le_succ _)))
  refine val_inj (m := 1) h1 ⟨by unfold Bd; decide, by unfold Bd; decide, by decide, by decide⟩ ?_
  rw [val_rd (by omega), val_zero, Rat.intCast_zero]
  grind
end Lb

set_option Elab.async false
set_option linter.all false
/-! a comprehension within one; tuple(list) within one -/
namespace Lb
open PySem L2
theorem blkOk_any {N : List Str} {sc scope : Scope} {own : List (Str × Nat)} (h : blkC N { kind := .function, names := [], isGenerator := false, isCoroutine := false } scope own = true) : BlkOk N sc scope own :=
  let b := blkOk_by h
  ⟨b.kind, b.uniq, b.ix, fun y hy e => (b.free y hy e).elim (fun q => nomatch q) (fun q => nomatch q), b.own⟩
section
variable {X : Cx} {K : PySem.W.Frag}
theorem call_tuple_ofK (hK : X.K = K) : CallR X (.type "tuple") (fun xs H Q => ∃ p ys, xs = [.ref p] ∧ ((SqL K H p ys ∧ ∀ l, H l = none → Q (.ref l) (upd H l (.tup ys))) ∨ (SqT K H p ys ∧ Q (.ref p) H))) := by subst hK; exact call_tuple_of
end
theorem kit_two {K : PySem.W.Frag} {A C : Addr} (h1 : PySem.W.isClsIn K C = true) (h2 : PySem.W.typeIn K (.ref C) = some (.type "type")) (h3 : PySem.W.subIn K (.ref A) (.ref C) = some false) (h4 : PySem.W.subIn K (.ref C) (.ref C) = some true) :
    PySem.W.kitOne K (.ref A) (.ref C) = some false ∧ PySem.W.notFirst K C (.ref A) = true := by
  have ne : (Value.ref A == Value.ref C) = false := Bool.eq_false_iff.mpr fun q => by
    have e := beq_iff_eq.mp q
    cases e
    rw [h3] at h4
    cases h4
  constructor
  · unfold PySem.W.kitOne
    rw [ne, if_neg (by decide)]
    unfold PySem.W.kitCls
    have h1' : (PySem.W.clsIn K C).isSome = true := h1
    dsimp only
    rw [h1', h2]
    rw [if_pos (by simp)]
    exact h3
  · unfold PySem.W.notFirst
    rw [h3]
    simp
end Lb

set_option Elab.async false
set_option linter.all false
set_option maxRecDepth 100000
set_option maxHeartbeats 2000000
/-! own exceptions with an own __init__ that keeps one value: made, raised -/
namespace Lb
open PySem L2
/-- the class and its __init__ -/
structure Exq (K : PySem.W.Frag) (mg : Str → Option Value) (x : Str) (C f : Addr) : Prop where
  mC : mg x = some (.ref C)
  ox : OexC K C
  xf : XfC K C
  iC : PySem.W.findIn K (.ref C) "__init__" = some (some (.ref f))
  tI : PySem.W.typeIn K (.ref f) = some (.type "function")
  te : PySem.W.exmOne K (.ref C) (.ref C) = some true
/-- __init__(self, value): self.f = value -/
def sp_exq (K : PySem.W.Frag) (C : Addr) (f : Str) : Sp := fun vs H Q _ => ∃ (q : Addr) (y : V), vs = [.ref q, y] ∧ H q = some (exo q C none) ∧
  ∀ dx, H dx = none → dx ≠ q → Q .non (upd (upd H dx (exd dx [(f, y)])) q (exo q C (some dx)))
/-- what is known behind such a raise -/
theorem exq_way {H : Hp} {q C : Addr} {f : Str} {y : V} {Q : XK} (hq : H q = none) (k : ∀ H' d, Same H H' → H d = none → H' d = some (.xd [(f, y)]) → Q (.ref C) (some d) H') :
    ∀ dx, (upd H q (exo q C none)) dx = none → dx ≠ q → ∃ (d : Addr) (fs : List (Str × V)), (upd (upd (upd H q (exo q C none)) dx (exd dx [(f, y)])) q (exo q C (some dx))) q = some (exo q C (some d)) ∧
      (upd (upd (upd H q (exo q C none)) dx (exd dx [(f, y)])) q (exo q C (some dx))) d = some (exd d fs) ∧ H d = none ∧ Q (.ref C) (some d) (upd (del (upd (upd (upd H q (exo q C none)) dx (exd dx [(f, y)])) q (exo q C (some dx))) q) d (.xd fs)) := by
  intro dx hdx ne
  have hd : H dx = none := by rw [upd_ne ne] at hdx; exact hdx
  refine ⟨dx, [(f, y)], upd_same, by rw [upd_ne ne, upd_same], hd, k _ dx (fun b o e => ?_) hd upd_same⟩
  have bq : b ≠ q := ne_of_none e hq
  have bd : b ≠ dx := ne_of_none e hd
  rw [upd_ne bd, del_ne bq, upd_ne bq, upd_ne bd, upd_ne bq]
  exact e
/-- a def that may raise, called where nothing is raised -/
theorem passF {X : Cx} : Passes (L2.CX X.prog X.w) X E0 := fun _ _ _ _ _ _ _ h => by
  obtain ⟨_, _, _, _, _, _, _, _, _, _, _, _, h⟩ := h
  exact h.elim
end Lb

set_option Elab.async false
set_option linter.all false
set_option maxRecDepth 100000
set_option maxHeartbeats 4000000
/-! try with several clauses that each give the exception a name -/
namespace Lb
open PySem PySem.Spec PyProof.Rows L2
/-- one clause: its class, the name's place, its suite -/
abbrev Clause := Value × Nat × (Addr → Value → Option Addr → TS)
/-- what is asked of an exception, clause by clause -/
def wNamed (K : PySem.W.Frag) (Wo : WX) (D : Ends) : List Clause → WX
  | [] => Wo
  | (c, i, ts) :: more => fun k dd τ G => ∃ yes, PySem.W.exmOne K k c = some yes ∧ (yes = false → wNamed K Wo D more k dd τ G) ∧
      (yes = true → ∀ e, G e = none → ts e k dd ⟨fun τ' G' => D.nx (τ'.set i none) G', D.rt, fun τ' G' => D.bk (τ'.set i none) G', fun τ' G' => D.ct (τ'.set i none) G'⟩ (τ.set i (some (.ref e))) G)
/-- the clauses and their readings -/
inductive HdsN (X : Cx) : List ExceptHandler → List Clause → Prop
  | nil : HdsN X [] []
  | cons {x n : Str} {i : Nat} {c : Value} {ts : Addr → Value → Option Addr → TS} {st : Stmt} {sts : List Stmt} {p q : Pos} {hds : List ExceptHandler} {l : List Clause} (nm : Names X x c) (at_ : X.N[i]? = some n) (lo : X.env.kindOf n = some .local)
      (su : ∀ (e : Addr) (oe : Obj) (k : Value) (dd : Option Addr) (pn : List (Addr × Obj)), Zc k dd oe → (∃ vs, oe.data = .fields vs) → PSs (X.suite e ((e, oe) :: pn)) (st :: sts) (ts e k dd)) (more : HdsN X hds l) :
      HdsN X (.ExceptHandler (some (.Name x p)) (some n) (st :: sts) q :: hds) ((c, i, ts) :: l)
section
variable {X : Cx} {body : List Stmt} {h0 : ExceptHandler} {hds : List ExceptHandler} {l : List Clause} {pos : Pos} {tb : WX → TS} {Wo : WX}
/-- an exception that has landed stands in no frame -/
theorem out_of_frames {bs h : Heap} {st : List Env} {e : Addr} {o : Obj} {vs : Array Value} (ff : h.FunFrames bs st) (at_ : h.get? e = some o) (fd : o.data = .fields vs) : e ∉ frs st := fun m => by
  obtain ⟨_, u, at2, no⟩ := ff.mem m
  cases at_.symm.trans at2
  exact no _ fd
variable {pins : List (Addr × Obj)} {τ : L2.St} {G : Hp} {D : Ends} {e : Addr} {bs h3 : Heap} {s0 s1 : Shared} {k : Value} {dd : Option Addr}
/-- the clauses are gone through, the exception being at e -/
theorem handle_named (st : X.stack = X.env :: X.outer) (fr : X.env.frame = some X.env.locals) (nd : X.N.Nodup) (tk : Takes X Wo) (ok : X.Ok) (jj : Inv X pins τ G s0) (nb : ∀ b o, s0.heap.get? b = some o → b ∉ frs X.stack → bs.get? b = some o)
    (up : s0.heap.UpToSlots s1.heap) (os : s1.os = s0.os) (ag : AllBare s1.gens) (na : G e = none) (u3 : s1.heap.UpToSlots h3) (fl : HandSPX.FlyingZ bs (X.env :: X.outer) e (Zc k dd) h3) :
    ∀ {hs : List ExceptHandler} {l : List Clause}, HdsN X hs l → wNamed X.K Wo D l k dd τ G → wpAny (model X.prog X.w) X.A (handleBy (.ref e) X.env hs) (SP X pins D) X.xe { s1 with heap := h3 } := by
  have here : Inv X pins τ G { s1 with heap := h3 } := jj.landed nb fl.1 (up.trans u3) os ag
  obtain ⟨o3, f3, at3, z3, d3⟩ := fl.there
  have out := out_of_frames fl.2.2.1 at3 d3
  have outL : e ≠ X.env.locals := fun q => out (List.mem_filterMap.mpr ⟨X.env, List.mem_cons_self, by rw [fr, q]⟩)
  have outF : e ∉ X.fs := fun m => by
    obtain ⟨env, m1, m2⟩ := List.mem_filterMap.mp m
    exact out (List.mem_filterMap.mpr ⟨env, List.mem_cons_of_mem _ m1, m2⟩)
  have inS := here.suite at3 d3 na outL outF
  intro hs l hk
  induction hk with
  | nil =>
    intro w
    have away : wpAny (model X.prog X.w) X.A (setFlight (.ref e) X.env.frame) (fun _ s4 => wpAny (model X.prog X.w) X.A (throw (.ref e) : Sem Flow) (SP X pins D) X.xe s4) X.xe { s1 with heap := h3 } := by
      rw [fr]
      exact HandSPX.setFlight_upZ fl fun h4 held u4 => wpAny_throw (tk _ _ ⟨e, bs, s0, pins, τ, G, k, dd, rfl, jj, nb, (up.trans u3).trans u4, .inr (.inr (by rw [st]; exact held)), na, os, ag, w⟩)
    obtain ⟨_, _, _, oe, vs, T, oT, _, ate, _, dte, first_, _⟩ := id fl
    refine wpAny_handleBy_nil ?_
    unfold PySem.passOn
    refine wpAny_bind (wpAny_field ate dte first_ ?_)
    rw [if_neg (by simp : ¬ ((Value.ref T == Value.none) = true))]
    first
      | exact wpAny_bind away
      | exact wpAny_bind (wpAny_pure (wpAny_bind away))
  | @cons x n i c ts st1 sts p q hds2 l2 nm pl lo su more ih =>
    rintro ⟨yes, ans, no, go⟩
    refine wpAny_handleBy_cons (codeAny_handlers_test ?_) (fun z => by cases z)
    have cl : PySem.W.Looks (model X.prog X.w) h3 (typeOf (.ref e)) k := fun A Q E s keep done => wpAny_typeOf_ref (keep _ _ at3) (by rw [z3.1]; exact done)
    have told := PySem.W.exm_one (M := model X.prog X.w) here.kIn cl ans
    have name : ∀ {Q E : Value → Shared → Prop}, Q c { s1 with heap := h3 } → wpAny (model X.prog X.w) (X.A.mark (some (.ref e))) (eval (.Name x p) X.env) Q E { s1 with heap := h3 } := fun {Q E} done => by
      obtain ⟨g1, g2, g3 | ⟨g3, g4, g5⟩⟩ := nm
      · exact ld_glob (X := X.suite e ((e, o3) :: (X.pn ++ pins))) inS g1 g3 done g2
      · exact ld_blt (X := X.suite e ((e, o3) :: (X.pn ++ pins))) inS g1 g3 g4 done g5 g2
    refine name (told.here ?_)
    cases yes with
    | false =>
      show wpAny _ X.A (handleBy (.ref e) X.env hds2) _ _ _
      exact ih (no rfl)
    | true =>
      refine codeAny_handlers_suite_as (HandSPX.lands_againZ fl fun h4 fl4 u4 => ?_)
      have here4 : Inv X pins τ G { s1 with heap := h4 } := jj.landed nb fl4.1 ((up.trans u3).trans u4) os ag
      obtain ⟨o4, f4, at4, z4, d4⟩ := fl4.there
      refine store_ok (X := X.suite e ((e, o4) :: (X.pn ++ pins))) (v := .ref e) (here4.suite at4 d4 na outL outF) nd pl (.inl lo) rfl (fun s5 in5 => ?_) (.inr lo)
      have clear : ∀ {σ6 : L2.St} {H6 : Hp} {s6 : Shared} {Q : Shared → Prop}, Inv (X.suite e ((e, o4) :: (X.pn ++ pins))) [] σ6 H6 s6 → (∀ s7, Inv X pins (σ6.set i none) H6 s7 → Q s7) →
          wpAny (model X.prog X.w) X.A (do bindName X.env n .none; unbindBehindTheSuite X.env n q) (fun _ s7 => Q s7) X.xe s6 := fun in6 then_ => gone_ok (in6.unsuite ok) nd pl lo then_
      refine wpAny_mono ((su e o4 k dd (X.pn ++ pins) z4 ⟨_, d4⟩).run [] s5 _ G _ in5 (go rfl e na)) (fun f s6 end_ => ?_) (fun _ _ z => z.elim)
      cases f with
      | ret u =>
        obtain ⟨v6, _, _, in6, rel, fin⟩ := end_
        exact clear in6 fun s7 in7 => ⟨_, _, _, in7, rel, fin⟩
      | next =>
        obtain ⟨_, _, in6, fin⟩ := end_
        exact clear in6 fun s7 in7 => ⟨_, _, in7, fin⟩
      | brk =>
        obtain ⟨_, _, in6, fin⟩ := end_
        exact clear in6 fun s7 in7 => ⟨_, _, in7, fin⟩
      | cont =>
        obtain ⟨_, _, in6, fin⟩ := end_
        exact clear in6 fun s7 in7 => ⟨_, _, in7, fin⟩
theorem ps_try_named (st : X.stack = X.env :: X.outer) (fr : X.env.frame = some X.env.locals) (nd : X.N.Nodup) (tk : Takes X Wo)
    (bd : ∀ (W : WX) (pn : List (Addr × Obj)) (xe : Value → Shared → Prop), Takes (X.tr pn xe) W → PassesOwn (model X.prog X.w) X.A X.env xe → PSs (X.tr pn xe) body (tb W)) (cs : HdsN X (h0 :: hds) l) :
    PS X (.Try body (h0 :: hds) [] [] pos) (fun D σ H => tb (wNamed X.K Wo D l) D σ H) := by
  refine ⟨fun pins s σ H D I way => ?_⟩
  have ok := I.ok
  have seen : X.A.frames = some (X.env :: X.outer) := by rw [ok.frames, st]
  refine wpAny_Try_except ?_
  refine wpAny_mono ((bd (wNamed X.K Wo D l) (X.pn ++ pins) (fun u s₁ => wpAny (model X.prog X.w) X.A (noteFrame u X.env) (fun _ s₂ => wpAny (model X.prog X.w) X.A (setFlight u none)
    (fun _ s₃ => wpAny (model X.prog X.w) X.A (handleBy u X.env (h0 :: hds)) (SP X pins D) X.xe s₃) X.xe s₂) X.xe s₁) (fun u s' flies => ?_) PassesOwn.looking).run [] s σ H D (I.toTry _) way) (fun f s1 fin => ?_) (fun u s1 away => away)
  · obtain ⟨e, bs, s0, pp, τ, G, k, dd, rfl, jj, nb, up, sky, na, os, ag, w⟩ := flies
    refine Sky.land Zc.steady seen fr (by rw [← st]; exact sky) fun h3 fl u3 => ?_
    exact handle_named st fr nd tk ok (jj.ofTry ok) nb up os ag na u3 fl cs w
  · cases f with
    | ret u =>
      obtain ⟨v, _, _, j, rel, way2⟩ := fin
      exact ⟨v, _, _, j.ofTry ok, rel, way2⟩
    | next =>
      obtain ⟨_, _, j, way2⟩ := fin
      exact wpAny_execs_nil ⟨_, _, j.ofTry ok, way2⟩
    | brk =>
      obtain ⟨_, _, j, way2⟩ := fin
      exact ⟨_, _, j.ofTry ok, way2⟩
    | cont =>
      obtain ⟨_, _, j, way2⟩ := fin
      exact ⟨_, _, j.ofTry ok, way2⟩
end
end Lb

set_option Elab.async false
set_option linter.all false
set_option maxRecDepth 100000
set_option maxHeartbeats 4000000
/-! isinstance of a caught exception that has an own dict -/
namespace Lb
open PySem PySem.Spec PyProof.Rows L2
/-- isinstance(e, c), e held by the suite at a, an instance of D with the dict dd -/
def rIsX (K : PySem.W.Frag) (D a : Addr) (k : Value) (d : Option Addr) : List V → Hp → VK → Prop := fun xs H Q =>
  ∃ (c : V) (u : Value) (b : Bool) (dd : Addr) (fs : List (Str × V)), xs = [.ref a, c] ∧ k = .ref D ∧ d = some dd ∧ H dd = some (.xd fs) ∧ (∀ v, RelV c v → v = u) ∧ PySem.W.kitOne K (.ref D) u = some b ∧ Q (.bl b) H
theorem call_isX {X : Cx} {a D : Addr} {oe : Obj} {k : Value} {d : Option Addr} {pn : List (Addr × Obj)} (C : ExcC X.K D) (z : Zc k d oe) (f : ∃ vs, oe.data = .fields vs) : CallR (X.suite a ((a, oe) :: pn)) (.builtin "isinstance") (rIsX X.K D a k d) := by
  intro pins s σ H xs us Q I r h
  obtain ⟨c, u, b, dd, fs, rfl, rfl, rfl, ed, only, ans, q⟩ := h
  obtain ⟨u1, u2, rfl, r1, r2⟩ := vals2 r
  cases r1
  cases only _ r2
  obtain ⟨at_, _⟩ := I.pin (a, oe) (List.mem_append_left _ List.mem_cons_self)
  obtain ⟨mA, hns, _⟩ : ObjOk X.prog X.w H s.heap dd (.xd fs) := I.hok dd _ ed
  obtain ⟨od, ho, _⟩ := lookIn_ns hns
  obtain ⟨vs, hd⟩ := f
  have J : PySem.W.InstAt s.heap a oe D (some od) := ⟨at_, z.1, by unfold PySem.W.notCls; rw [hd] <;> rfl, by rw [z.2]; exact ho⟩
  have cl : (PySem.W.clsIn X.K D).isSome = true := by
    obtain ⟨cd, hc, _⟩ := PySem.W.any_some C.hd
    rw [hc]
    rfl
  exact PySem.W.kia_one (PySem.W.kitx_exc cl C.hg C.hk C.hs C.ha C.hn C.ht C.hm) I.kIn J ans (fun z => nomatch z) fun tk => ⟨.bl b, H, I.kept (t' := tk) fun _ _ z => z, rfl, q⟩
end Lb

set_option Elab.async false
set_option linter.all false
set_option maxRecDepth 100000
set_option maxHeartbeats 4000000
/-! own exceptions below an own class over ArithmeticError, whose own __init__ keeps values: made, raised, their fields set -/
namespace Lb
open PySem L2
abbrev arTail : List Value := [.type "ArithmeticError", .type "Exception", .type "BaseException", .type "object"]
/-- what the written part says of such a class: one own class stands above it -/
structure OexA (K : PySem.W.Frag) (C : Addr) : Prop where
  cls : ∃ nm q N bs L sn sub ab col dd k0 k1 k2 k3 k5, K.lookup C = some (excClassObj nm q C N bs (.ref L :: arTail) true sn sub ab col dd k0 k1 k2 k3 k5 "ArithmeticError.__new__")
  sa : PySem.W.findIn K (.ref C) "__setattr__" = some (some (.builtin "object.__setattr__"))
  exC : PySem.W.subIn K (.ref C) (.type "BaseException") = some true
  tyC : PySem.W.typeIn K (.ref C) = some (.type "type")
  kC : PySem.W.keepIn K (.ref C) = true
/-- the class and its __init__ -/
structure ExqA (K : PySem.W.Frag) (mg : Str → Option Value) (x : Str) (C f : Addr) : Prop where
  mC : mg x = some (.ref C)
  ox : OexA K C
  xf : XfC K C
  iC : PySem.W.findIn K (.ref C) "__init__" = some (some (.ref f))
  tI : PySem.W.typeIn K (.ref f) = some (.type "function")
  te : PySem.W.exmOne K (.ref C) (.ref C) = some true
theorem ar_con (L : Addr) (Y : String) : (Value.ref L :: arTail).contains (.type Y) = arTail.contains (.type Y) := by
  rw [List.contains_cons]
  rfl
section
open Builtin Builtin.ObjectAttr
variable {prog : Program} {w : World} {A : Around} {E : Value → Shared → Prop} {R : Result → Shared → Prop} {hp : Heap} {g : Array GenState} {d : Drawn} {t : Nat} {os : OsState}
/-- as far as the store into the own dict -/
theorem ar_store {K : PySem.W.Frag} {name : Str} {tk : Tok} {v : Value} {x C L : Addr} {ox : Obj} {od : Option Obj} {cd : ClassData}
    (X : K.In hp) (I : PySem.W.InstAt hp x ox C od) (hcd : PySem.W.clsIn K C = some cd) (hm : cd.mro = .ref C :: .ref L :: arTail) (ha : PySem.W.findIn K (.ref C) name = some none)
    (hq : wpAny (model prog w) A.in1 (storeInOwnDict (.ref x) (.ref C) (.str name tk) name v false)
      (fun fin s' => match fin with | .done f => R (.ok f) s' | .again c' => c'.quiet = true ∧ codeAny (model prog w) A c' R s') (fun e s' => R (.error e) s') ⟨hp, g, d, t, os⟩) :
    codeAny (model prog w) A (.call (.builtin "object.__setattr__") ⟨[.ref x, .str name tk, v], []⟩) R ⟨hp, g, d, t, os⟩ := by
  have SF := F.store_object
  have hob : PySem.W.mroIn K C (.type "object") = some true := by
    unfold PySem.W.mroIn
    rw [hcd, Option.bind_some, hm, if_neg (show ¬ (List.isEmpty (Value.ref C :: .ref L :: arTail) = true) from Bool.false_ne_true), List.contains_cons, ar_con]
    exact congrArg some ((congrArg (_ || ·) (show arTail.contains (.type "object") = true by decide +kernel)).trans (Bool.or_true _))
  have sub : PySem.W.Looks (model prog w) hp (isInstance (.ref x) (.type "object")) true := I.type.andThen (PySem.W.looks_mroIn X hob)
  have hmr : PySem.W.Looks (model prog w) hp (mroOf (.ref C)) cd.mro := (PySem.W.looks_clsIn X hcd).andThen .now
  have L3 : PySem.W.Looks (model prog w) hp (storeTaker? none) none := .now
  have hpass : refuseLoop (.ref x) "__setattr__" cd.mro = pure () := by
    rw [hm, refuseLoop_ref, refuseLoop_ref]
    exact F.store_ArithmeticError.passes _
  refine codeAny_call_builtin SF.slot.plain SF.entry (@PySem.W.check_slot (model prog w) _ _ ⟨hp, g, d, t, os⟩ "object.__setattr__" "object" "__setattr__" (.ref x) [.str name tk, v] [] _ SF.kind SF.split sub (SF.args (.ref x) (.str name tk) v) ?_)
  rw [PySem.W.osa_eq, refuse_eq]
  refine wpAny_bind (wpAny_bind (I.type.at (wpAny_bind (hmr.at ?_))))
  rw [hpass]
  exact wpAny_pure (wpAny_bind (I.type.at (wpAny_bind ((PySem.W.looks_findIn X ha).at (wpAny_bind (L3.at hq))))))
end
section
variable {X : Cx} {pins : List (Addr × Obj)} {σ : L2.St} {H : Hp} {s : Shared} {a C dx : Addr} {f : Str} {y : V} {u : Value} {fs : List (Str × V)} {Q : Unit → Shared → Prop} {E : Value → Shared → Prop} {A : Around}
theorem ar_new (T : OexA X.K C) (I : Inv X pins σ H s) (e : H a = some (exo a C none)) (hno : PySem.W.findIn X.K (.ref C) f = some none) (ry : RelV y u)
    (h : ∀ dx s', H dx = none → dx ≠ a → Inv X pins σ (upd (upd H dx (exd dx [(f, y)])) a (exo a C (some dx))) s' → Q () s') : wpAny (model X.prog X.w) A (setAttr (.ref a) f u) Q E s := by
  obtain ⟨nm, q, N, bs, L, sn, sub, ab, col, dd, k0, k1, k2, k3, k5, hC⟩ := T.cls
  have hcl : PySem.W.clsIn X.K C = some { name := nm, bases := bs, mro := .ref C :: .ref L :: arTail, ns := N, qualname := q, hasDict := true, slotNames := sn, subclasses := sub, abstract := ab, collection := col, hasDel := false } := by unfold PySem.W.clsIn; rw [hC] <;> rfl
  obtain ⟨t1, ho⟩ := exo_at I.hok e
  obtain ⟨hp, g, d, t, os⟩ := s
  have hcls := PySem.W.looks_clsIn (M := model X.prog X.w) I.kIn hcl
  have hxs : a ≠ hp.objs.size := Nat.ne_of_lt (Heap.lt_size ho)
  refine PySem.W.set_plain I.kIn (ox := { cls := .ref C, dict := none, data := .fields #[.ref t1, .none, .none, .none, .bool false, .none] }) (od := none) ⟨ho, rfl, rfl, trivial⟩ T.sa ?_
  refine ar_store (od := none) I.kIn ⟨ho, rfl, rfl, trivial⟩ hcl rfl hno ?_
  unfold Builtin.ObjectAttr.storeInOwnDict Builtin.ObjectAttr.ownDictForStores
  repeat (first | with_reducible refine PySem.HandSPX.store_in_new ?_ ?_ | with_reducible refine wpAny_loadPart_at ho ?_ | with_reducible refine hcls.at ?_ | wp_step)
  · exact ⟨_, #[], _, (Heap.get?_update_ne _ _ _ _ hxs.symm).trans (Heap.get?_push_at rfl rfl), rfl, fun e he => absurd he (by simp), fun _ => rfl⟩
  intro h' tk' hn hs
  have k : ∀ b o, b ≠ a → hp.get? b = some o → h'.get? b = some o := fun b o hb q => (hs.2 b (Nat.ne_of_lt (Heap.lt_size q))).trans ((Heap.get?_update_ne _ _ _ _ hb).trans (Heap.get?_push_of_some _ q))
  have hx : h'.get? a = some { cls := .ref C, dict := some hp.objs.size, data := .fields #[.ref t1, .none, .none, .none, .bool false, .none] } :=
    (hs.2 a hxs).trans (Heap.get?_update_self _ (Heap.get?_push_of_some _ ho) rfl)
  have hnd : H hp.objs.size = none := I.hok.fresh (Nat.le_refl _)
  have na : ∀ {b : Addr}, H b = none → b ≠ a := fun {b} n z => by
    rw [z, e] at n
    cases n
  have nd : ∀ {b : Addr} {o : Obj}, hp.get? b = some o → b ≠ hp.objs.size := fun q => Nat.ne_of_lt (Heap.lt_size q)
  have U : Un X.fs [] H (upd (upd H hp.objs.size (exd hp.objs.size [(f, y)])) a (exo a C (some hp.objs.size))) hp h' := {
    keep := fun b o q n _ _ => k b o (na n) q
    slot := fun b o q n _ _ => ⟨o.slots, k b o (na n) q⟩
    free := fun b o q n _ => by rw [upd_ne (na n), upd_ne (nd q)]; exact n
    there := fun b o q _ => by
      by_cases hb : b = a
      · exact ⟨_, by rw [hb]; exact hx⟩
      · exact ⟨o, k b o hb q⟩
    tups := fun b xs q => by rw [upd_ne (at_ne e q exo_tup), upd_ne (ne_of_none q hnd)]; exact q
    frzs := fun b o v q => by rw [upd_ne (at_ne e q exo_frz), upd_ne (ne_of_none q hnd)]; exact q
    tbls := fun b ps q => ⟨#[], by rw [upd_ne (at_ne e q exo_tbl), upd_ne (ne_of_none q hnd), q]; simp⟩ }
  refine h _ _ hnd hxs.symm (I.un (t' := tk') U fun b o q => ?_)
  by_cases hb : b = a
  · subst hb
    rw [upd_same] at q
    cases q
    exact exo_ok hx
  rw [upd_ne hb] at q
  by_cases hd : b = hp.objs.size
  · subst hd
    rw [upd_same] at q
    cases q
    exact exd_ok hn (relO_put (fs := []) ry fun g => True.intro)
  rw [upd_ne hd] at q
  refine (I.hok b o q).stay (fun c v hc z => k c v ?_ z) (fun c hc => ?_) (fun c xs hc => ?_)
  · rcases hc with rfl | hc
    · exact hb
    · exact at_ne e hc exo_own
  · rw [upd_ne (at_ne e hc exo_own), upd_ne (ne_of_none hc hnd)]
    exact hc
  · rw [upd_ne (at_ne e hc exo_tup), upd_ne (ne_of_none hc hnd)]
    exact hc
theorem ar_old (T : OexA X.K C) (I : Inv X pins σ H s) (e : H a = some (exo a C (some dx))) (ed : H dx = some (exd dx fs)) (hl : fs.length ≤ 900) (hno : PySem.W.findIn X.K (.ref C) f = some none) (ry : RelV y u)
    (h : ∀ s', Inv X pins σ (upd H dx (exd dx ((f, y) :: fs))) s' → Q () s') : wpAny (model X.prog X.w) A (setAttr (.ref a) f u) Q E s := by
  obtain ⟨nm, q, N, bs, L, sn, sub, ab, col, dd, k0, k1, k2, k3, k5, hC⟩ := T.cls
  have hcl : PySem.W.clsIn X.K C = some { name := nm, bases := bs, mro := .ref C :: .ref L :: arTail, ns := N, qualname := q, hasDict := true, slotNames := sn, subclasses := sub, abstract := ab, collection := col, hasDel := false } := by unfold PySem.W.clsIn; rw [hC] <;> rfl
  obtain ⟨t1, ho⟩ := exo_at I.hok e
  obtain ⟨mA, hns, rel⟩ := exd_at I.hok ed
  have hw := within_of rel
  obtain ⟨hp, g, d, t, os⟩ := s
  obtain ⟨oD, _, _, hoD, _, _⟩ := hns.count hw
  have hcls := PySem.W.looks_clsIn (M := model X.prog X.w) I.kIn hcl
  have hz : (fs.map (·.1)).length ≤ 1000 := by rw [List.length_map]; omega
  refine PySem.W.set_plain I.kIn (ox := { cls := .ref C, dict := some dx, data := .fields #[.ref t1, .none, .none, .none, .bool false, .none] }) (od := some oD) ⟨ho, rfl, rfl, hoD⟩ T.sa ?_
  refine ar_store (od := some oD) I.kIn ⟨ho, rfl, rfl, hoD⟩ hcl rfl hno ?_
  unfold Builtin.ObjectAttr.storeInOwnDict Builtin.ObjectAttr.ownDictForStores
  repeat (first | with_reducible refine PySem.OEX.store_in_old hns hw hz ?_ | with_reducible refine wpAny_loadPart_at ho ?_ | with_reducible refine hcls.at ?_ | wp_step)
  intro h' tk' hn hs
  have hd : ∃ o, h'.get? dx = some o := by
    obtain ⟨o, _, _, e', _⟩ := hn
    exact ⟨o, e'⟩
  exact h _ (I.write (t' := tk') (x := dx) (e := dx) (o := exd dx ((f, y) :: fs)) (by rw [ed]; exact True.intro) (.inl rfl) (fun b o hb q => (hs.2 b hb).trans q) hd (exd_ok hn (relO_put ry rel)))
end
/-- self.f = e -/
def tOstA (K : PySem.W.Frag) (f : Str) (to te : TE) : TS := fun D σ H => te σ H fun y H1 => to σ H1 fun x H2 => ∃ a C : Addr, x = .ref a ∧ OexA K C ∧ PySem.W.findIn K (.ref C) f = some none ∧
  ((H2 a = some (exo a C none) ∧ ∀ dx, H2 dx = none → dx ≠ a → D.nx σ (upd (upd H2 dx (exd dx [(f, y)])) a (exo a C (some dx)))) ∨
    ∃ (dx : Addr) (fs : List (Str × V)), H2 a = some (exo a C (some dx)) ∧ H2 dx = some (exd dx fs) ∧ fs.length ≤ 900 ∧ D.nx σ (upd H2 dx (exd dx ((f, y) :: fs))))
section
variable {X : Cx} {o e : Expr} {es : List Expr} {to te : TE} {ta : TA} {f : Str} {p p' pos : Pos}
theorem ps_ostA (ho : PE X o to) (he : PE X e te) (hs : swapsWith e (some (.Attribute o f p')) pos.line X.env = pure false := by rfl) : PS X (.Assign [.Attribute o f p'] e pos) (tOstA X.K f to te) := by
  refine ⟨fun pins s σ H D I h => plainObj_wpAny_Assign_Attribute (thn (he.run pins s σ H _ I h) fun v s1 ⟨y, H1, I1, r1, q1⟩ => thn (ho.run pins s1 σ H1 _ I1 q1) fun u s2 ⟨x, H2, I2, r2, a, C, ex, T, hno, q⟩ => ?_) hs⟩
  subst ex
  obtain rfl : u = Value.ref a := r2
  rcases q with ⟨ea, q⟩ | ⟨dx, fs, ea, ed, hl, q⟩
  · exact ar_new T I2 ea hno r1 fun dx s' n ne J => ⟨σ, _, J, q dx n ne⟩
  · exact ar_old T I2 ea ed hl hno r1 fun s' J => ⟨σ, _, J, q⟩
theorem pmk_oexA {CX : CXT} {x : Str} {C fI : Addr} {k : Nat} {fd : FuncData} {ps : List Str} {sp : Sp} {ds : List Value} {dvs : List V} (T : OexA X.K C) (iC : PySem.W.findIn X.K (.ref C) "__init__" = some (some (.ref fI))) (tI : PySem.W.typeIn X.K (.ref fI) = some (.type "function"))
    (F1 : FnOk X.prog X.w X.K X.mg X.base CX k fI fd ps sp) (hr : Room (k + 1) X.A) (hb : Binds X.K fd ps ds) (hd : Vals dvs ds) (hx : Passes CX X (fun _ _ _ => False)) (hg : Gl X x) (hm : X.mg x = some (.ref C)) (ha : PA X (e :: es) ta)
    (hdb : (x == ("__debug__" : Str)) = false := by decide) (he : starEach (e :: es) X.env = (false, eval e X.env) :: starEach es X.env := by rfl) (hpl : (backTo pos (starEach es X.env)).any (·.1) = false := by rfl) :
    PMk X (.Call (.Name x p) (e :: es) [] pos) (tMkO C sp dvs ta) := by
  intro pins s σ H Q I h
  obtain ⟨nm, q, N, bs, L, sn, sub, ab, col, dd, k0, k1, k2, k3, k5, hC⟩ := T.cls
  refine wpAny_Call_Name_kw (ld_glob I hg hm ?_ hdb)
  refine PySem.W.callWith_K (h₀ := X.base) I.ok.mod.kin T.kC (thn (ha.run pos pins s σ H _ I h) fun us s1 ⟨vs, H1, I1, r1, hz, q1⟩ => ⟨I1.kIn, ?_⟩) he hpl
  show wpAny _ _ (call (.ref C) us) _ _ _
  obtain ⟨hp, g, dr, tk, os⟩ := s1
  have hsz : hp.objs.size ≤ hp.objs.size + 1 := Nat.le_succ _
  have hq := q1 _ (I1.hok.fresh hsz)
  have kk : ∀ b o, hp.get? b = some o → ((hp.push (PySem.W.kdv_tup us)).push (PySem.HandSPX.excO C hp.objs.size)).get? b = some o := fun b o e => Heap.get?_push_of_some _ (Heap.get?_push_of_some _ e)
  have I2 : Inv X pins σ (upd H1 (hp.objs.size + 1) (exo (hp.objs.size + 1) C none)) ⟨(hp.push (PySem.W.kdv_tup us)).push (PySem.HandSPX.excO C hp.objs.size), g, dr, tk, os⟩ :=
    I1.laid (t' := tk) (a := hp.objs.size + 1) (o := exo (hp.objs.size + 1) C none) (h' := (hp.push (PySem.W.kdv_tup us)).push (PySem.HandSPX.excO C hp.objs.size)) kk hsz (exo_ok (t1 := hp.objs.size) (by heap_get))
  have r2 : Vals (V.ref (hp.objs.size + 1) :: (vs ++ dvs)) (Value.ref (hp.objs.size + 1) :: (us ++ ds)) := .cons rfl (r1.append hd)
  have hl : (Value.ref (hp.objs.size + 1) :: us ++ ds).length = ps.length := r2.length.symm.trans (F1.len _ _ _ _ hq)
  have hus : us.length ≤ sizeLine := by
    rw [← Paired.length r1, sizeLine_eq]
    omega
  refine wpAny_call (PySem.HandSPX.call_own F.excBase_ArithmeticError (ar_con L) (I1.kIn _ _ hC) (PySem.W.looks_findIn I1.kIn iC) (fun self => PySem.W.bind_fn I1.kIn self tI) hus
    (codeAny_mono (F1.run _ X.stack _ _ ⟨Value.ref (hp.objs.size + 1) :: us, []⟩ (Value.ref (hp.objs.size + 1) :: (us ++ ds)) _ _ (fun _ _ _ => False) (hr.make C us []) (I2.env0.make C us []) (hb _ (Value.ref (hp.objs.size + 1) :: us) I2.kIn hl) r2 hq) fun r s' hq' => ?_))
  match r, hq' with
  | .error er, hq' => exact hx pins σ _ _ er s' I2 hq'
  | .ok (.ret u), hq' =>
    obtain ⟨v, H2, os2, bare2, un2, hok2, rv, ev, d, fs, ea, ed, hd1, q2⟩ := hq'
    subst ev
    obtain ⟨h2, g2, d2, t2, os'⟩ := s'
    exact ⟨rv, mk_end (raises_own T.exC T.tyC) I1 hsz kk un2 hok2 os2 bare2 ea ed hd1 q2⟩
  | .ok .next, hq' => exact hq'.elim
  | .ok .brk, hq' => exact hq'.elim
  | .ok .cont, hq' => exact hq'.elim
end
end Lb

set_option Elab.async false
set_option linter.all false
set_option maxRecDepth 100000
set_option maxHeartbeats 4000000
/-! own exceptions below an own class over any built-in one, as values: made (by position, by name), their fields set and read, isinstance of them -/
namespace Lb
open PySem L2
/-- the built-in class at the bottom -/
structure Fam (B newId initId : String) (tail : List Value) : Prop where
  base : ExcBaseFacts B newId initId tail
  pass : ∀ self, refuseLoop self "__setattr__" tail = pure ()
  obj : tail.contains (.type "object") = true
theorem famVE : Fam "ValueError" "ValueError.__new__" "ValueError.__init__" [.type "ValueError", .type "Exception", .type "BaseException", .type "object"] := ⟨F.excBase_ValueError, F.store_ValueError.passes, by decide +kernel⟩
theorem famAE : Fam "ArithmeticError" "ArithmeticError.__new__" "ArithmeticError.__init__" arTail := ⟨F.excBase_ArithmeticError, F.store_ArithmeticError.passes, by decide +kernel⟩
theorem famLE : Fam "LookupError" "LookupError.__new__" "LookupError.__init__" [.type "LookupError", .type "Exception", .type "BaseException", .type "object"] := ⟨F.excBase_LookupError, F.store_LookupError.passes, by decide +kernel⟩
theorem famRE : Fam "RuntimeError" "RuntimeError.__new__" "RuntimeError.__init__" [.type "RuntimeError", .type "Exception", .type "BaseException", .type "object"] := ⟨F.excBase_RuntimeError, F.store_RuntimeError.passes, by decide +kernel⟩
theorem fm_con (L : Addr) (tail : List Value) (Y : String) : (Value.ref L :: tail).contains (.type Y) = tail.contains (.type Y) := by
  rw [List.contains_cons]
  rfl
/-- what the written part says of such a class: one own class stands above it -/
structure OexF (K : PySem.W.Frag) (C : Addr) : Prop where
  cls : ∃ B newId initId tail nm q N bs L sn sub ab col dd k0 k1 k2 k3 k5, Fam B newId initId tail ∧ K.lookup C = some (excClassObj nm q C N bs (.ref L :: tail) true sn sub ab col dd k0 k1 k2 k3 k5 newId)
  sa : PySem.W.findIn K (.ref C) "__setattr__" = some (some (.builtin "object.__setattr__"))
  exC : PySem.W.subIn K (.ref C) (.type "BaseException") = some true
  tyC : PySem.W.typeIn K (.ref C) = some (.type "type")
  kC : PySem.W.keepIn K (.ref C) = true
/-- the class and its __init__ -/
structure ExqF (K : PySem.W.Frag) (mg : Str → Option Value) (x : Str) (C f : Addr) : Prop where
  mC : mg x = some (.ref C)
  ox : OexF K C
  eC : ExcC K C
  iC : PySem.W.findIn K (.ref C) "__init__" = some (some (.ref f))
  tI : PySem.W.typeIn K (.ref f) = some (.type "function")
section
open Builtin Builtin.ObjectAttr
variable {prog : Program} {w : World} {A : Around} {E : Value → Shared → Prop} {R : Result → Shared → Prop} {hp : Heap} {g : Array GenState} {d : Drawn} {t : Nat} {os : OsState}
/-- as far as the store into the own dict -/
theorem fm_store {K : PySem.W.Frag} {name : Str} {tk : Tok} {v : Value} {x C L : Addr} {tail : List Value} {B newId initId : String} (FM : Fam B newId initId tail) {ox : Obj} {od : Option Obj} {cd : ClassData}
    (X : K.In hp) (I : PySem.W.InstAt hp x ox C od) (hcd : PySem.W.clsIn K C = some cd) (hm : cd.mro = .ref C :: .ref L :: tail) (ha : PySem.W.findIn K (.ref C) name = some none)
    (hq : wpAny (model prog w) A.in1 (storeInOwnDict (.ref x) (.ref C) (.str name tk) name v false)
      (fun fin s' => match fin with | .done f => R (.ok f) s' | .again c' => c'.quiet = true ∧ codeAny (model prog w) A c' R s') (fun e s' => R (.error e) s') ⟨hp, g, d, t, os⟩) :
    codeAny (model prog w) A (.call (.builtin "object.__setattr__") ⟨[.ref x, .str name tk, v], []⟩) R ⟨hp, g, d, t, os⟩ := by
  have SF := F.store_object
  have hob : PySem.W.mroIn K C (.type "object") = some true := by
    unfold PySem.W.mroIn
    rw [hcd, Option.bind_some, hm, if_neg (show ¬ (List.isEmpty (Value.ref C :: .ref L :: tail) = true) from Bool.false_ne_true), List.contains_cons, fm_con]
    exact congrArg some ((congrArg (_ || ·) (show tail.contains (.type "object") = true from FM.obj)).trans (Bool.or_true _))
  have sub : PySem.W.Looks (model prog w) hp (isInstance (.ref x) (.type "object")) true := I.type.andThen (PySem.W.looks_mroIn X hob)
  have hmr : PySem.W.Looks (model prog w) hp (mroOf (.ref C)) cd.mro := (PySem.W.looks_clsIn X hcd).andThen .now
  have L3 : PySem.W.Looks (model prog w) hp (storeTaker? none) none := .now
  have hpass : refuseLoop (.ref x) "__setattr__" cd.mro = pure () := by
    rw [hm, refuseLoop_ref, refuseLoop_ref]
    exact FM.pass _
  refine codeAny_call_builtin SF.slot.plain SF.entry (@PySem.W.check_slot (model prog w) _ _ ⟨hp, g, d, t, os⟩ "object.__setattr__" "object" "__setattr__" (.ref x) [.str name tk, v] [] _ SF.kind SF.split sub (SF.args (.ref x) (.str name tk) v) ?_)
  rw [PySem.W.osa_eq, refuse_eq]
  refine wpAny_bind (wpAny_bind (I.type.at (wpAny_bind (hmr.at ?_))))
  rw [hpass]
  exact wpAny_pure (wpAny_bind (I.type.at (wpAny_bind ((PySem.W.looks_findIn X ha).at (wpAny_bind (L3.at hq))))))
end
section
variable {X : Cx} {pins : List (Addr × Obj)} {σ : L2.St} {H : Hp} {s : Shared} {a C dx : Addr} {f : Str} {y : V} {u : Value} {fs : List (Str × V)} {Q : Unit → Shared → Prop} {E : Value → Shared → Prop} {A : Around}
theorem fm_new (T : OexF X.K C) (I : Inv X pins σ H s) (e : H a = some (exo a C none)) (hno : PySem.W.findIn X.K (.ref C) f = some none) (ry : RelV y u)
    (h : ∀ dx s', H dx = none → dx ≠ a → Inv X pins σ (upd (upd H dx (exd dx [(f, y)])) a (exo a C (some dx))) s' → Q () s') : wpAny (model X.prog X.w) A (setAttr (.ref a) f u) Q E s := by
  obtain ⟨B, newId, initId, tail, nm, q, N, bs, L, sn, sub, ab, col, dd, k0, k1, k2, k3, k5, FM, hC⟩ := T.cls
  have hcl : PySem.W.clsIn X.K C = some { name := nm, bases := bs, mro := .ref C :: .ref L :: tail, ns := N, qualname := q, hasDict := true, slotNames := sn, subclasses := sub, abstract := ab, collection := col, hasDel := false } := by unfold PySem.W.clsIn; rw [hC] <;> rfl
  obtain ⟨t1, ho⟩ := exo_at I.hok e
  obtain ⟨hp, g, d, t, os⟩ := s
  have hcls := PySem.W.looks_clsIn (M := model X.prog X.w) I.kIn hcl
  have hxs : a ≠ hp.objs.size := Nat.ne_of_lt (Heap.lt_size ho)
  refine PySem.W.set_plain I.kIn (ox := { cls := .ref C, dict := none, data := .fields #[.ref t1, .none, .none, .none, .bool false, .none] }) (od := none) ⟨ho, rfl, rfl, trivial⟩ T.sa ?_
  refine fm_store FM (od := none) I.kIn ⟨ho, rfl, rfl, trivial⟩ hcl rfl hno ?_
  unfold Builtin.ObjectAttr.storeInOwnDict Builtin.ObjectAttr.ownDictForStores
  repeat (first | with_reducible refine PySem.HandSPX.store_in_new ?_ ?_ | with_reducible refine wpAny_loadPart_at ho ?_ | with_reducible refine hcls.at ?_ | wp_step)
  · exact ⟨_, #[], _, (Heap.get?_update_ne _ _ _ _ hxs.symm).trans (Heap.get?_push_at rfl rfl), rfl, fun e he => absurd he (by simp), fun _ => rfl⟩
  intro h' tk' hn hs
  have k : ∀ b o, b ≠ a → hp.get? b = some o → h'.get? b = some o := fun b o hb q => (hs.2 b (Nat.ne_of_lt (Heap.lt_size q))).trans ((Heap.get?_update_ne _ _ _ _ hb).trans (Heap.get?_push_of_some _ q))
  have hx : h'.get? a = some { cls := .ref C, dict := some hp.objs.size, data := .fields #[.ref t1, .none, .none, .none, .bool false, .none] } :=
    (hs.2 a hxs).trans (Heap.get?_update_self _ (Heap.get?_push_of_some _ ho) rfl)
  have hnd : H hp.objs.size = none := I.hok.fresh (Nat.le_refl _)
  have na : ∀ {b : Addr}, H b = none → b ≠ a := fun {b} n z => by
    rw [z, e] at n
    cases n
  have nd : ∀ {b : Addr} {o : Obj}, hp.get? b = some o → b ≠ hp.objs.size := fun q => Nat.ne_of_lt (Heap.lt_size q)
  have U : Un X.fs [] H (upd (upd H hp.objs.size (exd hp.objs.size [(f, y)])) a (exo a C (some hp.objs.size))) hp h' := {
    keep := fun b o q n _ _ => k b o (na n) q
    slot := fun b o q n _ _ => ⟨o.slots, k b o (na n) q⟩
    free := fun b o q n _ => by rw [upd_ne (na n), upd_ne (nd q)]; exact n
    there := fun b o q _ => by
      by_cases hb : b = a
      · exact ⟨_, by rw [hb]; exact hx⟩
      · exact ⟨o, k b o hb q⟩
    tups := fun b xs q => by rw [upd_ne (at_ne e q exo_tup), upd_ne (ne_of_none q hnd)]; exact q
    frzs := fun b o v q => by rw [upd_ne (at_ne e q exo_frz), upd_ne (ne_of_none q hnd)]; exact q
    tbls := fun b ps q => ⟨#[], by rw [upd_ne (at_ne e q exo_tbl), upd_ne (ne_of_none q hnd), q]; simp⟩ }
  refine h _ _ hnd hxs.symm (I.un (t' := tk') U fun b o q => ?_)
  by_cases hb : b = a
  · subst hb
    rw [upd_same] at q
    cases q
    exact exo_ok hx
  rw [upd_ne hb] at q
  by_cases hd : b = hp.objs.size
  · subst hd
    rw [upd_same] at q
    cases q
    exact exd_ok hn (relO_put (fs := []) ry fun g => True.intro)
  rw [upd_ne hd] at q
  refine (I.hok b o q).stay (fun c v hc z => k c v ?_ z) (fun c hc => ?_) (fun c xs hc => ?_)
  · rcases hc with rfl | hc
    · exact hb
    · exact at_ne e hc exo_own
  · rw [upd_ne (at_ne e hc exo_own), upd_ne (ne_of_none hc hnd)]
    exact hc
  · rw [upd_ne (at_ne e hc exo_tup), upd_ne (ne_of_none hc hnd)]
    exact hc
theorem fm_old (T : OexF X.K C) (I : Inv X pins σ H s) (e : H a = some (exo a C (some dx))) (ed : H dx = some (exd dx fs)) (hl : fs.length ≤ 900) (hno : PySem.W.findIn X.K (.ref C) f = some none) (ry : RelV y u)
    (h : ∀ s', Inv X pins σ (upd H dx (exd dx ((f, y) :: fs))) s' → Q () s') : wpAny (model X.prog X.w) A (setAttr (.ref a) f u) Q E s := by
  obtain ⟨B, newId, initId, tail, nm, q, N, bs, L, sn, sub, ab, col, dd, k0, k1, k2, k3, k5, FM, hC⟩ := T.cls
  have hcl : PySem.W.clsIn X.K C = some { name := nm, bases := bs, mro := .ref C :: .ref L :: tail, ns := N, qualname := q, hasDict := true, slotNames := sn, subclasses := sub, abstract := ab, collection := col, hasDel := false } := by unfold PySem.W.clsIn; rw [hC] <;> rfl
  obtain ⟨t1, ho⟩ := exo_at I.hok e
  obtain ⟨mA, hns, rel⟩ := exd_at I.hok ed
  have hw := within_of rel
  obtain ⟨hp, g, d, t, os⟩ := s
  obtain ⟨oD, _, _, hoD, _, _⟩ := hns.count hw
  have hcls := PySem.W.looks_clsIn (M := model X.prog X.w) I.kIn hcl
  have hz : (fs.map (·.1)).length ≤ 1000 := by rw [List.length_map]; omega
  refine PySem.W.set_plain I.kIn (ox := { cls := .ref C, dict := some dx, data := .fields #[.ref t1, .none, .none, .none, .bool false, .none] }) (od := some oD) ⟨ho, rfl, rfl, hoD⟩ T.sa ?_
  refine fm_store FM (od := some oD) I.kIn ⟨ho, rfl, rfl, hoD⟩ hcl rfl hno ?_
  unfold Builtin.ObjectAttr.storeInOwnDict Builtin.ObjectAttr.ownDictForStores
  repeat (first | with_reducible refine PySem.OEX.store_in_old hns hw hz ?_ | with_reducible refine wpAny_loadPart_at ho ?_ | with_reducible refine hcls.at ?_ | wp_step)
  intro h' tk' hn hs
  have hd : ∃ o, h'.get? dx = some o := by
    obtain ⟨o, _, _, e', _⟩ := hn
    exact ⟨o, e'⟩
  exact h _ (I.write (t' := tk') (x := dx) (e := dx) (o := exd dx ((f, y) :: fs)) (by rw [ed]; exact True.intro) (.inl rfl) (fun b o hb q => (hs.2 b hb).trans q) hd (exd_ok hn (relO_put ry rel)))
end
/-- self.f = e -/
def tOstF (K : PySem.W.Frag) (f : Str) (to te : TE) : TS := fun D σ H => te σ H fun y H1 => to σ H1 fun x H2 => ∃ a C : Addr, x = .ref a ∧ OexF K C ∧ PySem.W.findIn K (.ref C) f = some none ∧
  ((H2 a = some (exo a C none) ∧ ∀ dx, H2 dx = none → dx ≠ a → D.nx σ (upd (upd H2 dx (exd dx [(f, y)])) a (exo a C (some dx)))) ∨
    ∃ (dx : Addr) (fs : List (Str × V)), H2 a = some (exo a C (some dx)) ∧ H2 dx = some (exd dx fs) ∧ fs.length ≤ 900 ∧ D.nx σ (upd H2 dx (exd dx ((f, y) :: fs))))
section
variable {X : Cx} {o e : Expr} {es : List Expr} {to te : TE} {ta : TA} {f : Str} {p p' pos : Pos}
theorem ps_ostF (ho : PE X o to) (he : PE X e te) (hs : swapsWith e (some (.Attribute o f p')) pos.line X.env = pure false := by rfl) : PS X (.Assign [.Attribute o f p'] e pos) (tOstF X.K f to te) := by
  refine ⟨fun pins s σ H D I h => plainObj_wpAny_Assign_Attribute (thn (he.run pins s σ H _ I h) fun v s1 ⟨y, H1, I1, r1, q1⟩ => thn (ho.run pins s1 σ H1 _ I1 q1) fun u s2 ⟨x, H2, I2, r2, a, C, ex, T, hno, q⟩ => ?_) hs⟩
  subst ex
  obtain rfl : u = Value.ref a := r2
  rcases q with ⟨ea, q⟩ | ⟨dx, fs, ea, ed, hl, q⟩
  · exact fm_new T I2 ea hno r1 fun dx s' n ne J => ⟨σ, _, J, q dx n ne⟩
  · exact fm_old T I2 ea ed hl hno r1 fun s' J => ⟨σ, _, J, q⟩
theorem pmk_oexF {CX : CXT} {x : Str} {C fI : Addr} {k : Nat} {fd : FuncData} {ps : List Str} {sp : Sp} {ds : List Value} {dvs : List V} (T : OexF X.K C) (iC : PySem.W.findIn X.K (.ref C) "__init__" = some (some (.ref fI))) (tI : PySem.W.typeIn X.K (.ref fI) = some (.type "function"))
    (F1 : FnOk X.prog X.w X.K X.mg X.base CX k fI fd ps sp) (hr : Room (k + 1) X.A) (hb : Binds X.K fd ps ds) (hd : Vals dvs ds) (hx : Passes CX X (fun _ _ _ => False)) (hg : Gl X x) (hm : X.mg x = some (.ref C)) (ha : PA X (e :: es) ta)
    (hdb : (x == ("__debug__" : Str)) = false := by decide) (he : starEach (e :: es) X.env = (false, eval e X.env) :: starEach es X.env := by rfl) (hpl : (backTo pos (starEach es X.env)).any (·.1) = false := by rfl) :
    PMk X (.Call (.Name x p) (e :: es) [] pos) (tMkO C sp dvs ta) := by
  intro pins s σ H Q I h
  obtain ⟨B, newId, initId, tail, nm, q, N, bs, L, sn, sub, ab, col, dd, k0, k1, k2, k3, k5, FM, hC⟩ := T.cls
  refine wpAny_Call_Name_kw (ld_glob I hg hm ?_ hdb)
  refine PySem.W.callWith_K (h₀ := X.base) I.ok.mod.kin T.kC (thn (ha.run pos pins s σ H _ I h) fun us s1 ⟨vs, H1, I1, r1, hz, q1⟩ => ⟨I1.kIn, ?_⟩) he hpl
  show wpAny _ _ (call (.ref C) us) _ _ _
  obtain ⟨hp, g, dr, tk, os⟩ := s1
  have hsz : hp.objs.size ≤ hp.objs.size + 1 := Nat.le_succ _
  have hq := q1 _ (I1.hok.fresh hsz)
  have kk : ∀ b o, hp.get? b = some o → ((hp.push (PySem.W.kdv_tup us)).push (PySem.HandSPX.excO C hp.objs.size)).get? b = some o := fun b o e => Heap.get?_push_of_some _ (Heap.get?_push_of_some _ e)
  have I2 : Inv X pins σ (upd H1 (hp.objs.size + 1) (exo (hp.objs.size + 1) C none)) ⟨(hp.push (PySem.W.kdv_tup us)).push (PySem.HandSPX.excO C hp.objs.size), g, dr, tk, os⟩ :=
    I1.laid (t' := tk) (a := hp.objs.size + 1) (o := exo (hp.objs.size + 1) C none) (h' := (hp.push (PySem.W.kdv_tup us)).push (PySem.HandSPX.excO C hp.objs.size)) kk hsz (exo_ok (t1 := hp.objs.size) (by heap_get))
  have r2 : Vals (V.ref (hp.objs.size + 1) :: (vs ++ dvs)) (Value.ref (hp.objs.size + 1) :: (us ++ ds)) := .cons rfl (r1.append hd)
  have hl : (Value.ref (hp.objs.size + 1) :: us ++ ds).length = ps.length := r2.length.symm.trans (F1.len _ _ _ _ hq)
  have hus : us.length ≤ sizeLine := by
    rw [← Paired.length r1, sizeLine_eq]
    omega
  refine wpAny_call (PySem.HandSPX.call_own FM.base (fm_con L tail) (I1.kIn _ _ hC) (PySem.W.looks_findIn I1.kIn iC) (fun self => PySem.W.bind_fn I1.kIn self tI) hus
    (codeAny_mono (F1.run _ X.stack _ _ ⟨Value.ref (hp.objs.size + 1) :: us, []⟩ (Value.ref (hp.objs.size + 1) :: (us ++ ds)) _ _ (fun _ _ _ => False) (hr.make C us []) (I2.env0.make C us []) (hb _ (Value.ref (hp.objs.size + 1) :: us) I2.kIn hl) r2 hq) fun r s' hq' => ?_))
  match r, hq' with
  | .error er, hq' => exact hx pins σ _ _ er s' I2 hq'
  | .ok (.ret u), hq' =>
    obtain ⟨v, H2, os2, bare2, un2, hok2, rv, ev, d, fs, ea, ed, hd1, q2⟩ := hq'
    subst ev
    obtain ⟨h2, g2, d2, t2, os'⟩ := s'
    exact ⟨rv, mk_end (raises_own T.exC T.tyC) I1 hsz kk un2 hok2 os2 bare2 ea ed hd1 q2⟩
  | .ok .next, hq' => exact hq'.elim
  | .ok .brk, hq' => exact hq'.elim
  | .ok .cont, hq' => exact hq'.elim
end
end Lb

set_option Elab.async false
set_option linter.all false
set_option maxRecDepth 100000
set_option maxHeartbeats 4000000
namespace Lb
open PySem PySem.PX
section
variable {M : Model} {prog : Program} {w : World} {A : Around} {E : Value → Shared → Prop} {R : Result → Shared → Prop} {h : Heap} {g : Array GenState} {d : Drawn} {t : Nat} {os : OsState}
variable {nm q : Str} {C N : Addr} {bs bm bmB : List Value} {hdct : Bool} {sn : List Str} {sub : List Value} {ab : Bool} {col : Option Bool} {dd : Option Addr} {k0 k1 k2 k3 k5 : Option Value} {B newId initId : String}
theorem kw_check (F : ExcBaseFacts B newId initId bmB) (hT : ∀ X : String, bm.contains (.type X) = bmB.contains (.type X)) {rest : List Value} {kw : List (Str × Value)} {Q : Unit → Shared → Prop}
    (hC : h.get? C = some (excClassObj nm q C N bs bm hdct sn sub ab col dd k0 k1 k2 k3 k5 newId)) (hq : Q () ⟨h, g, d, t, os⟩) : wpAny M A (checkBuiltinCall newId ⟨.ref C :: rest, kw⟩) Q E ⟨h, g, d, t, os⟩ := by
  have hcont : (Value.ref C :: bm).contains (.type B) = true := by rw [List.contains_cons, hT, F.hasB, Bool.or_true]
  have hstar := F.noStar
  simp only [checkBuiltinCall, F.newKind, F.newSplit, F.newRow]
  repeat (first | refine wpAny_loadPart_at hC ?_ | (refine wpAny_isSubtype_exc hC ?_; rw [hcont]) | refine wpAny_staticBase_exc hC ?_ | refine wpAny_madeBy_exc hC ?_ | simp only [bne_self_eq_false, Bool.false_eq_true, if_false] | wp_step)
  exact hq
theorem kw_new (F : ExcBaseFacts B newId initId bmB) (hT : ∀ X : String, bm.contains (.type X) = bmB.contains (.type X)) {rest : List Value} {kw : List (Str × Value)}
    (hC : h.get? C = some (excClassObj nm q C N bs bm hdct sn sub ab col dd k0 k1 k2 k3 k5 newId))
    (hq : R (.ok (.ret (.ref (h.objs.size + 1)))) ⟨(h.push (W.kdv_tup rest)).push (HandSPX.excO C h.objs.size), g, d, t, os⟩) (hrest : rest.length ≤ sizeLine) :
    codeAny (model prog w) A (.builtin newId ⟨.ref C :: rest, kw⟩) R ⟨h, g, d, t, os⟩ := by
  have he := F.ends
  have hB : (Value.ref C :: bm).contains (.type B) = true := by rw [List.contains_cons, hT, F.hasB, Bool.or_true]
  have hA : (Value.ref C :: bm).contains (.type "AttributeError") = false := by rw [List.contains_cons, hT, F.noAttr]; rfl
  have hN : (Value.ref C :: bm).contains (.type "NameError") = false := by rw [List.contains_cons, hT, F.noName]; rfl
  refine codeAny_builtinAt F.entry ?_
  unfold Builtin.«BaseException.__new__»
  refine wpAt_bind ?_
  show wpAt _ _ _ (stack >>= _) _ _ _
  refine wpAt_bind (wpAt_stack fun p below => wpAt_of_wpAny ?_)
  wp_walk
  refine wpAt_of_wpAny ?_
  rw [F.owner]
  repeat (first | with_reducible refine wpAny_madeHere_exc F.canon hC ?_ | with_reducible refine wpAny_loadPart_at hC ?_ | (with_reducible refine wpAny_isSubtype_exc hC ?_; first | rw [hB] | rw [hA] | rw [hN]) | wp_step)
  show R _ _
  rw [Heap.size_push]
  exact hq
theorem kw_type (F : ExcBaseFacts B newId initId bmB) (hT : ∀ X : String, bm.contains (.type X) = bmB.contains (.type X)) {rest : List Value} {kw : List (Str × Value)} {fI : Addr} {Q : Fin → Shared → Prop}
    (hC : h.get? C = some (excClassObj nm q C N bs bm hdct sn sub ab col dd k0 k1 k2 k3 k5 newId))
    (hi : W.Looks (model prog w) h (typeLookup (.ref C) "__init__") (some (.ref fI))) (hb : ∀ self, W.Looks (model prog w) h (bindSpecial (.ref fI) self) (.ref fI, [self])) (hrest : rest.length ≤ sizeLine)
    (hq : codeAny (model prog w) A (.call (.ref fI) ⟨.ref (h.objs.size + 1) :: rest, kw⟩)
      (fun r s' => match r with | .ok (.ret v) => v = .none ∧ Q (.done (.ret (.ref (h.objs.size + 1)))) s' | .ok _ => False | .error e => E e s')
      ⟨(h.push (W.kdv_tup rest)).push (HandSPX.excO C h.objs.size), g, d, t, os⟩) :
    wpAny (model prog w) A (Builtin.«type.__call__» ⟨.ref C :: rest, kw⟩) Q E ⟨h, g, d, t, os⟩ := by
  repeat (first | with_reducible refine wpAny_loadPart_at hC ?_ | with_reducible refine wpAny_madeBy_exc hC ?_ | wp_step)
  refine codeAny_call_builtin_code (Code.quiet_builtin _ F.quiet) (kw_check F hT hC ?_)
  refine kw_new F hT hC ?_ hrest
  show wpAny _ _ _ _ _ _
  have k : ∀ b o, h.get? b = some o → ((h.push (W.kdv_tup rest)).push (HandSPX.excO C h.objs.size)).get? b = some o := fun b o e => Heap.get?_push_of_some _ (Heap.get?_push_of_some _ e)
  have hC1 := k _ _ hC
  have hG : ((h.push (W.kdv_tup rest)).push (HandSPX.excO C h.objs.size)).get? (h.objs.size + 1) = some (HandSPX.excO C h.objs.size) := by heap_get
  have hcC : (Value.ref C :: bm).contains (.ref C) = true := by simp
  unfold isInstance
  repeat (first | with_reducible refine wpAny_loadPart_at hG ?_ | (with_reducible refine wpAny_isSubtype_exc hC1 ?_; rw [hcC]) | wp_step)
  show wpAny _ _ (typeLookup (.ref C) _) _ _ _
  refine (hi.keeps k).at ?_
  refine wpAny_holding (wpAny_bind (((hb (.ref (h.objs.size + 1))).keeps k).at ?_))
  refine wpAny_bind (wpAny_call (codeAny_mono hq fun r s' z => ?_))
  rcases r with e | (v | _ | _ | _) <;> first | exact z | exact z.elim | skip
  obtain ⟨rfl, z⟩ := z
  first
    | exact wpAny_pure (wpAny_pure z)
    | (wp_walk; exact z)
theorem kw_call (F : ExcBaseFacts B newId initId bmB) (hT : ∀ X : String, bm.contains (.type X) = bmB.contains (.type X)) {rest : List Value} {kw : List (Str × Value)} {fI : Addr}
    (hC : h.get? C = some (excClassObj nm q C N bs bm hdct sn sub ab col dd k0 k1 k2 k3 k5 newId))
    (hi : W.Looks (model prog w) h (typeLookup (.ref C) "__init__") (some (.ref fI))) (hb : ∀ self, W.Looks (model prog w) h (bindSpecial (.ref fI) self) (.ref fI, [self])) (hrest : rest.length ≤ sizeLine)
    (hq : codeAny (model prog w) (A.under (.builtin "type.__call__" ⟨.ref C :: rest, kw⟩)) (.call (.ref fI) ⟨.ref (h.objs.size + 1) :: rest, kw⟩) (W.InitBack (h.objs.size + 1) R)
      ⟨(h.push (W.kdv_tup rest)).push (HandSPX.excO C h.objs.size), g, d, t, os⟩) :
    codeAny (model prog w) A (.call (.ref C) ⟨rest, kw⟩) R ⟨h, g, d, t, os⟩ := by
  have f1 := tc_lookup
  have f2 := tc_bind (.ref C)
  have hTy : (⟨h, g, d, t, os⟩ : Shared).TypeIs (.ref C) "type" := ⟨_, hC, rfl⟩
  refine codeAny_of_tree ?_
  show wpAny _ _ (callAny (.ref C) _) _ _ _
  repeat (any_goals (first | assumption | with_reducible refine wpAny_loadPart_at hC ?_ | wp_step))
  refine ⟨rfl, ?_⟩
  refine codeAny_call_builtin_at (Code.quiet_builtin _ (by decide +kernel)) entry_typeCall (wpAny_check_type_call_sub hC (kw_type F hT hC hi hb hrest ?_))
  refine codeAny_mono hq fun r s' z => ?_
  rcases r with e | (v | _ | _ | _) <;> exact z
end

open L2
/-- C(e, ..) as a value -/
def tErr (C : Addr) (sp : Sp) (ta : TA) : TE := fun σ H Q => ta σ H fun vs H1 => vs.length ≤ 1000 ∧ ∀ a, H1 a = none → sp (.ref a :: vs) (upd H1 a (exo a C none)) (fun v H2 => v = .non ∧ Q (.ref a) H2) fun _ _ _ => False
/-- C(k = v, ..) as a value -/
def tErrK (C : Addr) (m : Nat) (sp : Sp) (gV : List V → List V → List V) (tk : TA) : TE := fun σ H Q => tk σ H fun zs H1 => zs.length = m ∧ ∀ a, H1 a = none → sp (gV [.ref a] zs) (upd H1 a (exo a C none)) (fun v H2 => v = .non ∧ Q (.ref a) H2) fun _ _ _ => False
section
variable {X : Cx} {CX : CXT} {k n : Nat} {f C : Addr} {fd : FuncData} {ps ks : List Str} {sp : Sp} {x : Str} {p pos : Pos} {e : Expr} {es : List Expr} {kws : List Keyword} {ta tk : TA} {gg : List Value → List Value → List Value} {gV : List V → List V → List V}
/-- the run of the class -/
theorem run_err {pins : List (Addr × Obj)} {σ : L2.St} {H : Hp} {s : Shared} {Q : VK} {us itf : List Value} {vsf : List V} {kw : List (Str × Value)} (T : OexF X.K C) (iC : PySem.W.findIn X.K (.ref C) "__init__" = some (some (.ref f))) (tI : PySem.W.typeIn X.K (.ref f) = some (.type "function"))
    (F1 : FnOk X.prog X.w X.K X.mg X.base CX k f fd ps sp) (hr : Room (k + 1) X.A) (hx : Passes CX X (fun _ _ _ => False)) (I : Inv X pins σ H s) (hus : us.length ≤ sizeLine)
    (hb : ∀ s' : Shared, X.K.In s'.heap → BindsTo s' fd ⟨.ref (s.heap.objs.size + 1) :: us, kw⟩ (ps.zip itf)) (r : Vals vsf itf)
    (h : sp vsf (upd H (s.heap.objs.size + 1) (exo (s.heap.objs.size + 1) C none)) (fun v H2 => v = .non ∧ Q (.ref (s.heap.objs.size + 1)) H2) fun _ _ _ => False) :
    wpAny (model X.prog X.w) X.A (call (.ref C) us kw) (EP X pins σ Q) X.xe s := by
  obtain ⟨B, newId, initId, tail, nm, q, N, bs, L, sn, sub, ab, col, dd, k0, k1, k2, k3, k5, FM, hC⟩ := T.cls
  obtain ⟨hp, g, dr, tk, os⟩ := s
  have kk : ∀ b o, hp.get? b = some o → ((hp.push (PySem.W.kdv_tup us)).push (PySem.HandSPX.excO C hp.objs.size)).get? b = some o := fun b o e => Heap.get?_push_of_some _ (Heap.get?_push_of_some _ e)
  have I2 : Inv X pins σ (upd H (hp.objs.size + 1) (exo (hp.objs.size + 1) C none)) ⟨(hp.push (PySem.W.kdv_tup us)).push (PySem.HandSPX.excO C hp.objs.size), g, dr, tk, os⟩ :=
    I.laid (t' := tk) (a := hp.objs.size + 1) (o := exo (hp.objs.size + 1) C none) (h' := (hp.push (PySem.W.kdv_tup us)).push (PySem.HandSPX.excO C hp.objs.size)) kk (Nat.le_succ _) (exo_ok (t1 := hp.objs.size) (by heap_get))
  refine wpAny_call (kw_call FM.base (fm_con L tail) (I.kIn _ _ hC) (PySem.W.looks_findIn I.kIn iC) (fun self => PySem.W.bind_fn I.kIn self tI) hus
    (codeAny_mono (F1.run _ X.stack _ _ ⟨Value.ref (hp.objs.size + 1) :: us, kw⟩ itf _ _ (fun _ _ _ => False) (hr.make C us kw) (I2.env0.make C us kw) (hb _ I2.kIn) r h) fun r s' hq' => ?_))
  match r, hq' with
  | .error er, hq' => exact hx pins σ _ _ er s' I2 hq'
  | .ok (.ret u), hq' =>
    obtain ⟨v, H', I3, rv, ev, q3⟩ := I2.after hq'
    subst ev
    exact ⟨rv, ⟨V.ref (hp.objs.size + 1), H', I3, rfl, q3⟩⟩
  | .ok .next, hq' => exact hq'.elim
  | .ok .brk, hq' => exact hq'.elim
  | .ok .cont, hq' => exact hq'.elim
theorem pe_err (T : OexF X.K C) (iC : PySem.W.findIn X.K (.ref C) "__init__" = some (some (.ref f))) (tI : PySem.W.typeIn X.K (.ref f) = some (.type "function")) (F1 : FnOk X.prog X.w X.K X.mg X.base CX k f fd ps sp) (hr : Room (k + 1) X.A) (hb : Binds X.K fd ps [])
    (hx : Passes CX X (fun _ _ _ => False)) (hg : Gl X x) (hm : X.mg x = some (.ref C)) (ha : PA X (e :: es) ta)
    (hdb : (x == ("__debug__" : Str)) = false := by decide) (he : starEach (e :: es) X.env = (false, eval e X.env) :: starEach es X.env := by rfl) (hpl : (backTo pos (starEach es X.env)).any (·.1) = false := by rfl) :
    PE X (.Call (.Name x p) (e :: es) [] pos) (tErr C sp ta) := by
  refine ⟨fun pins s σ H Q I h => wpAny_Call_Name_kw (ld_glob I hg hm (PySem.W.callWith_K (h₀ := X.base) I.ok.mod.kin T.kC (thn (ha.run pos pins s σ H _ I h) fun us s1 ⟨vs, H1, I1, r1, hz, q1⟩ => ⟨I1.kIn, ?_⟩) he hpl) hdb)⟩
  have r2 : Vals (V.ref (s1.heap.objs.size + 1) :: vs) (Value.ref (s1.heap.objs.size + 1) :: us) := .cons rfl r1
  have hq := q1 (s1.heap.objs.size + 1) (I1.hok.fresh (Nat.le_succ _))
  refine run_err (us := us) T iC tI F1 hr hx I1 (by rw [← Paired.length r1, sizeLine_eq]; omega) (fun s' X' => ?_) r2 hq
  have b := hb s' (Value.ref (s1.heap.objs.size + 1) :: us) X' (by rw [List.append_nil]; exact r2.length.symm.trans (F1.len _ _ _ _ hq))
  rw [List.append_nil] at b
  exact b
theorem pe_err0 (T : OexF X.K C) (iC : PySem.W.findIn X.K (.ref C) "__init__" = some (some (.ref f))) (tI : PySem.W.typeIn X.K (.ref f) = some (.type "function")) (F1 : FnOk X.prog X.w X.K X.mg X.base CX k f fd ps sp) (hr : Room (k + 1) X.A) (hb : Binds X.K fd ps [])
    (hx : Passes CX X (fun _ _ _ => False)) (hg : Gl X x) (hm : X.mg x = some (.ref C)) (hdb : (x == ("__debug__" : Str)) = false := by decide) :
    PE X (.Call (.Name x p) [] [] pos) (tErr C sp tNil) := by
  refine ⟨fun pins s σ H Q I h => wpAny_Call_Name_kw (ld_glob I hg hm (PySem.W.callWith_K0 I.kIn T.kC ?_) hdb)⟩
  have r2 : Vals [V.ref (s.heap.objs.size + 1)] [Value.ref (s.heap.objs.size + 1)] := .cons rfl .nil
  have hq := h.2 (s.heap.objs.size + 1) (I.hok.fresh (Nat.le_succ _))
  refine run_err T iC tI F1 hr hx I (Nat.zero_le _) (fun s' X' => ?_) r2 hq
  have b := hb s' [Value.ref (s.heap.objs.size + 1)] X' (by rw [List.append_nil]; exact r2.length.symm.trans (F1.len _ _ _ _ hq))
  rw [List.append_nil] at b
  exact b
theorem pe_errK (T : OexF X.K C) (iC : PySem.W.findIn X.K (.ref C) "__init__" = some (some (.ref f))) (tI : PySem.W.typeIn X.K (.ref f) = some (.type "function")) (F1 : FnOk X.prog X.w X.K X.mg X.base CX k f fd ps sp) (hr : Room (k + 1) X.A) (hb : KBn X.K fd ps 1 ks gg gV)
    (hx : Passes CX X (fun _ _ _ => False)) (hg : Gl X x) (hm : X.mg x = some (.ref C)) (hkw : PK X kws tk)
    (hall : (backToKw pos (keywordEach kws X.env)).all (·.1.isSome) = true := by rfl) (hks : (backToKw pos (keywordEach kws X.env)).filterMap (·.1) = ks := by rfl) (hdb : (x == ("__debug__" : Str)) = false := by decide)
    (hpl : ((backTo pos (starEach [] X.env)).any (·.1) || (backToKw pos (keywordEach kws X.env)).any (·.1.isNone)) = false := by rfl) :
    PE X (.Call (.Name x p) [] kws pos) (tErrK C ks.length sp gV tk) := by
  refine ⟨fun pins s σ H Q I h => wpAny_Call_Name_kw (ld_glob I hg hm ?_ hdb)⟩
  refine PySem.W.callWith_KW0 (h₀ := X.base) I.ok.mod.kin T.kC hall ?_ hpl
  refine thn (hkw.run pos pins s σ H _ I h) fun ws s1 ⟨zs, H1, I1, rz, l1, q2⟩ => ⟨I1.kIn, ?_⟩
  rw [hks]
  exact run_err (us := []) T iC tI F1 hr hx I1 (Nat.zero_le _) (fun s' X' => hb.to s' [Value.ref (s1.heap.objs.size + 1)] ws X' rfl (rz.length.symm.trans l1)) (hb.rel (show Vals [V.ref (s1.heap.objs.size + 1)] [Value.ref (s1.heap.objs.size + 1)] from .cons rfl .nil) rz) (q2 _ (I1.hok.fresh (Nat.le_succ _)))
end
/-- an exception as a value: of the class at C, its dict -/
def ErrAt (H : Hp) (v : V) (C : Addr) (fs : List (Str × V)) : Prop := ∃ a d, v = .ref a ∧ H a = some (exo a C (some d)) ∧ H d = some (exd d fs)
/-- an exception as a value -/
def ErrIs (H : Hp) (v : V) (C : Addr) : Prop := ∃ a d, v = .ref a ∧ H a = some (exo a C d) ∧ ∀ dd, d = some dd → ∃ fs, H dd = some (exd dd fs)
theorem ErrAt.is {H : Hp} {v : V} {C : Addr} {fs : List (Str × V)} (h : ErrAt H v C fs) : ErrIs H v C := by
  obtain ⟨a, d, rfl, h1, h2⟩ := h
  exact ⟨a, some d, rfl, h1, fun dd e => ⟨fs, by cases e; exact h2⟩⟩
theorem ErrAt.same {H H' : Hp} {v : V} {C : Addr} {fs : List (Str × V)} (s : Same H H') (h : ErrAt H v C fs) : ErrAt H' v C fs := by
  obtain ⟨a, d, rfl, h1, h2⟩ := h
  exact ⟨a, d, rfl, s _ _ h1, s _ _ h2⟩
theorem ErrIs.same {H H' : Hp} {v : V} {C : Addr} (s : Same H H') (h : ErrIs H v C) : ErrIs H' v C := by
  obtain ⟨a, d, rfl, h1, h2⟩ := h
  exact ⟨a, d, rfl, s _ _ h1, fun dd e => (h2 dd e).imp fun fs q => s _ _ q⟩
/-- e.f -/
def tErrF (K : PySem.W.Frag) (f : Str) (te : TE) : TE := fun σ H Q => te σ H fun v H1 => ∃ C fs y, ErrAt H1 v C fs ∧ ExcC K C ∧ PySem.W.findIn K (.ref C) f = some none ∧ fs.lookup f = some y ∧ Q y H1
/-- isinstance(e, c) -/
def rErrI (K : PySem.W.Frag) : List V → Hp → VK → Prop := fun xs H Q => ∃ (v c : V) (u : Value) (C : Addr) (b : Bool), xs = [v, c] ∧ ErrIs H v C ∧ ExcC K C ∧ ClsV c u ∧ PySem.W.kitOne K (.ref C) u = some b ∧ Q (.bl b) H
section
variable {X : Cx} {e : Expr} {te : TE} {pos : Pos} {n : Str} {K : PySem.W.Frag}
theorem err_inst {pins : List (Addr × Obj)} {σ : L2.St} {H : Hp} {s : Shared} {a C : Addr} {d : Option Addr} (I : Inv X pins σ H s) (h1 : H a = some (exo a C d)) (h2 : ∀ dd, d = some dd → ∃ fs, H dd = some (exd dd fs)) :
    ∃ ox od, PySem.W.InstAt s.heap a ox C od := by
  obtain ⟨t1, ho⟩ := exo_at I.hok h1
  cases d with
  | none => exact ⟨_, none, ho, rfl, rfl, trivial⟩
  | some dd =>
    obtain ⟨fs, h3⟩ := h2 dd rfl
    obtain ⟨mA, hns, rel⟩ := exd_at I.hok h3
    obtain ⟨oD, hoD, _⟩ := lookIn_ns hns
    exact ⟨_, some oD, ho, rfl, rfl, hoD⟩
theorem pe_errF (hK : X.K = K) (he : PE X e te) (hb : attributeBase e n X.env (eval e X.env) = eval e X.env := by rfl) : PE X (.Attribute e n pos) (tErrF K n te) := by
  subst hK
  refine ⟨fun pins s σ H Q I h => ?_⟩
  refine attr_of hb (thn (he.run pins s σ H _ I h) fun u s1 ⟨x, H1, I1, rx, C, fs, y, ⟨a, d, ex, h1, h2⟩, T, hno, l, q⟩ => ?_)
  subst ex
  obtain rfl : u = Value.ref a := rx
  obtain ⟨t1, ho⟩ := exo_at I1.hok h1
  obtain ⟨mA, hns, rel⟩ := exd_at I1.hok h2
  obtain ⟨oD, hoD, hl⟩ := lookIn_ns hns
  obtain ⟨u, hu, ru⟩ := RelO.some_of (v := y) (o := mA n) (by rw [← l]; exact rel n)
  have J : PySem.W.InstAt s1.heap a _ C (some oD) := ⟨ho, rfl, rfl, hoD⟩
  exact HandSPX.exc_get I1.kIn J T.hg T.hk T.hs (PySem.W.findObj_own T.hd hno rfl (by rw [hl, hu])) (handed_of ru) ⟨y, H1, I1.tok _, ru, q⟩
theorem call_errI (hK : X.K = K) : CallR X (.builtin "isinstance") (rErrI K) := by
  subst hK
  intro pins s σ H xs us Q I r h
  obtain ⟨v, c, u, C, b, rfl, ⟨a, d, rfl, h1, h2⟩, T, kc, ans, q⟩ := h
  obtain ⟨u1, u2, rfl, r1, r2⟩ := vals2 r
  cases r1
  have e2 := kc.eq r2
  subst e2
  obtain ⟨ox, od, J⟩ := err_inst I h1 h2
  have cl : (PySem.W.clsIn X.K C).isSome = true := by
    obtain ⟨cd, hc, _⟩ := PySem.W.any_some T.hd
    rw [hc]
    rfl
  exact PySem.W.kia_one (PySem.W.kitx_exc cl T.hg T.hk T.hs T.ha T.hn T.ht T.hm) I.kIn J ans (fun z => nomatch z) fun tk => ⟨.bl b, H, I.kept (t' := tk) fun _ _ z => z, rfl, q⟩
end
/-- __init__(self, value): self.f = value -/
def sp_errI (K : PySem.W.Frag) (C : Addr) (f : Str) : Sp := fun vs H Q _ => ∃ (q : Addr) (y : V), vs = [.ref q, y] ∧ H q = some (exo q C none) ∧
  ∀ dx, H dx = none → dx ≠ q → Q .non (upd (upd H dx (exd dx [(f, y)])) q (exo q C (some dx)))
/-- what stands behind such a making -/
theorem err_made {H : Hp} {q C : Addr} {f : Str} {y : V} {Q : VK} (hq : H q = none) (k : ∀ H', Same H H' → ErrAt H' (.ref q) C [(f, y)] → Q (.ref q) H') :
    ∀ dx, (upd H q (exo q C none)) dx = none → dx ≠ q → Q (.ref q) (upd (upd (upd H q (exo q C none)) dx (exd dx [(f, y)])) q (exo q C (some dx))) := by
  intro dx hdx ne
  have hd : H dx = none := by rw [upd_ne ne] at hdx; exact hdx
  refine k _ (fun b o e => ?_) ⟨q, dx, rfl, upd_same, by rw [upd_ne ne, upd_same]⟩
  rw [upd_ne (ne_of_none e hq), upd_ne (ne_of_none e hd), upd_ne (ne_of_none e hq)]
  exact e
end Lb

set_option Elab.async false
set_option linter.all false
set_option maxRecDepth 100000
set_option maxHeartbeats 4000000
/-! C.m(e, ..), m a staticmethod that may raise, in the body of a try -/
namespace Lb
open PySem PySem.Spec PyProof.Rows L2
section
variable {X : Cx} {CX : CXT} {k : Nat} {C p g : Addr} {fd : FuncData} {ps : List Str} {sp : Sp} {E : L2.St → XK} {m : Str} {pos apos : Pos} {o e : Expr} {es : List Expr} {ta : TE} {t : TA}
def tSMethS (C : Addr) (sp : Sp) (E : L2.St → XK) (ta : TE) (t : TA) : TE := fun σ H Q => ta σ H fun x H1 => x = .ref C ∧ t σ H1 fun vs H2 => sp vs H2 Q (E σ)
theorem pe_smethS {pl : Sem Bool} (he : PE X o ta) (c : SMet X.K C m p g) (F : FnOk X.prog X.w X.K X.mg X.base CX k g fd ps sp) (hr : Room k X.A) (hb : Binds X.K fd ps []) (hx : ∀ σ, PassesAt CX X σ (E σ)) (ha : PA X (e :: es) t)
    (hst : starEach (e :: es) X.env = (false, eval e X.env) :: starEach es X.env := by rfl) (hpl : (backTo pos (starEach es X.env)).any (·.1) = false := by rfl)
    (ht : eval (.Call (.Attribute o m apos) (e :: es) [] pos) X.env = (do
      let ov ← eval o X.env
      standAt apos.atName
      let (f, first) ← holding [ov] (getMethod ov m pl)
      callWith pos f first (backTo pos (starEach (e :: es) X.env)) (backToKw pos (keywordEach [] X.env))) := by rfl) :
    PE X (.Call (.Attribute o m apos) (e :: es) [] pos) (tSMethS C sp E ta t) := by
  refine ⟨fun pins s σ H Q I h => ?_⟩
  refine PySem.W.methodCall_KW (pl := pl) (thn (he.run pins s σ H _ I h) fun u s1 ⟨x, H1, I1, rx, ex, q⟩ => ?_) ht
  subst ex
  obtain rfl : u = Value.ref C := rx
  refine getsm_ok I1 c fun s2 I2 => ?_
  refine PySem.W.callWith_K (first := []) (h₀ := X.base) I.ok.mod.kin c.kp (thn (ha.run pos pins s2 σ H1 _ I2 q) fun us s3 ⟨vs, H2, I3, rv, q2⟩ => ⟨I3.kIn, ?_⟩) hst hpl
  exact run_fnS F hr hb (hx σ) I3 rv q2
end
end Lb

set_option Elab.async false
set_option linter.all false
set_option maxRecDepth 100000
set_option maxHeartbeats 4000000
/-! C.m(k = v, ..), m a staticmethod that may raise, in the body of a try -/
namespace Lb
open PySem PySem.Spec PyProof.Rows L2
section
variable {X : Cx} {CX : CXT} {k : Nat} {f C p g : Addr} {fd : FuncData} {ps ks : List Str} {sp : Sp} {E : L2.St → XK} {m : Str} {pos apos : Pos} {o : Expr} {kws : List Keyword} {ta : TE} {tk : TA} {gf : List Value → List Value → List Value} {gV : List V → List V → List V}
theorem run_kbnS {n : Nat} {pins : List (Addr × Obj)} {σ : L2.St} {H : Hp} {s : Shared} {Q : VK} {us ws : List Value} {vs zs : List V} (F : FnOk X.prog X.w X.K X.mg X.base CX k f fd ps sp) (hr : Room k X.A) (hb : KBn X.K fd ps n ks gf gV) (hx : PassesAt CX X σ (E σ))
    (I : Inv X pins σ H s) (r : Vals vs us) (rz : Vals zs ws) (l1 : vs.length = n) (l2 : zs.length = ks.length) (h : sp (gV vs zs) H Q (E σ)) : wpAny (model X.prog X.w) X.A (call (.ref f) us (ks.zip ws)) (EP X pins σ Q) X.xe s := by
  refine wpAny_call (codeAny_mono (F.run X.A X.stack s H ⟨us, ks.zip ws⟩ (gf us ws) (gV vs zs) Q (E σ) hr I.env0 (hb.to s us ws I.kIn (r.length.symm.trans l1) (rz.length.symm.trans l2)) (hb.rel r rz) h) fun r s' hq => ?_)
  cases r with
  | error e => exact hx pins H s e s' I hq
  | ok fl =>
    cases fl with
    | ret u => exact I.after hq
    | next => exact False.elim hq
    | brk => exact False.elim hq
    | cont => exact False.elim hq
def tSMethKS (C : Addr) (nk : Nat) (sp : Sp) (gV : List V → List V → List V) (E : L2.St → XK) (ta : TE) (tk : TA) : TE := fun σ H Q => ta σ H fun x H1 => x = .ref C ∧ tk σ H1 fun zs H2 => zs.length = nk ∧ sp (gV [] zs) H2 Q (E σ)
theorem pe_smethKS {pl : Sem Bool} (he : PE X o ta) (c : SMet X.K C m p g) (F : FnOk X.prog X.w X.K X.mg X.base CX k g fd ps sp) (hr : Room k X.A) (hb : KBn X.K fd ps 0 ks gf gV) (hx : ∀ σ, PassesAt CX X σ (E σ)) (hkw : PK X kws tk)
    (hall : (backToKw pos (keywordEach kws X.env)).all (·.1.isSome) = true := by rfl) (hks : (backToKw pos (keywordEach kws X.env)).filterMap (·.1) = ks := by rfl)
    (hpl : ((backTo pos (starEach [] X.env)).any (·.1) || (backToKw pos (keywordEach kws X.env)).any (·.1.isNone)) = false := by rfl)
    (ht : eval (.Call (.Attribute o m apos) [] kws pos) X.env = (do
      let ov ← eval o X.env
      standAt apos.atName
      let (f, first) ← holding [ov] (getMethod ov m pl)
      callWith pos f first (backTo pos (starEach [] X.env)) (backToKw pos (keywordEach kws X.env))) := by rfl) :
    PE X (.Call (.Attribute o m apos) [] kws pos) (tSMethKS C ks.length sp gV E ta tk) := by
  refine ⟨fun pins s σ H Q I h => ?_⟩
  refine PySem.W.methodCall_KW (pl := pl) (thn (he.run pins s σ H _ I h) fun u s1 ⟨x, H1, I1, rx, ex, q⟩ => ?_) ht
  subst ex
  obtain rfl : u = Value.ref C := rx
  refine getsm_ok I1 c fun s2 I2 => ?_
  refine PySem.W.callWith_KW0 (first := []) (h₀ := X.base) I.ok.mod.kin c.kp hall ?_ hpl
  refine thn (hkw.run pos pins s2 σ H1 _ I2 q) fun ws s3 ⟨zs, H2, I3, rz, l2, q2⟩ => ⟨I3.kIn, ?_⟩
  rw [hks]
  exact run_kbnS (us := []) (vs := []) F hr hb (hx σ) I3 .nil rz rfl l2 q2
end
end Lb

set_option Elab.async false
set_option linter.all false
set_option maxRecDepth 100000
set_option maxHeartbeats 2000000
/-! own error classes: what except and isinstance say -/
namespace Lb
open PySem L2
theorem exm_sub {K : PySem.W.Frag} {S C : Addr} (h1 : PySem.W.subIn K (.ref S) (.type "BaseException") = some true) (e1 : PySem.W.subIn K (.ref C) (.type "BaseException") = some true) (h2 : PySem.W.isClsIn K C = true) (h3 : PySem.W.typeIn K (.ref C) = some (.type "type")) (h4 : PySem.W.subIn K (.ref S) (.ref C) = some b) :
    PySem.W.exmOne K (.ref S) (.ref C) = some b := by
  have e1 : (PySem.W.subIn K (.ref C) (.type "BaseException") == some true) = true := by rw [e1] <;> rfl
  have e2 : ((PySem.W.clsIn K C).isSome && PySem.W.typeIn K (.ref C) == some (.type "type")) = true := by
    have h2' : (PySem.W.clsIn K C).isSome = true := h2
    rw [h2', h3] <;> rfl
  show (if (PySem.W.subIn K (.ref C) (.type "BaseException") == some true) = true then (if ((PySem.W.clsIn K C).isSome && PySem.W.typeIn K (.ref C) == some (.type "type")) = true then PySem.W.subIn K (.ref S) (.ref C) else none) else none) = some b
  rw [if_pos e1, if_pos e2]
  exact h4
theorem kit_sub {K : PySem.W.Frag} {A C : Addr} (h1 : PySem.W.isClsIn K C = true) (h2 : PySem.W.typeIn K (.ref C) = some (.type "type")) (h3 : PySem.W.subIn K (.ref A) (.ref C) = some true) :
    PySem.W.kitOne K (.ref A) (.ref C) = some true := by
  unfold PySem.W.kitOne
  split
  · rfl
  · unfold PySem.W.kitCls
    have h1' : (PySem.W.clsIn K C).isSome = true := h1
    dsimp only
    rw [h1', h2]
    rw [if_pos (by simp)]
    exact h3
end Lb

set_option Elab.async false
set_option linter.all false
set_option maxRecDepth 100000
set_option maxHeartbeats 4000000
/-! what an own exception class below one own family is, from its place in the written part alone -/
namespace Lb
open PySem L2
abbrev veT : List Value := [.type "ValueError", .type "Exception", .type "BaseException", .type "object"]
abbrev leT : List Value := [.type "LookupError", .type "Exception", .type "BaseException", .type "object"]
abbrev reT : List Value := [.type "RuntimeError", .type "Exception", .type "BaseException", .type "object"]
/-- the class at C, below the family at L, whose built-in classes are tail -/
def Abv (K : PySem.W.Frag) (C L : Addr) (tail : List Value) : Prop := ∃ B newId initId nm q N bs sn sub ab col dd k0 k1 k2 k3 k5, Fam B newId initId tail ∧ K.lookup C = some (excClassObj nm q C N bs (.ref L :: tail) true sn sub ab col dd k0 k1 k2 k3 k5 newId)
/-- a family: a class of one's own over built-in ones -/
structure FamC (K : PySem.W.Frag) (L : Addr) : Prop where
  ic : PySem.W.isClsIn K L = true
  ty : PySem.W.typeIn K (.ref L) = some (.type "type")
  ex : PySem.W.subIn K (.ref L) (.type "BaseException") = some true
section
variable {K : PySem.W.Frag} {C L D : Addr} {tail : List Value}
theorem Abv.cl (h : Abv K C L tail) : ∃ cd, PySem.W.clsIn K C = some cd ∧ cd.mro = .ref C :: .ref L :: tail ∧ cd.hasDict = true := by
  obtain ⟨_, _, _, nm, q, N, bs, sn, sub, ab, col, dd, k0, k1, k2, k3, k5, _, hC⟩ := h
  exact ⟨{ name := nm, bases := bs, mro := .ref C :: .ref L :: tail, ns := N, qualname := q, hasDict := true, slotNames := sn, subclasses := sub, abstract := ab, collection := col, hasDel := false }, by unfold PySem.W.clsIn; rw [hC] <;> rfl, rfl, rfl⟩
theorem Abv.ic (h : Abv K C L tail) : PySem.W.isClsIn K C = true := by
  obtain ⟨cd, e, _⟩ := h.cl
  unfold PySem.W.isClsIn
  rw [e]
  rfl
theorem Abv.ty (h : Abv K C L tail) : PySem.W.typeIn K (.ref C) = some (.type "type") := by
  obtain ⟨_, _, _, nm, q, N, bs, sn, sub, ab, col, dd, k0, k1, k2, k3, k5, _, hC⟩ := h
  show (K.lookup C).map (·.cls) = _
  rw [hC]
  rfl
theorem Abv.sub (h : Abv K C L tail) (b : Value) : PySem.W.subIn K (.ref C) b = some ((Value.ref C :: .ref L :: tail).contains b) := by
  obtain ⟨cd, e, m, _⟩ := h.cl
  show PySem.W.mroIn K C b = _
  unfold PySem.W.mroIn
  rw [e, Option.bind_some, m, if_neg (show ¬ (List.isEmpty (Value.ref C :: .ref L :: tail) = true) from Bool.false_ne_true)]
theorem Abv.hd (h : Abv K C L tail) : PySem.W.hasDictIn K C = true := by
  obtain ⟨cd, e, _, d⟩ := h.cl
  unfold PySem.W.hasDictIn
  rw [e]
  exact d
theorem Abv.subT (h : Abv K C L tail) {n : String} {b : Bool} (e : tail.contains (.type n) = b) : PySem.W.subIn K (.ref C) (.type n) = some b := by
  rw [h.sub, List.contains_cons, fm_con, e]
  rfl
theorem Abv.mo (h : Abv K C L tail) : PySem.W.mroIn K C (.type "object") = some true := by
  have hs := h
  obtain ⟨_, _, _, nm, q, N, bs, sn, sub, ab, col, dd, k0, k1, k2, k3, k5, FM, hC⟩ := h
  exact hs.subT FM.obj
theorem Abv.ex (h : Abv K C L tail) : PySem.W.subIn K (.ref C) (.type "BaseException") = some true := by
  have hs := h
  obtain ⟨_, _, _, nm, q, N, bs, sn, sub, ab, col, dd, k0, k1, k2, k3, k5, FM, hC⟩ := h
  exact hs.subT FM.base.hasBase
theorem Abv.subR (h : Abv K C L tail) (ht : ∀ D, tail.contains (.ref D) = false) (D : Addr) : PySem.W.subIn K (.ref C) (.ref D) = some (decide (D = C ∨ D = L)) := by
  rw [h.sub, List.contains_cons, List.contains_cons, ht]
  congr 1
  simp only [Bool.or_false]
  by_cases h1 : D = C
  · subst h1; simp
  · by_cases h2 : D = L
    · subst h2; simp
    · have e1 : (Value.ref D == Value.ref C) = false := by simpa using h1
      have e2 : (Value.ref D == Value.ref L) = false := by simpa using h2
      rw [e1, e2]
      simp [h1, h2]
/-- isinstance(C(..), D) -/
theorem kit_any {t c : Value} {b : Bool} (h : PySem.W.kitCls K t c = some b) (hs : t = c → b = true) : PySem.W.kitOne K t c = some b := by
  unfold PySem.W.kitOne
  by_cases e : t = c
  · rw [if_pos (by rw [e]; simp), hs e]
  · rw [if_neg (by simpa using e)]
    exact h
theorem Abv.kit (h : Abv K C L tail) (ht : ∀ D, tail.contains (.ref D) = false) (ic : PySem.W.isClsIn K D = true) (ty : PySem.W.typeIn K (.ref D) = some (.type "type")) : PySem.W.kitOne K (.ref C) (.ref D) = some (decide (D = C ∨ D = L)) := by
  refine kit_any ?_ fun e => ?_
  · unfold PySem.W.kitCls
    have ic' : (PySem.W.clsIn K D).isSome = true := ic
    dsimp only
    rw [ic', ty, if_pos (by simp)]
    exact h.subR ht D
  · cases e
    simp
theorem Abv.kitT (h : Abv K C L tail) {n : String} {b : Bool} (hm : PySem.W.kitMeta n = true) (e : tail.contains (.type n) = b) : PySem.W.kitOne K (.ref C) (.type n) = some b := by
  refine kit_any ?_ fun e => nomatch e
  unfold PySem.W.kitCls
  dsimp only
  rw [if_pos hm]
  exact h.subT e
/-- except L, the exception of the class at C -/
theorem Abv.exm (h : Abv K C L tail) (ht : ∀ D, tail.contains (.ref D) = false) (F : FamC K D) : PySem.W.exmOne K (.ref C) (.ref D) = some (decide (D = C ∨ D = L)) := exm_sub h.ex F.ex F.ic F.ty (h.subR ht D)
theorem Abv.ox (h : Abv K C L tail) (sa : PySem.W.findIn K (.ref C) "__setattr__" = some (some (.builtin "object.__setattr__"))) (kC : PySem.W.keepIn K (.ref C) = true) : OexF K C := by
  have hs := h
  obtain ⟨B, newId, initId, nm, q, N, bs, sn, sub, ab, col, dd, k0, k1, k2, k3, k5, FM, hC⟩ := h
  exact ⟨⟨B, newId, initId, tail, nm, q, N, bs, L, sn, sub, ab, col, dd, k0, k1, k2, k3, k5, FM, hC⟩, sa, hs.ex, hs.ty, kC⟩
end
end Lb

set_option Elab.async false
set_option linter.all false
set_option maxRecDepth 100000
set_option maxHeartbeats 4000000
/-! raise C(), C's own __init__ storing nothing -/
namespace Lb
open PySem L2
section
variable {X : Cx} {x : Str} {C f : Addr} {p pos : Pos} {k : Nat} {fd : FuncData} {ps : List Str} {sp : Sp} {CX : CXT}
theorem bare_end {pins : List (Addr × Obj)} {σ : L2.St} {H1 H2 : Hp} {Q : XK} {hp hp2 h2 : Heap} {g1 g2 : Array GenState} {d1 d2 : Drawn} {t1 t2 : Nat} {os1 os2 : OsState} {a : Addr} (T : Raises X (.ref C)) (I1 : Inv X pins σ H1 ⟨hp, g1, d1, t1, os1⟩)
    (ha : hp.objs.size ≤ a) (k : ∀ b o, hp.get? b = some o → hp2.get? b = some o) (un : Un (frs X.stack) [] (upd H1 a (exo a C none)) H2 hp2 h2) (hok : HOk X.prog X.w H2 h2) (ho : os2 = os1) (hb : PyProof.Rows.AllBare g2)
    (ea : H2 a = some (exo a C none)) (q : Q (.ref C) none (del H2 a)) : MkP X pins σ Q (.ref a) ⟨h2, g2, d2, t2, os2⟩ := by
  obtain ⟨t0, hoe⟩ := exo_at hok ea
  have hn : H1 a = none := I1.hok.fresh ha
  obtain ⟨G, r1, r2⟩ := restrict h2 fun b => decide (b ≠ a)
  have gk : ∀ b, b ≠ a → G.get? b = h2.get? b := fun b hb => r1 b (decide_eq_true hb)
  have ge : G.get? a = none := r2 a (by simp)
  have nha : ∀ {b : Addr} {o : Obj}, hp.get? b = some o → b ≠ a := fun z => Nat.ne_of_lt (Nat.lt_of_lt_of_le (Heap.lt_size z) ha)
  have up : ∀ {b : Addr}, b ≠ a → H1 b = none → upd H1 a (exo a C none) b = none := fun hb n => by rw [upd_ne hb]; exact n
  have U : Un (frs X.stack) [] H1 (del H2 a) hp G := {
    keep := fun b o z n hf hx => (gk b (nha z)).trans (un.keep b o (k b o z) (up (nha z) n) hf hx)
    slot := fun b o z n hf hx => by
      rw [gk b (nha z)]
      exact un.slot b o (k b o z) (up (nha z) n) hf hx
    free := fun b o z n hx => (del_ne (nha z)).trans (un.free b o (k b o z) (up (nha z) n) hx)
    there := fun b o z hx => by
      rw [gk b (nha z)]
      exact un.there b o (k b o z) hx
    tups := fun b xs z => (del_ne (ne_of_none z hn)).trans (un.tups b xs (by rw [upd_ne (ne_of_none z hn)]; exact z))
    frzs := fun b o v z => (del_ne (ne_of_none z hn)).trans (un.frzs b o v (by rw [upd_ne (ne_of_none z hn)]; exact z))
    tbls := fun b ps z => by
      rw [del_ne (ne_of_none z hn)]
      exact un.tbls b ps (by rw [upd_ne (ne_of_none z hn)]; exact z) }
  have hok3 : HOk X.prog X.w (del H2 a) G := fun b o z => by
    have hba : b ≠ a := fun e => by
      rw [e, del_same] at z
      cases z
    rw [del_ne hba] at z
    have noa : ∀ {c : Addr}, H2 c = some (.own b) → c ≠ a := fun {c} hc => at_ne ea hc exo_own
    refine (hok b o z).stay (fun c v hc y => ?_) (fun c hc => (del_ne (noa hc)).trans hc) (fun c xs hc => (del_ne (at_ne ea hc exo_tup)).trans hc)
    have hca : c ≠ a := by
      rcases hc with hc | hc
      · rw [hc]
        exact hba
      · exact noa hc
    exact (gk c hca).trans y
  have J : Inv X pins σ (del H2 a) ⟨G, g2, d2, t2, os2⟩ := I1.call' (ch := []) ho U hok3 hb (fun b z => absurd z (by simp))
  refine ⟨a, _, _, ⟨G, g2, d2, t2, os2⟩, _, .ref C, none, rfl, J, fun b o z => ?_, ge, hoe, ⟨rfl, rfl⟩, rfl, rfl, del_same, rfl, hb, T, q⟩
  by_cases hba : b = a
  · rw [hba, ge] at z
    cases z
  · exact (gk b hba).symm.trans z
/-- C(), to be raised -/
def tMkB (C : Addr) (sp : Sp) : L2.St → Hp → XK → Prop := fun σ H Q => ∀ a, H a = none → sp [.ref a] (upd H a (exo a C none)) (fun v H2 => v = .non ∧ H2 a = some (exo a C none) ∧ Q (.ref C) none (del H2 a)) (fun _ _ _ => False)
theorem pmk_bare (T : OexF X.K C) (iC : PySem.W.findIn X.K (.ref C) "__init__" = some (some (.ref f))) (tI : PySem.W.typeIn X.K (.ref f) = some (.type "function"))
    (F1 : FnOk X.prog X.w X.K X.mg X.base CX k f fd ps sp) (hr : Room (k + 1) X.A) (hb : Binds X.K fd ps []) (hx : Passes CX X (fun _ _ _ => False)) (hg : Gl X x) (hm : X.mg x = some (.ref C)) (hdb : (x == ("__debug__" : Str)) = false := by decide) :
    PMk X (.Call (.Name x p) [] [] pos) (tMkB C sp) := by
  intro pins s σ H Q I h
  obtain ⟨B, newId, initId, tail, nm, q, N, bs, L, sn, sub, ab, col, dd, k0, k1, k2, k3, k5, FM, hC⟩ := T.cls
  refine wpAny_Call_Name_kw (ld_glob I hg hm (PySem.W.callWith_K0 I.kIn T.kC ?_) hdb)
  show wpAny _ _ (call (.ref C) []) _ _ _
  obtain ⟨hp, g, dr, tk, os⟩ := s
  have hsz : hp.objs.size ≤ hp.objs.size + 1 := Nat.le_succ _
  have hq := h _ (I.hok.fresh hsz)
  have kk : ∀ b o, hp.get? b = some o → ((hp.push (PySem.W.kdv_tup [])).push (PySem.HandSPX.excO C hp.objs.size)).get? b = some o := fun b o e => Heap.get?_push_of_some _ (Heap.get?_push_of_some _ e)
  have I2 : Inv X pins σ (upd H (hp.objs.size + 1) (exo (hp.objs.size + 1) C none)) ⟨(hp.push (PySem.W.kdv_tup [])).push (PySem.HandSPX.excO C hp.objs.size), g, dr, tk, os⟩ :=
    I.laid (t' := tk) (a := hp.objs.size + 1) (o := exo (hp.objs.size + 1) C none) (h' := (hp.push (PySem.W.kdv_tup [])).push (PySem.HandSPX.excO C hp.objs.size)) kk hsz (exo_ok (t1 := hp.objs.size) (by heap_get))
  have r2 : Vals [V.ref (hp.objs.size + 1)] [Value.ref (hp.objs.size + 1)] := .cons rfl .nil
  have b := hb ⟨(hp.push (PySem.W.kdv_tup [])).push (PySem.HandSPX.excO C hp.objs.size), g, dr, tk, os⟩ [Value.ref (hp.objs.size + 1)] I2.kIn (by rw [List.append_nil]; exact r2.length.symm.trans (F1.len _ _ _ _ hq))
  rw [List.append_nil] at b
  refine wpAny_call (PySem.HandSPX.call_own FM.base (fm_con L tail) (I.kIn _ _ hC) (PySem.W.looks_findIn I.kIn iC) (fun self => PySem.W.bind_fn I.kIn self tI) (rest := []) (Nat.zero_le _)
    (codeAny_mono (F1.run _ X.stack _ _ ⟨[Value.ref (hp.objs.size + 1)], []⟩ [Value.ref (hp.objs.size + 1)] _ _ (fun _ _ _ => False) (hr.make C [] []) (I2.env0.make C [] []) b r2 hq) fun r s' hq' => ?_))
  match r, hq' with
  | .error er, hq' => exact hx pins σ _ _ er s' I2 hq'
  | .ok (.ret u), hq' =>
    obtain ⟨v, H2, os2, bare2, un2, hok2, rv, ev, ea, q2⟩ := hq'
    subst ev
    obtain ⟨h2, g2, d2, t2, os'⟩ := s'
    exact ⟨rv, bare_end (raises_own T.exC T.tyC) I hsz kk un2 hok2 os2 bare2 ea q2⟩
  | .ok .next, hq' => exact hq'.elim
  | .ok .brk, hq' => exact hq'.elim
  | .ok .cont, hq' => exact hq'.elim
end
end Lb

set_option Elab.async false
set_option linter.all false
set_option maxRecDepth 100000
set_option maxHeartbeats 4000000
/-! own `__iter__`, `__len__`, `__getitem__` -/
namespace Lb
open PySem PySem.Spec PyProof.Rows L2
/-- a def whose promise knows how much is laid -/
structure FnS (P : Program) (w : World) (K : PySem.W.Frag) (mg : Str → Option Value) (base : Heap) (k : Nat) (f : Addr) (fd : FuncData) (ps : List Str) (sp : Nat → Sp) : Prop where
  len : ∀ n vs H Q E, sp n vs H Q E → vs.length = ps.length
  run : ∀ (A : Around) (outer : List Env) (s : Shared) (H : Hp) (args : Args) (us : List Value) (vs : List V) (Q : VK) (E : XK),
    Room k A → Env0 P w K mg base A outer s H → BindsTo s fd args (ps.zip us) → Vals vs us → sp s.heap.objs.size vs H Q E →
    codeAny (model P w) A (.call (.ref f) args) (CR CX0 outer P w H s Q E) s
section
variable {P : Program} {w : World} {K : PySem.W.Frag} {mg : Str → Option Value} {base : Heap} {k j : Nat} {f : Addr} {fd : FuncData} {ps : List Str} {sp : Nat → Sp}
theorem FnS.mono (F : FnS P w K mg base j f fd ps sp) (h : j ≤ k) : FnS P w K mg base k f fd ps sp :=
  ⟨F.len, fun A outer s H args us vs Q E hr => F.run A outer s H args us vs Q E (hr.mono h)⟩
theorem okS {x qual : Str} {st : Stmt} {N : List Str} (F : Fun K x qual st f fd) (S : FnScope N ps (defScope st))
    (len : ∀ n vs H Q E, sp n vs H Q E → vs.length = ps.length)
    (hbody : ∀ (cdv : Value) (A : Around) (outer : List Env) (s : Shared) (H : Hp) (vs : List V) (Q : VK) (E : XK),
      Room k (A.deeper (envOfC qual (defScope st) s.heap.objs.size f cdv)) → sp s.heap.objs.size vs H Q E →
      ∃ t, PSs (cxOf CX0 P w K mg base N qual (defScope st) f cdv A outer s H E).nox (defBody st) t ∧
        t { nx := fun _ H' => Q .non H', rt := Q } (start N vs) H) :
    FnS P w K mg base (k + 1) f fd ps sp := by
  obtain ⟨oc, od, kV, doc, pm, an, cdv, ct, osl, rfl, lk, hcd⟩ := F.ex
  refine ⟨len, fun A outer s H args us vs Q E hr e0 hb r hsp => ?_⟩
  have hl := len _ vs H Q E hsp
  have KX : K.In s.heap := e0.mod.kin.keeps fun b o e => (e0.bs b o e).1
  have lim : s.heap.NoLimit := e0.mod.nolimit.keeps fun b o e => (e0.bs b o e).1
  have hkind : ∀ y ∈ ps.zip us, (defScope st).names.lookup y.1 = some .local ∨
      ((defScope st).names.lookup y.1 = some .cell ∧ ((cellsFrom (s.heap.objs.size + 1) (defScope st).names []).lookup y.1).isSome = true) := by
    rintro ⟨n, v⟩ hy
    rcases S.par n (List.of_mem_zip hy).1 with q | q
    · exact .inl q
    · exact .inr ⟨q, PySem.W.cellsFrom_some _ _ _ (.inl q)⟩
  refine codeAny_call_function hr.depth (KX _ _ lk) rfl S.co S.gen rfl (PySem.W.codeRec_of KX hcd) (hb _ _ _ _ ?_)
  refine wpAny_newFunctionEnv_cells S.kind hkind fun env he s1 y => ?_
  subst he
  refine ⟨lim.keeps y.toInCall.keep, codeAny_func ?_⟩
  obtain ⟨t, ht, hq⟩ := hbody cdv A outer s H vs Q E (hr.deeper _) hsp
  have I := inv_start (CX := CX0) (E := E) S hr.hd e0 hl r y
  have fin : ∀ {σ' : L2.St} {H' : Hp} {s' : Shared} {v : V} {u : Value},
      Inv (cxOf CX0 P w K mg base N qual (defScope st) f cdv A outer s H E) [] σ' H' s' → RelV v u → Q v H' → CE outer P w H s Q u s' :=
    fun {σ' H' s' v u} J rv q => ⟨v, H', J.os, J.bare, J.base, J.hok, rv, q⟩
  refine wpAny_mono (ht.nox.run [] s1 (start N vs) H _ I hq) (fun fl s' hs => ?_) fun _ _ hs => hs
  cases fl with
  | ret u =>
    obtain ⟨v, σ', H', J, rv, q⟩ := hs
    exact fin J rv q
  | next =>
    obtain ⟨σ', H', J, q⟩ := hs
    exact fin (v := V.non) (u := Value.none) J rfl q
  | brk => exact hs.elim fun _ h => h.elim fun _ h => h.2.elim
  | cont => exact hs.elim fun _ h => h.elim fun _ h => h.2.elim
end
/-- what `__iter__` promises that gives the iterator of a list of its own -/
def sp_it (K : PySem.W.Frag) (C : Addr) (fld : Str) : Nat → Sp := fun n vs H Q _ => ∃ (a dx : Addr) (fs : List (Str × V)) (l : Addr) (xs : List V), vs = [.ref a] ∧ H a = some (.ins C dx fs) ∧ fs.lookup fld = some (.ref l) ∧ SqL K H l xs ∧
  ∀ it, H it = none → n ≤ it → Q (.ref it) (upd H it (ItO l it 0))
section
variable {X : Cx} {pins : List (Addr × Obj)} {σ : L2.St} {H : Hp} {s : Shared} {a C dx g l : Addr} {fs : List (Str × V)} {fld : Str} {k : Nat} {fd : FuncData} {xs : List V}
theorem it_run {A : Around} {Ex : Value → Shared → Prop} {Q : Value → Shared → Prop} (hs : PySem.W.findIn X.K (.ref C) "__iter__" = some (some (.ref g))) (hf : PySem.W.isFn X.K (.ref g) = true) (F : FnS X.prog X.w X.K X.mg X.base k g fd ["self"] (sp_it X.K C fld))
    (hb : Binds X.K fd ["self"] []) (sb : Sub X k A) (I : Inv X pins σ H s) (ha : H a = some (.ins C dx fs)) (hl : fs.lookup fld = some (.ref l)) (hS : SqL X.K H l xs)
    (h : ∀ it s', s.heap.objs.size ≤ it → H it = none → s'.heap.IsListIter it l 0 → Inv X pins σ H s' → FpOk X pins H it → Q (.ref it) s') :
    wpAny (model X.prog X.w) A (pyIter (.ref a)) Q Ex s := by
  obtain ⟨od, J⟩ := inst_at I ha
  obtain ⟨m, hF⟩ := I.fr
  refine PySem.W.owit_iter hF I.ok.mod.kin J hs hf ?_
  have e0 : Env0 X.prog X.w X.K X.mg X.base A X.stack s H := by
    have e := I.env0
    exact ⟨by rw [sb.fr]; exact e.frames, e.mod, e.bs, e.bsz, e.funs, e.frf, e.hok, e.bare⟩
  refine wpAny_call (codeAny_mono (F.run A X.stack s H ⟨[.ref a], []⟩ [.ref a] [.ref a] (fun v H' => ∃ it, v = .ref it ∧ s.heap.objs.size ≤ it ∧ H it = none ∧ H' = upd H it (ItO l it 0)) (fun _ _ _ => False) sb.room e0 (hb s [.ref a] I.kIn rfl) (.cons rfl .nil)
    ⟨a, dx, fs, l, xs, rfl, ha, hl, hS, fun it h0 hn => ⟨it, rfl, hn, h0, rfl⟩⟩) fun r s' hq => ?_)
  cases r with
  | error e => exact False.elim hq
  | ok fl =>
    cases fl with
    | next => exact False.elim hq
    | brk => exact False.elim hq
    | cont => exact False.elim hq
    | ret u =>
      obtain ⟨v, H', I', rv, it, ev, hn, h0, eH⟩ := I.after hq
      subst ev
      subst eH
      obtain rfl : u = Value.ref it := rv
      have eo := itO_get I' upd_same
      unfold PySem.W.OwitIt
      refine wpAny_specialOf (name := "__next__") (T := "list_iterator") ⟨_, eo, rfl⟩ slot_listiter_next.lookup ?_
      have I2 := ItX.inv_drop I' upd_same
      have fp := ItX.inv_fp I' upd_same (Nat.le_trans I.sz hn)
      rw [ItX.dropH_upd h0] at I2 fp
      exact h it s' hn h0 ⟨_, eo, rfl, rfl⟩ I2 fp
/-- for over an instance -/
def iOwn (K : PySem.W.Frag) (C : Addr) (fld : Str) (te : TE) : TI := fun σ H R => te σ H fun x H1 => ∃ (a dx : Addr) (fs : List (Str × V)) (l : Addr) (xs : List V), x = .ref a ∧ H1 a = some (.ins C dx fs) ∧ fs.lookup fld = some (.ref l) ∧ SqL K H1 l xs ∧ R (Itl K l) H1
theorem pi_own {K : PySem.W.Frag} {tg e : Expr} {te : TE} (hK : X.K = K) (hs : PySem.W.findIn K (.ref C) "__iter__" = some (some (.ref g))) (hf : PySem.W.isFn K (.ref g) = true) (F : FnS X.prog X.w K X.mg X.base k g fd ["self"] (sp_it K C fld)) (hb : Binds K fd ["self"] [])
    (hr : Room k X.A) (he : PE X e te) : PI X tg e (iOwn K C fld te) := by
  subst hK
  refine ⟨fun pins s σ H R I h => ?_⟩
  refine thn (he.run pins s σ H _ I h) fun u s1 ⟨x, H1, I1, r1, a, dx, fs, l, xs, ex, ha, hl, hS, q⟩ => ?_
  subst ex
  obtain rfl : u = Value.ref a := r1
  refine it_run hs hf F hb ⟨hr, rfl⟩ I1 ha hl hS fun it s' hn h0 st I2 fp => ?_
  refine ⟨it, [it], _, _, H1, rfl, I2, turn_list l it, st, fun b hb => ?_, q⟩
  have e : b = it := by simpa using hb
  rw [e]
  exact fp
/-- len(x), x an instance with `__len__` -/
def rLenOwn (C : Addr) (sp : Sp) : List V → Hp → VK → Prop := fun xs H Q => ∃ (a dx : Addr) (fs : List (Str × V)), xs = [.ref a] ∧ H a = some (.ins C dx fs) ∧ sp [.ref a] H (fun v H' => ∃ n : Nat, v = .int n ∧ n < 2 ^ 62 ∧ Q (.int n) H') (fun _ _ _ => False)
theorem len_run {A : Around} {Ex : Value → Shared → Prop} {Q : VK} {R : Value → Shared → Prop} {sp : Sp} {n : Nat} (hs : PySem.W.findIn X.K (.ref C) "__len__" = some (some (.ref g))) (hf : PySem.W.isFn X.K (.ref g) = true) (F : FnR X.prog X.w X.K X.mg X.base CX0 n g sp)
    (sb : Sub X n A.in1) (I : Inv X pins σ H s) (ha : H a = some (.ins C dx fs)) (hsp : sp [.ref a] H (fun v H' => ∃ n : Nat, v = .int n ∧ n < 2 ^ 62 ∧ Q (.int n) H') (fun _ _ _ => False))
    (h : ∀ (m : Nat) t s' H', m < 2 ^ 62 → Inv X pins σ H' s' → Q (.int m) H' → R (.int m t) s') :
    wpAny (model X.prog X.w) A (call (.builtin "len") [.ref a]) R Ex s := by
  obtain ⟨od, J⟩ := inst_at I ha
  obtain ⟨m, hF⟩ := I.fr
  refine PySem.W.len_K hF I.ok.mod.kin J hs hf ?_
  have e0 : Env0 X.prog X.w X.K X.mg X.base A.in1 X.stack s H := by
    have e := I.env0
    exact ⟨by rw [sb.fr]; exact e.frames, e.mod, e.bs, e.bsz, e.funs, e.frf, e.hok, e.bare⟩
  refine wpAny_mono (call_at0 (us := [.ref a]) (ws := [.ref a]) F sb.room e0 I (.cons rfl .nil) hsp) (fun v s' z => ?_) fun _ _ x => x
  obtain ⟨z', H', I', rz, k, ez, hk, q⟩ := z
  subst ez
  obtain ⟨t, rfl⟩ := (show ∃ t, v = Value.int k t from rz)
  exact ⟨⟨by omega, by omega⟩, h k _ _ _ hk (I'.tok _) q⟩
theorem call_lenOwn {K : PySem.W.Frag} {sp : Sp} {n : Nat} (hK : X.K = K) (hs : PySem.W.findIn K (.ref C) "__len__" = some (some (.ref g))) (hf : PySem.W.isFn K (.ref g) = true) (F : FnR X.prog X.w K X.mg X.base CX0 n g sp) (hr : Room (n + 1) X.A) :
    CallR X (.builtin "len") (rLenOwn C sp) := by
  subst hK
  intro pins s σ H xs us Q I r h
  obtain ⟨a, dx, fs, rfl, ha, q⟩ := h
  obtain rfl := Vals.ref1 r
  exact len_run hs hf F ⟨hr.in1, rfl⟩ I ha q fun m t s' H' hm I' q => ⟨.int m, _, I', ⟨t, rfl⟩, q⟩
/-- x[v], x an instance with `__getitem__`, which may raise -/
def tGetOwn (C : Addr) (sp : Sp) (E : XK) (ta tb : TE) : TE := fun σ H Q => ta σ H fun x H1 => tb σ H1 fun y H2 => ∃ (a dx : Addr) (fs : List (Str × V)), x = .ref a ∧ H2 a = some (.ins C dx fs) ∧ sp [x, y] H2 Q E
theorem pe_getOwn {K : PySem.W.Frag} {CX : CXT} {sp : Sp} {E : XK} {n : Nat} {x b : Expr} {ta tb : TE} {pos : Pos} (hK : X.K = K) (hq : PySem.W.noSeq K C = true) (hs : PySem.W.findIn K (.ref C) "__getitem__" = some (some (.ref g))) (hfn : PySem.W.fnIn K g = true) (hf : PySem.W.isFn K (.ref g) = true)
    (F : FnR X.prog X.w K X.mg X.base CX n g sp) (hr : Room (n + 1) X.A) (hx : Passes CX X E) (ha : PE X x ta) (hb : PE X b tb) (hp : PlainIx b)
    (hsl : ∀ o i, subscripted b true o i = runValue (.builtin "lifetime.subscript" ⟨[o, i], []⟩) := by exact fun _ _ => rfl) : PE X (.Subscript x b pos) (tGetOwn C sp E ta tb) := by
  subst hK
  refine ⟨fun pins s σ H Q I h => Subscript_ (binT ha hb I h fun v u s2 x y H2 I2 rx ry q => ?_)⟩
  obtain ⟨a, dx, fs, rfl, ea, q⟩ := q
  obtain rfl : v = Value.ref a := rx
  obtain ⟨od, J⟩ := inst_at I2 ea
  obtain ⟨m, hF⟩ := I2.fr
  refine PySem.W.sub_K hF I2.ok.mod.kin J hs hfn hf ?_ (hsl _ _)
  refine wpAny_call (SlX.run_at (us := [.ref a, u]) (ws := [.ref a, y]) F hr.in1 I2.env0.in1 hx I2 (.cons rfl (.cons ry .nil)) q)
end
end Lb

set_option Elab.async false
set_option linter.all false
set_option maxRecDepth 100000
set_option maxHeartbeats 4000000
namespace K60
open PySem L2 Lb
def top (i : Nat) : Stmt := PySem.Challenge.pw_surepipes_k60_orders_made_and_asked.main.body.getD i (.Pass ⟨0, 0, 0, 0⟩)
abbrev s_InvalidLevels_init_ : Stmt := (inClass (top 3) 0)
theorem sc_InvalidLevels_init_ : FnScope ["self", "position"] ["self", "position"] (defScope s_InvalidLevels_init_) := ⟨rfl, rfl, rfl, by decide +kernel, rfl, by decide +kernel, by decide +kernel⟩
abbrev s_UnknownNode_init_ : Stmt := (inClass (top 6) 0)
theorem sc_UnknownNode_init_ : FnScope ["self", "value"] ["self", "value"] (defScope s_UnknownNode_init_) := ⟨rfl, rfl, rfl, by decide +kernel, rfl, by decide +kernel, by decide +kernel⟩
abbrev s_is_name : Stmt := (top 10)
theorem sc_is_name : FnScope ["value", "letter"] ["value"] (defScope s_is_name) := ⟨rfl, rfl, rfl, by decide +kernel, rfl, by decide +kernel, by decide +kernel⟩
abbrev s_is_level : Stmt := (top 12)
theorem sc_is_level : FnScope ["value", "name"] ["value"] (defScope s_is_level) := ⟨rfl, rfl, rfl, by decide +kernel, rfl, by decide +kernel, by decide +kernel⟩
abbrev s_places_of : Stmt := (top 13)
theorem sc_places_of : FnScope ["levels", "places", "position", "level", "name"] ["levels"] (defScope s_places_of) := ⟨rfl, rfl, rfl, by decide +kernel, rfl, by decide +kernel, by decide +kernel⟩
abbrev s_Order_init_ : Stmt := (inClass (top 14) 0)
theorem sc_Order_init_ : FnScope ["self", "levels", "name", "level"] ["self", "levels"] (defScope s_Order_init_) := ⟨rfl, rfl, rfl, by decide +kernel, rfl, by decide +kernel, by decide +kernel⟩
abbrev s_Orderof : Stmt := (inClass (top 14) 2)
theorem sc_Orderof : FnScope ["levels"] ["levels"] (defScope s_Orderof) := ⟨rfl, rfl, rfl, by decide +kernel, rfl, by decide +kernel, by decide +kernel⟩
abbrev s_Ordernodes : Stmt := (inClass (top 14) 3)
theorem sc_Ordernodes : FnScope ["self", "name"] ["self"] (defScope s_Ordernodes) := ⟨rfl, rfl, rfl, by decide +kernel, rfl, by decide +kernel, by decide +kernel⟩
abbrev s_Orderlevels : Stmt := (inClass (top 14) 4)
theorem sc_Orderlevels : FnScope ["self"] ["self"] (defScope s_Orderlevels) := ⟨rfl, rfl, rfl, by decide +kernel, rfl, by decide +kernel, by decide +kernel⟩
abbrev s_Order_iter_ : Stmt := (inClass (top 14) 5)
theorem sc_Order_iter_ : FnScope ["self"] ["self"] (defScope s_Order_iter_) := ⟨rfl, rfl, rfl, by decide +kernel, rfl, by decide +kernel, by decide +kernel⟩
abbrev s_Order_len_ : Stmt := (inClass (top 14) 6)
theorem sc_Order_len_ : FnScope ["self"] ["self"] (defScope s_Order_len_) := ⟨rfl, rfl, rfl, by decide +kernel, rfl, by decide +kernel, by decide +kernel⟩
abbrev s_Order_contains_ : Stmt := (inClass (top 14) 7)
theorem sc_Order_contains_ : FnScope ["self", "value"] ["self", "value"] (defScope s_Order_contains_) := ⟨rfl, rfl, rfl, by decide +kernel, rfl, by decide +kernel, by decide +kernel⟩
abbrev s_Order_getitem_ : Stmt := (inClass (top 14) 8)
theorem sc_Order_getitem_ : FnScope ["self", "node"] ["self", "node"] (defScope s_Order_getitem_) := ⟨rfl, rfl, rfl, by decide +kernel, rfl, by decide +kernel, by decide +kernel⟩
abbrev s_Order_eq_ : Stmt := (inClass (top 14) 9)
theorem sc_Order_eq_ : FnScope ["self", "other"] ["self", "other"] (defScope s_Order_eq_) := ⟨rfl, rfl, rfl, by decide +kernel, rfl, by decide +kernel, by decide +kernel⟩
abbrev s_Order_str_ : Stmt := (inClass (top 14) 10)
theorem sc_Order_str_ : FnScope ["self", "level"] ["self"] (defScope s_Order_str_) := ⟨rfl, rfl, rfl, by decide +kernel, rfl, by decide +kernel, by decide +kernel⟩
abbrev s_Order_repr_ : Stmt := (inClass (top 14) 11)
theorem sc_Order_repr_ : FnScope ["self"] ["self"] (defScope s_Order_repr_) := ⟨rfl, rfl, rfl, by decide +kernel, rfl, by decide +kernel, by decide +kernel⟩
abbrev s_Orderturned : Stmt := (inClass (top 14) 12)
theorem sc_Orderturned : FnScope ["self"] ["self"] (defScope s_Orderturned) := ⟨rfl, rfl, rfl, by decide +kernel, rfl, by decide +kernel, by decide +kernel⟩
abbrev s_pot : Stmt := (top 16)
theorem sc_pot : FnScope ["_law_script", "_law_k", "_law_cell"] ["_law_script", "_law_k"] (defScope s_pot) := ⟨rfl, rfl, rfl, by decide +kernel, rfl, by decide +kernel, by decide +kernel⟩
abbrev s_draw : Stmt := (top 17)
theorem sc_draw : FnScope ["_law_pot_here", "_law_many", "_law_digit"] ["_law_pot_here", "_law_many"] (defScope s_draw) := ⟨rfl, rfl, rfl, by decide +kernel, rfl, by decide +kernel, by decide +kernel⟩
abbrev s_choice : Stmt := (top 18)
theorem sc_choice : FnScope ["_law_pot_here", "_law_some"] ["_law_pot_here", "_law_some"] (defScope s_choice) := ⟨rfl, rfl, rfl, by decide +kernel, rfl, by decide +kernel, by decide +kernel⟩
abbrev s_shuffled : Stmt := (top 19)
theorem sc_shuffled : FnScope ["_law_pot_here", "_law_some", "_law_left", "_law_mixed", "_law_turn"] ["_law_pot_here", "_law_some"] (defScope s_shuffled) := ⟨rfl, rfl, rfl, by decide +kernel, rfl, by decide +kernel, by decide +kernel⟩
abbrev s_names : Stmt := (top 20)
theorem sc_names : FnScope ["_law_pot_here", "_law_many", "_law_letters", "_law_found", "_law_turn", "_law_name", "_law_sign", "_law_one", "_law_letter"] ["_law_pot_here", "_law_many"] (defScope s_names) := ⟨rfl, rfl, rfl, by decide +kernel, rfl, by decide +kernel, by decide +kernel⟩
abbrev s_levels : Stmt := (top 21)
theorem sc_levels : FnScope ["_law_pot_here", "_law_nodes", "_law_ranks_of", "_law_node", "_law_rank", "_law_found"] ["_law_pot_here", "_law_nodes"] (defScope s_levels) := ⟨rfl, rfl, rfl, by decide +kernel, rfl, by decide +kernel, by decide +kernel⟩
abbrev s_told : Stmt := (top 22)
theorem sc_told : FnScope ["_law_call", "_law_told_here", "e"] ["_law_call"] (defScope s_told) := ⟨rfl, rfl, rfl, by decide +kernel, rfl, by decide +kernel, by decide +kernel⟩
abbrev s_of : Stmt := (top 23)
theorem sc_of : FnScope ["_law_rows"] ["_law_rows"] (defScope s_of) := ⟨rfl, rfl, rfl, by decide +kernel, rfl, by decide +kernel, by decide +kernel⟩
abbrev s_flat : Stmt := (top 24)
theorem sc_flat : FnScope ["_law_rows", "_law_found", "_law_row"] ["_law_rows"] (defScope s_flat) := ⟨rfl, rfl, rfl, by decide +kernel, rfl, by decide +kernel, by decide +kernel⟩
abbrev s_walked_right : Stmt := (top 25)
theorem sc_walked_right : FnScope ["_law_line", "_law_due", "_law_pairs", "_law_walked", "_law_row", "_law_other_here"] ["_law_line", "_law_due"] (defScope s_walked_right) := ⟨rfl, rfl, rfl, by decide +kernel, rfl, by decide +kernel, by decide +kernel⟩
abbrev s_shown_right : Stmt := (top 26)
theorem sc_shown_right : FnScope ["_law_line", "_law_rows", "_law_due", "_law_row", "_law_names_here", "_law_at", "_law_name"] ["_law_line", "_law_rows"] (defScope s_shown_right) := ⟨rfl, rfl, rfl, by decide +kernel, rfl, by decide +kernel, by decide +kernel⟩
abbrev s_other : Stmt := (top 27)
theorem sc_other : FnScope ["_law_pot_here", "_law_rows", "_law_some", "_law_way", "_law_row", "_law_here", "_law_there", "_law_name"] ["_law_pot_here", "_law_rows"] (defScope s_other) := ⟨rfl, rfl, rfl, by decide +kernel, rfl, by decide +kernel, by decide +kernel⟩
abbrev s_wrong_level : Stmt := (top 28)
theorem sc_wrong_level : FnScope ["_law_pot_here", "_law_rows", "_law_at", "_law_used", "_law_some", "_law_fresh", "_law_name"] ["_law_pot_here", "_law_rows", "_law_at"] (defScope s_wrong_level) := ⟨rfl, rfl, rfl, by decide +kernel, rfl, by decide +kernel, by decide +kernel⟩
abbrev s_refused_right : Stmt := (top 29)
theorem sc_refused_right : FnScope ["_law_pot_here", "_law_rows", "_law_at", "_law_wrong", "_law_odd", "_law_line", "_law_none"] ["_law_pot_here", "_law_rows"] (defScope s_refused_right) := ⟨rfl, rfl, rfl, by decide +kernel, rfl, by decide +kernel, by decide +kernel⟩
abbrev s_right : Stmt := (top 30)
theorem sc_right : FnScope ["_law_pot_here", "_law_rows", "_law_row", "_law_passed", "_law_line", "_law_again", "_law_other_here", "_law_is_same", "_law_thing", "_law_name"] ["_law_pot_here"] (defScope s_right) := ⟨rfl, rfl, rfl, by decide +kernel, rfl, by decide +kernel, by decide +kernel⟩
abbrev s_many_right : Stmt := (top 31)
theorem sc_many_right : FnScope ["_law_names_here", "_law_letter", "_law_rows", "_law_at", "_law_line", "_law_five"] [] (defScope s_many_right) := ⟨rfl, rfl, rfl, by decide +kernel, rfl, by decide +kernel, by decide +kernel⟩
abbrev s_law : Stmt := (top 32)
theorem sc_law : FnScope ["_law_script", "_law_k"] ["_law_script"] (defScope s_law) := ⟨rfl, rfl, rfl, by decide +kernel, rfl, by decide +kernel, by decide +kernel⟩
structure Ad where
  f_InvalidLevels_init_ : Addr
  d_InvalidLevels_init_ : FuncData
  f_UnknownNode_init_ : Addr
  d_UnknownNode_init_ : FuncData
  f_is_name : Addr
  d_is_name : FuncData
  f_is_level : Addr
  d_is_level : FuncData
  f_places_of : Addr
  d_places_of : FuncData
  f_Order_init_ : Addr
  d_Order_init_ : FuncData
  f_Orderof : Addr
  d_Orderof : FuncData
  f_Ordernodes : Addr
  d_Ordernodes : FuncData
  f_Orderlevels : Addr
  d_Orderlevels : FuncData
  f_Order_iter_ : Addr
  d_Order_iter_ : FuncData
  f_Order_len_ : Addr
  d_Order_len_ : FuncData
  f_Order_contains_ : Addr
  d_Order_contains_ : FuncData
  f_Order_getitem_ : Addr
  d_Order_getitem_ : FuncData
  f_Order_eq_ : Addr
  d_Order_eq_ : FuncData
  f_Order_str_ : Addr
  d_Order_str_ : FuncData
  f_Order_repr_ : Addr
  d_Order_repr_ : FuncData
  f_Orderturned : Addr
  d_Orderturned : FuncData
  f_pot : Addr
  d_pot : FuncData
  f_draw : Addr
  d_draw : FuncData
  f_choice : Addr
  d_choice : FuncData
  f_shuffled : Addr
  d_shuffled : FuncData
  f_names : Addr
  d_names : FuncData
  f_levels : Addr
  d_levels : FuncData
  f_told : Addr
  d_told : FuncData
  f_of : Addr
  d_of : FuncData
  f_flat : Addr
  d_flat : FuncData
  f_walked_right : Addr
  d_walked_right : FuncData
  f_shown_right : Addr
  d_shown_right : FuncData
  f_other : Addr
  d_other : FuncData
  f_wrong_level : Addr
  d_wrong_level : FuncData
  f_refused_right : Addr
  d_refused_right : FuncData
  f_right : Addr
  d_right : FuncData
  f_many_right : Addr
  d_many_right : FuncData
  f_law : Addr
  d_law : FuncData
  c_Order : Addr
  c_InvalidLevels : Addr
  c_UnknownNode : Addr
  c_PipeError : Addr
  c_MissingError : Addr
  c_InvalidOrder : Addr
  cc_refused_right : Addr
  PP_refused_right : Addr
  p_nodes : Addr
  p_of : Addr
structure Txt (K : PySem.W.Frag) (mg : Str → Option Value) (a : Ad) : Prop where
  F_InvalidLevels_init_ : Fun K "__init__" "InvalidLevels.__init__" s_InvalidLevels_init_ a.f_InvalidLevels_init_ a.d_InvalidLevels_init_
  F_UnknownNode_init_ : Fun K "__init__" "UnknownNode.__init__" s_UnknownNode_init_ a.f_UnknownNode_init_ a.d_UnknownNode_init_
  F_is_name : Fun K "is_name" "is_name" s_is_name a.f_is_name a.d_is_name
  m_is_name : mg "is_name" = some (.ref a.f_is_name)
  F_is_level : Fun K "_is_level" "_is_level" s_is_level a.f_is_level a.d_is_level
  m_is_level : mg "_is_level" = some (.ref a.f_is_level)
  F_places_of : Fun K "_places_of" "_places_of" s_places_of a.f_places_of a.d_places_of
  m_places_of : mg "_places_of" = some (.ref a.f_places_of)
  F_Order_init_ : Fun K "__init__" "Order.__init__" s_Order_init_ a.f_Order_init_ a.d_Order_init_
  F_Orderof : Fun K "of" "Order.of" s_Orderof a.f_Orderof a.d_Orderof
  F_Ordernodes : Fun K "nodes" "Order.nodes" s_Ordernodes a.f_Ordernodes a.d_Ordernodes
  F_Orderlevels : Fun K "levels" "Order.levels" s_Orderlevels a.f_Orderlevels a.d_Orderlevels
  F_Order_iter_ : Fun K "__iter__" "Order.__iter__" s_Order_iter_ a.f_Order_iter_ a.d_Order_iter_
  F_Order_len_ : Fun K "__len__" "Order.__len__" s_Order_len_ a.f_Order_len_ a.d_Order_len_
  F_Order_contains_ : Fun K "__contains__" "Order.__contains__" s_Order_contains_ a.f_Order_contains_ a.d_Order_contains_
  F_Order_getitem_ : Fun K "__getitem__" "Order.__getitem__" s_Order_getitem_ a.f_Order_getitem_ a.d_Order_getitem_
  F_Order_eq_ : Fun K "__eq__" "Order.__eq__" s_Order_eq_ a.f_Order_eq_ a.d_Order_eq_
  F_Order_str_ : Fun K "__str__" "Order.__str__" s_Order_str_ a.f_Order_str_ a.d_Order_str_
  F_Order_repr_ : Fun K "__repr__" "Order.__repr__" s_Order_repr_ a.f_Order_repr_ a.d_Order_repr_
  F_Orderturned : Fun K "turned" "Order.turned" s_Orderturned a.f_Orderturned a.d_Orderturned
  F_pot : Fun K "_law_pot" "_law_pot" s_pot a.f_pot a.d_pot
  m_pot : mg "_law_pot" = some (.ref a.f_pot)
  F_draw : Fun K "_law_draw" "_law_draw" s_draw a.f_draw a.d_draw
  m_draw : mg "_law_draw" = some (.ref a.f_draw)
  F_choice : Fun K "_law_choice" "_law_choice" s_choice a.f_choice a.d_choice
  m_choice : mg "_law_choice" = some (.ref a.f_choice)
  F_shuffled : Fun K "_law_shuffled" "_law_shuffled" s_shuffled a.f_shuffled a.d_shuffled
  m_shuffled : mg "_law_shuffled" = some (.ref a.f_shuffled)
  F_names : Fun K "_law_names" "_law_names" s_names a.f_names a.d_names
  m_names : mg "_law_names" = some (.ref a.f_names)
  F_levels : Fun K "_law_levels" "_law_levels" s_levels a.f_levels a.d_levels
  m_levels : mg "_law_levels" = some (.ref a.f_levels)
  F_told : Fun K "_law_told" "_law_told" s_told a.f_told a.d_told
  m_told : mg "_law_told" = some (.ref a.f_told)
  F_of : Fun K "_law_of" "_law_of" s_of a.f_of a.d_of
  m_of : mg "_law_of" = some (.ref a.f_of)
  F_flat : Fun K "_law_flat" "_law_flat" s_flat a.f_flat a.d_flat
  m_flat : mg "_law_flat" = some (.ref a.f_flat)
  F_walked_right : Fun K "_law_walked_right" "_law_walked_right" s_walked_right a.f_walked_right a.d_walked_right
  m_walked_right : mg "_law_walked_right" = some (.ref a.f_walked_right)
  F_shown_right : Fun K "_law_shown_right" "_law_shown_right" s_shown_right a.f_shown_right a.d_shown_right
  m_shown_right : mg "_law_shown_right" = some (.ref a.f_shown_right)
  F_other : Fun K "_law_other" "_law_other" s_other a.f_other a.d_other
  m_other : mg "_law_other" = some (.ref a.f_other)
  F_wrong_level : Fun K "_law_wrong_level" "_law_wrong_level" s_wrong_level a.f_wrong_level a.d_wrong_level
  m_wrong_level : mg "_law_wrong_level" = some (.ref a.f_wrong_level)
  F_refused_right : Fun K "_law_refused_right" "_law_refused_right" s_refused_right a.f_refused_right a.d_refused_right
  m_refused_right : mg "_law_refused_right" = some (.ref a.f_refused_right)
  F_right : Fun K "_law_right" "_law_right" s_right a.f_right a.d_right
  m_right : mg "_law_right" = some (.ref a.f_right)
  F_many_right : Fun K "_law_many_right" "_law_many_right" s_many_right a.f_many_right a.d_many_right
  m_many_right : mg "_law_many_right" = some (.ref a.f_many_right)
  F_law : Fun K "law" "law" s_law a.f_law a.d_law
  m_law : mg "law" = some (.ref a.f_law)
  cl : Cls K a.c_Order
  nL : NoAttr K a.c_Order "_levels"
  nP : NoAttr K a.c_Order "_places"
  mO : mg "Order" = some (.ref a.c_Order)
  mkO : Mk K a.c_Order a.f_Order_init_
  I : Inst K a.c_Order
  gLet : ∃ t, mg "LETTERS" = some (.str "abcdefghijklmnopqrstuvwxyz" t)
  gLong : ∃ t, mg "LONGEST_NAME" = some (.int 8 t)
  pN : PropOf K a.c_Order "nodes" a.p_nodes a.f_Ordernodes
  noSeq : PySem.W.noSeq K a.c_Order = true
  C_refused_right : a.d_refused_right.code = .ref a.cc_refused_right
  cIt : OwnM K a.c_Order "__iter__" a.f_Order_iter_
  cLen : OwnM K a.c_Order "__len__" a.f_Order_len_
  cCon : OwnM K a.c_Order "__contains__" a.f_Order_contains_
  cGet : OwnM K a.c_Order "__getitem__" a.f_Order_getitem_
  cEq : OwnM K a.c_Order "__eq__" a.f_Order_eq_
  cSt : OwnM K a.c_Order "__str__" a.f_Order_str_
  cRe : OwnM K a.c_Order "__repr__" a.f_Order_repr_
  fGet : PySem.W.fnIn K a.f_Order_getitem_ = true
  mLev : Meth K a.c_Order "levels" a.f_Orderlevels
  mTu : Meth K a.c_Order "turned" a.f_Orderturned
  cR : ClX.CRead K a.c_Order (.type "type")
  sOf : SMet K a.c_Order "of" a.p_of a.f_Orderof
  sS : PySem.W.subIn K (.ref a.c_Order) (.type "str") = some false
  cNe : PySem.W.findIn K (.ref a.c_Order) "__ne__" = some (some (.builtin "object.__ne__"))
  bInvalidLevels : Abv K a.c_InvalidLevels a.c_PipeError veT
  bUnknownNode : Abv K a.c_UnknownNode a.c_MissingError leT
  xInvalidLevels : ExqF K mg "InvalidLevels" a.c_InvalidLevels a.f_InvalidLevels_init_
  xUnknownNode : ExqF K mg "UnknownNode" a.c_UnknownNode a.f_UnknownNode_init_
  nInvalidLevels : PySem.W.findIn K (.ref a.c_InvalidLevels) "position" = some none
  nUnknownNode : PySem.W.findIn K (.ref a.c_UnknownNode) "value" = some none
  qPipeError : FamC K a.c_PipeError
  qMissingError : FamC K a.c_MissingError
  qInvalidOrder : FamC K a.c_InvalidOrder
  mPipeError : mg "PipeError" = some (.ref a.c_PipeError)
  mMissingError : mg "MissingError" = some (.ref a.c_MissingError)
  mInvalidOrder : mg "InvalidOrder" = some (.ref a.c_InvalidOrder)
  nd : List.Nodup [a.c_InvalidLevels, a.c_UnknownNode, a.c_PipeError, a.c_MissingError, a.c_InvalidOrder]
  b_len : mg "len" = none
  b_abs : mg "abs" = none
  b_max : mg "max" = none
  b_min : mg "min" = none
  b_int : mg "int" = none
  b_divmod : mg "divmod" = none
  b_all : mg "all" = none
  b_any : mg "any" = none
  b_repr : mg "repr" = none
  b_isinstance : mg "isinstance" = none
  b_range : mg "range" = none
  b_enumerate : mg "enumerate" = none
  b_str : mg "str" = none
  b_list : mg "list" = none
  b_tuple : mg "tuple" = none
  b_dict : mg "dict" = none
  b_set : mg "set" = none
  b_sorted : mg "sorted" = none
  b_iter : mg "iter" = none
theorem b_InvalidLevels_init_ {K : PySem.W.Frag} {mg : Str → Option Value} {a : Ad} (T : Txt K mg a) : Binds K a.d_InvalidLevels_init_ ["self", "position"] [] := T.F_InvalidLevels_init_.binds (ps := ["self", "position"]) fun _ _ _ _ _ _ us hl => match us, hl with | [_, _], _ => rfl
theorem b_UnknownNode_init_ {K : PySem.W.Frag} {mg : Str → Option Value} {a : Ad} (T : Txt K mg a) : Binds K a.d_UnknownNode_init_ ["self", "value"] [] := T.F_UnknownNode_init_.binds (ps := ["self", "value"]) fun _ _ _ _ _ _ us hl => match us, hl with | [_, _], _ => rfl
theorem b_is_name {K : PySem.W.Frag} {mg : Str → Option Value} {a : Ad} (T : Txt K mg a) : Binds K a.d_is_name ["value"] [] := T.F_is_name.binds (ps := ["value"]) fun _ _ _ _ _ _ us hl => match us, hl with | [_], _ => rfl
theorem b_is_level {K : PySem.W.Frag} {mg : Str → Option Value} {a : Ad} (T : Txt K mg a) : Binds K a.d_is_level ["value"] [] := T.F_is_level.binds (ps := ["value"]) fun _ _ _ _ _ _ us hl => match us, hl with | [_], _ => rfl
theorem b_places_of {K : PySem.W.Frag} {mg : Str → Option Value} {a : Ad} (T : Txt K mg a) : Binds K a.d_places_of ["levels"] [] := T.F_places_of.binds (ps := ["levels"]) fun _ _ _ _ _ _ us hl => match us, hl with | [_], _ => rfl
theorem b_Order_init_ {K : PySem.W.Frag} {mg : Str → Option Value} {a : Ad} (T : Txt K mg a) : Binds K a.d_Order_init_ ["self", "levels"] [] := T.F_Order_init_.binds (ps := ["self", "levels"]) fun _ _ _ _ _ _ us hl => match us, hl with | [_, _], _ => rfl
theorem b_Ordernodes {K : PySem.W.Frag} {mg : Str → Option Value} {a : Ad} (T : Txt K mg a) : Binds K a.d_Ordernodes ["self"] [] := T.F_Ordernodes.binds (ps := ["self"]) fun _ _ _ _ _ _ us hl => match us, hl with | [_], _ => rfl
theorem b_Orderlevels {K : PySem.W.Frag} {mg : Str → Option Value} {a : Ad} (T : Txt K mg a) : Binds K a.d_Orderlevels ["self"] [] := T.F_Orderlevels.binds (ps := ["self"]) fun _ _ _ _ _ _ us hl => match us, hl with | [_], _ => rfl
theorem b_Order_iter_ {K : PySem.W.Frag} {mg : Str → Option Value} {a : Ad} (T : Txt K mg a) : Binds K a.d_Order_iter_ ["self"] [] := T.F_Order_iter_.binds (ps := ["self"]) fun _ _ _ _ _ _ us hl => match us, hl with | [_], _ => rfl
theorem b_Order_len_ {K : PySem.W.Frag} {mg : Str → Option Value} {a : Ad} (T : Txt K mg a) : Binds K a.d_Order_len_ ["self"] [] := T.F_Order_len_.binds (ps := ["self"]) fun _ _ _ _ _ _ us hl => match us, hl with | [_], _ => rfl
theorem b_Order_contains_ {K : PySem.W.Frag} {mg : Str → Option Value} {a : Ad} (T : Txt K mg a) : Binds K a.d_Order_contains_ ["self", "value"] [] := T.F_Order_contains_.binds (ps := ["self", "value"]) fun _ _ _ _ _ _ us hl => match us, hl with | [_, _], _ => rfl
theorem b_Order_getitem_ {K : PySem.W.Frag} {mg : Str → Option Value} {a : Ad} (T : Txt K mg a) : Binds K a.d_Order_getitem_ ["self", "node"] [] := T.F_Order_getitem_.binds (ps := ["self", "node"]) fun _ _ _ _ _ _ us hl => match us, hl with | [_, _], _ => rfl
theorem b_Order_eq_ {K : PySem.W.Frag} {mg : Str → Option Value} {a : Ad} (T : Txt K mg a) : Binds K a.d_Order_eq_ ["self", "other"] [] := T.F_Order_eq_.binds (ps := ["self", "other"]) fun _ _ _ _ _ _ us hl => match us, hl with | [_, _], _ => rfl
theorem b_Order_str_ {K : PySem.W.Frag} {mg : Str → Option Value} {a : Ad} (T : Txt K mg a) : Binds K a.d_Order_str_ ["self"] [] := T.F_Order_str_.binds (ps := ["self"]) fun _ _ _ _ _ _ us hl => match us, hl with | [_], _ => rfl
theorem b_Order_repr_ {K : PySem.W.Frag} {mg : Str → Option Value} {a : Ad} (T : Txt K mg a) : Binds K a.d_Order_repr_ ["self"] [] := T.F_Order_repr_.binds (ps := ["self"]) fun _ _ _ _ _ _ us hl => match us, hl with | [_], _ => rfl
theorem b_Orderturned {K : PySem.W.Frag} {mg : Str → Option Value} {a : Ad} (T : Txt K mg a) : Binds K a.d_Orderturned ["self"] [] := T.F_Orderturned.binds (ps := ["self"]) fun _ _ _ _ _ _ us hl => match us, hl with | [_], _ => rfl
theorem b_pot {K : PySem.W.Frag} {mg : Str → Option Value} {a : Ad} (T : Txt K mg a) : Binds K a.d_pot ["_law_script", "_law_k"] [] := T.F_pot.binds (ps := ["_law_script", "_law_k"]) fun _ _ _ _ _ _ us hl => match us, hl with | [_, _], _ => rfl
theorem b_draw {K : PySem.W.Frag} {mg : Str → Option Value} {a : Ad} (T : Txt K mg a) : Binds K a.d_draw ["_law_pot_here", "_law_many"] [] := T.F_draw.binds (ps := ["_law_pot_here", "_law_many"]) fun _ _ _ _ _ _ us hl => match us, hl with | [_, _], _ => rfl
theorem b_choice {K : PySem.W.Frag} {mg : Str → Option Value} {a : Ad} (T : Txt K mg a) : Binds K a.d_choice ["_law_pot_here", "_law_some"] [] := T.F_choice.binds (ps := ["_law_pot_here", "_law_some"]) fun _ _ _ _ _ _ us hl => match us, hl with | [_, _], _ => rfl
theorem b_shuffled {K : PySem.W.Frag} {mg : Str → Option Value} {a : Ad} (T : Txt K mg a) : Binds K a.d_shuffled ["_law_pot_here", "_law_some"] [] := T.F_shuffled.binds (ps := ["_law_pot_here", "_law_some"]) fun _ _ _ _ _ _ us hl => match us, hl with | [_, _], _ => rfl
theorem b_names {K : PySem.W.Frag} {mg : Str → Option Value} {a : Ad} (T : Txt K mg a) : Binds K a.d_names ["_law_pot_here", "_law_many"] [] := T.F_names.binds (ps := ["_law_pot_here", "_law_many"]) fun _ _ _ _ _ _ us hl => match us, hl with | [_, _], _ => rfl
theorem b_levels {K : PySem.W.Frag} {mg : Str → Option Value} {a : Ad} (T : Txt K mg a) : Binds K a.d_levels ["_law_pot_here", "_law_nodes"] [] := T.F_levels.binds (ps := ["_law_pot_here", "_law_nodes"]) fun _ _ _ _ _ _ us hl => match us, hl with | [_, _], _ => rfl
theorem b_told {K : PySem.W.Frag} {mg : Str → Option Value} {a : Ad} (T : Txt K mg a) : Binds K a.d_told ["_law_call"] [] := T.F_told.binds (ps := ["_law_call"]) fun _ _ _ _ _ _ us hl => match us, hl with | [_], _ => rfl
theorem b_of {K : PySem.W.Frag} {mg : Str → Option Value} {a : Ad} (T : Txt K mg a) : Binds K a.d_of ["_law_rows"] [] := T.F_of.binds (ps := ["_law_rows"]) fun _ _ _ _ _ _ us hl => match us, hl with | [_], _ => rfl
theorem b_flat {K : PySem.W.Frag} {mg : Str → Option Value} {a : Ad} (T : Txt K mg a) : Binds K a.d_flat ["_law_rows"] [] := T.F_flat.binds (ps := ["_law_rows"]) fun _ _ _ _ _ _ us hl => match us, hl with | [_], _ => rfl
theorem b_walked_right {K : PySem.W.Frag} {mg : Str → Option Value} {a : Ad} (T : Txt K mg a) : Binds K a.d_walked_right ["_law_line", "_law_due"] [] := T.F_walked_right.binds (ps := ["_law_line", "_law_due"]) fun _ _ _ _ _ _ us hl => match us, hl with | [_, _], _ => rfl
theorem b_shown_right {K : PySem.W.Frag} {mg : Str → Option Value} {a : Ad} (T : Txt K mg a) : Binds K a.d_shown_right ["_law_line", "_law_rows"] [] := T.F_shown_right.binds (ps := ["_law_line", "_law_rows"]) fun _ _ _ _ _ _ us hl => match us, hl with | [_, _], _ => rfl
theorem b_other {K : PySem.W.Frag} {mg : Str → Option Value} {a : Ad} (T : Txt K mg a) : Binds K a.d_other ["_law_pot_here", "_law_rows"] [] := T.F_other.binds (ps := ["_law_pot_here", "_law_rows"]) fun _ _ _ _ _ _ us hl => match us, hl with | [_, _], _ => rfl
theorem b_wrong_level {K : PySem.W.Frag} {mg : Str → Option Value} {a : Ad} (T : Txt K mg a) : Binds K a.d_wrong_level ["_law_pot_here", "_law_rows", "_law_at"] [] := T.F_wrong_level.binds (ps := ["_law_pot_here", "_law_rows", "_law_at"]) fun _ _ _ _ _ _ us hl => match us, hl with | [_, _, _], _ => rfl
theorem b_refused_right {K : PySem.W.Frag} {mg : Str → Option Value} {a : Ad} (T : Txt K mg a) : Binds K a.d_refused_right ["_law_pot_here", "_law_rows"] [] := T.F_refused_right.binds (ps := ["_law_pot_here", "_law_rows"]) fun _ _ _ _ _ _ us hl => match us, hl with | [_, _], _ => rfl
theorem b_right {K : PySem.W.Frag} {mg : Str → Option Value} {a : Ad} (T : Txt K mg a) : Binds K a.d_right ["_law_pot_here"] [] := T.F_right.binds (ps := ["_law_pot_here"]) fun _ _ _ _ _ _ us hl => match us, hl with | [_], _ => rfl
theorem b_many_right {K : PySem.W.Frag} {mg : Str → Option Value} {a : Ad} (T : Txt K mg a) : Binds K a.d_many_right [] [] := T.F_many_right.binds (ps := []) fun _ _ _ _ _ _ us hl => match us, hl with | [], _ => rfl
theorem b_law {K : PySem.W.Frag} {mg : Str → Option Value} {a : Ad} (T : Txt K mg a) : Binds K a.d_law ["_law_script"] [] := T.F_law.binds (ps := ["_law_script"]) fun _ _ _ _ _ _ us hl => match us, hl with | [_], _ => rfl
end K60

set_option Elab.async false
set_option linter.all false
set_option maxRecDepth 100000
set_option maxHeartbeats 4000000
namespace K60
open PySem L2 Lb PySem.Spec
open PyProof.Rows (sortedS risingS)
/-! the order of texts, sorted lists of them -/
def leS (a b : Str) : Bool := !ltCps b.cps.toList a.cps.toList
theorem lt_total : ∀ {x y : List Nat}, ltCps x y = false → ltCps y x = false → x = y
  | [], [], _, _ => rfl
  | [], _ :: _, h, _ => by simp [ltCps] at h
  | _ :: _, [], _, h => by simp [ltCps] at h
  | a :: r, b :: t, h, k => by
    simp only [ltCps, Bool.or_eq_false_iff, decide_eq_false_iff_not, Bool.and_eq_false_iff, beq_eq_false_iff_ne] at h k
    have e : a = b := by omega
    subst e
    rw [lt_total (x := r) (y := t) (by rcases h.2 with z | z; exact absurd rfl z; exact z) (by rcases k.2 with z | z; exact absurd rfl z; exact z)]
theorem lt_trans : ∀ {x y z : List Nat}, ltCps x y = true → ltCps y z = true → ltCps x z = true
  | [], y, z, h, k => by
    cases z with
    | nil => cases y <;> simp [ltCps] at k
    | cons c s => rfl
  | _ :: _, [], _, h, _ => by simp [ltCps] at h
  | a :: r, b :: t, [], _, k => by simp [ltCps] at k
  | a :: r, b :: t, c :: s, h, k => by
    simp only [ltCps, Bool.or_eq_true, decide_eq_true_eq, Bool.and_eq_true, beq_iff_eq] at h k ⊢
    rcases h with h | ⟨rfl, h⟩
    · rcases k with k | ⟨rfl, k⟩
      · left; omega
      · left; omega
    · rcases k with k | ⟨rfl, k⟩
      · left; omega
      · right; exact ⟨rfl, lt_trans h k⟩
theorem lt_irrefl : ∀ {x : List Nat}, ltCps x x = false
  | [] => rfl
  | a :: r => by simp [ltCps, lt_irrefl (x := r)]
theorem str_ext {a b : Str} (h : a.cps.toList = b.cps.toList) : a = b := by
  cases a with
  | mk x =>
    cases b with
    | mk y =>
      have : x = y := by cases x; cases y; simpa using h
      rw [this]
theorem leS_anti {a b : Str} (h : leS a b = true) (k : leS b a = true) : a = b := by
  unfold leS at h k
  simp only [Bool.not_eq_true'] at h k
  exact str_ext (lt_total k h)
theorem leS_total (a b : Str) : (leS a b || leS b a) = true := by
  unfold leS
  cases h : ltCps b.cps.toList a.cps.toList with
  | false => rfl
  | true =>
    cases k : ltCps a.cps.toList b.cps.toList with
    | false => rfl
    | true =>
      have := lt_trans h k
      rw [lt_irrefl] at this
      cases this
theorem leS_trans {a b c : Str} (h : leS a b = true) (k : leS b c = true) : leS a c = true := by
  unfold leS at h k ⊢
  simp only [Bool.not_eq_true'] at h k ⊢
  cases e : ltCps c.cps.toList a.cps.toList with
  | false => rfl
  | true =>
    exfalso
    -- c < a, not b < a (h: ltCps b a = false), not c < b
    cases e2 : ltCps a.cps.toList b.cps.toList with
    | true =>
      have := lt_trans e e2
      rw [k] at this
      cases this
    | false =>
      have := lt_total e2 h
      rw [this] at e
      rw [e] at k
      cases k
def srt (l : List Str) : List Str := l.mergeSort leS
theorem rising_pw : ∀ (l : List Str) (p : Str), risingS p l = true → (p :: l).Pairwise (fun a b => leS a b = true)
  | [], p, _ => by simp
  | x :: r, p, h => by
    have h : (!ltCps x.cps.toList p.cps.toList && risingS x r) = true := h
    rw [Bool.and_eq_true] at h
    have ih := rising_pw r x h.2
    refine List.pairwise_cons.mpr ⟨fun y hy => ?_, ih⟩
    rcases List.mem_cons.mp hy with rfl | hy
    · exact h.1
    · exact leS_trans (b := x) h.1 ((List.pairwise_cons.mp ih).1 y hy)
theorem sorted_pw {l : List Str} (h : sortedS l = true) : l.Pairwise (fun a b => leS a b = true) := by
  cases l with
  | nil => exact .nil
  | cons x r => exact rising_pw r x h
theorem srt_perm (l : List Str) : (srt l).Perm l := List.mergeSort_perm l leS
theorem srt_pw (l : List Str) : (srt l).Pairwise (fun a b => leS a b = true) := List.pairwise_mergeSort (le := leS) (fun _ _ _ => leS_trans) leS_total l
theorem srt_of {xs ys : List Str} (p : ys.Perm xs) (h : sortedS ys = true) : ys = srt xs :=
  List.Perm.eq_of_pairwise (fun _ _ _ _ => leS_anti) (sorted_pw h) (srt_pw xs) (p.trans (srt_perm xs).symm)
theorem srt_congr {xs ys : List Str} (p : xs.Perm ys) : srt xs = srt ys :=
  List.Perm.eq_of_pairwise (fun _ _ _ _ => leS_anti) (srt_pw xs) (srt_pw ys) ((srt_perm xs).trans (p.trans (srt_perm ys).symm))
theorem srt_srt (l : List Str) : srt (srt l) = srt l := srt_congr (srt_perm l)
theorem srt_len (l : List Str) : (srt l).length = l.length := (srt_perm l).length_eq
theorem srt_mem {l : List Str} {x : Str} : x ∈ srt l ↔ x ∈ l := (srt_perm l).mem_iff
/-! names -/
def lett (c : Nat) : Bool := decide (97 ≤ c) && decide (c ≤ 122)
def nmS (z : Str) : Bool := decide (1 ≤ z.cps.toList.length) && (decide (z.cps.toList.length ≤ 8) && z.cps.toList.all lett)
/-! data -/
inductive Dt where
  | non | bl (b : Bool) | int (i : Int) | str (z : Str) | ls (l : List Dt) | tp (l : List Dt) | dc | dk (k : Str)
def dkO (k : Str) : List (Key × V) := [(.inr k, .int 1)]
mutual
def At (H : Hp) : Dt → V → Prop
  | .non, v => v = .non
  | .bl b, v => v = .bl b
  | .int i, v => v = .int i
  | .str z, v => v = .str z
  | .ls l, v => ∃ a xs, v = .ref a ∧ H a = some (.lst xs) ∧ Ats H l xs
  | .tp l, v => ∃ a xs, v = .ref a ∧ H a = some (.tup xs) ∧ Ats H l xs
  | .dc, v => ∃ a, v = .ref a ∧ H a = some (.dK [])
  | .dk k, v => ∃ a, v = .ref a ∧ H a = some (.dK (dkO k))
def Ats (H : Hp) : List Dt → List V → Prop
  | [], xs => xs = []
  | t :: ts, xs => ∃ x r, xs = x :: r ∧ At H t x ∧ Ats H ts r
end
theorem ats_nil {H : Hp} : Ats H [] [] := by simp only [Ats]
theorem ats_cons {H : Hp} {d : Dt} {l : List Dt} {x : V} {xs : List V} (h : At H d x) (k : Ats H l xs) : Ats H (d :: l) (x :: xs) := by
  simp only [Ats]
  exact ⟨x, xs, rfl, h, k⟩
theorem ats_inv {H : Hp} {d : Dt} {l : List Dt} {xs : List V} (h : Ats H (d :: l) xs) : ∃ x r, xs = x :: r ∧ At H d x ∧ Ats H l r := by
  simpa only [Ats] using h
theorem ats_inv0 {H : Hp} {xs : List V} (h : Ats H [] xs) : xs = [] := by simpa only [Ats] using h
mutual
theorem At.same {H H' : Hp} (s : Same H H') : ∀ (d : Dt) (v : V), At H d v → At H' d v
  | .non, _, h => by simp only [At] at h ⊢; exact h
  | .bl _, _, h => by simp only [At] at h ⊢; exact h
  | .int _, _, h => by simp only [At] at h ⊢; exact h
  | .str _, _, h => by simp only [At] at h ⊢; exact h
  | .ls l, _, h => by simp only [At] at h ⊢; obtain ⟨a, xs, e, h1, h2⟩ := h; exact ⟨a, xs, e, s _ _ h1, Ats.same s l xs h2⟩
  | .tp l, _, h => by simp only [At] at h ⊢; obtain ⟨a, xs, e, h1, h2⟩ := h; exact ⟨a, xs, e, s _ _ h1, Ats.same s l xs h2⟩
  | .dc, _, h => by simp only [At] at h ⊢; obtain ⟨a, e, h1⟩ := h; exact ⟨a, e, s _ _ h1⟩
  | .dk _, _, h => by simp only [At] at h ⊢; obtain ⟨a, e, h1⟩ := h; exact ⟨a, e, s _ _ h1⟩
theorem Ats.same {H H' : Hp} (s : Same H H') : ∀ (l : List Dt) (xs : List V), Ats H l xs → Ats H' l xs
  | [], _, h => by simp only [Ats] at h ⊢; exact h
  | t :: r, _, h => by simp only [Ats] at h ⊢; obtain ⟨x, q, e, h1, h2⟩ := h; exact ⟨x, q, e, At.same s t x h1, Ats.same s r q h2⟩
end
theorem Ats.len {H : Hp} : ∀ {l : List Dt} {xs : List V}, Ats H l xs → xs.length = l.length
  | [], _, h => by rw [ats_inv0 h]; rfl
  | t :: r, _, h => by
    obtain ⟨x, q, rfl, _, h2⟩ := ats_inv h
    simp only [List.length_cons, h2.len]
theorem Ats.at_ {H : Hp} : ∀ {l : List Dt} {xs : List V} {i : Nat} {x : V}, Ats H l xs → xs[i]? = some x → ∃ d, l[i]? = some d ∧ At H d x
  | [], _, i, x, h, e => by rw [ats_inv0 h] at e; simp at e
  | t :: r, _, i, x, h, e => by
    obtain ⟨y, q, rfl, h1, h2⟩ := ats_inv h
    cases i with
    | zero => simp at e; subst e; exact ⟨t, rfl, h1⟩
    | succ i =>
      obtain ⟨d, e1, e2⟩ := h2.at_ (i := i) (by simpa using e)
      exact ⟨d, by simpa using e1, e2⟩
theorem Ats.get {H : Hp} {l : List Dt} {xs : List V} {i : Nat} {d : Dt} (h : Ats H l xs) (e : l[i]? = some d) : ∃ x, xs[i]? = some x ∧ At H d x := by
  have hi := (List.getElem?_eq_some_iff.mp e).1
  obtain ⟨d', e1, e2⟩ := h.at_ (i := i) (List.getElem?_eq_getElem (by rw [h.len]; exact hi))
  rw [e] at e1
  cases e1
  exact ⟨_, List.getElem?_eq_getElem (by rw [h.len]; exact hi), e2⟩
theorem Ats.append {H : Hp} : ∀ {l m : List Dt} {xs ys : List V}, Ats H l xs → Ats H m ys → Ats H (l ++ m) (xs ++ ys)
  | [], _, _, _, h, k => by rw [ats_inv0 h]; exact k
  | t :: r, _, _, _, h, k => by
    obtain ⟨x, q, rfl, h1, h2⟩ := ats_inv h
    exact ats_cons h1 (h2.append k)
theorem Ats.drop {H : Hp} : ∀ {l : List Dt} {xs : List V} (n : Nat), Ats H l xs → Ats H (l.drop n) (xs.drop n)
  | _, _, 0, h => h
  | [], _, n + 1, h => by rw [ats_inv0 h]; exact ats_nil
  | t :: r, _, n + 1, h => by
    obtain ⟨x, q, rfl, h1, h2⟩ := ats_inv h
    exact h2.drop n
theorem Ats.take {H : Hp} : ∀ {l : List Dt} {xs : List V} (n : Nat), Ats H l xs → Ats H (l.take n) (xs.take n)
  | _, _, 0, h => ats_nil
  | [], _, n + 1, h => by rw [ats_inv0 h]; exact ats_nil
  | t :: r, _, n + 1, h => by
    obtain ⟨x, q, rfl, h1, h2⟩ := ats_inv h
    exact ats_cons h1 (h2.take n)
theorem ats_strs {H : Hp} : ∀ {x : List Str} {xs : List V}, Ats H (x.map Dt.str) xs ↔ xs = x.map V.str
  | [], xs => by simp only [List.map_nil, Ats]
  | z :: r, xs => by
    simp only [List.map_cons, Ats, At]
    constructor
    · rintro ⟨_, q, rfl, rfl, h⟩
      rw [ats_strs.mp h]
    · rintro rfl
      exact ⟨_, _, rfl, rfl, ats_strs.mpr rfl⟩
/-! what the program makes of it -/
def nmD : Dt → Option Str
  | .str z => if nmS z = true then some z else none
  | _ => none
def seqD : Dt → Option (List Dt)
  | .ls l => some l
  | .tp l => some l
  | _ => none
def lvD (d : Dt) : Option (List Str) := match seqD d with
  | some (t :: r) => (t :: r).mapM nmD
  | _ => none
abbrev Pl := List (Str × Nat)
def addN (i : Nat) : List Str → Pl → Option Pl
  | [], acc => some acc
  | z :: r, acc => if z ∈ acc.map (·.1) then none else addN i r (acc ++ [(z, i)])
def plc : Nat → List Dt → Pl → Except Nat Pl
  | _, [], acc => .ok acc
  | i, d :: r, acc => match lvD d with
    | none => .error i
    | some x => match addN i x acc with
      | none => .error i
      | some acc' => plc (i + 1) r acc'
def places (d : Dt) : Except (Option Nat) Pl := match seqD d with
  | some (t :: r) => (match plc 0 (t :: r) [] with
    | .ok k => .ok k
    | .error i => .error (some i))
  | _ => .error none
end K60

set_option Elab.async false
set_option linter.all false
set_option maxRecDepth 100000
set_option maxHeartbeats 4000000
/-! a list or a tuple, walked alike -/
namespace Lb
open PySem PySem.Spec PyProof.Rows L2
/-- a list or a tuple that is tracked -/
def SqB (H : Hp) (a : Addr) (xs : List V) : Prop := H a = some (.lst xs) ∨ H a = some (.tup xs)
theorem SqB.same {H H' : Hp} {a : Addr} {xs : List V} (h : SqB H a xs) (s : Same H H') : SqB H' a xs := h.imp (s _ _) (s _ _)
theorem SqB.eq {H H1 H2 : Hp} {a : Addr} {xs : List V} (h : SqB H a xs) (s : Same H H1) (u : Same H H2) : H1 a = H2 a := by
  rcases h with h | h <;> rw [s _ _ h, u _ _ h]
theorem SqB.len {K : PySem.W.Frag} {H : Hp} {a : Addr} {xs : List V} (h : SqB H a xs) : SqL K H a xs ∨ SqT K H a xs := h.imp SqL.of SqT.of
def iSeq (K : PySem.W.Frag) (te : TE) : TI := fun σ H R => iList K te σ H R ∨ iTup K te σ H R
theorem pi_seqK {X : Cx} {K : PySem.W.Frag} {tg l : Expr} {tl : TE} (hK : X.K = K) (hl : PE X l tl) : PI X tg l (iSeq K tl) :=
  ⟨fun pins s σ H R I h => h.elim ((pi_listK hK hl).run pins s σ H R I) ((pi_tupK hK hl).run pins s σ H R I)⟩
theorem seq_in {K : PySem.W.Frag} {i : Nat} {σ : L2.St} {H : Hp} {R : It → Hp → Prop} {a : Addr} {xs : List V} (h : SqB H a xs) (hs : σ[i]? = some (some (.ref a)))
    (k : ∀ (J : It) (G : Hp → Prop), Walk J xs.length G (YAt xs) → (∀ H', H' a = H a → G H') → R J H) : iSeq K (tVar i) σ H R := by
  rcases h with h | h
  · exact .inl ⟨_, hs, a, rfl, ⟨xs, SqL.of h⟩, k _ _ walk_list fun H' s => SqL.of (s.trans h)⟩
  · exact .inr ⟨_, hs, a, rfl, ⟨xs, SqT.of h⟩, k _ _ walk_tup fun H' s => SqT.of (s.trans h)⟩
def iEnumB (K : PySem.W.Frag) (ta : TA) : TI := fun σ H R => iEnum K ta σ H R ∨ iEnumT K ta σ H R
theorem pi_enumB {X : Cx} {e : Expr} {ta : TA} {p pos tpos : Pos} {elts : List Expr} {kk : Nat} (hg : Gl X "enumerate") (hm : X.mg "enumerate" = none) (ha : PA X [e] ta) (hs : starEach [e] X.env = [(false, eval e X.env)] := by rfl) :
    PI X (.Tuple elts kk tpos) (.Call (.Name "enumerate" p) [e] [] pos) (iEnumB X.K ta) :=
  ⟨fun pins s σ H R I h => h.elim ((pi_enum hg hm ha hs).run pins s σ H R I) ((pi_enumT hg hm ha hs).run pins s σ H R I)⟩
theorem walk_enumT {K : PySem.W.Frag} {a : Addr} {xs : List V} : Walk (IteT K a) xs.length (fun H => SqT K H a xs) (YPair (fun i => some (.int (i : Nat))) (fun i => xs[i]?)) := by
  refine ⟨fun i _ hi q => ⟨xs, xs[i], q, by simp [hi]⟩, fun _ q => ⟨xs, q, Nat.le_refl _⟩, fun i H v H' _ q y => ?_⟩
  obtain ⟨T, x, h1, h2, h3, h4⟩ := y
  exact ⟨T, .int (i : Nat), x, h1, h2, h3, rfl, h4 xs q⟩
theorem enum_in {K : PySem.W.Frag} {i : Nat} {σ : L2.St} {H : Hp} {R : It → Hp → Prop} {a : Addr} {xs : List V} (h : SqB H a xs) (hs : σ[i]? = some (some (.ref a)))
    (k : ∀ (J : It) (G : Hp → Prop), Walk J xs.length G (YPair (fun i => some (.int (i : Nat))) (fun i => xs[i]?)) → (∀ H', H' a = H a → G H') → R J H) : iEnumB K (tCons (tVar i) tNil) σ H R := by
  rcases h with h | h
  · exact .inl ⟨_, hs, a, xs, rfl, SqL.of h, k _ _ walk_enum fun H' s => SqL.of (s.trans h)⟩
  · exact .inr ⟨_, hs, a, xs, rfl, SqT.of h, k _ _ walk_enumT fun H' s => SqT.of (s.trans h)⟩
end Lb

set_option Elab.async false
set_option linter.all false
set_option maxRecDepth 100000
set_option maxHeartbeats 4000000
/-! texts cut at a sign: partition, split, removeprefix -/
namespace Lb
open PySem PyProof.Rows
/-- the text of these signs -/
def tx (l : List Nat) : Str := ⟨l.toArray⟩
theorem tx_list (l : List Nat) : (tx l).cps.toList = l := rfl
theorem tx_of (x : Str) : tx x.cps.toList = x := by
  cases x
  rfl
theorem tx_inj {a b : List Nat} (h : tx a = tx b) : a = b := by
  have := congrArg (fun x : Str => x.cps.toList) h
  exact this
theorem tx_app (a b : List Nat) : tx (a ++ b) = tx a ++ tx b := by
  show (⟨(a ++ b).toArray⟩ : Str) = ⟨a.toArray ++ b.toArray⟩
  simp
theorem tx_len (l : List Nat) : (tx l).length = l.length := List.size_toArray
/-- pieces put together -/
def glue (c : Nat) : List (List Nat) → List Nat
  | [] => []
  | [p] => p
  | p :: q :: r => p ++ c :: glue c (q :: r)
theorem glue_join (c : Nat) : ∀ ps : List Str, Str.join (tx [c]) ps = tx (glue c (ps.map fun p => p.cps.toList))
  | [] => rfl
  | [p] => (tx_of p).symm
  | p :: q :: r => by
    show p ++ tx [c] ++ Str.join (tx [c]) (q :: r) = tx (p.cps.toList ++ c :: glue c ((q :: r).map fun p => p.cps.toList))
    rw [glue_join c (q :: r), show p.cps.toList ++ c :: glue c ((q :: r).map fun p => p.cps.toList) = (p.cps.toList ++ [c]) ++ glue c ((q :: r).map fun p => p.cps.toList) by simp, tx_app, tx_app, tx_of]
theorem head_cut {c : Nat} : ∀ {a b x y : List Nat}, c ∉ a → c ∉ b → a ++ c :: x = b ++ c :: y → a = b ∧ x = y
  | [], [], _, _, _, _, h => ⟨rfl, (List.cons.inj h).2⟩
  | [], d :: b, _, _, _, hb, h => absurd (by rw [(List.cons.inj h).1]; simp) hb
  | d :: a, [], _, _, ha, _, h => absurd (by rw [← (List.cons.inj h).1]; simp) ha
  | d :: a, e :: b, x, y, ha, hb, h => by
    obtain ⟨h1, h2⟩ := List.cons.inj h
    obtain ⟨h3, h4⟩ := head_cut (fun m => ha (List.mem_cons_of_mem _ m)) (fun m => hb (List.mem_cons_of_mem _ m)) h2
    exact ⟨by rw [h1, h3], h4⟩
theorem glue_inj {c : Nat} : ∀ {ps qs : List (List Nat)}, ps ≠ [] → qs ≠ [] → (∀ p ∈ ps, c ∉ p) → (∀ p ∈ qs, c ∉ p) → glue c ps = glue c qs → ps = qs
  | [], _, h, _, _, _, _ => absurd rfl h
  | _, [], _, h, _, _, _ => absurd rfl h
  | [p], [q], _, _, _, _, h => by rw [show p = q from h]
  | [p], q :: r :: s, _, _, hp, _, h => absurd (by rw [show p = q ++ c :: glue c (r :: s) from h]; simp) (hp p (by simp))
  | p :: r :: s, [q], _, _, _, hq, h => absurd (by rw [show q = p ++ c :: glue c (r :: s) from h.symm]; simp) (hq q (by simp))
  | p :: p2 :: ps, q :: q2 :: qs, _, _, hp, hq, h => by
    obtain ⟨h1, h2⟩ := head_cut (hp p (by simp)) (hq q (by simp)) (show p ++ c :: glue c (p2 :: ps) = q ++ c :: glue c (q2 :: qs) from h)
    rw [h1, glue_inj (by simp) (by simp) (fun p h => hp p (List.mem_cons_of_mem _ h)) (fun p h => hq p (List.mem_cons_of_mem _ h)) h2]
/-- split tells the pieces -/
theorem split_pieces {c : Nat} {ps : List (List Nat)} (hn : ps ≠ []) (hf : ∀ p ∈ ps, c ∉ p) : Txt.split (tx (glue c ps)) (tx [c]) = ps.map tx := by
  have e := StrLaws.join_split (tx (glue c ps)) (tx [c])
  rw [glue_join] at e
  have e2 := tx_inj e
  have ne : Txt.split (tx (glue c ps)) (tx [c]) ≠ [] := fun z => by
    have := split_pos (tx (glue c ps)) (tx [c])
    rw [z] at this
    exact absurd this (by decide)
  have e3 := glue_inj (c := c) (by simpa using ne) hn (fun p hp => by
    obtain ⟨q, hq, rfl⟩ := List.mem_map.mp hp
    exact StrLaws.split_free (tx (glue c ps)) c q hq) hf e2
  have e4 := congrArg (List.map tx) e3
  rw [List.map_map] at e4
  have id_ : (tx ∘ fun p : Str => p.cps.toList) = id := funext tx_of
  rw [id_, List.map_id] at e4
  exact e4
/-- each text has its pieces -/
theorem pieces_of (c : Nat) : ∀ x : List Nat, ∃ ps : List (List Nat), ps ≠ [] ∧ (∀ p ∈ ps, c ∉ p) ∧ x = glue c ps
  | [] => ⟨[[]], by simp, by simp, rfl⟩
  | d :: x => by
    obtain ⟨ps, hn, hf, e⟩ := pieces_of c x
    by_cases h : d = c
    · subst h
      refine ⟨[] :: ps, by simp, fun p hp => ?_, ?_⟩
      · rcases List.mem_cons.mp hp with h | h
        · rw [h]; simp
        · exact hf p h
      · cases ps with
        | nil => exact absurd rfl hn
        | cons p r => rw [e]; rfl
    · cases ps with
      | nil => exact absurd rfl hn
      | cons p r =>
        refine ⟨(d :: p) :: r, by simp, fun q hq => ?_, ?_⟩
        · rcases List.mem_cons.mp hq with hq | hq
          · rw [hq]
            intro m
            rcases List.mem_cons.mp m with m | m
            · exact h m.symm
            · exact hf p (by simp) m
          · exact hf q (List.mem_cons_of_mem _ hq)
        · rw [e]
          cases r <;> rfl
theorem at_of {x : List Nat} {c i : Nat} : StrLaws.At (tx x) (tx [c]) (tx x).length i ↔ x[i]? = some c := by
  unfold StrLaws.At
  rw [StrLaws.subAt_eq]
  show (i + 1 ≤ (tx x).length ∧ ((x.drop i).take 1 == [c]) = true) ↔ _
  rw [tx_len]
  constructor
  · rintro ⟨h1, h2⟩
    have h2 := beq_iff_eq.mp h2
    have h3 : (x.drop i)[0]? = some c := by
      have := congrArg (fun l : List Nat => l[0]?) h2
      simpa using this
    simpa using h3
  · intro h
    have hi := (List.getElem?_eq_some_iff.mp h).1
    refine ⟨by omega, beq_iff_eq.mpr ?_⟩
    obtain ⟨_, e⟩ := List.getElem?_eq_some_iff.mp h
    rw [List.drop_eq_getElem_cons hi, e]
    rfl
/-- partition where the sign stands nowhere, and where it stands -/
theorem partition_none {x : List Nat} {c : Nat} (h : c ∉ x) : Txt.partition (tx x) (tx [c]) = (tx x, Str.empty, Str.empty) := by
  unfold Txt.partition
  rcases StrLaws.occ_head (tx x) (tx [c]) 1 (Nat.le_refl 1) with ⟨h0, _⟩ | ⟨i, r, _, hi, _⟩
  · rw [h0]
  · exact absurd (List.mem_of_getElem? (at_of.mp hi)) h
theorem partition_some {a b : List Nat} {c : Nat} (h : c ∉ a) : Txt.partition (tx (a ++ c :: b)) (tx [c]) = (tx a, tx [c], tx b) := by
  have ha : (a ++ c :: b)[a.length]? = some c := by simp
  unfold Txt.partition
  rcases StrLaws.occ_head (tx (a ++ c :: b)) (tx [c]) 1 (Nat.le_refl 1) with ⟨_, hn⟩ | ⟨i, r, h0, hi, hf⟩
  · exact absurd (at_of.mpr ha) (hn a.length)
  · have e : i = a.length := by
      rcases Nat.lt_trichotomy i a.length with q | q | q
      · have := at_of.mp hi
        rw [List.getElem?_append_left q] at this
        exact absurd (List.mem_of_getElem? this) h
      · exact q
      · exact absurd (at_of.mpr ha) (hf _ q)
    subst e
    rw [h0]
    show (Builtin.Str.strSub _ 0 a.length, tx [c], Builtin.Str.strSub _ (a.length + 1) _) = _
    rw [strSub_mk, strSub_mk, tx_list]
    have e1 : ((a ++ c :: b).drop 0).take (a.length - 0) = a := by simp
    have e2 : ((a ++ c :: b).drop (a.length + 1)).take ((tx (a ++ c :: b)).length - (a.length + 1)) = b := by
      rw [tx_len]
      simp
      rw [show a.length + (b.length + 1) - (a.length + 1) = b.length by omega, List.take_length]
    rw [e1, e2]
    rfl
/-- removeprefix of one sign -/
theorem removeprefix_one {x : List Nat} {c : Nat} : Txt.removeprefix (tx x) (tx [c]) = match x with
    | [] => tx []
    | d :: r => if d = c then tx r else tx (d :: r) := by
  rw [StrLaws.removeprefix_eq, StrLaws.subAt_eq, tx_len, tx_len]
  cases x with
  | nil => rfl
  | cons d r =>
    by_cases h : d = c
    · subst h
      simp [tx]
    · show (if (decide (0 + 1 ≤ (d :: r).length) && (List.take 1 (d :: r) == [c])) = true then _ else tx (d :: r)) = if d = c then tx r else tx (d :: r)
      rw [if_neg (by simp [h]), if_neg h]
end Lb

set_option Elab.async false
set_option linter.all false
set_option maxRecDepth 100000
set_option maxHeartbeats 4000000
/-! numbers written: which texts are written as the program writes them -/
namespace Lb
open PySem L2 NumText TL
theorem numL_head : ∀ n : Nat, 0 < n → (numL n).head? ≠ some 48 := by
  intro n
  induction n using Nat.strongRecOn with
  | ind n ih =>
    intro h
    by_cases h10 : n < 10
    · rw [numL_lt h10]
      intro z
      have := Option.some.inj z
      omega
    · rw [numL_step (by omega)]
      have ih := ih (n / 10) (by omega) (by omega)
      have ne := numL_ne (n / 10)
      cases e : numL (n / 10) with
      | nil => exact absurd e ne
      | cons d r =>
        rw [e] at ih
        exact ih
/-- no nought ahead -/
def canon (w : List Nat) : Prop := w = [48] ∨ w.head? ≠ some 48
instance (w : List Nat) : Decidable (canon w) := inferInstanceAs (Decidable (_ ∨ _))
theorem val_snoc (w : List Nat) (d : Nat) : digitsVal (w ++ [d]) = digitsVal w * 10 + (d - 48) := by
  unfold digitsVal
  rw [List.foldl_append]
  rfl
theorem numL_back : ∀ (k : Nat) (w : List Nat), w.length = k → AllDigits w → w ≠ [] → w.head? ≠ some 48 → 0 < digitsVal w ∧ numL (digitsVal w) = w
  | 0, w, hl, _, hn, _ => absurd (List.eq_nil_of_length_eq_zero hl) hn
  | k + 1, w, hl, hd, hn, hh => by
    obtain ⟨r, d, rfl⟩ : ∃ r d, w = r ++ [d] := ⟨w.dropLast, w.getLast hn, (List.dropLast_concat_getLast hn).symm⟩
    have hd1 : 48 ≤ d ∧ d ≤ 57 := hd d (by simp)
    rw [val_snoc]
    by_cases hr : r = []
    · subst hr
      have h48 : d ≠ 48 := fun z => hh (by rw [z]; rfl)
      have e0 : digitsVal [] = 0 := rfl
      rw [e0, Nat.zero_mul, Nat.zero_add, numL_lt (by omega)]
      refine ⟨by omega, ?_⟩
      rw [List.nil_append, show 48 + (d - 48) = d by omega]
    · have hr0 : r.head? ≠ some 48 := by
        cases r with
        | nil => exact absurd rfl hr
        | cons c s => exact hh
      obtain ⟨p, e⟩ := numL_back k r (by rw [List.length_append, List.length_singleton] at hl; omega) (fun c hc => hd c (List.mem_append_left _ hc)) hr hr0
      refine ⟨by omega, ?_⟩
      rw [numL_step (by omega), show (digitsVal r * 10 + (d - 48)) / 10 = digitsVal r by omega, show (digitsVal r * 10 + (d - 48)) % 10 = d - 48 by omega, e, show 48 + (d - 48) = d by omega]
theorem canon_iff {w : List Nat} (hd : AllDigits w) (hn : w ≠ []) : numL (digitsVal w) = w ↔ canon w := by
  constructor
  · intro e
    by_cases h : digitsVal w = 0
    · left
      rw [h] at e
      rw [← e]
      rfl
    · right
      rw [← e]
      exact numL_head _ (by omega)
  · rintro (h | h)
    · subst h
      rfl
    · exact (numL_back w.length w rfl hd hn h).2
/-- a whole number, written -/
def decL (t : Int) : List Nat := if t < 0 then 45 :: numL t.natAbs else numL t.natAbs
def shownL (t b : Int) : List Nat := if b = 1 then decL t else decL t ++ 47 :: decL b
def sgnI (neg : Bool) (n : Nat) : Int := if neg = true then -(n : Int) else (n : Int)
def preL (neg : Bool) : List Nat := if neg = true then [45] else []
theorem dig_no {w : List Nat} {c : Nat} (hd : AllDigits w) (h : c < 48 ∨ 57 < c) : c ∉ w := fun m => by
  have := hd c m
  omega
theorem val48 {w : List Nat} (hd : AllDigits w) (hn : w ≠ []) (hc : canon w) (h0 : digitsVal w = 0) : w = [48] := by
  rw [← (canon_iff hd hn).mpr hc, h0]
  rfl
theorem one_iff {neg : Bool} {w : List Nat} (hd : AllDigits w) (hn : w ≠ []) : decL (sgnI neg (digitsVal w)) = preL neg ++ w ↔ (canon w ∧ ¬ (neg = true ∧ w = [48])) := by
  unfold decL sgnI preL
  cases neg with
  | false =>
    simp only [Bool.false_eq_true, if_false, List.nil_append, false_and, not_false_eq_true, and_true]
    rw [if_neg (by omega), Int.natAbs_natCast]
    exact canon_iff hd hn
  | true =>
    simp only [if_true, true_and, Int.natAbs_neg, Int.natAbs_natCast]
    by_cases h0 : digitsVal w = 0
    · rw [h0, if_neg (by simp)]
      constructor
      · intro e
        exfalso
        have : (numL 0).head? = some 45 := by rw [e]; rfl
        revert this
        decide
      · rintro ⟨hc, h1⟩
        exact absurd (val48 hd hn hc h0) h1
    · rw [if_pos (by omega)]
      constructor
      · intro e
        have e := (List.cons.inj e).2
        refine ⟨(canon_iff hd hn).mp e, fun z => h0 ?_⟩
        rw [z]
        rfl
      · rintro ⟨hc, _⟩
        rw [(canon_iff hd hn).mpr hc]
        rfl
theorem dec_no47 (t : Int) : 47 ∉ decL t := by
  unfold decL
  split
  · intro m
    rcases List.mem_cons.mp m with m | m
    · exact absurd m (by decide)
    · exact numL_free (.inl (by decide)) m
  · exact numL_free (.inl (by decide))
theorem pre_no47 {neg : Bool} {w : List Nat} (hd : AllDigits w) : 47 ∉ preL neg ++ w := by
  intro m
  rcases List.mem_append.mp m with m | m
  · unfold preL at m
    split at m
    · exact absurd (List.mem_singleton.mp m) (by decide)
    · exact absurd m List.not_mem_nil
  · exact dig_no hd (.inl (by decide)) m
theorem two_iff {neg : Bool} {w v : List Nat} {t b : Int} (hd : AllDigits w) (hn : w ≠ []) (hdv : AllDigits v) (hnv : v ≠ []) (hm : 0 < digitsVal v) (hb : 0 < b) (hg : t.gcd b = 1) (e : sgnI neg (digitsVal w) * b = t * (digitsVal v : Int)) :
    (shownL t b = preL neg ++ w ++ 47 :: v ↔ (canon w ∧ canon v ∧ 2 ≤ digitsVal v ∧ Nat.gcd (digitsVal w) (digitsVal v) = 1)) ∧ (shownL t b = preL neg ++ w ++ 47 :: v → t = sgnI neg (digitsVal w) ∧ b = (digitsVal v : Int)) := by
  have gs : ∀ n m : Nat, (sgnI neg n).gcd (m : Int) = Nat.gcd n m := by
    intro n m
    unfold sgnI Int.gcd
    split <;> simp
  have fwd : shownL t b = preL neg ++ w ++ 47 :: v → (canon w ∧ canon v ∧ 2 ≤ digitsVal v ∧ Nat.gcd (digitsVal w) (digitsVal v) = 1) ∧ t = sgnI neg (digitsVal w) ∧ b = (digitsVal v : Int) := by
    intro h
    unfold shownL at h
    by_cases hb1 : b = 1
    · rw [if_pos hb1] at h
      exact absurd (by rw [h]; simp) (dec_no47 t)
    · rw [if_neg hb1] at h
      obtain ⟨h1, h2⟩ := head_cut (dec_no47 t) (pre_no47 hd) h
      have h2' : numL b.natAbs = v := by
        unfold decL at h2
        rw [if_neg (by omega)] at h2
        exact h2
      have vb : digitsVal v = b.natAbs := by rw [← h2', numL_val]
      have eb : b = (digitsVal v : Int) := by omega
      have et : t = sgnI neg (digitsVal w) := by
        rw [← eb] at e
        exact (Int.eq_of_mul_eq_mul_right (by omega) e).symm
      have cv : canon v := (canon_iff hdv hnv).mp (by rw [vb]; exact h2')
      rw [et] at h1 hg
      rw [eb, gs] at hg
      exact ⟨⟨((one_iff hd hn).mp h1).1, cv, by omega, hg⟩, et, eb⟩
  refine ⟨⟨fun h => (fwd h).1, ?_⟩, fun h => (fwd h).2⟩
  rintro ⟨cw, cv, h2, hg1⟩
  have lo := low_eq (t := sgnI neg (digitsVal w)) (b := (digitsVal v : Int)) (t' := t) (b' := b) (by omega) hb (by rw [gs]; exact hg1) hg e
  obtain ⟨et, eb⟩ := lo
  unfold shownL
  rw [← et, ← eb, if_neg (by omega)]
  have e1 : decL (sgnI neg (digitsVal w)) = preL neg ++ w := (one_iff hd hn).mpr ⟨cw, fun ⟨_, z⟩ => by
    rw [z] at hg1
    have : Nat.gcd (digitsVal [48]) (digitsVal v) = digitsVal v := Nat.gcd_zero_left _
    omega⟩
  have e2 : decL ((digitsVal v : Nat) : Int) = v := by
    unfold decL
    rw [if_neg (by omega), Int.natAbs_natCast]
    exact (canon_iff hdv hnv).mpr cv
  rw [e1, e2]
end Lb

set_option Elab.async false
set_option linter.all false
set_option maxRecDepth 100000
set_option maxHeartbeats 4000000
namespace K60
open PySem L2 Lb
open C8 (pss_cut)
/-! sizes -/
mutual
def dsz : Dt → Nat
  | .str z => z.length
  | .ls l => max l.length (dszs l)
  | .tp l => max l.length (dszs l)
  | _ => 0
def dszs : List Dt → Nat
  | [] => 0
  | d :: r => max (dsz d) (dszs r)
end
theorem dsz_mem : ∀ {l : List Dt} {d : Dt}, d ∈ l → dsz d ≤ dszs l
  | t :: r, d, h => by
    simp only [dszs]
    rcases List.mem_cons.mp h with rfl | h
    · exact Nat.le_max_left _ _
    · exact Nat.le_trans (dsz_mem h) (Nat.le_max_right _ _)
theorem dsz_seq {d : Dt} {l : List Dt} {n : Nat} (e : seqD d = some l) (h : dsz d ≤ n) : l.length ≤ n ∧ ∀ t ∈ l, dsz t ≤ n := by
  have k : max l.length (dszs l) ≤ n := by
    cases d <;> simp only [seqD, Option.some.injEq, reduceCtorEq] at e <;> subst e <;> simpa only [dsz] using h
  exact ⟨by omega, fun t ht => Nat.le_trans (dsz_mem ht) (by omega)⟩
/-! what isinstance says -/
def isLT : Dt → Bool
  | .tp _ => true
  | .ls _ => true
  | _ => false
def isStr : Dt → Bool
  | .str _ => true
  | _ => false
theorem At.seq {H : Hp} {d : Dt} {v : V} {l : List Dt} (h : At H d v) (e : seqD d = some l) : ∃ a xs, v = .ref a ∧ SqB H a xs ∧ Ats H l xs := by
  cases d <;> simp only [seqD, Option.some.injEq, reduceCtorEq] at e <;> subst e <;> simp only [At] at h
  · obtain ⟨a, xs, e, h1, h2⟩ := h
    exact ⟨a, xs, e, .inl h1, h2⟩
  · obtain ⟨a, xs, e, h1, h2⟩ := h
    exact ⟨a, xs, e, .inr h1, h2⟩
theorem isLT_seq (d : Dt) : isLT d = (seqD d).isSome := by cases d <;> rfl
def kvK (p : Pl) : List (Key × V) := p.map fun q => (Sum.inr q.1, V.int q.2)
theorem kvK_get : ∀ (p : Pl) (z : Str), (valV (kvK p) (Sum.inr z : Key)).isSome = decide (z ∈ p.map (·.1))
  | [], z => by simp [kvK, valV]
  | q :: r, z => by
    have ih := kvK_get r z
    unfold kvK valV at ih ⊢
    rw [List.map_cons, List.find?_cons]
    by_cases h : q.1 = z
    · simp [h]
    · rw [show decide ((Sum.inr q.1 : Key) = Sum.inr z) = false by simp [h]]
      simp only [List.map_cons, List.mem_cons, ih, Ne.symm h, false_or]
theorem kvK_put {p : Pl} {z : Str} {i : Nat} (h : z ∉ p.map (·.1)) : putK (kvK p) (Sum.inr z : Key) (V.int (i : Nat)) = kvK (p ++ [(z, i)]) := by
  have e : ((kvK p).any fun kv => decide (kv.1 = (Sum.inr z : Key))) = false := by
    rw [Bool.eq_false_iff]
    intro w
    rw [List.any_eq_true] at w
    obtain ⟨x, hx, ex⟩ := w
    unfold kvK at hx
    obtain ⟨q, hq, rfl⟩ := List.mem_map.mp hx
    have ex := of_decide_eq_true ex
    have : q.1 = z := by simpa using ex
    exact h (List.mem_map.mpr ⟨q, hq, this⟩)
  unfold putK
  rw [e]
  simp [kvK]
theorem mapM_some : ∀ (l : List Dt), (l.mapM nmD).isSome = l.all fun d => (nmD d).isSome
  | [] => rfl
  | d :: r => by
    rw [List.mapM_cons, List.all_cons, ← mapM_some r]
    cases nmD d with
    | none => rfl
    | some z => cases h : r.mapM nmD <;> rfl
theorem mapM_strs : ∀ {l : List Dt} {x : List Str}, l.mapM nmD = some x → l = x.map Dt.str ∧ ∀ z ∈ x, nmS z = true
  | [], x, h => by
    cases h
    exact ⟨rfl, fun _ h => nomatch h⟩
  | d :: r, x, h => by
    rw [List.mapM_cons] at h
    cases e0 : nmD d with
    | none => rw [e0] at h; cases h
    | some z =>
      cases e : r.mapM nmD with
      | none => rw [e0, e] at h; cases h
      | some y =>
        rw [e0, e] at h
        cases h
        obtain ⟨e1, e2⟩ := mapM_strs e
        have hd : d = .str z ∧ nmS z = true := by
          cases d with
          | str u =>
            have e0 : (if nmS u = true then some u else none) = some z := e0
            by_cases hz : nmS u = true
            · rw [if_pos hz] at e0
              cases e0
              exact ⟨rfl, hz⟩
            · rw [if_neg hz] at e0
              cases e0
          | _ => cases e0
        refine ⟨by rw [e1, hd.1]; rfl, fun w hw => ?_⟩
        rcases List.mem_cons.mp hw with rfl | hw
        · exact hd.2
        · exact e2 w hw
theorem lvD_none {d : Dt} (h : seqD d = none) : (lvD d).isSome = false := by unfold lvD; rw [h]; rfl
theorem lvD_is {d : Dt} {l : List Dt} (h : seqD d = some l) : (lvD d).isSome = (decide (0 < l.length) && l.all fun d => (nmD d).isSome) := by
  unfold lvD
  rw [h]
  cases l with
  | nil => rfl
  | cons t r =>
    show ((t :: r).mapM nmD).isSome = _
    rw [mapM_some]
    rfl
theorem lvD_strs {d : Dt} {x : List Str} (h : lvD d = some x) : seqD d = some (x.map Dt.str) ∧ x ≠ [] ∧ ∀ z ∈ x, nmS z = true := by
  unfold lvD at h
  cases e : seqD d with
  | none => rw [e] at h; cases h
  | some l =>
    rw [e] at h
    cases l with
    | nil => cases h
    | cons t r =>
      obtain ⟨e1, e2⟩ := mapM_strs (show (t :: r).mapM nmD = some x from h)
      refine ⟨by rw [← e1], fun z => ?_, e2⟩
      subst z
      cases e1
theorem places_seq {d : Dt} {l : List Dt} (h : seqD d = some l) (h0 : 0 < l.length) : places d = (match plc 0 l [] with | .ok p => .ok p | .error i => .error (some i)) := by
  unfold places
  rw [h]
  cases l with
  | nil => exact absurd h0 (by simp)
  | cons t r =>
    show (match plc 0 (t :: r) [] with | .ok k => (Except.ok k : Except (Option Nat) Pl) | .error i => .error (some i)) = _
    cases plc 0 (t :: r) [] <;> rfl
theorem plc_len {i : Nat} : ∀ {x : List Str} {acc acc' : Pl}, addN i x acc = some acc' → acc'.length = acc.length + x.length
  | [], acc, acc', h => by cases h; rfl
  | z :: r, acc, acc', h => by
    unfold addN at h
    split at h
    · cases h
    · rw [plc_len h, List.length_append, List.length_cons (as := r), List.length_singleton]
      omega
theorem plc_bad {i : Nat} {d : Dt} {r : List Dt} {acc : Pl} (h : lvD d = none) : plc i (d :: r) acc = .error i := by unfold plc; rw [h]
theorem plc_dup {i : Nat} {d : Dt} {r : List Dt} {acc : Pl} {x : List Str} (h : lvD d = some x) (e : addN i x acc = none) : plc i (d :: r) acc = .error i := by unfold plc; rw [h]; show (match addN i x acc with | none => _ | some acc' => _) = _; rw [e]
theorem plc_go {i : Nat} {d : Dt} {r : List Dt} {acc acc' : Pl} {x : List Str} (h : lvD d = some x) (e : addN i x acc = some acc') : plc i (d :: r) acc = plc (i + 1) r acc' := by rw [plc, h]; show (match addN i x acc with | none => _ | some acc' => _) = _; rw [e]
def sp_is_name : Sp := fun vs H Q _ => ∃ v d, vs = [v] ∧ At H d v ∧ dsz d ≤ 90 ∧ ∀ H', Same H H' → Q (.bl (nmD d).isSome) H'
def sp_is_level : Sp := fun vs H Q _ => ∃ v d, vs = [v] ∧ At H d v ∧ dsz d ≤ 90 ∧ ∀ H', Same H H' → Q (.bl (lvD d).isSome) H'
def posV : Option Nat → V
  | none => .non
  | some i => .int i
def sp_places_of (CI : Addr) : Sp := fun vs H Q E => ∃ v d, vs = [v] ∧ At H d v ∧ dsz d ≤ 90 ∧ (match places d with
  | .ok p => ∀ H' D, Same H H' → H D = none → H' D = some (.dK (kvK p)) → Q (.ref D) H'
  | .error e => ∀ H' dd, Same H H' → H dd = none → H' dd = some (.xd [("position", posV e)]) → E (.ref CI) (some dd) H')
section
variable {P : Program} {w : World} {K : PySem.W.Frag} {mg : Str → Option Value} {base : Heap} {a : Ad}
theorem At.ty (T : Txt K mg a) {H : Hp} {d : Dt} {v : V} (h : At H d v) : ∃ t, TyX K H v t ∧ PySem.W.kitAny K t [.type "list", .type "tuple"] = some (isLT d) ∧ PySem.W.kitOne K t (.type "str") = some (isStr d) ∧ PySem.W.kitOne K t (.ref a.c_Order) = some false := by
  have any : ∀ {u : Value} {x y : Bool}, PySem.W.kitOne K u (.type "list") = some x → PySem.W.kitOne K u (.type "tuple") = some y → PySem.W.kitAny K u [.type "list", .type "tuple"] = some (x || y) := by
    intro u x y h1 h2
    unfold PySem.W.kitAny
    rw [h1]
    cases x with
    | true => rfl
    | false =>
      show PySem.W.kitAny K u [.type "tuple"] = some (false || y)
      unfold PySem.W.kitAny
      rw [h2]
      cases y <;> rfl
  cases d with
  | non => simp only [At] at h; subst h; exact ⟨_, .base .non, any (x := false) (y := false) (kit_ty (by decide +kernel)) (kit_ty (by decide +kernel)), kit_ty (by decide +kernel), T.I.kNone⟩
  | bl b => simp only [At] at h; subst h; exact ⟨_, .base (.bl _), any (x := false) (y := false) (kit_ty (by decide +kernel)) (kit_ty (by decide +kernel)), kit_ty (r := false) (by decide +kernel), T.I.kBool⟩
  | int i => simp only [At] at h; subst h; exact ⟨_, .base (.int _), any (x := false) (y := false) (kit_ty (by decide +kernel)) (kit_ty (by decide +kernel)), kit_ty (r := false) (by decide +kernel), T.I.kInt⟩
  | str z => simp only [At] at h; subst h; exact ⟨_, .base (.str _), any (x := false) (y := false) (kit_ty (by decide +kernel)) (kit_ty (by decide +kernel)), kit_ty (r := true) (by decide +kernel), T.I.kStr⟩
  | ls l => simp only [At] at h; obtain ⟨q, xs, rfl, e, _⟩ := h; exact ⟨_, .base (.lst e), any (x := true) (y := false) (kit_ty (by decide +kernel)) (kit_ty (by decide +kernel)), kit_ty (r := false) (by decide +kernel), T.I.kList⟩
  | tp l => simp only [At] at h; obtain ⟨q, xs, rfl, e, _⟩ := h; exact ⟨_, .base (.tup e), any (x := false) (y := true) (kit_ty (by decide +kernel)) (kit_ty (by decide +kernel)), kit_ty (r := false) (by decide +kernel), T.I.kTup⟩
  | dc => simp only [At] at h; obtain ⟨q, rfl, e⟩ := h; exact ⟨_, .base (.dK e), any (x := false) (y := false) (kit_ty (by decide +kernel)) (kit_ty (by decide +kernel)), kit_ty (r := false) (by decide +kernel), T.I.kDict⟩
  | dk k => simp only [At] at h; obtain ⟨q, rfl, e⟩ := h; exact ⟨_, .base (.dK e), any (x := false) (y := false) (kit_ty (by decide +kernel)) (kit_ty (by decide +kernel)), kit_ty (r := false) (by decide +kernel), T.I.kDict⟩
theorem ok_InvalidLevels_init_ (T : Txt K mg a) : FnOk P w K mg base CX0 1 a.f_InvalidLevels_init_ a.d_InvalidLevels_init_ ["self", "position"] (sp_exq K a.c_InvalidLevels "position") := by
  refine T.F_InvalidLevels_init_.ok sc_InvalidLevels_init_ (fun vs H Q E h => ?_) (fun cdv A outer s H vs Q E hr h => ?_)
  · obtain ⟨q, y, rfl, _⟩ := h
    rfl
  · obtain ⟨q, y, rfl, hq, k⟩ := h
    refine ⟨_, (pss_one (ps_ostF (pv 0) (pv 1))), ?_⟩
    exact ⟨_, rfl, _, rfl, q, a.c_InvalidLevels, rfl, T.xInvalidLevels.ox, T.nInvalidLevels, .inl ⟨hq, fun dx hdx ne => k dx hdx ne⟩⟩
theorem ok_UnknownNode_init_ (T : Txt K mg a) : FnOk P w K mg base CX0 1 a.f_UnknownNode_init_ a.d_UnknownNode_init_ ["self", "value"] (sp_exq K a.c_UnknownNode "value") := by
  refine T.F_UnknownNode_init_.ok sc_UnknownNode_init_ (fun vs H Q E h => ?_) (fun cdv A outer s H vs Q E hr h => ?_)
  · obtain ⟨q, y, rfl, _⟩ := h
    rfl
  · obtain ⟨q, y, rfl, hq, k⟩ := h
    refine ⟨_, (pss_one (ps_ostF (pv 0) (pv 1))), ?_⟩
    exact ⟨_, rfl, _, rfl, q, a.c_UnknownNode, rfl, T.xUnknownNode.ox, T.nUnknownNode, .inl ⟨hq, fun dx hdx ne => k dx hdx ne⟩⟩
theorem lett_in (c : Nat) : decide (c ∈ (Str.ofString "abcdefghijklmnopqrstuvwxyz").cps.toList) = lett c := by
  have e : (Str.ofString "abcdefghijklmnopqrstuvwxyz").cps.toList = [97, 98, 99, 100, 101, 102, 103, 104, 105, 106, 107, 108, 109, 110, 111, 112, 113, 114, 115, 116, 117, 118, 119, 120, 121, 122] := by decide +kernel
  rw [e, Bool.eq_iff_iff]
  unfold lett
  simp only [decide_eq_true_eq, Bool.and_eq_true, List.mem_cons, List.not_mem_nil, or_false]
  omega
theorem take_snoc {α : Type} {l : List α} {i : Nat} {x : α} (h : l[i]? = some x) : l.take i ++ [x] = l.take (i + 1) := by
  rw [List.take_succ, h]
  rfl
theorem ok_is_name (T : Txt K mg a) : FnOk P w K mg base CX0 1 a.f_is_name a.d_is_name ["value"] sp_is_name := by
  refine T.F_is_name.ok sc_is_name (fun vs H Q E h => ?_) (fun cdv A outer s H vs Q E hr h => ?_)
  · obtain ⟨v, d, rfl, _⟩ := h
    rfl
  · obtain ⟨v, d, rfl, hd, hz, k⟩ := h
    refine ⟨_, (pss_one (ps_ret (pe_and (pe_callB (call_isiK' (K := K) rfl) (by rfl) T.b_isinstance (by decide +kernel) (pa_cons (pv 0) (pa_cons (pe_bltn (v := .ty "str") (by rfl) T.b_str (by decide +kernel) rfl) pa_nil))) (pe_and (pe_chain op_le op_le pe_int (pe_callB call_len_str (by rfl) T.b_len (by decide +kernel) (pa_cons (pv 0) pa_nil)) (pe_glob (v := .int 8) rfl T.gLong.choose_spec ⟨_, rfl⟩)) (pe_one (pe_callB (cr_allK (K := K) rfl rfl) (by rfl) T.b_all (by decide +kernel) (pa_cons (pe_lc (own := [("letter", 1)]) (by rfl) sc_is_name.nd (pi_str (pv 0)) (blkOk_by (own := [("letter", 1)]) (N := ["value", "letter"]) (sc := defScope s_is_name) (by decide +kernel)) (fun _ _ _ _ _ => (pg_name (i := 1) sc_is_name.nd rfl (by first | exact Or.inl rfl | exact Or.inr rfl))) (fun _ _ _ _ _ => pts_nil) (fun _ _ _ _ _ => (pe_cmpR op_in_sign (pv 1) (pe_glob (v := .str "abcdefghijklmnopqrstuvwxyz") rfl T.gLet.choose_spec ⟨_, rfl⟩) rfl))) pa_nil))))))), ?_⟩
    obtain ⟨t, ty, _, ks, _⟩ := At.ty T hd
    refine ⟨_, rfl, _, _, _, _, _, rfl, .ty _, ty, ks, isStr d, rfl, ?_⟩
    cases d with
    | str z =>
      simp only [At] at hd
      subst hd
      have hz : z.length ≤ 90 := by simpa only [dsz] using hz
      have hzl : z.cps.toList.length = z.length := by simp [Str.length]
      refine iteT ?_
      refine ⟨_, rfl, z, rfl, szle (by omega), _, _, rfl, rfl, _, rfl, ?_⟩
      have kk : ∀ H', Same H H' → Q (.bl (nmS z)) H' := fun H' s' => by
        have := k H' s'
        rw [show (nmD (.str z)).isSome = nmS z by unfold nmD; by_cases h : nmS z = true <;> simp [h]] at this
        exact this
      unfold nmS at kk
      rw [hzl] at kk
      by_cases h1 : 1 ≤ z.length
      · rw [decide_eq_true (show (1 : Int) ≤ ((z.length : Nat) : Int) by omega)]
        rw [decide_eq_true h1] at kk
        refine iteT ?_
        refine ⟨_, _, rfl, rfl, _, rfl, ?_⟩
        by_cases h8 : z.length ≤ 8
        · rw [decide_eq_true (show ((z.length : Nat) : Int) ≤ 8 by omega)]
          rw [decide_eq_true h8] at kk
          refine iteT ?_
          refine ⟨_, rfl, z, rfl, fun D hD => ?_⟩
          refine lc_it (walk_str (z := z)) (fun i H' => Same H H' ∧ H' D = some (.lst (((z.cps.toList.take i).map lett).map V.bl))) ⟨Lb.Same.upd hD, upd_same⟩ (fun _ _ _ _ => trivial) ?_ ?_
          · rintro i v H' H'' hi ⟨s', eD⟩ ⟨rfl, c, hc, rfl⟩
            have hc' : z.cps.toList[i]? = some c := by
              rw [← Array.getElem?_toList] at hc
              exact hc
            refine ⟨rfl, _, rfl, c, _, rfl, rfl, _, eD, szlt (by rw [List.length_map, List.length_map, List.length_take]; omega), Lb.Same.updl s' hD, ?_⟩
            rw [upd_same, lett_in, ← take_snoc hc', List.map_append, List.map_append]
            rfl
          · rintro H' ⟨s', eD⟩
            rw [show z.cps.size = z.cps.toList.length by simp, List.take_length] at eD
            refine ⟨D, _, rfl, SqL.of eD, ?_⟩
            rw [show (z.cps.toList.map lett).all id = z.cps.toList.all lett by rw [List.all_map]; rfl]
            exact kk _ s'
        · rw [decide_eq_false (show ¬ ((z.length : Nat) : Int) ≤ 8 by omega)]
          rw [decide_eq_false h8] at kk
          exact iteF (kk _ (Same.refl _))
      · rw [decide_eq_false (show ¬ (1 : Int) ≤ ((z.length : Nat) : Int) by omega)]
        rw [decide_eq_false h1] at kk
        exact iteF ⟨_, rfl, iteF (kk _ (Same.refl _))⟩
    | _ => exact iteF (k _ (Same.refl _))
theorem ok_is_level (T : Txt K mg a) : FnOk P w K mg base CX0 2 a.f_is_level a.d_is_level ["value"] sp_is_level := by
  refine T.F_is_level.ok sc_is_level (fun vs H Q E h => ?_) (fun cdv A outer s H vs Q E hr h => ?_)
  · obtain ⟨v, d, rfl, _⟩ := h
    rfl
  · obtain ⟨v, d, rfl, hd, hz, k⟩ := h
    refine ⟨_, (pss_one (ps_ret (pe_and (pe_callB (call_isiT (X := _)) (by rfl) T.b_isinstance (by decide +kernel) (pa_cons (pv 0) (pa_cons (pe_tup (pa_cons (pe_bltn (v := .ty "list") (by rfl) T.b_list (by decide +kernel) rfl) (pa_cons (pe_bltn (v := .ty "tuple") (by rfl) T.b_tuple (by decide +kernel) rfl) pa_nil))) pa_nil))) (pe_and (pe_cmpR op_gt (pe_callB (call_lenK (K := K) rfl) (by rfl) T.b_len (by decide +kernel) (pa_cons (pv 0) pa_nil)) pe_int (nomark _)) (pe_one (pe_callB (cr_allK (K := K) rfl rfl) (by rfl) T.b_all (by decide +kernel) (pa_cons (pe_lc (own := [("name", 1)]) (by rfl) sc_is_level.nd (pi_seqK (K := K) rfl (pv 0)) (blkOk_by (own := [("name", 1)]) (N := ["value", "name"]) (sc := defScope s_is_level) (by decide +kernel)) (fun _ _ _ _ _ => (pg_name (i := 1) sc_is_level.nd rfl (by first | exact Or.inl rfl | exact Or.inr rfl))) (fun _ _ _ _ _ => pts_nil) (fun _ _ _ _ _ => (pe_call (ok_is_name T) (hr.mono (by decide)) (by rfl) T.m_is_name T.F_is_name.kp (b_is_name T) .nil pass0 (pa_cons (pv 1) pa_nil)))) pa_nil))))))), ?_⟩
    refine ⟨_, rfl, sz, fun tp htp => ?_⟩
    generalize e_H1 : upd _ tp _ = H1
    obtain ⟨s1, ft⟩ := al3 e_H1 htp
    clear e_H1
    (try dsimp only at ft)
    obtain ⟨t, ty, kl, _, _⟩ := At.ty T (At.same s1 _ _ hd)
    refine ⟨_, tp, _, _, _, _, rfl, ft, .cons (.ty _) (.cons (.ty _) .nil), ty, kl, isLT d, rfl, ?_⟩
    rw [isLT_seq]
    cases hs : seqD d with
    | none =>
      rw [lvD_none hs] at k
      exact iteF (k _ s1)
    | some l =>
      rw [lvD_is hs] at k
      obtain ⟨a0, xs, rfl, hq, ha⟩ := (At.same s1 _ _ hd).seq hs
      obtain ⟨hl, hsm⟩ := dsz_seq hs hz
      have ln := ha.len
      refine iteT ⟨_, rfl, a0, _, rfl, hq.len, _, _, rfl, rfl, _, rfl, ?_⟩
      rw [ln, show decide ((0 : Int) < (l.length : Nat)) = decide (0 < l.length) by simp]
      cases hz : decide (0 < l.length) with
      | false =>
        rw [hz] at k
        exact iteF (k _ s1)
      | true =>
        rw [hz] at k
        refine iteT (seq_in hq rfl fun J G w g D hD => ?_)
        refine lc_it w (fun i H' => Same H1 H' ∧ H' D = some (.lst (((l.take i).map fun d => (nmD d).isSome).map V.bl))) ⟨Lb.Same.upd hD, upd_same⟩ (fun i H' _ b => g _ (hq.eq b.1 (Same.refl _))) ?_ ?_
        · rintro i v H' H'' hi ⟨s', eD⟩ ⟨rfl, hv⟩
          obtain ⟨d', hd', hv'⟩ := ha.at_ hv
          refine ⟨rfl, _, rfl, v, d', rfl, At.same s' _ _ hv', hsm d' (List.mem_of_getElem? hd'), fun H3 s3 => ⟨_, s3 _ _ eD, ?_, Lb.Same.updl (s'.trans s3) hD, ?_⟩⟩
          · rw [List.length_map, List.length_map, List.length_take]
            exact szlt (by omega)
          · rw [upd_same, ← take_snoc hd', List.map_append, List.map_append]
            rfl
        · rintro H2 ⟨s2, eD⟩
          rw [ln, List.take_length] at eD
          refine ⟨D, _, rfl, SqL.of eD, ?_⟩
          rw [show ((l.map fun d => (nmD d).isSome).all id) = (l.all fun d => (nmD d).isSome) by rw [List.all_map]; rfl]
          exact k _ (s1.trans s2)
end
end K60

set_option Elab.async false
set_option linter.all false
set_option maxRecDepth 100000
set_option maxHeartbeats 4000000
namespace K60
open PySem L2 Lb
open C8 (pss_cut)
section
variable {P : Program} {w : World} {K : PySem.W.Frag} {mg : Str → Option Value} {base : Heap} {a : Ad}
theorem ok_places_of (T : Txt K mg a) : FnOk P w K mg base (L2.CX P w) 4 a.f_places_of a.d_places_of ["levels"] (sp_places_of a.c_InvalidLevels) := by
  refine T.F_places_of.okX sc_places_of (fun vs H Q E h => ?_) (fun cdv A outer s H vs Q E hr h => ?_)
  · obtain ⟨v, d, rfl, _⟩ := h
    rfl
  · obtain ⟨v, d, rfl, hd, hz, k⟩ := h
    refine ⟨_, (pss_cons (ps_if (PW.pt (pw_or (pt_not (pt_val (pe_callB (call_isiT (X := _)) (by rfl) T.b_isinstance (by decide +kernel) (pa_cons (pv 0) (pa_cons (pe_tup (pa_cons (pe_bltn (v := .ty "list") (by rfl) T.b_list (by decide +kernel) rfl) (pa_cons (pe_bltn (v := .ty "tuple") (by rfl) T.b_tuple (by decide +kernel) rfl) pa_nil))) pa_nil))))) (pw_or1 (pt_cmpR op_eq (pe_callB (call_lenK (K := K) rfl) (by rfl) T.b_len (by decide +kernel) (pa_cons (pv 0) pa_nil)) pe_int (nomark _))))) (pss_one (ps_raise rfl (takes_of rfl rfl rfl rfl) (pmk_oexF T.xInvalidLevels.ox T.xInvalidLevels.iC T.xInvalidLevels.tI (ok_InvalidLevels_init_ T) (hr.mono (by decide)) (b_InvalidLevels_init_ T) .nil pass0 (by rfl) T.xInvalidLevels.mC (pa_cons pe_non pa_nil)))) pss_nil)
 (pss_cons (ps_set (i := 1) sc_places_of.nd rfl (by first | exact Or.inl rfl | exact Or.inr rfl) pe_dnewK)
 (pss_cons (ps_for (passes_of rfl) rfl (pi_enumB (by rfl) T.b_enumerate (pa_cons (pv 0) pa_nil)) (pg_tupK (K := K) (n := 2) rfl rfl (pgs_cons (pg_name (i := 2) sc_places_of.nd rfl (by first | exact Or.inl rfl | exact Or.inr rfl)) (pgs_cons (pg_name (i := 3) sc_places_of.nd rfl (by first | exact Or.inl rfl | exact Or.inr rfl)) pgs_nil))) (pss_cons (ps_if (pt_not (pt_val (pe_call (ok_is_level T) (hr.mono (by decide)) (by rfl) T.m_is_level T.F_is_level.kp (b_is_level T) .nil pass0 (pa_cons (pv 3) pa_nil)))) (pss_one (ps_raise rfl (takes_of rfl rfl rfl rfl) (pmk_oexF T.xInvalidLevels.ox T.xInvalidLevels.iC T.xInvalidLevels.tI (ok_InvalidLevels_init_ T) (hr.mono (by decide)) (b_InvalidLevels_init_ T) .nil pass0 (by rfl) T.xInvalidLevels.mC (pa_cons (pv 2) pa_nil)))) pss_nil)
 (pss_one (ps_for (passes_of rfl) rfl (pi_seqK (K := K) rfl (pv 3)) (pg_name (i := 4) sc_places_of.nd rfl (by first | exact Or.inl rfl | exact Or.inr rfl)) (pss_cons (ps_if (pt_cmp (pc_din (hu_of hr) (pv 4) (pv 1))) (pss_one (ps_raise rfl (takes_of rfl rfl rfl rfl) (pmk_oexF T.xInvalidLevels.ox T.xInvalidLevels.iC T.xInvalidLevels.tI (ok_InvalidLevels_init_ T) (hr.mono (by decide)) (b_InvalidLevels_init_ T) .nil pass0 (by rfl) T.xInvalidLevels.mC (pa_cons (pv 2) pa_nil)))) pss_nil)
 (pss_one (ps_dput (hu_of hr) (pv 1) (pv 4) (pv 2) rfl)))))))
 (pss_one (ps_ret (pv 1)))))), ?_⟩
    refine ⟨_, rfl, sz, fun tp htp => ?_⟩
    generalize e_H1 : upd _ tp _ = H1
    obtain ⟨s1, ft⟩ := al3 e_H1 htp
    clear e_H1
    (try dsimp only at ft)
    obtain ⟨t, ty, kl, _, _⟩ := At.ty T (At.same s1 _ _ hd)
    refine ⟨_, tp, _, _, _, _, rfl, ft, .cons (.ty _) (.cons (.ty _) .nil), ty, kl, isLT d, rfl, ?_⟩
    have raise : ∀ {H2 : Hp} {σ : L2.St} {x : L2.TA} {y : V}, Same H H2 → (∀ Q : List V → Hp → Prop, Q [y] H2 → x σ H2 Q) → (∀ H' dd, Same H H' → H dd = none → H' dd = some (.xd [("position", y)]) → E (.ref a.c_InvalidLevels) (some dd) H') →
        tMkO a.c_InvalidLevels (sp_exq K a.c_InvalidLevels "position") [] x σ H2 fun cls d H' => E cls d H' := fun {H2 σ x y} S hx kx =>
      hx _ ⟨(show 1 ≤ 1000 by decide), fun q hq => ⟨q, y, rfl, upd_same, fun dx' hdx' ne' => ⟨rfl, exq_way hq (fun H' dd s n e => kx H' dd (S.trans s) (Lb.Same.free S n) e) dx' hdx' ne'⟩⟩⟩
    rw [isLT_seq]
    cases hs : seqD d with
    | none =>
      have e : places d = .error none := by unfold places; rw [hs]
      rw [e] at k
      exact iteT (iteT (raise s1 (fun Q h => h) k))
    | some l =>
      obtain ⟨a0, xs, rfl, hq, ha⟩ := (At.same s1 _ _ hd).seq hs
      obtain ⟨hl, hsm⟩ := dsz_seq hs hz
      have ln := ha.len
      refine iteF ⟨_, rfl, a0, _, rfl, hq.len, rfl, _, rfl, ?_⟩
      rw [ln]
      cases l with
      | nil =>
        have e : places d = .error none := by unfold places; rw [hs]
        rw [e] at k
        exact iteT (raise s1 (fun Q h => h) k)
      | cons t0 r0 =>
        generalize el : t0 :: r0 = l at *
        have l0 : 0 < l.length := by subst el; simp
        have e0 := places_seq hs l0
        rw [decide_eq_false (show ¬ V.int (l.length : Nat) = V.int 0 from fun z => by injection z with z; omega)]
        refine iteF fun D hD => ?_
        have sD : Same H1 (upd H1 D (.dK [])) := Lb.Same.upd hD
        refine enum_in (hq.same sD) rfl fun J G wk g => ?_
        refine for_it wk (fun i σ H' => ∃ u2 u3 u4 acc, σ = [some (.ref a0), some (.ref D), u2, u3, u4] ∧ Same H1 H' ∧ H' D = some (.dK (kvK acc)) ∧ plc 0 l [] = plc i (l.drop i) acc ∧ acc.length ≤ 90 * i)
          ⟨_, _, _, [], rfl, sD, upd_same, rfl, Nat.zero_le _⟩ (fun i σ H' hi ⟨u2, u3, u4, acc, e, s, _⟩ => g _ (hq.eq s sD)) ?_ ?_
        · rintro i v σ H2 H3 hi ⟨u2, u3, u4, acc, rfl, S2, eD, ep, la⟩ ⟨T0, x, y, rfl, hT0, rfl, ex, ey⟩
          cases ex
          have ey : xs[i]? = some y := ey
          obtain ⟨d', hd', hv'⟩ := ha.at_ ey
          generalize e_H5 : upd _ T0 _ = H5
          obtain ⟨s5, f5⟩ := al3 e_H5 hT0
          clear e_H5
          (try dsimp only at f5)
          have S5 := S2.trans s5
          have hv5 := At.same S5 _ _ hv'
          have hd0 : l.drop i = d' :: l.drop (i + 1) := by
            rw [List.getElem?_eq_some_iff] at hd'
            obtain ⟨hlt, e⟩ := hd'
            rw [List.drop_eq_getElem_cons hlt, e]
          rw [hd0] at ep
          refine ⟨T0, _, rfl, SqT.of f5, rfl, _, _, rfl, _, _, rfl, rfl, ?_⟩
          refine ⟨_, rfl, y, d', rfl, hv5, hsm d' (List.mem_of_getElem? hd'), fun H6 s6 => ⟨_, rfl, ?_⟩⟩
          have S6 := S5.trans s6
          cases hlv : lvD d' with
          | none =>
            rw [plc_bad hlv] at ep
            rw [e0, ep] at k
            exact iteT (raise (s1.trans S6) (fun Q h => ⟨_, rfl, h⟩) k)
          | some x =>
            refine iteF ?_
            obtain ⟨hsx, hx0, hxn⟩ := lvD_strs hlv
            obtain ⟨b0, ys, rfl, hyq, hya⟩ := hv'.seq hsx
            have hyl := (dsz_seq hsx (hsm d' (List.mem_of_getElem? hd'))).1
            rw [List.length_map] at hyl
            obtain rfl := ats_strs.mp hya
            refine seq_in (hyq.same S6) rfl fun J2 G2 wk2 g2 => ?_
            rw [List.length_map] at wk2
            refine for_it wk2 (fun j σ H' => ∃ u4 acc', σ = [some (.ref a0), some (.ref D), some (.int (i : Nat)), some (.ref b0), u4] ∧ Same H1 H' ∧ H' D = some (.dK (kvK acc')) ∧ addN i x acc = addN i (x.drop j) acc' ∧ acc'.length ≤ 90 * i + j)
              ⟨_, acc, rfl, S6, s6 _ _ (s5 _ _ eD), rfl, la⟩ (fun j σ H' hj ⟨u4, acc', e, s, _⟩ => g2 _ (hyq.eq s S6)) ?_ ?_
            · rintro j v σ H7 H8 hj ⟨u4, acc', rfl, S7, eD7, ea, la'⟩ ⟨rfl, ev⟩
              rw [List.getElem?_map, List.getElem?_eq_getElem hj] at ev
              obtain rfl : V.str x[j] = v := by simpa using ev
              have hx1 : x.drop j = x[j] :: x.drop (j + 1) := List.drop_eq_getElem_cons hj
              refine ⟨_, rfl, _, rfl, D, _, rfl, DGet.k (k := Sum.inr x[j]) eD7, _, rfl, ?_⟩
              rw [kvK_get]
              by_cases hin : x[j] ∈ acc'.map (·.1)
              · rw [hx1, addN, if_pos hin] at ea
                rw [plc_dup hlv ea] at ep
                rw [e0, ep] at k
                rw [decide_eq_true hin]
                exact iteT (raise (s1.trans S7) (fun Q h => ⟨_, rfl, h⟩) k)
              · rw [hx1, addN, if_neg hin] at ea
                rw [decide_eq_false hin]
                refine iteF ⟨_, rfl, _, rfl, _, rfl, D, _, rfl, .inl ⟨_, Sum.inr x[j], eD7, rfl, ?_, rfl⟩, ?_⟩
                · rw [kvK, List.length_map]
                  have : i < 90 := by omega
                  exact szlt (by omega)
                · rw [kvK_put hin]
                  exact ⟨_, _, rfl, Lb.Same.updl S7 hD, upd_same, ea, by rw [List.length_append, List.length_singleton]; omega⟩
            · rintro σ H7 ⟨u4, acc', rfl, S7, eD7, ea, la'⟩
              rw [List.drop_length] at ea
              exact ⟨_, _, _, acc', rfl, S7, eD7, by rw [ep, plc_go hlv ea], by omega⟩
        · rintro σ H2 ⟨u2, u3, u4, acc, rfl, S2, eD, ep, la⟩
          rw [ln, List.drop_length] at ep
          rw [e0, ep] at k
          exact ⟨_, rfl, k _ D (s1.trans S2) (Lb.Same.free s1 hD) eD⟩
end
end K60

set_option Elab.async false
set_option linter.all false
set_option maxRecDepth 100000
set_option maxHeartbeats 4000000
/-! a def that may raise where it does not; sorted told with K; C.m(..) of a staticmethod with *args -/
namespace Lb
open PySem PySem.Spec PyProof.Rows L2
theorem passX0 {X : Cx} : Passes (L2.CX X.prog X.w) X (fun _ _ _ => False) := fun _ _ _ _ _ _ _ h => by
  obtain ⟨_, _, _, _, _, _, _, _, _, _, _, _, h⟩ := h
  exact h.elim
theorem cr_sortedSK {X : Cx} {K : PySem.W.Frag} (hK : X.K = K) : CallR X (.builtin "sorted") (rSortedS K) := by subst hK; exact cr_sortedS
section
variable {X : Cx} {CX : CXT} {k : Nat} {C p g : Addr} {sp : Sp} {E : XK} {m : Str} {pos apos : Pos} {o e : Expr} {es : List Expr} {ta : TE} {t : TA}
def tSMethR (C : Addr) (sp : Sp) (E : XK) (ta : TE) (t : TA) : TE := fun σ H Q => ta σ H fun x H1 => x = .ref C ∧ t σ H1 fun vs H2 => sp vs H2 Q E
theorem pe_smethR {pl : Sem Bool} (he : PE X o ta) (c : SMet X.K C m p g) (F : FnR X.prog X.w X.K X.mg X.base CX k g sp) (hr : Room k X.A) (hx : Passes CX X E) (ha : PA X (e :: es) t)
    (hst : starEach (e :: es) X.env = (false, eval e X.env) :: starEach es X.env := by rfl) (hpl : (backTo pos (starEach es X.env)).any (·.1) = false := by rfl)
    (ht : eval (.Call (.Attribute o m apos) (e :: es) [] pos) X.env = (do
      let ov ← eval o X.env
      standAt apos.atName
      let (f, first) ← holding [ov] (getMethod ov m pl)
      callWith pos f first (backTo pos (starEach (e :: es) X.env)) (backToKw pos (keywordEach [] X.env))) := by rfl) :
    PE X (.Call (.Attribute o m apos) (e :: es) [] pos) (tSMethR C sp E ta t) := by
  refine ⟨fun pins s σ H Q I h => ?_⟩
  refine PySem.W.methodCall_KW (pl := pl) (thn (he.run pins s σ H _ I h) fun u s1 ⟨x, H1, I1, rx, ex, q⟩ => ?_) ht
  subst ex
  obtain rfl : u = Value.ref C := rx
  refine getsm_ok I1 c fun s2 I2 => ?_
  refine PySem.W.callWith_K (first := []) (h₀ := X.base) I.ok.mod.kin c.kp (thn (ha.run pos pins s2 σ H1 _ I2 q) fun us s3 ⟨vs, H2, I3, rv, q2⟩ => ⟨I3.kIn, ?_⟩) hst hpl
  exact wpAny_call (run_fnR F hr hx I3 rv q2)
theorem pe_smethR0 {pl : Sem Bool} (he : PE X o ta) (c : SMet X.K C m p g) (F : FnR X.prog X.w X.K X.mg X.base CX k g sp) (hr : Room k X.A) (hx : Passes CX X E)
    (ht : eval (.Call (.Attribute o m apos) [] [] pos) X.env = (do
      let ov ← eval o X.env
      standAt apos.atName
      let (f, first) ← holding [ov] (getMethod ov m pl)
      callWith pos f first (backTo pos (starEach [] X.env)) (backToKw pos (keywordEach [] X.env))) := by rfl) :
    PE X (.Call (.Attribute o m apos) [] [] pos) (tSMethR C sp E ta tNil) := by
  refine ⟨fun pins s σ H Q I h => ?_⟩
  refine PySem.W.methodCall_KW (pl := pl) (thn (he.run pins s σ H _ I h) fun u s1 ⟨x, H1, I1, rx, ex, q⟩ => ?_) ht
  subst ex
  obtain rfl : u = Value.ref C := rx
  refine getsm_ok I1 c fun s2 I2 => ?_
  exact PySem.W.callWith_K0 (first := []) I2.kIn c.kp (wpAny_call (run_fnR (us := []) F hr hx I2 .nil q))
end
end Lb

set_option Elab.async false
set_option linter.all false
set_option maxRecDepth 100000
set_option maxHeartbeats 4000000
/-! repr of what is told in one of several ways; repr of a dict of plain data -/
namespace Lb
open PySem PySem.Spec PyProof.Rows L2
theorem callR_or {X : Cx} {f : Value} {r1 r2 : List V → Hp → VK → Prop} (h1 : CallR X f r1) (h2 : CallR X f r2) : CallR X f (fun xs H Q => r1 xs H Q ∨ r2 xs H Q) := by
  intro pins s σ H xs us Q I r h
  rcases h with h | h
  · exact h1 pins s σ H xs us Q I r h
  · exact h2 pins s σ H xs us Q I r h
/-- a call that is never reached -/
theorem callR_never {X : Cx} {f : Value} : CallR X f (fun _ _ _ => False) := fun _ _ _ _ _ _ _ _ _ h => h.elim
def keyD : Key → PyData
  | .inl i => .int i
  | .inr x => .str x
mutual
def flatD : PyData → Bool
  | .list _ => false
  | .dict _ => false
  | .tuple ds => flatDs ds
  | _ => true
def flatDs : List PyData → Bool
  | [] => true
  | d :: ds => flatD d && flatDs ds
end
mutual
theorem reads_flat {h : Heap} : ∀ {v : Value} {d : PyData} {as : List Addr}, Reads h v d as → flatD d = true → as = []
  | _, _, _, .none, _ => rfl
  | _, _, _, .bool _, _ => rfl
  | _, _, _, .int _ _, _ => rfl
  | _, _, _, .str _ _, _ => rfl
  | _, _, _, .list _ _ _ _, f => by simp [flatD] at f
  | _, _, _, .tuple _ _ _ r, f => reads_flats r (by simpa [flatD] using f)
  | _, _, _, .dict _ _ _ _ _, f => by simp [flatD] at f
theorem reads_flats {h : Heap} : ∀ {vs : List Value} {ds : List PyData} {as : List Addr}, ReadsAll h vs ds as → flatDs ds = true → as = []
  | _, _, _, .nil, _ => rfl
  | _, _, _, .cons r1 r2, f => by
    simp only [flatDs, Bool.and_eq_true] at f
    rw [reads_flat r1 f.1, reads_flats r2 f.2]
    rfl
end
theorem dpAll_len {K : PySem.W.Frag} {H : Hp} : ∀ {vs : List V} {ds : List PyData}, DpAll K H vs ds → vs.length = ds.length
  | _, _, .nil => rfl
  | _, _, .cons _ h => by rw [List.length_cons, List.length_cons, dpAll_len h]
theorem keys_flat : ∀ kvs : List (Key × V), flatDs (kvs.map fun q => keyD q.1) = true
  | [] => rfl
  | (k, _) :: r => by
    simp only [List.map_cons, flatDs, keys_flat r, Bool.and_true]
    cases k <;> rfl
section
variable {X : Cx} {pins : List (Addr × Obj)} {σ : L2.St} {H : Hp} {s : Shared}
theorem keys_read {P : Program} {w : World} {h : Heap} : ∀ {kvs : List (Key × V)} {vs : List (Key × Value)} {es : List DictEntry}, KV kvs vs → Pairs (mixKind P w) es vs → ∃ as, ReadsAll h (es.map (·.key)) (kvs.map fun q => keyD q.1) as := by
  intro kvs vs es r
  induction r generalizing es with
  | nil =>
    intro h3
    cases h3
    exact ⟨_, .nil⟩
  | @cons p q ps qs h1 _ ih =>
    intro h3
    cases h3 with
    | @cons e _ es2 _ hk hval hv =>
      obtain ⟨as, r2⟩ := ih hv
      have r1 : Reads h e.key (keyD p.1) [] := by
        rw [h1.1]
        rcases keyIs_shape (show keyIs _ _ = true from hk) with ⟨i, t, e1, e2⟩ | ⟨x, t, e1, e2⟩
        · rw [e1, e2]; exact .int i t
        · rw [e1, e2]; exact .str x t
      exact ⟨_, .cons r1 r2⟩
theorem vals_kv : ∀ {kvs : List (Key × V)} {vs : List (Key × Value)}, KV kvs vs → Vals (kvs.map (·.2)) (vs.map (·.2)) := by
  intro kvs vs r
  induction r with
  | nil => exact .nil
  | cons h1 _ ih => exact .cons h1.2 ih
theorem vals_es {P : Program} {w : World} : ∀ {vs : List (Key × Value)} {es : List DictEntry}, Pairs (mixKind P w) es vs → es.map (·.val) = vs.map (·.2) := by
  intro vs es h
  induction h with
  | nil => rfl
  | cons _ hv _ ih => rw [List.map_cons, List.map_cons, ih, hv]
/-- a tracked dict of plain data reads as such -/
theorem dict_reads (I : Inv X pins σ H s) {a : Addr} {kvs : List (Key × V)} {ds : List PyData} (e : H a = some (.dK kvs)) (hd : DpAll X.K H (kvs.map (·.2)) ds) (f : flatDs ds = true) :
    Reads s.heap (.ref a) (.dict ((kvs.map fun q => keyD q.1).zip ds)) [a] ∧ sysModules ≠ a := by
  obtain ⟨_, hsm, vs, r, o, es, ep, h1, h2, h3, _, h5, _⟩ := dk_of I.hok e
  obtain ⟨as, r1⟩ := keys_read (h := s.heap) r h5
  have ve : es.toList.map (·.val) = vs.map (·.2) := vals_es h5
  obtain ⟨bs, r2⟩ := Dp.readsAll I ds _ _ hd (vals_kv r)
  have e1 := reads_flats r1 (keys_flat kvs)
  have e2 := reads_flats r2 f
  subst e1
  subst e2
  have ln : (kvs.map fun q => keyD q.1).length = ds.length := by
    have := dpAll_len hd
    rw [List.length_map] at this ⊢
    exact this
  refine ⟨?_, fun z => ?_⟩
  · have q := Reads.dict (as := []) (bs := []) (kvs := (kvs.map fun q => keyD q.1).zip ds) h1 h2.1 h3 (by rw [List.map_fst_zip (Nat.le_of_eq ln)]; exact r1) (by rw [List.map_snd_zip (Nat.le_of_eq ln.symm), ve]; exact r2)
    exact q
  · rw [z] at hsm
    simp at hsm
end
section
variable {X : Cx}
/-- repr(d), d a tracked dict of plain data -/
def rReprDc (K : PySem.W.Frag) : List V → Hp → VK → Prop := fun xs H Q =>
  ∃ a kvs ds, xs = [.ref a] ∧ H a = some (.dK kvs) ∧ DpAll K H (kvs.map (·.2)) ds ∧ flatDs ds = true ∧ (PyData.dict ((kvs.map fun q => keyD q.1).zip ds)).showable = true ∧ (PyData.dict ((kvs.map fun q => keyD q.1).zip ds)).shown.length ≤ sizeLine ∧
    (PyData.dict ((kvs.map fun q => keyD q.1).zip ds)).depth ≤ 60 ∧ Q (.str (PyData.dict ((kvs.map fun q => keyD q.1).zip ds)).shown) H
theorem call_reprDc {K : PySem.W.Frag} (hK : X.K = K) (hg : X.A.guards = some []) (hu : X.A.units + 64 < cLine) : CallR X (.builtin "repr") (rReprDc K) := by
  subst hK
  intro pins s σ H xs us Q I r h
  obtain ⟨a, kvs, ds, rfl, e, hd, f, sh, hz, dp, q⟩ := h
  obtain ⟨u, rfl, ru⟩ := vals1 r
  cases (show u = Value.ref a from ru)
  obtain ⟨rd, ne⟩ := dict_reads I e hd f
  refine PySem.repr_of_reads' rd sh (fun _ z => ne (List.mem_singleton.mp z)) hg (by omega) (fun _ _ e => e) (fun h' w tk k => ?_) hz
  exact ⟨.str _, H, I.kept k, ⟨_, rfl⟩, q⟩
end
end Lb

set_option Elab.async false
set_option linter.all false
set_option maxRecDepth 100000
set_option maxHeartbeats 4000000
/-! defs that raise nothing, called while an exception is handled -/
namespace Lb
open PySem PySem.Spec PyProof.Rows L2
open L2H (RoomH PinOk cxH inv_startH)
structure FnQ (P : Program) (w : World) (K : PySem.W.Frag) (mg : Str → Option Value) (base : Heap) (k : Nat) (f : Addr) (fd : FuncData) (ps : List Str) (sp : Sp) : Prop where
  len : ∀ vs H Q E, sp vs H Q E → vs.length = ps.length
  run : ∀ (A : Around) (outer : List Env) (s : Shared) (H : Hp) (args : Args) (us : List Value) (vs : List V) (Q : VK) (p : Addr × Obj), RoomH k A → PinOk outer H s p → Env0 P w K mg base A outer s H →
    BindsTo s fd args (ps.zip us) → Vals vs us → sp vs H Q E0 → codeAny (model P w) A (.call (.ref f) args) (CR CX0 outer P w H s Q E0) s
section
variable {P : Program} {w : World} {K : PySem.W.Frag} {mg : Str → Option Value} {base : Heap} {k j : Nat} {f : Addr} {fd : FuncData} {ps : List Str} {sp : Sp}
theorem FnQ.mono (F : FnQ P w K mg base j f fd ps sp) (h : j ≤ k) : FnQ P w K mg base k f fd ps sp :=
  ⟨F.len, fun A outer s H args us vs Q p hr => F.run A outer s H args us vs Q p (hr.mono h)⟩
theorem okQ {x qual : Str} {st : Stmt} {N : List Str} (F : Fun K x qual st f fd) (S : FnScope N ps (defScope st)) (len : ∀ vs H Q E, sp vs H Q E → vs.length = ps.length)
    (hbody : ∀ (cdv : Value) (A : Around) (outer : List Env) (s : Shared) (H : Hp) (vs : List V) (Q : VK) (p : Addr × Obj), RoomH k (A.deeper (envOfC qual (defScope st) s.heap.objs.size f cdv)) → sp vs H Q E0 →
      ∃ t, PSs (cxH CX0 P w K mg base N qual (defScope st) f cdv A outer s H E0 p) (defBody st) t ∧ t { nx := fun _ H' => Q .non H', rt := Q } (start N vs) H) :
    FnQ P w K mg base (k + 1) f fd ps sp := by
  obtain ⟨oc, od, kV, doc, pm, an, cdv, ct, osl, rfl, lk, hcd⟩ := F.ex
  refine ⟨len, fun A outer s H args us vs Q p room pin e0 bnd r way => ?_⟩
  have same_len := len vs H Q E0 way
  have inK : K.In s.heap := e0.mod.kin.keeps fun b o e => (e0.bs b o e).1
  have noLim : s.heap.NoLimit := e0.mod.nolimit.keeps fun b o e => (e0.bs b o e).1
  refine codeAny_call_function room.depth (inK _ _ lk) rfl S.co S.gen rfl (PySem.W.codeRec_of inK hcd) (bnd _ _ _ _ ?_)
  refine wpAny_newFunctionEnv_cells S.kind ?_ fun env he s1 y => ?_
  · rintro ⟨n, v⟩ hy
    rcases S.par n (List.of_mem_zip hy).1 with q | q
    · exact .inl q
    · exact .inr ⟨q, PySem.W.cellsFrom_some _ _ _ (.inl q)⟩
  · subst he
    refine ⟨noLim.keeps y.toInCall.keep, codeAny_func ?_⟩
    obtain ⟨t, ht, hq⟩ := hbody cdv A outer s H vs Q p (room.deeper _) way
    have I := inv_startH (CX := CX0) (E := E0) S pin e0 same_len r y
    refine wpAny_mono (ht.run [] s1 (start N vs) H _ I hq) (fun fl s' hs => ?_) fun _ _ hs => hs
    cases fl with
    | ret u => exact let ⟨v, _, H', J, rv, q⟩ := hs; ⟨v, H', J.os, J.bare, J.base, J.hok, rv, q⟩
    | next => exact let ⟨_, H', J, q⟩ := hs; ⟨V.non, H', J.os, J.bare, J.base, J.hok, rfl, q⟩
    | brk => exact hs.elim fun _ h => h.elim fun _ h => h.2.elim
    | cont => exact hs.elim fun _ h => h.elim fun _ h => h.2.elim
end
section
variable {X : Cx} {k : Nat} {f C g : Addr} {fd : FuncData} {ps : List Str} {sp : Sp} {x m : Str} {q pos apos : Pos} {e o : Expr} {es : List Expr} {ta : TE} {t : TA}
theorem run_atQ {pins : List (Addr × Obj)} {σ : L2.St} {H : Hp} {s : Shared} {A : Around} {Q : VK} {us : List Value} {vs : List V} (F : FnQ X.prog X.w X.K X.mg X.base k f fd ps sp) (hr : RoomH k A) (hc : ∃ p, p ∈ X.pn) (e0 : Env0 X.prog X.w X.K X.mg X.base A X.stack s H)
    (hb : Binds X.K fd ps []) (I : Inv X pins σ H s) (r : Vals vs us) (h : sp vs H Q E0) :
    codeAny (model X.prog X.w) A (.call (.ref f) ⟨us, []⟩) (fun r s' => match r with | .ok (.ret v) => EP X pins σ Q v s' | .ok _ => False | .error e => X.xe e s') s := by
  obtain ⟨p, hp⟩ := hc
  have ln : us.length = ps.length := by rw [← r.length]; exact F.len _ _ _ _ h
  have b := hb s us I.kIn (by rw [List.append_nil]; exact ln)
  rw [List.append_nil] at b
  have here := I.pin p (List.mem_append_left _ hp)
  have pin : PinOk X.stack H s p := ⟨here.1, here.2.1, fun z => (List.mem_cons.mp (I.stkSub p.1 z)).elim here.2.2.1 here.2.2.2.1, here.2.2.2.2⟩
  refine codeAny_mono (F.run A X.stack s H ⟨us, []⟩ us vs Q p hr pin e0 b r h) fun r s' z => ?_
  rcases r with er | fl
  · first | exact z.elim | (cases er <;> first | exact I.after z | exact z.elim)
  · first | (cases fl <;> first | exact I.after z | exact z.elim) | exact z.elim
theorem pe_callQ (F : FnQ X.prog X.w X.K X.mg X.base k f fd ps sp) (hr : RoomH k X.A) (hc : ∃ p, p ∈ X.pn) (hg : Gl X x) (hm : X.mg x = some (.ref f)) (hk : PySem.W.keepIn X.K (.ref f) = true) (hb : Binds X.K fd ps []) (ha : PA X (e :: es) t)
    (hdb : (x == ("__debug__" : Str)) = false := by decide) (he : starEach (e :: es) X.env = (false, eval e X.env) :: starEach es X.env := by rfl) (hpl : (backTo pos (starEach es X.env)).any (·.1) = false := by rfl) :
    PE X (.Call (.Name x q) (e :: es) [] pos) (tCall sp [] E0 t) := by
  refine ⟨fun pins s σ H Q I h => wpAny_Call_Name_kw (ld_glob I hg hm ?_ hdb)⟩
  refine PySem.W.callWith_K (h₀ := X.base) I.ok.mod.kin hk (thn (ha.run pos pins s σ H _ I h) fun us s1 z => ?_) he hpl
  obtain ⟨vs, H1, I1, r, z⟩ := z
  rw [List.append_nil] at z
  refine ⟨I1.kIn, wpAny_call (codeAny_mono (run_atQ F hr hc I1.env0 hb I1 r z) fun r s' y => ?_)⟩
  rcases r with er | fl
  · exact y
  · cases fl <;> first | exact y | exact y.elim
/-- repr(x) there, x an instance whose class has __repr__ -/
theorem call_reprQ (hs : PySem.W.findIn X.K (.ref C) "__repr__" = some (some (.ref g))) (hf : PySem.W.isFn X.K (.ref g) = true)
    (F : FnQ X.prog X.w X.K X.mg X.base k g fd ["self"] sp) (hr : RoomH (k + 1) X.A) (hc : ∃ p, p ∈ X.pn) (hb : Binds X.K fd ["self"] []) : CallR X (.builtin "repr") (rOwnTx C sp E0) := by
  intro pins s σ H xs us Q I r h
  obtain ⟨a, dx, fs, rfl, ha, z⟩ := h
  obtain ⟨u, rfl, ru⟩ := vals1 r
  cases (show u = Value.ref a from ru)
  obtain ⟨od, J⟩ := inst_at I ha
  have hu := hr.un
  have hr1 : RoomH k X.A.in1 := ⟨by have := hr.dp; show X.A.depth + 3 * k + 5 < _; omega, by show X.A.units + 1 + 16 * k + 200 < _; omega⟩
  refine Calls.call_function_entry PySem.F.kind_repr PySem.F.plain_repr PySem.F.entry_repr (PySem.F.args_repr1 _) ?_
  unfold Builtin.«repr»
  refine wpAny_bind (m := oneArg "repr" _) (wpAny_pure ?_)
  refine wpAny_bind (m := cRoomFor _ _) (wpAny_cRoomFor (by show X.A.units + 1 < cLine; omega) ?_)
  refine wpAny_bind (wpAny_bind (J.type.here ((PySem.W.looks_findIn I.kIn hs).here ?_)))
  refine wpAny_bind (m := callSpecialIfBound? (.ref a) (Str.ofString "__repr__")) (PySem.W.ifBound_K I.kIn J hs hf ?_)
  refine wpAny_mono (wpAny_call (codeAny_mono (run_atQ (us := [.ref a]) (vs := [.ref a]) F hr1 hc I.env0.in1 hb I (.cons rfl .nil) z) fun r s' y => y)) (fun w s' z => ?_) fun _ _ x => x
  obtain ⟨z', H', I', rz, y, ez, qz⟩ := z
  subst ez
  obtain ⟨t, rfl⟩ := (show ∃ t, w = Value.str y t from rz)
  refine wpAny_bind (wpAny_isInstance (T := "str") (b := true) rfl isSubtype_str_str ?_)
  exact wpAny_pure ⟨_, rfl, .str y, H', I', ⟨t, rfl⟩, qz⟩
end
end Lb

set_option Elab.async false
set_option linter.all false
set_option maxRecDepth 100000
set_option maxHeartbeats 4000000
/-! lambdas: the maker's rule, the law's call with tables of code objects -/
namespace Lb
open PySem PySem.Spec PyProof.Rows L2
open LamX (TabB Tabs TabS CodeO ExtN)
/-- σ has its length wherever an exception is taken -/
theorem takes_len {X : Cx} {W : WX} (t : Takes X W) : Takes X (fun c d σ H => σ.length = X.N.length → W c d σ H) := fun u s' ⟨a, B, sI, pins, σ, H, cls, d, e, I, nb, up, sky, na, os, ag, w⟩ =>
  t u s' ⟨a, B, sI, pins, σ, H, cls, d, e, I, nb, up, sky, na, os, ag, w I.len⟩
/-- a def that makes lambdas: its code object is known -/
theorem okGL {P : Program} {w : World} {K : PySem.W.Frag} {mg : Str → Option Value} {base : Heap} {CX : CXT} {k : Nat} {f c : Addr} {fd : FuncData} {ps : List Str} {sp : Sp} {x qual : Str} {st : Stmt} {N : List Str} (F : Fun K x qual st f fd) (hcode : fd.code = .ref c) (S : FnScope N ps (defScope st))
    (len : ∀ vs H Q E, sp vs H Q E → vs.length = ps.length)
    (hbody : ∀ (A : Around) (outer : List Env) (s : Shared) (H : Hp) (vs : List V) (Q : VK) (E : XK),
      (A.deeper (envOfC qual (defScope st) s.heap.objs.size f (.ref c))).guards = some [] → Room k (A.deeper (envOfC qual (defScope st) s.heap.objs.size f (.ref c))) → sp vs H Q E →
      ∃ t, PSs (cxOf CX P w K mg base N qual (defScope st) f (.ref c) A outer s H E).nox (defBody st) t ∧ t { nx := fun _ H' => Q .non H', rt := Q } (start N vs) H) :
    FnG P w K mg base CX (k + 1) f fd ps sp := by
  obtain ⟨oc, od, kV, doc, pm, an, cdv, ct, osl, rfl, lk, hcd⟩ := F.ex
  obtain rfl : cdv = .ref c := hcode
  refine ⟨len, fun A outer s H args us vs Q E hgu room e0 bnd r way => ?_⟩
  have same_len := len vs H Q E way
  have inK : K.In s.heap := e0.mod.kin.keeps fun b o e => (e0.bs b o e).1
  have noLim : s.heap.NoLimit := e0.mod.nolimit.keeps fun b o e => (e0.bs b o e).1
  refine codeAny_call_function room.depth (inK _ _ lk) rfl S.co S.gen rfl (PySem.W.codeRec_of inK hcd) (bnd _ _ _ _ ?_)
  refine wpAny_newFunctionEnv_cells S.kind ?_ fun env he s1 y => ?_
  · rintro ⟨n, v⟩ hy
    rcases S.par n (List.of_mem_zip hy).1 with q | q
    · exact .inl q
    · exact .inr ⟨q, PySem.W.cellsFrom_some _ _ _ (.inl q)⟩
  · subst he
    refine ⟨noLim.keeps y.toInCall.keep, codeAny_func ?_⟩
    have gd : (A.deeper (envOfC qual (defScope st) s.heap.objs.size f (.ref c))).guards = some [] := by
      first
        | exact hgu
        | simpa [Around.deeper] using hgu
    obtain ⟨t, ht, hq⟩ := hbody A outer s H vs Q E gd (room.deeper _) way
    have I := inv_start (CX := CX) (E := E) S room.hd e0 same_len r y
    refine wpAny_mono (ht.nox.run [] s1 (start N vs) H _ I hq) (fun fl s' hs => ?_) fun _ _ hs => hs
    cases fl with
    | ret u => exact let ⟨v, _, H', J, rv, q⟩ := hs; ⟨v, H', J.os, J.bare, J.base, J.hok, rv, q⟩
    | next => exact let ⟨_, H', J, q⟩ := hs; ⟨V.non, H', J.os, J.bare, J.base, J.hok, rfl, q⟩
    | brk => exact hs.elim fun _ h => h.elim fun _ h => h.2.elim
    | cont => exact hs.elim fun _ h => h.elim fun _ h => h.2.elim
/-- what is tracked when the law is called: the script, the empty tables -/
def StartH (a : Addr) (cs : List (Addr × Addr)) (H : Hp) : Prop := ∀ b u, H b = some u → (b = a ∧ ∃ o xs, u = .frz o (.lst xs)) ∨ (b ∈ cs.map (·.2) ∧ u = .tbl #[])
theorem law_callTG {P : Program} {w : World} {K : PySem.W.Frag} {mg mb : Str → Option Value} {k : Nat} {fa a : Addr} {cs : List (Addr × Addr)} {fd : FuncData} {x : Str} {sp : Sp} {s1 : Shared} {vs : List Value} {ns : List Int}
    (KX : K.In s1.heap) (hns : s1.heap.Ns mainGlobals mg) (hb : s1.heap.Ns builtinsNs mb) (hbb : ∀ x : Str, x ≠ "__name__" → mb x = bootBuiltins x) (hlim : s1.heap.NoLimit) (hg : s1.gens = #[])
    (tabs : ∀ p ∈ cs, PySem.W.CodeHd s1.heap p.1 p.2 ∧ s1.heap.get? p.2 = some (PySem.W.tabObj #[])) (nK : ∀ p ∈ cs, K.lookup p.2 = none)
    (bmain : ∃ (bm : Addr) (ob : Obj), mg "__builtins__" = some (.ref bm) ∧ bm ≠ builtinsNs ∧ s1.heap.get? bm = some ob ∧ ob.cls = .type "module" ∧ ob.dict = some builtinsNs ∧ ob.data = .plain)
    (ha : s1.heap.get? a = some { cls := .type "list", data := .seq vs.toArray }) (hi : IntsAre vs ns) (hl : ns.length ≤ sizeLine) (hr : Room k callerA)
    (F : ∀ base : Heap, K.In base → base.Ns mainGlobals mg → (∀ p ∈ cs, TabB base mg p.1 p.2) → FnG P w K mg base CX0 k fa fd [x] sp) (hbind : ∀ (s : Shared) (u : Value), BindsTo s fd ⟨[u], []⟩ [(x, u)])
    (hsp : ∀ H : Hp, (∀ p ∈ cs, H p.2 = some (.tbl #[])) → SqL K H a (ns.map V.int) → sp [.ref a] H (fun v _ => v = .bl true) fun _ _ _ => False) :
    codeAny (model P w) callerA (.call (.ref fa) ⟨[.ref a], []⟩) (fun r s' => r = .ok (.ret (.bool true)) ∧ OldK s1.heap s'.heap ∧ s'.os = s1.os ∧ AllBare s'.gens) s1 := by
  have rv := vals_ints hi
  have isTab : ∀ b, b ∈ cs.map (·.2) → ∃ p ∈ cs, p.2 = b := fun b hb => List.mem_map.mp hb
  have apart : a ∉ cs.map (·.2) := fun z => by
    obtain ⟨p, hp, e⟩ := isTab a z
    have q := (tabs p hp).2
    rw [e, ha] at q
    exact nomatch (congrArg Obj.cls (Option.some.inj q))
  have core : ∀ H : Hp, StartH a cs H → (∀ p ∈ cs, H p.2 = some (.tbl #[])) → SqL K H a (ns.map V.int) → HOk P w H s1.heap → (∀ u, H a = some u → K.lookup a = none) →
      codeAny (model P w) callerA (.call (.ref fa) ⟨[.ref a], []⟩) (fun r s' => r = .ok (.ret (.bool true)) ∧ OldK s1.heap s'.heap ∧ s'.os = s1.os ∧ AllBare s'.gens) s1 := by
    intro H hO hH hS hok hK
    -- what is neither a list nor an empty table is not tracked
    have free_of : ∀ {b : Addr} {o : Obj}, s1.heap.get? b = some o → o.cls ≠ .type "list" → o.data ≠ .fields #[] → H b = none := by
      intro b o e n1 n2
      cases q : H b with
      | none => rfl
      | some u =>
        exfalso
        rcases hO b u q with ⟨rfl, _⟩ | ⟨hm, _⟩
        · rw [ha] at e
          cases e
          exact n1 rfl
        · obtain ⟨p, hp, rfl⟩ := isTab b hm
          rw [(tabs p hp).2] at e
          cases e
          exact n2 rfl
    have nsK : ∀ {b : Addr} {m : Str → Option Value}, s1.heap.Ns b m → (hidT s1.heap H).Ns b m := by
      rintro b m ⟨o, es, ep, e, d, r⟩
      refine ⟨o, es, ep, hidT_get e ?_, d, r⟩
      cases q : H b with
      | none => rfl
      | some u =>
        exfalso
        rcases hO b u q with ⟨rfl, _⟩ | ⟨hm, _⟩
        · rw [ha] at e
          cases e
          cases d
        · obtain ⟨p, hp, rfl⟩ := isTab b hm
          rw [(tabs p hp).2] at e
          cases e
          cases d
    have hKb : K.In (hidT s1.heap H) := by
      intro b o e
      refine hidT_get (KX b o e) ?_
      cases q : H b with
      | none => rfl
      | some u =>
        exfalso
        rcases hO b u q with ⟨rfl, _⟩ | ⟨hm, _⟩
        · rw [hK u q] at e
          cases e
        · obtain ⟨p, hp, rfl⟩ := isTab b hm
          rw [nK p hp] at e
          cases e
    have hM : Mod K mg (hidT s1.heap H) := by
      obtain ⟨mc, c1, c2⟩ := hlim
      exact ⟨hKb, nsK hns, ⟨mb, nsK hb, hbb⟩, ⟨mc, nsK c1, c2⟩⟩
    have TB : ∀ p ∈ cs, TabB (hidT s1.heap H) mg p.1 p.2 := by
      intro p hp
      obtain ⟨cd, tb⟩ := tabs p hp
      refine ⟨?_, ?_, fun z => ?_⟩
      · obtain ⟨o, us, fl, tf, fg, tg, inF, tx, tt, e1, e2, e3, e4, more⟩ := cd
        refine ⟨o, us, fl, tf, fg, tg, inF, tx, tt, hidT_get e1 (free_of e1 (fun z => ?_) fun z => ?_), e2, e3, e4, more⟩
        · rw [e2] at z
          injection z with z
          exact absurd z (by decide)
        · rw [e3] at z
          cases z
          cases e4
      · obtain ⟨bm, ob, b1, b2, b3, b4, b5, b6⟩ := bmain
        refine ⟨bm, ob, b1, b2, fun q => ?_, fun q => ?_, hidT_get b3 (free_of b3 (fun z => ?_) fun z => ?_), b4, b5, b6⟩
        · obtain ⟨o, es, ep, e, hd, _⟩ := hns
          rw [q, e] at b3
          cases b3
          rw [hd] at b6
          cases b6
        · rw [q, tb] at b3
          cases b3
          cases b6
        · rw [b4] at z
          injection z with z
          exact absurd z (by decide)
        · rw [b6] at z
          cases z
      · obtain ⟨o, es, ep, e, hd, _⟩ := hns
        rw [z, tb] at e
        cases e
        cases hd
    have e0 : Env0 P w K mg (hidT s1.heap H) callerA [] s1 H :=
      ⟨rfl, hM, fun b o e => of_hidT e, Nat.le_of_eq (hidT_size _ _), trivial, fun b hb => (List.not_mem_nil hb).elim, hok, .of_eq hg⟩
    have code := (F _ hKb (nsK hns) TB).run callerA [] s1 H ⟨[.ref a], []⟩ [.ref a] [.ref a] _ _ rfl hr e0 (hbind s1 (.ref a)) (.cons rfl .nil) (hsp H hH hS)
    refine codeAny_mono code fun r s' h => ?_
    cases r with
    | error e => exact h.elim
    | ok fl =>
      cases fl with
      | ret u =>
        obtain ⟨v, H', os, bare, un, hok', r', q⟩ := h
        cases (show v = .bl true from q)
        cases (show u = Value.bool true from r')
        -- what was there is as it was, but for the tables, which grow
        have stays : ∀ b o, b ∉ cs.map (·.2) → s1.heap.get? b = some o → s'.heap.get? b = some o := by
          intro b o nb e
          cases z : H b with
          | none => exact un.keep b o e z (fun z => List.not_mem_nil z) (fun z => List.not_mem_nil z)
          | some v =>
            rcases hO b v z with ⟨_, ob, xs, rfl⟩ | ⟨hm, _⟩
            · obtain ⟨e1, _⟩ := hok b _ z
              obtain ⟨e2, _⟩ := hok' b _ (un.frzs b ob _ z)
              rw [e] at e1
              cases e1
              exact e2
            · exact absurd hm nb
        have grows : ∀ p ∈ cs, ∃ more, s'.heap.get? p.2 = some (PySem.W.tabObj more) := by
          intro p hp
          obtain ⟨more, z⟩ := un.tbls p.2 _ (hH p hp)
          exact ⟨_, hok' p.2 _ z⟩
        refine ⟨rfl, ⟨fun b o e => ?_, fun b o e => ?_⟩, os, bare⟩
        · by_cases hm : b ∈ cs.map (·.2)
          · obtain ⟨p, hp, rfl⟩ := isTab b hm
            obtain ⟨more, z⟩ := grows p hp
            obtain ⟨cd, tb⟩ := tabs p hp
            rw [tb] at e
            cases e
            exact .inr (.inl ⟨(cd.tab tb).isCodeTable, rfl, #[], more, rfl, by rw [Array.empty_append]; exact z⟩)
          · exact .inl (stays b o hm e)
        · by_cases hm : b ∈ cs.map (·.2)
          · obtain ⟨p, hp, rfl⟩ := isTab b hm
            obtain ⟨more, z⟩ := grows p hp
            exact ⟨_, z⟩
          · exact ⟨o, stays b o hm e⟩
      | next => exact h.elim
      | brk => exact h.elim
      | cont => exact h.elim
  -- the heap to begin with
  have begin_ : ∀ (own : Bool), (own = true → K.lookup a = none) → (own = false → SqL K (fun b => if b ∈ cs.map (·.2) then some (.tbl #[]) else none) a (ns.map V.int)) →
      codeAny (model P w) callerA (.call (.ref fa) ⟨[.ref a], []⟩) (fun r s' => r = .ok (.ret (.bool true)) ∧ OldK s1.heap s'.heap ∧ s'.os = s1.os ∧ AllBare s'.gens) s1 := by
    intro own h1 h2
    have atA : ∀ {b : Addr} {u : HO}, (if b = a ∧ own = true then some (HO.frz { cls := .type "list", data := .seq vs.toArray } (.lst (ns.map V.int))) else if b ∈ cs.map (·.2) then some (.tbl #[]) else none) = some u →
        (b = a ∧ own = true ∧ u = HO.frz { cls := .type "list", data := .seq vs.toArray } (.lst (ns.map V.int))) ∨ (b ∈ cs.map (·.2) ∧ u = .tbl #[]) := by
      intro b u e
      by_cases c1 : b = a ∧ own = true
      · rw [if_pos c1] at e
        exact .inl ⟨c1.1, c1.2, (Option.some.inj e).symm⟩
      · rw [if_neg c1] at e
        by_cases c2 : b ∈ cs.map (·.2)
        · rw [if_pos c2] at e
          exact .inr ⟨c2, (Option.some.inj e).symm⟩
        · rw [if_neg c2] at e
          cases e
    refine core (fun b => if b = a ∧ own = true then some (.frz { cls := .type "list", data := .seq vs.toArray } (.lst (ns.map V.int))) else if b ∈ cs.map (·.2) then some (.tbl #[]) else none) (fun b u e => ?_) (fun p hp => ?_) ?_ (fun b u e => ?_) (fun u e => ?_)
    · rcases atA e with ⟨c1, _, rfl⟩ | c2
      · exact .inl ⟨c1, _, _, rfl⟩
      · exact .inr c2
    · have hm : p.2 ∈ cs.map (·.2) := List.mem_map.mpr ⟨p, hp, rfl⟩
      have ne : ¬ (p.2 = a ∧ own = true) := fun z => apart (z.1 ▸ hm)
      show (if p.2 = a ∧ own = true then _ else if p.2 ∈ cs.map (·.2) then _ else _) = _
      rw [if_neg ne, if_pos hm]
    · cases own with
      | true => exact .inl (.inr ⟨{ cls := .type "list", data := .seq vs.toArray }, if_pos ⟨rfl, rfl⟩⟩)
      | false =>
        have q := h2 rfl
        have e : (fun b => if b = a ∧ false = true then some (HO.frz { cls := .type "list", data := .seq vs.toArray } (.lst (ns.map V.int))) else if b ∈ cs.map (·.2) then some (HO.tbl #[]) else none) = (fun b => if b ∈ cs.map (·.2) then some (HO.tbl #[]) else none) := by
          funext b
          rw [if_neg (fun z => Bool.noConfusion z.2)]
        rw [e]
        exact q
    · rcases atA e with ⟨rfl, _, rfl⟩ | ⟨hm, rfl⟩
      · exact ⟨ha, by rw [List.length_map]; exact hl, vs, _, rv, ha⟩
      · obtain ⟨p, hp, rfl⟩ := isTab b hm
        exact (tabs p hp).2
    · rcases atA e with ⟨_, o1, _⟩ | ⟨hm, _⟩
      · exact h1 o1
      · exact absurd hm apart
  cases hk : K.lookup a with
  | none => exact begin_ true (fun _ => hk) (fun z => Bool.noConfusion z)
  | some o =>
    have e := KX a o hk
    rw [ha] at e
    cases e
    refine begin_ false (fun z => Bool.noConfusion z) (fun _ => .inr ⟨_, vs.toArray, _, hk, rfl, rfl, rfl, ?_, ?_⟩)
    · rw [List.size_toArray, hi.length]
      exact hl
    · simpa using rv
/-- the end: the promise is told of the makers' code objects and tables -/
theorem walkTG {l : PySem.W.OpenLaw} {n k : Nat} {q : Program} {loose : List Str} {XP : (Str → Option Value) → Heap → Prop} {YP : World → Heap → Prop} {d : DefRec} {K : Params → PySem.W.Frag} {sp : PySem.W.Frag → List (Addr × Addr) → Sp} {x : Str}
    (hn : l.most = some n) (hn2 : n ≤ sizeLine) (hdf : d.params.defaults = []) (hr : Room k callerA) (hY : ∀ (w : World) (h : Heap), YP w h → (K w.params).In h)
    (F : ∀ (w : World) (mg : Str → Option Value) (fa : Addr) (h : Heap), (K w.params).In h → h.Ns mainGlobals mg → mg d.name = some (.ref fa) →
      ∃ (fd : FuncData) (cs : List (Addr × Addr)), (∀ p ∈ cs, ∃ (y : Str) (dd : DefRec), (recsOf q).find? (fun e => e.name == y) = some dd ∧ PySem.W.tabIn (K w.params) y = some p) ∧ (∀ p ∈ cs, (K w.params).lookup p.2 = none) ∧
        (∀ (s : Shared) (u : Value), BindsTo s fd ⟨[u], []⟩ [(x, u)]) ∧
        ∀ base : Heap, (K w.params).In base → base.Ns mainGlobals mg → (∀ p ∈ cs, TabB base mg p.1 p.2) → FnG l.prog w (K w.params) mg base CX0 k fa fd [x] (sp (K w.params) cs))
    (hsp : ∀ (K : PySem.W.Frag) (cs : List (Addr × Addr)) (H : Hp) (a : Addr) (ns : List Int), ns.length ≤ n → (∀ p ∈ cs, H p.2 = some (.tbl #[])) → SqL K H a (ns.map V.int) → sp K cs [.ref a] H (fun v _ => v = .bl true) fun _ _ _ => False) :
    PySem.W.WalkO q loose XP YP l.row.toRowW d [] (fun f vs => PySem.call f vs) := by
  refine Att.attach_call hn hdf fun w s0 s1 mg mb fa o pm cd doc a vs ns G Y ho hd hcd hmg hobj hints hlen hg => ?_
  obtain ⟨fd, cs, hT, nK, hb, hF⟩ := F w mg fa _ (hY w _ Y) G.T.g hmg
  refine law_callTG (cs := cs) (hY w _ Y) G.T.g G.T.b G.T.builtins G.T.nolimit hg (fun p hp => ?_) nK G.T.bmain hobj hints (Nat.le_trans hlen hn2) hr hF hb (fun H hH hS => hsp _ cs H a ns hlen hH hS)
  obtain ⟨y, dd, e1, e2⟩ := hT p hp
  exact PySem.W.tab_of G.T (hY w _ Y) e1 e2
end Lb

set_option Elab.async false
set_option linter.all false
set_option maxRecDepth 100000
set_option maxHeartbeats 4000000
/-! def f(a, *v) that may raise; one contract of two -/
namespace Lb
open PySem PySem.Spec PyProof.Rows L2
theorem FnOk.up {P : Program} {w : World} {K : PySem.W.Frag} {mg : Str → Option Value} {base : Heap} {CX : CXT} {k : Nat} {f : Addr} {fd : FuncData} {ps : List Str} {sp : Sp} (F : L2.FnOk P w K mg base CX0 k f fd ps sp) : L2.FnOk P w K mg base CX k f fd ps sp :=
  ⟨F.len, fun A outer s H args us vs Q E hr e0 hb r h => codeAny_mono (F.run A outer s H args us vs Q E hr e0 hb r h) fun r s' z => by
    rcases r with er | fl
    · exact False.elim z
    · cases fl <;> exact z⟩
theorem FnOk.either {P : Program} {w : World} {K : PySem.W.Frag} {mg : Str → Option Value} {base : Heap} {CX : CXT} {k : Nat} {f : Addr} {fd : FuncData} {ps : List Str} {sp sq : Sp} (F : L2.FnOk P w K mg base CX k f fd ps sp) (G : L2.FnOk P w K mg base CX k f fd ps sq) :
    L2.FnOk P w K mg base CX k f fd ps (fun vs H Q E => sp vs H Q E ∨ sq vs H Q E) :=
  ⟨fun vs H Q E h => h.elim (F.len vs H Q E) (G.len vs H Q E), fun A outer s H args us vs Q E hr e0 hb r h => h.elim (F.run A outer s H args us vs Q E hr e0 hb r) (G.run A outer s H args us vs Q E hr e0 hb r)⟩
theorem star_okX {P : Program} {w : World} {K : PySem.W.Frag} {mg : Str → Option Value} {base : Heap} {x qual : Str} {st : Stmt} {f : Addr} {fd : FuncData} {N ps : List Str} {pv : Str} {k : Nat} {sp : Sp} (F : Fun K x qual st f fd) (S : FnScope N (ps ++ [pv]) (defScope st))
    (hb : ∀ (kV doc pm : Value) (an : Option Addr) (cdv ct : Value) (us rest : List Value), us.length = ps.length → bindArgs (PySem.W.fnOf x qual (defArgs st) (defBody st) (defScope st) .none kV doc pm an cdv ct) ⟨us ++ rest, []⟩ = (newTuple rest >>= fun t => pure (ps.zip us ++ [(pv, t)])))
    (hbody : ∀ (cdv : Value) (A : Around) (outer : List Env) (s : Shared) (H : Hp) (vs : List V) (Q : VK) (E : XK), Room k (A.deeper (envOfC qual (defScope st) s.heap.objs.size f cdv)) → sp vs H Q E →
      ∃ t, PSs (cxOf (L2.CX P w) P w K mg base N qual (defScope st) f cdv A outer s H E) (defBody st) t ∧ t { nx := fun _ H' => Q .non H', rt := Q } (start N vs) H) :
    FnR P w K mg base (L2.CX P w) (k + 1) f (fun vs H Q E => ∃ ws rest, vs = ws ++ rest ∧ ws.length = ps.length ∧ rest.length ≤ sizeLine ∧ ∀ p, H p = Option.none → sp (ws ++ [V.ref p]) (upd H p (.tup rest)) Q E) := by
  obtain ⟨oc, od, kV, doc, pm, an, cdv, ct, osl, rfl, lk, hcd⟩ := F.ex
  exact StX.fn_star lk hcd S StX.cxUp (fun us rest l => hb kV doc pm an cdv ct us rest l) fun A outer s H vs Q E hr h => hbody cdv A outer s H vs Q E hr h
end Lb

set_option Elab.async false
set_option linter.all false
set_option maxRecDepth 100000
set_option maxHeartbeats 4000000
/-! repr of lists and tuples, one within another, that hold instances of own classes -/
namespace Lb
open PySem PySem.Spec PyProof.Rows L2
/-- what is shown: a plain value, an instance, a list, a tuple -/
inductive Tr where
  | lf (t : Str) | ow (t : Str) | ls (l : List Tr) | tp (l : List Tr)
mutual
def Tr.text : Tr → Str
  | .lf t => t
  | .ow t => t
  | .ls l => listText (Tr.texts l)
  | .tp l => tupleText (Tr.texts l)
def Tr.texts : List Tr → List Str
  | [] => []
  | t :: r => t.text :: Tr.texts r
end
mutual
def Tr.sz : Tr → Nat
  | .lf _ => 0
  | .ow _ => 0
  | .ls l => Tr.szs l + 1
  | .tp l => Tr.szs l + 1
def Tr.szs : List Tr → Nat
  | [] => 0
  | t :: r => t.sz + Tr.szs r
end
mutual
def Tr.dep : Tr → Nat
  | .lf _ => 0
  | .ow _ => 0
  | .ls l => Tr.deps l + 1
  | .tp l => Tr.deps l + 1
def Tr.deps : List Tr → Nat
  | [] => 0
  | t :: r => max t.dep (Tr.deps r)
end
/-- a value that is no object, and its text -/
def Lf : V → Str → Prop
  | .non, t => t = "None"
  | .bl true, t => t = "True"
  | .bl false, t => t = "False"
  | .int i, t => i.natAbs.log2 < 1920 ∧ t = (toString i : String)
  | .str x, t => t = reprText x
  | _, _ => False
mutual
def Sh (K : PySem.W.Frag) (O : Addr → Hp → Str → Prop) (H : Hp) : Tr → V → Prop
  | .lf t, v => Lf v t
  | .ow t, v => ∃ a, v = .ref a ∧ O a H t
  | .ls l, v => ∃ a xs, v = .ref a ∧ SqL K H a xs ∧ Shs K O H l xs
  | .tp l, v => ∃ a xs, v = .ref a ∧ SqT K H a xs ∧ Shs K O H l xs
def Shs (K : PySem.W.Frag) (O : Addr → Hp → Str → Prop) (H : Hp) : List Tr → List V → Prop
  | [], xs => xs = []
  | t :: ts, xs => ∃ x r, xs = x :: r ∧ Sh K O H t x ∧ Shs K O H ts r
end
section
variable {K : PySem.W.Frag} {O : Addr → Hp → Str → Prop} {H H' : Hp}
theorem texts_map : ∀ l : List Tr, Tr.texts l = l.map Tr.text
  | [] => rfl
  | t :: r => by simp only [Tr.texts, List.map_cons, texts_map r]
theorem texts_len (l : List Tr) : (Tr.texts l).length = l.length := by rw [texts_map, List.length_map]
theorem texts_get {l : List Tr} {i : Nat} {T : Tr} (h : l[i]? = some T) : (Tr.texts l)[i]? = some T.text := by rw [texts_map, List.getElem?_map, h]; rfl
theorem sz_le : ∀ {l : List Tr} {T : Tr}, T ∈ l → T.sz ≤ Tr.szs l
  | t :: r, T, h => by
    simp only [Tr.szs]
    rcases List.mem_cons.mp h with e | h
    · rw [e]; omega
    · have := sz_le h; omega
theorem dep_le : ∀ {l : List Tr} {T : Tr}, T ∈ l → T.dep ≤ Tr.deps l
  | t :: r, T, h => by
    simp only [Tr.deps]
    rcases List.mem_cons.mp h with e | h
    · rw [e]; omega
    · have := dep_le h; omega
theorem Shs.get : ∀ {l : List Tr} {xs : List V} {i : Nat} {T : Tr}, Shs K O H l xs → l[i]? = some T → ∃ x, xs[i]? = some x ∧ Sh K O H T x
  | [], _, _, _, _, e => by simp at e
  | t :: r, xs, i, T, h, e => by
    simp only [Shs] at h
    obtain ⟨x, q, rfl, h1, h2⟩ := h
    cases i with
    | zero => simp at e; subst e; exact ⟨x, rfl, h1⟩
    | succ i =>
      obtain ⟨y, e1, e2⟩ := Shs.get h2 (i := i) (by simpa using e)
      exact ⟨y, by simpa using e1, e2⟩
theorem Shs.len : ∀ {l : List Tr} {xs : List V}, Shs K O H l xs → xs.length = l.length
  | [], _, h => by simp only [Shs] at h; rw [h]; rfl
  | t :: r, xs, h => by
    simp only [Shs] at h
    obtain ⟨x, q, rfl, h1, h2⟩ := h
    simp only [List.length_cons, Shs.len h2]
mutual
theorem Sh.same (hO : ∀ a t, O a H t → O a H' t) (e : Same H H') : ∀ (T : Tr) (v : V), Sh K O H T v → Sh K O H' T v
  | .lf _, _, h => by simp only [Sh] at h ⊢; exact h
  | .ow _, _, h => by simp only [Sh] at h ⊢; obtain ⟨a, q, o⟩ := h; exact ⟨a, q, hO _ _ o⟩
  | .ls l, _, h => by simp only [Sh] at h ⊢; obtain ⟨a, xs, q, o, z⟩ := h; exact ⟨a, xs, q, e.seq o, Shs.same hO e l xs z⟩
  | .tp l, _, h => by simp only [Sh] at h ⊢; obtain ⟨a, xs, q, o, z⟩ := h; exact ⟨a, xs, q, SqT.ext o e, Shs.same hO e l xs z⟩
theorem Shs.same (hO : ∀ a t, O a H t → O a H' t) (e : Same H H') : ∀ (l : List Tr) (xs : List V), Shs K O H l xs → Shs K O H' l xs
  | [], _, h => by simp only [Shs] at h ⊢; exact h
  | t :: r, _, h => by simp only [Shs] at h ⊢; obtain ⟨x, q, w, h1, h2⟩ := h; exact ⟨x, q, w, Sh.same hO e t x h1, Shs.same hO e r q h2⟩
end
end
/-- what is asked of the texts of other objects: they stay while what is known stays, and are those of instances or dicts -/
structure OwnT (O : Addr → Hp → Str → Prop) : Prop where
  mono : ∀ a H H' t, Same H H' → O a H t → O a H' t
  ins : ∀ a H t, O a H t → (∃ C dx fs, H a = some (.ins C dx fs)) ∨ ∃ kvs, H a = some (.dK kvs)
section
variable {X : Cx} {O : Addr → Hp → Str → Prop} {pins : List (Addr × Obj)} {σ : L2.St} {H : Hp} {s : Shared}
theorem at_list (I : Inv X pins σ H s) {a : Addr} {xs : List V} (h : SqL X.K H a xs) : ∃ (its : List Value) (o : Obj) (n : Nat), Vals xs its ∧ s.heap.get? a = some o ∧ o.cls = .type "list" ∧ o.data = .seq its.toArray n := by
  obtain ⟨its, r, ⟨o, n, e, c, _, d⟩, _⟩ := I.list h
  exact ⟨its, o, n, r, e, c, d⟩
theorem at_tup (I : Inv X pins σ H s) {a : Addr} {xs : List V} (h : SqT X.K H a xs) : ∃ (its : List Value) (o : Obj) (n : Nat), Vals xs its ∧ s.heap.get? a = some o ∧ o.cls = .type "tuple" ∧ o.data = .seq its.toArray n := by
  rcases h with h | ⟨o, its, n, hk, hc, hd, hs, r⟩
  · obtain ⟨_, its, r, o, e, c, n, d⟩ := h.ok I.hok
    exact ⟨its, o, n, r, e, c, d⟩
  · exact ⟨its.toList, o, n, r, I.kIn a o hk, hc, by simpa using hd⟩
theorem cls_list (I : Inv X pins σ H s) {a : Addr} {xs : List V} (h : SqL X.K H a xs) : ∃ o, s.heap.get? a = some o ∧ o.cls = .type "list" :=
  let ⟨_, o, _, _, e, c, _⟩ := at_list I h
  ⟨o, e, c⟩
theorem cls_tup (I : Inv X pins σ H s) {a : Addr} {xs : List V} (h : SqT X.K H a xs) : ∃ o, s.heap.get? a = some o ∧ o.cls = .type "tuple" :=
  let ⟨_, o, _, _, e, c, _⟩ := at_tup I h
  ⟨o, e, c⟩
theorem cls_own (I : Inv X pins σ H s) (hO : OwnT O) {a : Addr} {t : Str} (h : O a H t) : ∃ o, s.heap.get? a = some o ∧ o.cls ≠ .type "list" ∧ o.cls ≠ .type "tuple" := by
  rcases hO.ins _ _ _ h with ⟨C, dx, fs, e⟩ | ⟨kvs, e⟩
  · obtain ⟨_, _, _, g, _⟩ := I.hok a _ e
    exact ⟨_, g, by simp [PySem.W.instObj], by simp [PySem.W.instObj]⟩
  · obtain ⟨_, _, _, _, o, _, _, g, h2, _⟩ := dk_of I.hok e
    exact ⟨o, g, by rw [h2.1]; decide, by rw [h2.1]; decide⟩
theorem list_one (I : Inv X pins σ H s) {a : Addr} {xs ys : List V} (h : SqL X.K H a xs) (h' : SqL X.K H a ys) : xs = ys := by
  obtain ⟨its, o, n, r, e, _, d⟩ := at_list I h
  obtain ⟨its', o', n', r', e', _, d'⟩ := at_list I h'
  rw [e] at e'
  cases e'
  rw [d] at d'
  cases d'
  exact r.inj r'
theorem tup_one (I : Inv X pins σ H s) {a : Addr} {xs ys : List V} (h : SqT X.K H a xs) (h' : SqT X.K H a ys) : xs = ys := by
  obtain ⟨its, o, n, r, e, _, d⟩ := at_tup I h
  obtain ⟨its', o', n', r', e', _, d'⟩ := at_tup I h'
  rw [e] at e'
  cases e'
  rw [d] at d'
  cases d'
  exact r.inj r'
theorem apartC {h : Heap} {a : Addr} {c d : Value} (h1 : ∃ o, h.get? a = some o ∧ o.cls = c) (h2 : ∃ o, h.get? a = some o ∧ o.cls = d) : c = d := by
  obtain ⟨o, e, z⟩ := h1
  obtain ⟨o', e', z'⟩ := h2
  rw [e] at e'
  cases e'
  rw [← z, ← z']
mutual
theorem sz_one (I : Inv X pins σ H s) (hO : OwnT O) : ∀ (T T' : Tr) (v : V), Sh X.K O H T v → Sh X.K O H T' v → T.sz = T'.sz
  | .lf _, .lf _, _, _, _ => by simp only [Tr.sz]
  | .lf _, .ow _, _, _, _ => by simp only [Tr.sz]
  | .ow _, .lf _, _, _, _ => by simp only [Tr.sz]
  | .ow _, .ow _, _, _, _ => by simp only [Tr.sz]
  | .lf _, .ls _, _, h, h' => by simp only [Sh] at h h'; obtain ⟨a, xs, rfl, _⟩ := h'; exact h.elim
  | .lf _, .tp _, _, h, h' => by simp only [Sh] at h h'; obtain ⟨a, xs, rfl, _⟩ := h'; exact h.elim
  | .ls _, .lf _, _, h', h => by simp only [Sh] at h h'; obtain ⟨a, xs, rfl, _⟩ := h'; exact h.elim
  | .tp _, .lf _, _, h', h => by simp only [Sh] at h h'; obtain ⟨a, xs, rfl, _⟩ := h'; exact h.elim
  | .ow _, .ls _, _, h, h' => by
    simp only [Sh] at h h'
    obtain ⟨a, rfl, o⟩ := h
    obtain ⟨b, xs, e, q, _⟩ := h'
    cases e
    obtain ⟨o1, e1, c1, c2⟩ := cls_own I hO o
    exact absurd (apartC ⟨o1, e1, rfl⟩ (cls_list I q)) c1
  | .ow _, .tp _, _, h, h' => by
    simp only [Sh] at h h'
    obtain ⟨a, rfl, o⟩ := h
    obtain ⟨b, xs, e, q, _⟩ := h'
    cases e
    obtain ⟨o1, e1, c1, c2⟩ := cls_own I hO o
    exact absurd (apartC ⟨o1, e1, rfl⟩ (cls_tup I q)) c2
  | .ls _, .ow _, _, h', h => by
    simp only [Sh] at h h'
    obtain ⟨a, rfl, o⟩ := h
    obtain ⟨b, xs, e, q, _⟩ := h'
    cases e
    obtain ⟨o1, e1, c1, c2⟩ := cls_own I hO o
    exact absurd (apartC ⟨o1, e1, rfl⟩ (cls_list I q)) c1
  | .tp _, .ow _, _, h', h => by
    simp only [Sh] at h h'
    obtain ⟨a, rfl, o⟩ := h
    obtain ⟨b, xs, e, q, _⟩ := h'
    cases e
    obtain ⟨o1, e1, c1, c2⟩ := cls_own I hO o
    exact absurd (apartC ⟨o1, e1, rfl⟩ (cls_tup I q)) c2
  | .ls _, .tp _, _, h, h' => by
    simp only [Sh] at h h'
    obtain ⟨a, xs, rfl, o, _⟩ := h
    obtain ⟨b, ys, e, q, _⟩ := h'
    cases e
    exact absurd (apartC (cls_list I o) (cls_tup I q)) (by simp)
  | .tp _, .ls _, _, h', h => by
    simp only [Sh] at h h'
    obtain ⟨a, xs, rfl, o, _⟩ := h
    obtain ⟨b, ys, e, q, _⟩ := h'
    cases e
    exact absurd (apartC (cls_list I o) (cls_tup I q)) (by simp)
  | .ls l, .ls l', _, h, h' => by
    simp only [Sh] at h h'
    obtain ⟨a, xs, rfl, o, z⟩ := h
    obtain ⟨b, ys, e, q, z'⟩ := h'
    cases e
    have := list_one I o q
    subst this
    simp only [Tr.sz, szs_one I hO l l' xs z z']
  | .tp l, .tp l', _, h, h' => by
    simp only [Sh] at h h'
    obtain ⟨a, xs, rfl, o, z⟩ := h
    obtain ⟨b, ys, e, q, z'⟩ := h'
    cases e
    have := tup_one I o q
    subst this
    simp only [Tr.sz, szs_one I hO l l' xs z z']
theorem szs_one (I : Inv X pins σ H s) (hO : OwnT O) : ∀ (l l' : List Tr) (xs : List V), Shs X.K O H l xs → Shs X.K O H l' xs → Tr.szs l = Tr.szs l'
  | [], [], _, _, _ => rfl
  | [], _ :: _, _, h, h' => by
    simp only [Shs] at h h'
    obtain ⟨x, r, e, _⟩ := h'
    rw [h] at e
    cases e
  | _ :: _, [], _, h', h => by
    simp only [Shs] at h h'
    obtain ⟨x, r, e, _⟩ := h'
    rw [h] at e
    cases e
  | t :: l, t' :: l', _, h, h' => by
    simp only [Shs] at h h'
    obtain ⟨x, r, rfl, h1, h2⟩ := h
    obtain ⟨y, q, e, h3, h4⟩ := h'
    cases e
    simp only [Tr.szs, sz_one I hO t t' x h1 h3, szs_one I hO l l' r h2 h4]
end
end
end Lb

set_option Elab.async false
set_option linter.all false
set_option maxRecDepth 100000
set_option maxHeartbeats 4000000
/-! .. how it runs -/
namespace Lb
open PySem PySem.Spec PyProof.Rows L2
open PySem.Builtin
/-- where a repr runs: within m others -/
structure AtR (X : Cx) (A : Around) (g : List Code) (m : Nat) : Prop where
  gd : A.guards = some g
  fr : A.frames = X.A.frames
  hd : A.handled = X.A.handled
  dp : A.depth ≤ X.A.depth + m
  un : A.units ≤ X.A.units + m
theorem AtR.loop {X : Cx} {A : Around} {g : List Code} {m : Nat} (h : AtR X A g m) (args : Args) : AtR X (A.under (.builtin "list.__repr__.loop" args)) (.builtin "list.__repr__.loop" args :: g) (m + 1) := by
  have w1 : (Code.builtin "list.__repr__.loop" args).weight ≤ 1 := by
    simp [Code.weight, Code.isCreation, Code.isGuard, Code.isCaller, Code.frames, Code.isFrame, guardIds]
  have h1 := h.dp
  have h2 := h.un
  refine ⟨guards_under_guard (isGuard_list_loop _) h.gd, ?_, h.hd, ?_, ?_⟩
  · have : (A.under (.builtin "list.__repr__.loop" args)).frames = A.frames := by simp [Around.under, Code.envs, Code.isFrame, pushEnvs]
    rw [this]
    exact h.fr
  · show A.depth + _ ≤ _
    omega
  · rw [units_under_list_loop]
    omega
theorem AtR.tup {X : Cx} {A : Around} {g : List Code} {m : Nat} (h : AtR X A g m) {id : String} {args : Args} (hi : id = "tuple.__repr__" ∨ id = "tuple.__repr__.under") : AtR X (A.under (.builtin id args)) (.builtin id args :: g) (m + 1) := by
  have w1 : (Code.builtin id args).weight ≤ 1 := by
    rcases hi with rfl | rfl <;> simp [Code.weight, Code.isCreation, Code.isGuard, Code.isCaller, Code.frames, Code.isFrame, guardIds]
  have hcg : (Code.builtin id args).isGuard = true := by
    rcases hi with rfl | rfl
    · exact isGuard_tuple_repr _
    · exact isGuard_tuple_repr_under _
  have hcu : (A.under (.builtin id args)).units = A.units + 1 := by
    rcases hi with rfl | rfl
    · exact units_under_tuple_repr _ _
    · exact units_under_tuple_repr_under _ _
  have h1 := h.dp
  have h2 := h.un
  refine ⟨guards_under_guard hcg h.gd, ?_, h.hd, ?_, ?_⟩
  · have : (A.under (.builtin id args)).frames = A.frames := by
      rcases hi with rfl | rfl <;> simp [Around.under, Code.envs, Code.isFrame, pushEnvs]
    rw [this]
    exact h.fr
  · show A.depth + _ ≤ _
    omega
  · rw [hcu]
    omega
/-- what is being shown is greater than n -/
def Above (K : PySem.W.Frag) (O : Addr → Hp → Str → Prop) (H : Hp) (g : List Code) (n : Nat) : Prop :=
  ∀ id v rest kw, Code.builtin id ⟨v :: rest, kw⟩ ∈ g → ∃ c T, v = .ref c ∧ Sh K O H T (.ref c) ∧ n < T.sz
section
variable {X : Cx} {O : Addr → Hp → Str → Prop} {pins : List (Addr × Obj)} {σ : L2.St} {H : Hp} {s : Shared} {D : Nat}
theorem Above.same {K : PySem.W.Frag} {H H' : Hp} {g : List Code} {n : Nat} (hO : OwnT O) (e : Same H H') (h : Above K O H g n) : Above K O H' g n := fun id v rest kw m =>
  let ⟨c, T, q, z, l⟩ := h id v rest kw m
  ⟨c, T, q, Sh.same (fun a t o => hO.mono _ _ _ _ e o) e T _ z, l⟩
theorem Above.le {K : PySem.W.Frag} {H : Hp} {g : List Code} {n k : Nat} (h : Above K O H g n) (l : k ≤ n) : Above K O H g k := fun id v rest kw m =>
  let ⟨c, T, q, z, x⟩ := h id v rest kw m
  ⟨c, T, q, z, by omega⟩
theorem Above.clear {g : List Code} {T : Tr} {b : Addr} (I : Inv X pins σ H s) (hO : OwnT O) (h : Above X.K O H g T.sz) (hT : Sh X.K O H T (.ref b)) : Clear g b := fun id v rest kw m e => by
  obtain ⟨c, T', q, z, l⟩ := h id v rest kw m
  rw [q] at e
  cases e
  have := sz_one I hO T T' _ hT z
  omega
theorem Above.cons {K : PySem.W.Frag} {g : List Code} {n : Nat} {id : String} {a : Addr} {rest : List Value} {kw : List (Str × Value)} {T : Tr} (h : Above K O H g n) (hT : Sh K O H T (.ref a)) (l : n < T.sz) :
    Above K O H (.builtin id ⟨.ref a :: rest, kw⟩ :: g) n := fun id' v rest' kw' m => by
  rcases List.mem_cons.mp m with e | m
  · cases e
    exact ⟨a, T, rfl, hT, l⟩
  · exact h _ _ _ _ m
/-- a tree is shown -/
def RpT (X : Cx) (O : Addr → Hp → Str → Prop) (D : Nat) (T : Tr) : Prop :=
  ∀ (base : Nat) (A : Around) (g : List Code) (m : Nat) (pins : List (Addr × Obj)) (σ : L2.St) (H : Hp) (s : Shared) (x : V) (u : Value) (Q : Str → Shared → Prop), Sh X.K O H T x → base + T.text.length ≤ sizeLine → AtR X A g m → m + T.dep ≤ D →
    Above X.K O H g T.sz → Inv X pins σ H s → RelV x u → (∀ s' H2, Same H H2 → Inv X pins σ H2 s' → Q T.text s') → wpAny (model X.prog X.w) A (pyReprUnder base u) Q X.xe s
theorem strs_of : ∀ {ts : List Str} {its : List Value}, Vals (ts.map V.str) its → ∃ l : List (Str × Tok), its = strValues l ∧ l.map (·.1) = ts
  | [], _, h => by
    cases h
    exact ⟨[], rfl, rfl⟩
  | t :: r, _, h => by
    cases h with
    | cons h1 h2 =>
      obtain ⟨k, rfl⟩ := (show ∃ k, _ = Value.str t k from h1)
      obtain ⟨l, e1, e2⟩ := strs_of h2
      exact ⟨(t, k) :: l, by rw [e1]; rfl, by rw [← e2]; rfl⟩
theorem upd_same_hp {G H : Hp} {P : Addr} {o : HO} (h : Same G H) (hP : G P = none) : Same G (upd H P o) := fun b u e => by
  have : b ≠ P := fun z => by rw [z, hP] at e; cases e
  rw [upd_ne this]
  exact h b u e
theorem loopT {m base : Nat} {a P : Addr} {l : List Tr} {xs : List V} {A : Around} {g : List Code} {G : Hp} {R : Result → Shared → Prop} (hO : OwnT O)
    (hT : ∀ T ∈ l, RpT X O D T) (hA : AtR X A g m) (hd : ∀ T ∈ l, m + 1 + T.dep ≤ D) (hL : SqL X.K G a xs) (hS : Shs X.K O G l xs) (hab : Above X.K O G g (Tr.szs l + 1)) (hP : G P = none)
    (hsz : base + (listText (Tr.texts l)).length ≤ sizeLine) (hE : ∀ e s', X.xe e s' → R (.error e) s') (hR : ∀ H' s' u, Same G H' → Inv X pins σ H' s' → R (.ok (.ret (.str (listText (Tr.texts l)) u))) s') :
    ∀ (k i : Nat) (s : Shared) (H : Hp), l.length - i = k → i ≤ l.length → Same G H → H P = some (.lst (((Tr.texts l).take i).map V.str)) → Inv X pins σ H s →
    codeAny (model X.prog X.w) A (.builtin "list.__repr__.loop" ⟨[.ref a, rawInt i, .ref P, rawInt ((base + piled ((Tr.texts l).take i) : Nat) : Int)], []⟩) R s := by
  have hX : (listText (Tr.texts l)).length = (textFrom 0 "[" (Tr.texts l)).length + 1 := by
    show (textFrom 0 "[" (Tr.texts l) ++ "]").length = _
    rw [strLen_append]; rfl
  have hLn := textFrom_len (Tr.texts l) 0 "["
  have hln := texts_len l
  have hsz1 : l.length ≤ sizeLine := by
    have h1 := hLn.1
    rw [if_neg (Nat.lt_irrefl 0), hln] at h1
    omega
  have hsz2 : ∀ t ∈ Tr.texts l, t.length ≤ sizeLine := fun t ht => by
    have h2 := hLn.2.1 t ht
    omega
  have hsz3 : (listText (Tr.texts l)).length ≤ sizeLine := by omega
  have hp3 := piled_le_listText (Tr.texts l)
  have hSl := hS.len
  have hShT : Sh X.K O G (.ls l) (.ref a) := by
    simp only [Sh]
    exact ⟨a, xs, rfl, hL, hS⟩
  intro k
  induction k with
  | zero =>
    intro i s H hk hi e hPl I
    have hin : i = l.length := by omega
    obtain ⟨its, o, n, r, ea, _, da⟩ := at_list I (e.seq hL)
    obtain ⟨_, pts, pn, pr, _, ep⟩ := I.lstM hPl
    refine codeAny_builtin F.entry_list_repr_loop ?_
    show wpAny _ _ («list.__repr__.loop» ⟨[.ref a, .int i 0, .ref P, .int ((base + piled ((Tr.texts l).take i) : Nat) : Int) 0], []⟩) _ _ s
    rw [repr_loop_tree]
    refine wpAny_bind (wpAny_listItems ea da ?_)
    have hnone : its.toArray[(i : Int).toNat]? = none := by
      have := r.length
      simp only [Int.toNat_natCast, List.getElem?_toArray]
      exact List.getElem?_eq_none_iff.mpr (by omega)
    simp only [hnone]
    unfold reprEnd
    refine wpAny_bind (wpAny_listItems ep rfl ?_)
    obtain ⟨done, rfl, hdone⟩ := strs_of pr
    rw [List.toList_toArray, repr_fold]
    refine wpAny_bind (wpAny_pure ?_)
    have hall : done.map (·.1) = Tr.texts l := by rw [hdone, hin, ← hln, List.take_length]
    rw [hall]
    exact wpAny_bind (wpAny_mkStr (wpAny_pure (hR H _ _ e (I.tok _))) hsz3)
  | succ k ih =>
    intro i s H hk hi e hPl I
    have hlt : i < l.length := by omega
    have hget : l[i]? = some l[i] := by simp [hlt]
    obtain ⟨x, hx, hshx⟩ := hS.get hget
    have ht := texts_get hget
    have hp1 := piled_take_succ ht
    have hp2 := piled_take_le (Tr.texts l) (i + 1)
    have hmem : l[i] ∈ l := List.getElem_mem hlt
    obtain ⟨its, o, n, r, ea, _, da⟩ := at_list I (e.seq hL)
    obtain ⟨u, hu, ru⟩ := r.get hx
    refine codeAny_builtin F.entry_list_repr_loop ?_
    show wpAny _ _ («list.__repr__.loop» ⟨[.ref a, .int i 0, .ref P, .int ((base + piled ((Tr.texts l).take i) : Nat) : Int) 0], []⟩) _ _ s
    rw [repr_loop_tree]
    refine wpAny_bind (wpAny_listItems ea da ?_)
    have hsome : its.toArray[(i : Int).toNat]? = some u := by
      simp only [Int.toNat_natCast, List.getElem?_toArray]
      exact hu
    simp only [hsome]
    rw [Int.toNat_natCast]
    have hszT := sz_le hmem
    have mono : ∀ b t, O b G t → O b H t := fun b t z => hO.mono _ _ _ _ e z
    refine wpAny_bind (wpAny_holding (wpAny_mono (hT _ hmem (base + piled ((Tr.texts l).take i) + 1) _ _ (m + 1) pins σ H s x u _ (Sh.same mono e _ _ hshx) (by omega) (hA.loop _) (by have := hd _ hmem; omega)
      (((hab.le (by omega)).same hO e).cons (Sh.same mono e _ _ hShT) (by simp only [Tr.sz]; omega)) I ru fun s' H2 e2 I2 => ?_) (fun _ _ z => z) fun _ _ z => hE _ _ z))
    refine wpAny_bind (wpAny_mkStr ?_ (hsz2 _ (List.mem_of_getElem? ht)))
    refine wpAny_bind ?_
    show wpAny _ _ (updateSeq P _) _ _ _
    have hP2 := e2 _ _ hPl
    obtain ⟨zz, pts, pn, pr, pl, ep⟩ := I2.lstM hP2
    rw [List.length_map] at zz pl
    refine wpAny_updateSeq ep rfl (wpAny_pure ⟨F.quiet_list_repr_loop _, ?_⟩) (by simp only [List.size_toArray]; omega)
    have e1 : ((i : Int) + 1) = ((i + 1 : Nat) : Int) := by omega
    have e3 : base + piled ((Tr.texts l).take i) + ((l[i]).text.length + 2) = base + piled ((Tr.texts l).take (i + 1)) := by omega
    rw [e1, e3]
    have htk : (Tr.texts l).take (i + 1) = (Tr.texts l).take i ++ [(l[i]).text] := by simp [List.take_add_one, ht]
    refine ih (i + 1) _ (upd H2 P (.lst (((Tr.texts l).take (i + 1)).map V.str))) (by omega) hlt (upd_same_hp (e.trans e2) hP) upd_same ?_
    refine I2.lset hP2 ep (its' := pts ++ [.str (l[i]).text s'.toks]) (by simp) ?_ ?_
    · rw [htk, List.map_append]
      exact pr.append (.cons ⟨_, rfl⟩ .nil)
    · rw [List.length_map, List.length_take]
      omega
end
end Lb

set_option Elab.async false
set_option linter.all false
set_option maxRecDepth 100000
set_option maxHeartbeats 4000000
/-! .. the whole, and repr(x) of it -/
namespace Lb
open PySem PySem.Spec PyProof.Rows L2
open PySem.Builtin
section
variable {X : Cx} {O : Addr → Hp → Str → Prop} {pins : List (Addr × Obj)} {σ : L2.St} {H : Hp} {s : Shared} {D : Nat}
/-- the body of list.__repr__, the list not empty -/
theorem bodyL {m base : Nat} {a : Addr} {t0 : Tr} {l0 : List Tr} {xs : List V} {A : Around} {g : List Code} {R : Result → Shared → Prop} (hO : OwnT O)
    (hT : ∀ T ∈ t0 :: l0, RpT X O D T) (hA : AtR X A g m) (hd : ∀ T ∈ t0 :: l0, m + 1 + T.dep ≤ D) (hL : SqL X.K H a xs) (hS : Shs X.K O H (t0 :: l0) xs) (hab : Above X.K O H g (Tr.ls (t0 :: l0)).sz)
    (hsz : base + (listText (Tr.texts (t0 :: l0))).length ≤ sizeLine) (I : Inv X pins σ H s) (hE : ∀ e s', X.xe e s' → R (.error e) s')
    (hR : ∀ H' s' u, Same H H' → Inv X pins σ H' s' → R (.ok (.ret (.str (listText (Tr.texts (t0 :: l0))) u))) s') :
    wpAny (model X.prog X.w) A.in1 (Builtin.listReprAt base ⟨[.ref a], []⟩) (fun fin s' => match fin with | .done f => R (.ok f) s' | .again c' => c'.quiet = true ∧ codeAny (model X.prog X.w) A c' R s') (fun e s' => R (.error e) s') s := by
  have hSh : Sh X.K O H (.ls (t0 :: l0)) (.ref a) := by
    simp only [Sh]
    exact ⟨a, xs, rfl, hL, hS⟩
  have hcl := hab.clear I hO hSh
  obtain ⟨its, o, n, r, ea, _, da⟩ := at_list I hL
  have ln := hS.len
  have ln2 := r.length
  cases its with
  | nil =>
    rw [ln] at ln2
    simp at ln2
  | cons u us =>
    refine wpAny_list_repr_head (A := A.in1) hA.gd (fun v rest kw hm => listSameRef_of_ne (hcl _ _ _ _ hm)) ea da ?_
    refine wpAny_bind (m := newList []) (wpAny_newObj_type ?_)
    refine wpAny_pure ⟨F.quiet_list_repr_loop _, ?_⟩
    have I2 := I.lnew (its := []) (ys := []) (t' := s.toks) .nil (by simp)
    exact loopT hO hT hA hd hL hS (hab.le (by simp only [Tr.sz]; omega)) I.fresh hsz hE hR _ 0 _ _ rfl (Nat.zero_le _) (upd_same_hp (Same.refl H) I.fresh) upd_same I2
theorem tupT {m : Nat} {A : Around} {g : List Code} {Y : Hp} (hO : OwnT O) (hA : AtR X A g m) (hab0 : ∀ T', Tr.sz T' ≤ Tr.sz T' ) : ∀ (l : List Tr) (us : List Value) (xs : List V) (acc : Array Str) (n : Nat) (s : Shared) (H : Hp) (Q : (Array Str × Nat) → Shared → Prop),
    (∀ T ∈ l, RpT X O D T) → (∀ T ∈ l, m + T.dep ≤ D) → (∀ T ∈ l, Above X.K O H g T.sz) → Shs X.K O H l xs → Vals xs us → n + piled (Tr.texts l) ≤ sizeLine → Inv X pins σ H s →
    (∀ s' H2, Same H H2 → Inv X pins σ H2 s' → Q ⟨acc ++ (Tr.texts l).toArray, n + piled (Tr.texts l)⟩ s') → wpAny (model X.prog X.w) A (forIn us (⟨acc, n⟩ : (Array Str × Nat)) tupBody) Q X.xe s := by
  intro l
  induction l with
  | nil =>
    intro us xs acc n s H Q hT hd hab hS r hn I h
    simp only [Shs] at hS
    subst hS
    cases r
    have h0 := h s H (Same.refl H) I
    simp only [List.forIn_nil]
    exact wpAny_pure (by simpa [piled, Tr.texts] using h0)
  | cons T l ih =>
    intro us xs acc n s H Q hT hd hab hS r hn I h
    simp only [Shs] at hS
    obtain ⟨x, xs', rfl, hx, hxs⟩ := hS
    cases r with
    | @cons _ u _ us' ru rus =>
      simp only [Tr.texts] at hn h
      rw [piled_cons] at hn
      rw [List.forIn_cons]
      refine wpAny_bind (wpAny_bind (hT T List.mem_cons_self (n + 1) A g m pins σ H s x u _ hx (by omega) hA (hd T List.mem_cons_self) (hab T List.mem_cons_self) I ru fun s1 H1 e1 I1 => wpAny_pure ?_))
      refine ih us' xs' (acc.push T.text) (n + (T.text.length + 2)) s1 H1 Q (fun T' m' => hT T' (List.mem_cons_of_mem _ m')) (fun T' m' => hd T' (List.mem_cons_of_mem _ m')) (fun T' m' => (hab T' (List.mem_cons_of_mem _ m')).same hO e1) (Shs.same (fun a t z => hO.mono _ _ _ _ e1 z) e1 _ _ hxs) rus (by omega) I1 fun s2 H2 e2 I2 => ?_
      have h1 := h s2 H2 (e1.trans e2) I2
      have e : n + piled (T.text :: Tr.texts l) = n + (T.text.length + 2) + piled (Tr.texts l) := by rw [piled_cons]; omega
      rw [e] at h1
      simpa using h1
/-- the body of tuple.__repr__ -/
theorem bodyT {m base : Nat} {a : Addr} {l : List Tr} {xs : List V} {A : Around} {g : List Code} {R : Result → Shared → Prop} {id : String} {rest : List Value} (hi : id = "tuple.__repr__" ∨ id = "tuple.__repr__.under") (hO : OwnT O)
    (hT : ∀ T ∈ l, RpT X O D T) (hA : AtR X A g m) (hd : ∀ T ∈ l, m + 1 + T.dep ≤ D) (hL : SqT X.K H a xs) (hS : Shs X.K O H l xs) (hab : Above X.K O H g (Tr.tp l).sz)
    (hsz : base + (tupleText (Tr.texts l)).length ≤ sizeLine) (I : Inv X pins σ H s) (hE : ∀ e s', X.xe e s' → R (.error e) s')
    (hR : ∀ H' s' u, Same H H' → Inv X pins σ H' s' → R (.ok (.ret (.str (tupleText (Tr.texts l)) u))) s') :
    wpOwn (model X.prog X.w) A (.builtin id ⟨.ref a :: rest, []⟩) (Builtin.tupleReprAt base ⟨[.ref a], []⟩) (fun fin s' => match fin with | .done f => R (.ok f) s' | .again c' => c'.quiet = true ∧ codeAny (model X.prog X.w) A c' R s') (fun e s' => R (.error e) s') s := by
  have hSh : Sh X.K O H (.tp l) (.ref a) := by
    simp only [Sh]
    exact ⟨a, xs, rfl, hL, hS⟩
  have hcl := hab.clear I hO hSh
  obtain ⟨its, o, n, r, ea, _, da⟩ := at_tup I hL
  have ln := hS.len
  have ln2 := r.length
  have ln3 := texts_len l
  have hlen : (Tr.texts l).length = its.length := by omega
  have hp := piled_le_tupleText (Tr.texts l)
  have hsz0 : (tupleText (Tr.texts l)).length ≤ sizeLine := by omega
  rw [tuple_repr_tree, tupleReprUnderWay_eq]
  refine wpOwn_bind (wpOwn_stackTailAny hA.gd (tupGuardF_off _) (tupGuardF_pos _) ?_)
  have hn : (g.any fun c => tupGuardF (.ref a) (c, default)) = false := by
    rw [List.any_eq_false]
    intro c hcm
    rw [tupGuardF_of_clear hcl c hcm]
    exact Bool.false_ne_true
  rw [hn]
  refine wpOwn_of_wpAny ?_
  show wpAny _ _ (tupleReprRest base (.ref a)) _ _ s
  unfold tupleReprRest Builtin.Tuple.tupleItemsOf
  refine wpAny_bind (wpAny_bind (wpAny_seqItems ea da (wpAny_pure ?_)))
  rw [← Array.forIn_toList, List.toList_toArray]
  refine wpAny_bind (wpAny_mono (tupT (m := m + 1) (Y := H) hO (hA.tup hi) (fun _ => Nat.le_refl _) l its xs _ _ s H _ hT hd (fun T hm => (hab.le (by have := sz_le hm; simp only [Tr.sz]; omega)).cons hSh (by have := sz_le hm; simp only [Tr.sz]; omega)) hS r (by omega) I fun s' H2 e2 I2 => ?_) (fun _ _ z => z) fun _ _ z => hE _ _ z)
  refine wpAny_bind (wpAny_mkStr (wpAny_pure ?_) (by simpa [tupleText, hlen] using hsz0))
  have h1 := hR H2 _ s'.toks e2 (I2.tok (s'.toks + 1))
  simpa [tupleText, hlen] using h1
theorem rp_leaf {t : Str} : RpT X O D (.lf t) := by
  intro base A g m pins σ H s x u Q hS hz hA hd hab I r hQ
  simp only [Sh] at hS
  simp only [Tr.text] at hz hQ
  cases x with
  | non =>
    cases (show u = Value.none from r)
    rw [show t = ("None" : Str) from hS] at hz hQ
    exact ReprIs.none base hz A _ s Q fun tk => hQ _ H (Same.refl H) (I.tok tk)
  | bl b =>
    cases (show u = Value.bool b from r)
    cases b with
    | true =>
      rw [show t = ("True" : Str) from hS] at hz hQ
      exact ReprIs.bool (prog := X.prog) (w := X.w) true base hz A _ s Q fun tk => hQ _ H (Same.refl H) (I.tok tk)
    | false =>
      rw [show t = ("False" : Str) from hS] at hz hQ
      exact ReprIs.bool (prog := X.prog) (w := X.w) false base hz A _ s Q fun tk => hQ _ H (Same.refl H) (I.tok tk)
  | int i =>
    obtain ⟨k, rfl⟩ := (show ∃ k, u = Value.int i k from r)
    obtain ⟨hi, e⟩ := (show i.natAbs.log2 < 1920 ∧ t = (toString i : String) from hS)
    rw [e] at hz hQ
    exact ReprIs.int k hi base hz A _ s Q fun tk => hQ _ H (Same.refl H) (I.tok tk)
  | str y =>
    obtain ⟨k, rfl⟩ := (show ∃ k, u = Value.str y k from r)
    rw [show t = reprText y from hS] at hz hQ
    exact ReprIs.str y k (by omega) base hz A _ s Q fun tk => hQ _ H (Same.refl H) (I.tok tk)
  | byt y => exact hS.elim
  | flt y => exact hS.elim
  | ty y => exact hS.elim
  | ref a => exact hS.elim
theorem rp_list {l : List Tr} (hu : X.A.units + D + 64 < cLine) (hO : OwnT O) (hT : ∀ T ∈ l, RpT X O D T) : RpT X O D (.ls l) := by
  intro base A g m pins σ H s x u Q hS hz hA hd hab I r hQ
  have hS' := hS
  simp only [Sh] at hS
  simp only [Tr.text] at hz hQ
  simp only [Tr.dep] at hd
  obtain ⟨a, xs, rfl, hL, hSs⟩ := hS
  cases (show u = Value.ref a from r)
  obtain ⟨its, o, n, rv, ea, ca, da⟩ := at_list I hL
  have hun := hA.un
  have hTy : s.TypeIs (.ref a) "list" := ⟨o, ea, ca⟩
  refine wpAny_pyReprUnder_ref (by omega) ?_
  cases l with
  | nil =>
    simp only [Shs] at hSs
    subst hSs
    cases rv
    exact wpAny_pyReprObjUnder_list_empty hTy (by omega) ea da ⟨_, _, rfl, hQ _ H (Same.refl H) (I.tok _)⟩
  | cons t0 l0 =>
    refine wpAny_pyReprObjUnder_twin (twin := "list.__repr__.under") hTy F.slot_list_repr.toG rfl (by omega) ?_
    refine call_twin_plain F.plain_list_repr_under F.entry_list_repr_under F.check_list_repr_under hTy F.slot_list_repr.toG (F.args_list_repr_1 _) ?_
    exact bodyL (R := callEnd _ _) hO hT hA (fun T hm => by have := dep_le hm; omega) hL hSs hab hz I (fun e s' z => z) fun H' s' k e I' => ⟨⟨_, _, rfl⟩, _, _, rfl, hQ _ H' e I'⟩
theorem rp_tup {l : List Tr} (hu : X.A.units + D + 64 < cLine) (hO : OwnT O) (hT : ∀ T ∈ l, RpT X O D T) : RpT X O D (.tp l) := by
  intro base A g m pins σ H s x u Q hS hz hA hd hab I r hQ
  simp only [Sh] at hS
  simp only [Tr.text] at hz hQ
  simp only [Tr.dep] at hd
  obtain ⟨a, xs, rfl, hL, hSs⟩ := hS
  cases (show u = Value.ref a from r)
  obtain ⟨its, o, n, rv, ea, ca, da⟩ := at_tup I hL
  have hun := hA.un
  have hTy : s.TypeIs (.ref a) "tuple" := ⟨o, ea, ca⟩
  refine wpAny_pyReprUnder_ref (by omega) ?_
  refine wpAny_pyReprObjUnder_twin (twin := "tuple.__repr__.under") hTy F.slot_tuple_repr rfl (by omega) ?_
  refine call_twin_own (F.quiet_tuple_repr_under _) F.entry_tuple_repr_under F.check_tuple_repr_under hTy F.slot_tuple_repr (F.args_tuple_repr_1 _) ?_
  exact bodyT (R := callEnd _ _) (.inr rfl) hO hT hA (fun T hm => by have := dep_le hm; omega) hL hSs hab hz I (fun e s' z => z) fun H' s' k e I' => ⟨⟨_, _, rfl⟩, _, _, rfl, hQ _ H' e I'⟩
/-- another object is shown -/
def OwR (X : Cx) (D : Nat) (O : Addr → Hp → Str → Prop) : Prop :=
  ∀ (t : Str) (base : Nat) (A : Around) (g : List Code) (m : Nat) (pins : List (Addr × Obj)) (σ : L2.St) (H : Hp) (s : Shared) (a : Addr) (Q : Str → Shared → Prop), O a H t → base + t.length ≤ sizeLine → AtR X A g m → m ≤ D →
    Clear g a → Inv X pins σ H s → (∀ s' H2, Same H H2 → Inv X pins σ H2 s' → Q t s') → wpAny (model X.prog X.w) A (pyReprUnder base (.ref a)) Q X.xe s
theorem OwR.or {O' : Addr → Hp → Str → Prop} (h : OwR X D O) (h' : OwR X D O') : OwR X D (fun a H t => O a H t ∨ O' a H t) :=
  fun t base A g m pins σ H s a Q ho => ho.elim (fun z => h t base A g m pins σ H s a Q z) fun z => h' t base A g m pins σ H s a Q z
theorem OwnT.or {O O' : Addr → Hp → Str → Prop} (h : OwnT O) (h' : OwnT O') : OwnT (fun a H t => O a H t ∨ O' a H t) :=
  ⟨fun a H H' t e z => z.elim (fun z => .inl (h.mono _ _ _ _ e z)) fun z => .inr (h'.mono _ _ _ _ e z), fun a H t z => z.elim (h.ins a H t) (h'.ins a H t)⟩
theorem rp_ow (hO : OwnT O) (h : OwR X D O) (t : Str) : RpT X O D (.ow t) := by
  intro base A g m pins σ H s x u Q hS hz hA hd hab I r hQ
  have hS' := hS
  simp only [Sh] at hS
  simp only [Tr.text] at hz hQ
  obtain ⟨a, rfl, o⟩ := hS
  cases (show u = Value.ref a from r)
  exact h t base A g m pins σ H s a Q o hz hA (by omega) (hab.clear I hO hS') I hQ
mutual
theorem rp (hu : X.A.units + D + 64 < cLine) (hO : OwnT O) (hI : OwR X D O) : ∀ T : Tr, RpT X O D T
  | .lf t => rp_leaf
  | .ow t => rp_ow hO hI t
  | .ls l => rp_list hu hO (rps hu hO hI l)
  | .tp l => rp_tup hu hO (rps hu hO hI l)
theorem rps (hu : X.A.units + D + 64 < cLine) (hO : OwnT O) (hI : OwR X D O) : ∀ l : List Tr, ∀ T ∈ l, RpT X O D T
  | [], _, h => nomatch h
  | t :: r, T, h => by
    rcases List.mem_cons.mp h with e | h
    · rw [e]
      exact rp hu hO hI t
    · exact rps hu hO hI r T h
end
theorem top_list {A : Around} {l : List Tr} {a : Addr} {xs : List V} {Q : Option Value → Shared → Prop} (hu : X.A.units + D + 64 < cLine) (hO : OwnT O) (hT : ∀ T ∈ l, RpT X O D T) (hA : AtR X A [] 1) (hd : Tr.deps l + 2 ≤ D)
    (hL : SqL X.K H a xs) (hS : Shs X.K O H l xs) (hz : (listText (Tr.texts l)).length ≤ sizeLine) (I : Inv X pins σ H s) (hQ : ∀ k s' H2, Same H H2 → Inv X pins σ H2 s' → Q (some (.str (listText (Tr.texts l)) k)) s') :
    wpAny (model X.prog X.w) A (callSpecialIfBound? (.ref a) (Str.ofString "__repr__")) Q X.xe s := by
  obtain ⟨its, o, n, rv, ea, ca, da⟩ := at_list I hL
  have hTy : s.TypeIs (.ref a) "list" := ⟨o, ea, ca⟩
  refine wpAny_callSpecialIfBound?_slot (name := Str.ofString "__repr__") hTy F.slot_list_repr ?_
  cases l with
  | nil =>
    simp only [Shs] at hS
    subst hS
    cases rv
    exact call_list_repr_empty hTy ea da (hQ _ _ H (Same.refl H) (I.tok _))
  | cons t0 l0 =>
    refine wpAny_call (codeAny_call_builtin F.slot_list_repr.plain F.entry_list_repr (F.slot_list_repr.check _ _ _ _ _ _ _ _ hTy (F.args_list_repr_1 _) ?_))
    exact bodyL (base := 0) (R := callEnd _ _) hO hT hA (fun T hm => by have := dep_le hm; omega) hL hS (fun _ _ _ _ z => nomatch z) (by omega) I (fun e s' z => z) fun H' s' k e I' => hQ _ _ H' e I'
theorem top_tup {A : Around} {l : List Tr} {a : Addr} {xs : List V} {Q : Option Value → Shared → Prop} (hu : X.A.units + D + 64 < cLine) (hO : OwnT O) (hT : ∀ T ∈ l, RpT X O D T) (hA : AtR X A [] 1) (hd : Tr.deps l + 2 ≤ D)
    (hL : SqT X.K H a xs) (hS : Shs X.K O H l xs) (hz : (tupleText (Tr.texts l)).length ≤ sizeLine) (I : Inv X pins σ H s) (hQ : ∀ k s' H2, Same H H2 → Inv X pins σ H2 s' → Q (some (.str (tupleText (Tr.texts l)) k)) s') :
    wpAny (model X.prog X.w) A (callSpecialIfBound? (.ref a) (Str.ofString "__repr__")) Q X.xe s := by
  obtain ⟨its, o, n, rv, ea, ca, da⟩ := at_tup I hL
  have hTy : s.TypeIs (.ref a) "tuple" := ⟨o, ea, ca⟩
  refine wpAny_callSpecialIfBound?_slotG (name := Str.ofString "__repr__") hTy F.slot_tuple_repr ?_
  refine wpAny_call (codeAny_call_builtin_own (Code.quiet_builtin _ (by decide +kernel)) F.entry_tuple_repr (F.slot_tuple_repr.check _ _ _ _ _ _ _ _ hTy (F.args_tuple_repr_1 _) ?_))
  exact bodyT (base := 0) (R := callEnd _ _) (.inl rfl) hO hT hA (fun T hm => by have := dep_le hm; omega) hL hS (fun _ _ _ _ z => nomatch z) (by omega) I (fun e s' z => z) fun H' s' k e I' => hQ _ _ H' e I'
/-- repr(x), x a list or a tuple of such -/
def rShow (K : PySem.W.Frag) (O : Addr → Hp → Str → Prop) (D : Nat) : List V → Hp → VK → Prop := fun xs H Q =>
  ∃ x T, xs = [x] ∧ Sh K O H T x ∧ (∃ l, T = .ls l ∨ T = .tp l) ∧ T.text.length ≤ sizeLine ∧ T.dep + 1 ≤ D ∧ ∀ H', Same H H' → Q (.str T.text) H'
theorem call_show {K : PySem.W.Frag} (hK : X.K = K) (hg : X.A.guards = some []) (hu : X.A.units + D + 64 < cLine) (hO : OwnT O) (hI : OwR X D O) : CallR X (.builtin "repr") (rShow K O D) := by
  subst hK
  intro pins s σ H xs us Q I r h
  obtain ⟨x, T, rfl, hS, ⟨l, hk⟩, hz, hd, q⟩ := h
  obtain ⟨u, rfl, ru⟩ := vals1 r
  have hA : AtR X X.A.in1 [] 1 := ⟨hg, rfl, rfl, Nat.le_succ _, Nat.le_refl _⟩
  refine Calls.call_function_entry PySem.F.kind_repr PySem.F.plain_repr PySem.F.entry_repr (PySem.F.args_repr1 _) ?_
  unfold Builtin.«repr»
  refine wpAny_bind (m := oneArg "repr" _) (wpAny_pure ?_)
  refine wpAny_bind (m := cRoomFor _ _) (wpAny_cRoomFor (by show X.A.units + 1 < cLine; omega) ?_)
  rcases hk with rfl | rfl
  · simp only [Sh] at hS
    simp only [Tr.text] at hz q
    simp only [Tr.dep] at hd
    obtain ⟨a, xs, rfl, hL, hSs⟩ := hS
    cases (show u = Value.ref a from ru)
    obtain ⟨its, o, n, rv, ea, ca, da⟩ := at_list I hL
    have hTy : s.TypeIs (.ref a) "list" := ⟨o, ea, ca⟩
    refine wpAny_bind (wpAny_specialOf (name := Str.ofString "__repr__") hTy F.slot_list_repr.lookup ?_)
    refine wpAny_bind (m := callSpecialIfBound? (.ref a) (Str.ofString "__repr__")) (top_list hu hO (rps hu hO hI l) hA (by omega) hL hSs hz I fun k s' H2 e I2 => ?_)
    exact wpAny_bind (wpAny_isInstance (T := "str") (b := true) rfl isSubtype_str_str (wpAny_pure ⟨_, rfl, .str _, H2, I2, ⟨_, rfl⟩, q H2 e⟩))
  · simp only [Sh] at hS
    simp only [Tr.text] at hz q
    simp only [Tr.dep] at hd
    obtain ⟨a, xs, rfl, hL, hSs⟩ := hS
    cases (show u = Value.ref a from ru)
    obtain ⟨its, o, n, rv, ea, ca, da⟩ := at_tup I hL
    have hTy : s.TypeIs (.ref a) "tuple" := ⟨o, ea, ca⟩
    refine wpAny_bind (wpAny_specialOf (name := Str.ofString "__repr__") hTy F.slot_tuple_repr.lookup ?_)
    refine wpAny_bind (m := callSpecialIfBound? (.ref a) (Str.ofString "__repr__")) (top_tup hu hO (rps hu hO hI l) hA (by omega) hL hSs hz I fun k s' H2 e I2 => ?_)
    exact wpAny_bind (wpAny_isInstance (T := "str") (b := true) rfl isSubtype_str_str (wpAny_pure ⟨_, rfl, .str _, H2, I2, ⟨_, rfl⟩, q H2 e⟩))
end
end Lb

set_option Elab.async false
set_option linter.all false
set_option maxRecDepth 100000
set_option maxHeartbeats 4000000
/-! instances of own classes: shown within lists, in f-strings, asked with `in` -/
namespace Lb
open PySem PySem.Spec PyProof.Rows L2
section
variable {X : Cx} {D : Nat} {C g : Addr} {sp : Sp} {E : XK} {CX : CXT} {n : Nat}
theorem ifBoundBy_own {M : Model} {A : Around} {E : Value → Shared → Prop} {s : Shared} {K : PySem.W.Frag} {x C f : Addr} {ox : Obj} {od : Option Obj} {base : Nat} {Q : Option Value → Shared → Prop} (X : K.In s.heap) (I : PySem.W.InstAt s.heap x ox C od)
    (hs : PySem.W.findIn K (.ref C) "__repr__" = some (some (.ref f))) (hf : PySem.W.isFn K (.ref f) = true) (h : wpAny M A (call (.ref f) [.ref x]) (fun v => Q (some v)) E s) :
    wpAny M A (callSpecialIfBoundBy? (fun g first => match reprUnder? g, first with
      | some twin, [self] => call twin [self, rawInt base]
      | _, _ => call g (first ++ [])) (.ref x) (Str.ofString "__repr__")) Q E s := by
  simp only [callSpecialIfBoundBy?, bindSpecialIfBound?]
  refine wpAny_holding (wpAny_bind (wpAny_bind (wpAny_bind (I.type.here ((PySem.W.looks_findIn X hs).here ?_)))))
  refine wpAny_bind (wpAny_askSetting (wpAny_ite ?_))
  have fin : wpAny M A (call (.ref f) ([.ref x] ++ []) >>= fun v => pure (some v)) Q E s := wpAny_bind (wpAny_mono h (fun v s' h' => wpAny_pure h') fun _ _ h' => h')
  split
  · exact wpAny_bind ((PySem.W.bind_fn X _ (beq_iff_eq.mp hf)).here (wpAny_pure (by exact fin)))
  · exact wpAny_tryCatch (wpAny_bind ((PySem.W.bind_fn X _ (beq_iff_eq.mp hf)).here (wpAny_pure (by exact fin))))
/-- an instance whose class has __repr__ -/
theorem ow_repr {O : Addr → Hp → Str → Prop} (hs : PySem.W.findIn X.K (.ref C) "__repr__" = some (some (.ref g))) (hf : PySem.W.isFn X.K (.ref g) = true) (F : FnR X.prog X.w X.K X.mg X.base CX n g sp) (hr : Room (n + D) X.A) (hx : Passes CX X E)
    (hO : ∀ a H t, O a H t → (∃ dx fs, H a = some (.ins C dx fs)) ∧ ∀ Q : VK, (∀ H', Same H H' → Q (.str t) H') → sp [.ref a] H Q E) : OwR X D O := by
  intro t base A gs m pins σ H s a Q o hz hA hm hcl I hQ
  obtain ⟨⟨dx, fs, ha⟩, hsp⟩ := hO _ _ _ o
  obtain ⟨od, J⟩ := inst_at I ha
  have h1 := hA.dp
  have h2 := hA.un
  have hr1 := hr.dp
  have hr2 := hr.un
  refine wpAny_pyReprUnder_ref (by omega) ?_
  unfold pyReprObjUnder pyReprObjBy
  refine wpAny_bind (wpAny_cRoomFor (by omega) ?_)
  refine wpAny_bind (wpAny_bind (J.type.here ((PySem.W.looks_findIn I.kIn hs).here ?_)))
  have hrA : Room n A := ⟨by rw [hA.hd]; exact hr.hd, by omega, by omega⟩
  have e0 : Env0 X.prog X.w X.K X.mg X.base A X.stack s H := ⟨by rw [hA.fr]; exact I.env0.frames, I.env0.mod, I.env0.bs, I.env0.bsz, I.env0.funs, I.env0.frf, I.env0.hok, I.env0.bare⟩
  refine wpAny_bind (ifBoundBy_own I.kIn J hs hf ?_)
  refine wpAny_mono (wpAny_call (SlX.run_at (us := [.ref a]) (ws := [.ref a]) (Q := fun v H' => v = .str t ∧ Same H H') F hrA e0 hx I (.cons rfl .nil) (hsp _ fun H' e => ⟨rfl, e⟩))) (fun w s' z => ?_) fun _ _ x => x
  obtain ⟨z', H', I', rz, ez, e⟩ := z
  subst ez
  obtain ⟨k, rfl⟩ := (show ∃ k, w = Value.str t k from rz)
  exact wpAny_bind (wpAny_isInstance (T := "str") (b := true) rfl isSubtype_str_str (wpAny_pure ⟨_, _, rfl, hQ _ H' e I'⟩))
/-- an empty dict -/
def OEmpty : Addr → Hp → Str → Prop := fun a H t => H a = some (.dK []) ∧ t = "{}"
theorem own_empty : OwnT OEmpty := ⟨fun a H H' t e h => ⟨e _ _ h.1, h.2⟩, fun a H t h => .inr ⟨_, h.1⟩⟩
theorem ow_empty (hu : X.A.units + D + 64 < cLine) : OwR X D OEmpty := by
  intro t base A gs m pins σ H s a Q o hz hA hm hcl I hQ
  obtain ⟨e, rfl⟩ := o
  obtain ⟨_, hsm, vs, r, o, es, ep, h1, h2, h3, _, h5, _⟩ := dk_of I.hok e
  cases r
  have he : es = #[] := by
    cases es with
    | mk l =>
      cases (show Pairs _ l [] from h5)
      rfl
  subst he
  have h2' := hA.un
  have hk : ReprK X.prog X.w [a] s.heap 1 (.ref a) (dictText []) := ReprK.dict (d := 0) (as := []) h1 h2.1 h3 hsm (by simp) .nil
  exact hk base hz A gs X.xe s Q hA.gd (fun b hb => by rw [List.mem_singleton.mp hb]; exact hcl) (by omega) (fun _ _ z => z) fun h' tk k => hQ _ H (Same.refl H) (I.kept k)
/-- {x} of an instance whose class has __str__ -/
def tFmtOwn (C : Addr) (sp : Sp) (E : XK) (te : TE) : TE := fun σ H Q => te σ H fun x H1 => ∃ a dx fs, x = .ref a ∧ H1 a = some (.ins C dx fs) ∧ sp [x] H1 (fun z H' => ∃ y, z = .str y ∧ Q (.str y) H') E
theorem pe_fmtOwn {e : Expr} {te : TE} {pos : Pos} (hfm : PySem.W.findIn X.K (.ref C) "__format__" = some (some (.builtin "object.__format__"))) (hm : PySem.W.mroIn X.K C (.type "object") = some true)
    (hs : PySem.W.findIn X.K (.ref C) "__str__" = some (some (.ref g))) (hf : PySem.W.isFn X.K (.ref g) = true) (F : FnR X.prog X.w X.K X.mg X.base CX n g sp) (hr : Room (n + 1) X.A) (hx : Passes CX X E) (he : PE X e te) :
    PE X (.FormattedValue e (-1) none pos) (tFmtOwn C sp E te) := by
  refine ⟨fun pins s σ H Q I h => ?_⟩
  refine wpAny_FormattedValue_plain (thn (he.run pins s σ H _ I h) fun v s1 hv => ?_)
  obtain ⟨x, H1, I1, r1, a, dx, fs, rfl, ha, q⟩ := hv
  cases (show v = Value.ref a from r1)
  obtain ⟨od, J⟩ := inst_at I1 ha
  have hu := hr.un
  refine PySem.W.kfo_fieldS (by show X.A.units + 1 < cLine; omega) I1.kIn J hfm hm hs hf ?_
  refine wpAny_mono (wpAny_call (SlX.run_at (us := [.ref a]) (ws := [.ref a]) F hr.in1 (I1.tok (s1.toks + 1)).env0.in1 hx (I1.tok (s1.toks + 1)) (.cons rfl .nil) q)) (fun w s' z => ?_) fun _ _ x => x
  obtain ⟨z', H', I', rz, y, ez, qz⟩ := z
  subst ez
  obtain ⟨t, rfl⟩ := (show ∃ t, w = Value.str y t from rz)
  exact ⟨.str y, H', I', ⟨t, rfl⟩, qz⟩
/-- {x!r} of an instance whose class has __repr__ -/
def tFmtOwnR (C : Addr) (sp : Sp) (E : XK) (te : TE) : TE := fun σ H Q => te σ H fun x H1 => ∃ a dx fs, x = .ref a ∧ H1 a = some (.ins C dx fs) ∧ sp [x] H1 (fun z H' => ∃ y, z = .str y ∧ y.length ≤ sizeLine ∧ Q (.str y) H') E
theorem pe_fmtOwnR {e : Expr} {te : TE} {pos : Pos} (hs : PySem.W.findIn X.K (.ref C) "__repr__" = some (some (.ref g))) (hf : PySem.W.isFn X.K (.ref g) = true) (F : FnR X.prog X.w X.K X.mg X.base CX n g sp) (hr : Room (n + 1) X.A) (hx : Passes CX X E) (he : PE X e te) :
    PE X (.FormattedValue e 114 none pos) (tFmtOwnR C sp E te) := by
  refine ⟨fun pins s σ H Q I h => ?_⟩
  refine wpAny_FormattedValue_repr (thn (he.run pins s σ H _ I h) fun v s1 hv => ?_)
  obtain ⟨x, H1, I1, r1, a, dx, fs, rfl, ha, q⟩ := hv
  cases (show v = Value.ref a from r1)
  obtain ⟨od, J⟩ := inst_at I1 ha
  have hu := hr.un
  unfold pyReprObj
  refine wpAny_bind (wpAny_cRoomFor (by omega) ?_)
  refine wpAny_bind (wpAny_bind (J.type.here ((PySem.W.looks_findIn I1.kIn hs).here ?_)))
  refine wpAny_bind (m := callSpecialIfBound? (.ref a) (Str.ofString "__repr__")) (PySem.W.ifBound_K I1.kIn J hs hf ?_)
  refine wpAny_mono (wpAny_call (SlX.run_at (us := [.ref a]) (ws := [.ref a]) F (hr.mono (Nat.le_succ _)) I1.env0 hx I1 (.cons rfl .nil) q)) (fun w s' z => ?_) fun _ _ x => x
  obtain ⟨z', H', I', rz, y, ez, hz, qz⟩ := z
  subst ez
  obtain ⟨t, rfl⟩ := (show ∃ t, w = Value.str y t from rz)
  refine wpAny_bind (wpAny_isInstance (T := "str") (b := true) rfl isSubtype_str_str (wpAny_pure ?_))
  exact wpAny_formatField_str ⟨.str y, H', I', ⟨t, rfl⟩, qz⟩ ⟨.str y, H', I'.tok _, ⟨_, rfl⟩, qz⟩ hz
/-- v in x, x an instance whose class has __contains__, which answers True or False -/
def rInOwn (C : Addr) (sp : Sp) (E : XK) : R2 := fun v x H Q => ∃ a dx fs, x = .ref a ∧ H a = some (.ins C dx fs) ∧ sp [x, v] H (fun z H' => ∃ b, z = .bl b ∧ Q (.bl b) H') E
theorem op_inOwn {K : PySem.W.Frag} (hK : X.K = K) (hs : PySem.W.findIn K (.ref C) "__contains__" = some (some (.ref g))) (hf : PySem.W.isFn K (.ref g) = true) (F : FnR X.prog X.w X.K X.mg X.base CX n g sp) (hr : Room n X.A) (hx : Passes CX X E) :
    OpR X (compareOp .In) (rInOwn C sp E) := by
  subst hK
  intro pins s σ H x y v u Q I rx ry h
  obtain ⟨a, dx, fs, rfl, ha, q⟩ := h
  cases (show u = Value.ref a from ry)
  obtain ⟨od, J⟩ := inst_at I ha
  obtain ⟨m, hF⟩ := I.fr
  refine PySem.W.in_K hF I.ok.mod.kin J hs hf ?_
  refine wpAny_mono (wpAny_call (SlX.run_at (us := [.ref a, v]) (ws := [.ref a, x]) F hr I.env0 hx I (.cons rfl (.cons rx .nil)) q)) (fun w s' z => ?_) fun _ _ x => x
  obtain ⟨z', H', I', rz, b, ez, qz⟩ := z
  subst ez
  cases (show w = Value.bool b from rz)
  exact wpAny_truthy_bool ⟨.bl b, H', I', rfl, qz⟩
end
end Lb

set_option Elab.async false
set_option linter.all false
set_option maxRecDepth 100000
set_option maxHeartbeats 4000000
/-! {x!r} of a list, join told with K, repr of an instance whose __repr__ shows data -/
namespace Lb
open PySem PySem.Spec PyProof.Rows L2
section
variable {X : Cx} {O : Addr → Hp → Str → Prop} {D : Nat}
def tFmtShow (K : PySem.W.Frag) (O : Addr → Hp → Str → Prop) (D : Nat) (te : TE) : TE := fun σ H Q => te σ H fun x H1 => ∃ l, Sh K O H1 (.ls l) x ∧ (Tr.text (.ls l)).length ≤ sizeLine ∧ (Tr.ls l).dep + 1 ≤ D ∧ ∀ H', Same H1 H' → Q (.str (Tr.text (.ls l))) H'
theorem pe_fmtShow {K : PySem.W.Frag} {e : Expr} {te : TE} {pos : Pos} (hK : X.K = K) (hg : X.A.guards = some []) (hu : X.A.units + D + 64 < cLine) (hO : OwnT O) (hI : OwR X D O) (he : PE X e te) : PE X (.FormattedValue e 114 none pos) (tFmtShow K O D te) := by
  subst hK
  refine ⟨fun pins s σ H Q I h => ?_⟩
  refine wpAny_FormattedValue_repr (thn (he.run pins s σ H _ I h) fun v s1 hv => ?_)
  obtain ⟨x, H1, I1, r1, l, hS, hz, hd, q⟩ := hv
  simp only [Sh] at hS
  simp only [Tr.text] at hz q
  simp only [Tr.dep] at hd
  obtain ⟨a, xs, rfl, hL, hSs⟩ := hS
  cases (show v = Value.ref a from r1)
  have hA : AtR X X.A [] 1 := ⟨hg, rfl, rfl, Nat.le_succ _, Nat.le_succ _⟩
  obtain ⟨its, o, n, rv, ea, ca, da⟩ := at_list I1 hL
  have hTy : s1.TypeIs (.ref a) "list" := ⟨o, ea, ca⟩
  unfold pyReprObj
  refine wpAny_bind (wpAny_cRoomFor (by omega) ?_)
  refine wpAny_bind (wpAny_specialOf (name := Str.ofString "__repr__") hTy F.slot_list_repr.lookup ?_)
  refine wpAny_bind (m := callSpecialIfBound? (.ref a) (Str.ofString "__repr__")) (top_list hu hO (rps hu hO hI l) hA (by omega) hL hSs hz I1 fun k s' H2 e I2 => ?_)
  refine wpAny_bind (wpAny_isInstance (T := "str") (b := true) rfl isSubtype_str_str (wpAny_pure ?_))
  exact wpAny_formatField_str ⟨.str _, H2, I2, ⟨_, rfl⟩, q H2 e⟩ ⟨.str _, H2, I2.tok _, ⟨_, rfl⟩, q H2 e⟩ hz
theorem pe_joinK {K : PySem.W.Frag} {o e : Expr} {to te : TE} {apos pos : Pos} (hK : X.K = K) (ho : PE X o to) (he : PE X e te) (hs : starEach [e] X.env = [(false, eval e X.env)] := by rfl) (hbase : attributeBase o "join" X.env (eval o X.env) = eval o X.env := by rfl) (hline : (apos.endLine == pos.line) = true := by rfl) :
    PE X (.Call (.Attribute o "join" apos) [e] [] pos) (tM1 (fun x xs H Q => ∃ a p, ∃ ys : List Str, x = .str a ∧ xs = [.ref p] ∧ (SqL K H p (ys.map V.str) ∨ SqT K H p (ys.map V.str)) ∧
      (ys.map (·.length)).sum + ys.length * a.length ≤ 16777216 ∧ Q (.str (Txt.join a ys)) H) to te) := by
  subst hK
  exact pe_join ho he hs hbase hline
theorem call_reprOwnG {C g : Addr} {n : Nat} {fd : FuncData} {sp : Sp} (hs : PySem.W.findIn X.K (.ref C) "__repr__" = some (some (.ref g))) (hf : PySem.W.isFn X.K (.ref g) = true)
    (F : FnG X.prog X.w X.K X.mg X.base CX0 n g fd ["self"] sp) (hb : Binds X.K fd ["self"] []) (gu : X.A.guards = some []) (hr : Room (n + 1) X.A) : CallR X (.builtin "repr") (rOwnTx C sp E0) := by
  intro pins s σ H xs us Q I r h
  obtain ⟨a, dx, fs, rfl, ha, q⟩ := h
  obtain ⟨u, rfl, ru⟩ := vals1 r
  cases (show u = Value.ref a from ru)
  obtain ⟨od, J⟩ := inst_at I ha
  have hu := hr.units
  refine Calls.call_function_entry PySem.F.kind_repr PySem.F.plain_repr PySem.F.entry_repr (PySem.F.args_repr1 _) ?_
  unfold Builtin.«repr»
  refine wpAny_bind (m := oneArg "repr" _) (wpAny_pure ?_)
  refine wpAny_bind (m := cRoomFor _ _) (wpAny_cRoomFor (by show X.A.units + 1 < cLine; omega) ?_)
  refine wpAny_bind (wpAny_bind (J.type.here ((PySem.W.looks_findIn I.kIn hs).here ?_)))
  refine wpAny_bind (m := callSpecialIfBound? (.ref a) (Str.ofString "__repr__")) (PySem.W.ifBound_K I.kIn J hs hf ?_)
  refine wpAny_mono (wpAny_call (codeAny_mono (F.run X.A.in1 X.stack s H ⟨[.ref a], []⟩ [.ref a] [.ref a] _ _ gu hr.in1 I.env0.in1 (hb s [.ref a] I.kIn rfl) (.cons rfl .nil) q) fun r s' hq => ?_)) (fun w s' (z : EP X pins σ (fun z H' => ∃ y, z = V.str y ∧ Q z H') w s') => ?_) fun _ _ x => x
  · cases r with
    | error e => exact False.elim hq
    | ok fl =>
      cases fl with
      | ret u => exact I.after hq
      | next => exact False.elim hq
      | brk => exact False.elim hq
      | cont => exact False.elim hq
  obtain ⟨z', H', I', rz, y, ez, qz⟩ := z
  subst ez
  obtain ⟨t, rfl⟩ := (show ∃ t, w = Value.str y t from rz)
  refine wpAny_bind (wpAny_isInstance (T := "str") (b := true) rfl isSubtype_str_str ?_)
  exact wpAny_pure ⟨_, rfl, .str y, H', I', ⟨t, rfl⟩, qz⟩
end
end Lb

set_option Elab.async false
set_option linter.all false
set_option maxRecDepth 100000
set_option maxHeartbeats 4000000
namespace K60
open PySem L2 Lb
open C8 (pss_cut)
def ordF (D l : Addr) : List (Str × V) := putF "_levels" (.ref l) (putF "_places" (.ref D) [])
theorem lp_ : ¬ (("_levels" : Str) = "_places") := by decide +kernel
theorem pl_ : ¬ (("_places" : Str) = "_levels") := by decide +kernel
theorem ord_pla (D l : Addr) : (ordF D l).lookup ("_places" : Str) = some (.ref D) := by
  unfold ordF
  rw [lookup_putF, if_neg pl_, lookup_putF, if_pos rfl]
theorem ord_lev (D l : Addr) : (ordF D l).lookup ("_levels" : Str) = some (.ref l) := by
  unfold ordF
  rw [lookup_putF, if_pos rfl]
theorem ord_no (D l : Addr) {m : Str} (h1 : ¬ m = "_levels") (h2 : ¬ m = "_places") : (ordF D l).lookup m = none := by
  unfold ordF
  rw [lookup_putF, if_neg h1, lookup_putF, if_neg h2]
  all_goals rfl
def RowT (H : Hp) (t : Addr) (x : List Str) : Prop := H t = some (.tup (x.map V.str))
/-- an order: its levels, sorted, and its places -/
def OrdA (C : Addr) (H : Hp) (q dx : Addr) (L : List (List Str)) (p : Pl) : Prop := ∃ D l ts, H q = some (.ins C dx (ordF D l)) ∧ H D = some (.dK (kvK p)) ∧ H l = some (.lst (ts.map V.ref)) ∧ Paired (RowT H) ts L
def OrdAt (C : Addr) (H : Hp) (q : Addr) (L : List (List Str)) (p : Pl) : Prop := ∃ dx, OrdA C H q dx L p
theorem OrdA.same {C : Addr} {H H' : Hp} {q dx : Addr} {L : List (List Str)} {p : Pl} (h : OrdA C H q dx L p) (s : Same H H') : OrdA C H' q dx L p :=
  let ⟨D, l, ts, a, b, c, d⟩ := h; ⟨D, l, ts, s _ _ a, s _ _ b, s _ _ c, Paired.imp d fun _ _ h => s _ _ h⟩
theorem OrdAt.same {C : Addr} {H H' : Hp} {q : Addr} {L : List (List Str)} {p : Pl} (h : OrdAt C H q L p) (s : Same H H') : OrdAt C H' q L p := let ⟨dx, h⟩ := h; ⟨dx, h.same s⟩
def lvls (d : Dt) : List (List Str) := match seqD d with
  | some l => l.filterMap lvD
  | none => []
theorem plc_all : ∀ {l : List Dt} {i : Nat} {acc p : Pl}, plc i l acc = .ok p → ∀ t ∈ l, ∃ x, lvD t = some x
  | [], _, _, _, _, t, ht => nomatch ht
  | d :: r, i, acc, p, h, t, ht => by
    cases e : lvD d with
    | none => rw [plc_bad e] at h; cases h
    | some x =>
      cases e2 : addN i x acc with
      | none => rw [plc_dup e e2] at h; cases h
      | some acc' =>
        rw [plc_go e e2] at h
        rcases List.mem_cons.mp ht with rfl | ht
        · exact ⟨x, e⟩
        · exact plc_all h t ht
/-- its levels stand in a new list -/
def FreshL (C : Addr) (H H' : Hp) (q : Addr) : Prop := ∀ dx D l, H' q = some (.ins C dx (ordF D l)) → H l = none
theorem ordF_lev {D D' l l' : Addr} (h : ordF D l = ordF D' l') : l = l' := by
  have := congrArg (fun f => f.lookup ("_levels" : Str)) h
  rw [ord_lev, ord_lev] at this
  injection this with e
  injection e
def sp_Order_init_ (C CI : Addr) : Sp := fun vs H Q E => ∃ (q dx : Addr) (v : V) (d : Dt), vs = [.ref q, v] ∧ At H d v ∧ dsz d ≤ 60 ∧ H q = some (.ins C dx []) ∧ (match places d with
  | .ok p => ∀ H', (∀ x o, x ≠ q → H x = some o → H' x = some o) → OrdA C H' q dx ((lvls d).map srt) p → FreshL C H H' q → Q .non H'
  | .error e => ∀ H' dd, Same H H' → H dd = none → H' dd = some (.xd [("position", posV e)]) → E (.ref CI) (some dd) H')
section
variable {P : Program} {w : World} {K : PySem.W.Frag} {mg : Str → Option Value} {base : Heap} {a : Ad}
theorem ok_Order_init_ (T : Txt K mg a) : FnOk P w K mg base (L2.CX P w) 5 a.f_Order_init_ a.d_Order_init_ ["self", "levels"] (sp_Order_init_ a.c_Order a.c_InvalidLevels) := by
  refine T.F_Order_init_.okX sc_Order_init_ (fun vs H Q E h => ?_) (fun cdv A outer s H vs Q E hr h => ?_)
  · obtain ⟨q, dx, v, d, rfl, _⟩ := h
    rfl
  · obtain ⟨q, dx, v, d, rfl, hd, hz, hq, k⟩ := h
    refine ⟨_, (pss_cons (ps_fldK (K := K) rfl (pv 0) (pe_call (E := E) (ok_places_of T) (hr.mono (by decide)) (by rfl) T.m_places_of T.F_places_of.kp (b_places_of T) .nil (passes_call (takes_of rfl rfl rfl rfl) fun _ _ _ _ h => h) (pa_cons (pv 1) pa_nil)) rfl)
 (pss_one (ps_fldK (K := K) rfl (pv 0) (pe_lc (own := [("level", 3)]) (by rfl) sc_Order_init_.nd (pi_seqK (K := K) rfl (pv 1)) (blkOk_by (own := [("level", 3)]) (N := ["self", "levels", "name", "level"]) (sc := defScope s_Order_init_) (by decide +kernel)) (fun _ _ _ _ _ => (pg_name (i := 3) sc_Order_init_.nd rfl (by first | exact Or.inl rfl | exact Or.inr rfl))) (fun _ _ _ _ _ => pts_nil) (fun _ _ _ _ _ => (pe_callTy (call_tuple_ofK (K := K) rfl) (by rfl) T.b_tuple (by decide +kernel) (pa_cons (pe_callB (cr_sortedSK (K := K) rfl) (by rfl) T.b_sorted (by decide +kernel) (pa_cons (pe_lc (own := [("name", 2)]) (by rfl) sc_Order_init_.nd (pi_seqK (K := K) rfl (pv 3)) (blkOk_any (own := [("name", 2)]) (N := ["self", "levels", "name", "level"]) (by decide +kernel)) (fun _ _ _ _ _ => (pg_name (i := 2) sc_Order_init_.nd rfl (by first | exact Or.inl rfl | exact Or.inr rfl))) (fun _ _ _ _ _ => pts_nil) (fun _ _ _ _ _ => (pe_callTy SkE.call_str_str (by rfl) T.b_str (by decide +kernel) (pa_cons (pv 2) pa_nil)))) pa_nil)) pa_nil)))) rfl))), ?_⟩
    refine ⟨_, rfl, v, d, rfl, hd, by omega, ?_⟩
    cases hp : places d with
    | error e =>
      rw [hp] at k
      exact k
    | ok p =>
      rw [hp] at k
      intro H1 D s1 hD eD
      refine ⟨_, rfl, q, _, dx, _, rfl, s1 _ _ hq, T.cl, T.nP, (by show 0 < 1000; decide), ?_⟩
      obtain ⟨l, hs⟩ : ∃ l, seqD d = some l := by
        cases h : seqD d with
        | some l => exact ⟨l, rfl⟩
        | none => unfold places at hp; rw [h] at hp; cases hp
      have hlv : ∀ t ∈ l, ∃ x, lvD t = some x := by
        unfold places at hp
        rw [hs] at hp
        cases l with
        | nil => cases hp
        | cons t r =>
          have hp : (match plc 0 (t :: r) [] with | .ok k => (Except.ok k : Except (Option Nat) Pl) | .error i => .error (some i)) = .ok p := hp
          cases e : plc 0 (t :: r) [] with
          | error i => rw [e] at hp; cases hp
          | ok p' => exact plc_all e
      have hL : lvls d = l.filterMap lvD := by unfold lvls; rw [hs]
      obtain ⟨a0, xs, rfl, hq0, ha⟩ := hd.seq hs
      obtain ⟨hl, hsm⟩ := dsz_seq hs hz
      have ln := ha.len
      have nq : ∀ {b : Addr} {o : HO}, H b = some o → b ≠ q ∨ o = .ins a.c_Order dx [] := fun {b o} e => by
        by_cases z : b = q
        · subst z; rw [hq] at e; exact .inr (Option.some.inj e).symm
        · exact .inl z
      have kp : ∀ b o, b ≠ q → H b = some o → (upd H1 q (.ins a.c_Order dx (putF "_places" (.ref D) []))) b = some o := fun b o n e => by rw [upd_ne n]; exact s1 _ _ e
      generalize eH2 : upd H1 q (.ins a.c_Order dx (putF "_places" (.ref D) [])) = H2 at *
      have hqa : ∀ {b : Addr} {ys : List V}, SqB H b ys → SqB H2 b ys := fun {b ys} h => h.imp
        (fun e => kp _ _ (by rcases nq e with z | z; exact z; cases z) e) (fun e => kp _ _ (by rcases nq e with z | z; exact z; cases z) e)
      have hq2 : H2 q = some (.ins a.c_Order dx (putF "_places" (.ref D) [])) := by rw [← eH2, upd_same]
      have hD2 : H2 D = some (.dK (kvK p)) := by
        rw [← eH2, upd_ne (ne_of eD (s1 _ _ hq) (fun z => nomatch z))]
        exact eD
      refine seq_in (hqa hq0) rfl fun J G wk g L hL0 => ?_
      rw [ln] at wk
      refine lc_it wk (fun i H' => Same H2 H' ∧ ∃ ts : List Addr, H' L = some (.lst (ts.map V.ref)) ∧ Paired (RowT H') ts (((l.take i).filterMap lvD).map srt)) ⟨Lb.Same.upd hL0, [], upd_same, .nil⟩ (fun i H' _ b => g _ ((hqa hq0).eq b.1 (Same.refl _))) ?_ ?_
      · rintro i v H3 H4 hi ⟨s3, ts, eL, pr⟩ ⟨rfl, hv⟩
        obtain ⟨d', hd', hv'⟩ := ha.at_ hv
        obtain ⟨x, hx⟩ := hlv d' (List.mem_of_getElem? hd')
        obtain ⟨hsx, hx0, hxn⟩ := lvD_strs hx
        obtain ⟨b0, ys, rfl, hyq, hya⟩ := hv'.seq hsx
        obtain rfl := ats_strs.mp hya
        have hyl := (dsz_seq hsx (hsm d' (List.mem_of_getElem? hd'))).1
        rw [List.length_map] at hyl
        refine ⟨rfl, ?_⟩
        have hyq4 : SqB H4 b0 (x.map V.str) := (hqa hyq).same s3
        refine seq_in hyq4 rfl fun J2 G2 wk2 g2 D2 hD2' => ?_
        rw [List.length_map] at wk2
        refine lc_it wk2 (fun j H' => Same H4 H' ∧ H' D2 = some (.lst ((x.take j).map V.str))) ⟨Lb.Same.upd hD2', upd_same⟩ (fun j H' _ b => g2 _ (hyq4.eq b.1 (Same.refl _))) ?_ ?_
        · rintro j v H5 H6 hj ⟨s5, e5⟩ ⟨rfl, ev⟩
          rw [List.getElem?_map, List.getElem?_eq_getElem hj] at ev
          obtain rfl : V.str x[j] = v := by simpa using ev
          refine ⟨rfl, _, rfl, _, rfl, _, e5, szlt (by rw [List.length_map, List.length_take]; omega), Lb.Same.updl s5 hD2', ?_⟩
          rw [upd_same, ← take_snoc (List.getElem?_eq_getElem hj), List.map_append]
          rfl
        · rintro H5 ⟨s5, e5⟩
          rw [List.take_length] at e5
          refine ⟨D2, x, rfl, SqL.of e5, by omega, fun ys p6 perm so hp6 => ⟨p6, _, rfl, .inl ⟨SqL.of upd_same, fun t7 ht7 => ?_⟩⟩⟩
          obtain rfl := srt_of perm so
          have s6 := s5.trans (Lb.Same.upd (o := .lst ((srt x).map V.str)) hp6)
          generalize e_H7 : upd _ t7 _ = H7
          obtain ⟨s7, f7⟩ := al3 e_H7 ht7
          clear e_H7
          (try dsimp only at f7)
          have s37 := s6.trans s7
          refine ⟨_, s37 _ _ eL, by rw [List.length_map, Paired.len pr, List.length_map]; exact szlt (Nat.le_trans (List.length_filterMap_le _ _) (by rw [List.length_take]; omega)), Lb.Same.updl (s3.trans s37) hL0, ts ++ [t7], by rw [upd_same, List.map_append]; rfl, ?_⟩
          have hne : ∀ {b : Addr} {z : List Str}, RowT H7 b z → RowT (upd H7 L (.lst (ts.map V.ref ++ [V.ref t7]))) b z := fun {b z} h => by
            unfold RowT at h ⊢
            rw [upd_ne (ne_of h (s37 _ _ eL) (fun z => nomatch z))]
            exact h
          rw [← take_snoc hd', List.filterMap_append, List.map_append, show [d'].filterMap lvD = [x] by simp [hx]]
          exact Paired.snoc (hne f7) (Paired.imp pr fun _ _ h => hne (s37 _ _ h))
      · rintro H3 ⟨s3, ts, eL, pr⟩
        rw [List.take_length, ← hL] at pr
        refine ⟨_, rfl, q, _, dx, _, rfl, s3 _ _ hq2, T.cl, T.nL, (by show 1 < 1000; decide), k _ (fun b o n e => ?_) ⟨D, L, ts, upd_same, ?_, ?_, ?_⟩ (fun dx' D' l' e => ?_)⟩
        · rw [upd_ne n]
          exact s3 _ _ (kp _ _ n e)
        · rw [upd_ne (ne_of hD2 hq2 (fun z => nomatch z))]
          exact s3 _ _ hD2
        · rw [upd_ne (ne_of eL (s3 _ _ hq2) (fun z => nomatch z))]
          exact eL
        · refine Paired.imp pr fun t x h => ?_
          unfold RowT at h ⊢
          rw [upd_ne (ne_of h (s3 _ _ hq2) (fun z => nomatch z))]
          exact h
        · rw [upd_same] at e
          have e := Option.some.inj e
          injection e with _ _ e
          rw [← ordF_lev e]
          cases z : H L with
          | none => rfl
          | some o =>
            have n : L ≠ q := fun w => by rw [w, hq2] at hL0; cases hL0
            rw [kp _ _ n z] at hL0
            cases hL0
end
end K60

set_option Elab.async false
set_option linter.all false
set_option maxRecDepth 100000
set_option maxHeartbeats 4000000
namespace K60
open PySem L2 Lb
open C8 (pss_cut)
/-- what Order(..) gives -/
theorem made_o {C : Addr} {H : Hp} {x dx : Addr} {H' : Hp} {L : List (List Str)} {p : Pl} (h1 : H x = none) (h2 : H dx = none) (ne : dx ≠ x) (k : ∀ y o, y ≠ x → (upd (upd H dx (.own x)) x (.ins C dx [])) y = some o → H' y = some o) (e : OrdA C H' x dx L p) :
    Same H H' ∧ OrdAt C H' x L p := by
  refine ⟨fun y o hy => k y o (ne_of_none hy h1) ?_, dx, e⟩
  rw [upd_ne (ne_of_none hy h1), upd_ne (ne_of_none hy h2)]
  exact hy
theorem made_same {C x dx : Addr} {H : Hp} (hx : H x = none) (hdx : H dx = none) : Same H (upd (upd H dx (.own x)) x (.ins C dx [])) := fun b o e => by
  rw [upd_ne (ne_of_none e hx), upd_ne (ne_of_none e hdx)]
  exact e
/-- the way of Order(v) -/
theorem make_ok {C CI : Addr} {H : Hp} {Q : VK} {E : XK} {v : V} {d : Dt} {p : Pl} (hd : At H d v) (hz : dsz d ≤ 60) (hp : places d = .ok p) (k : ∀ H' q, Same H H' → OrdAt C H' q ((lvls d).map srt) p → Q (.ref q) H') :
    ∀ x dx, H x = none → H dx = none → dx ≠ x → sp_Order_init_ C CI [.ref x, v] (upd (upd H dx (.own x)) x (.ins C dx [])) (fun v H2 => v = .non ∧ Q (.ref x) H2) E := fun x dx hx hdx ne =>
  ⟨x, dx, v, d, rfl, At.same (made_same hx hdx) _ _ hd, hz, upd_same, by
    rw [hp]
    intro H' kp o _
    obtain ⟨s, m⟩ := made_o hx hdx ne kp o
    exact ⟨rfl, k H' x s m⟩⟩
/-- the way of Order(v), with what is new -/
theorem make_okN {C CI : Addr} {H : Hp} {G : Addr → Hp → Prop} {E : XK} {v : V} {d : Dt} {p : Pl} (hd : At H d v) (hz : dsz d ≤ 60) (hp : places d = .ok p) (k : ∀ H' q, Same H H' → OrdAt C H' q ((lvls d).map srt) p → FreshL C H H' q → G q H') :
    ∀ x dx, H x = none → H dx = none → dx ≠ x → sp_Order_init_ C CI [.ref x, v] (upd (upd H dx (.own x)) x (.ins C dx [])) (fun v H2 => v = .non ∧ G x H2) E := fun x dx hx hdx ne =>
  ⟨x, dx, v, d, rfl, At.same (made_same hx hdx) _ _ hd, hz, upd_same, by
    rw [hp]
    intro H' kp o fr
    obtain ⟨s, m⟩ := made_o hx hdx ne kp o
    exact ⟨rfl, k H' x s m fun dx' D l e => Lb.Same.free (made_same hx hdx) (fr dx' D l e)⟩⟩
theorem make_bad {C CI : Addr} {H : Hp} {Q : VK} {E : XK} {v : V} {d : Dt} {e : Option Nat} (hd : At H d v) (hz : dsz d ≤ 60) (hp : places d = .error e) (k : ∀ H' dd, Same H H' → H dd = none → H' dd = some (.xd [("position", posV e)]) → E (.ref CI) (some dd) H') :
    ∀ x dx, H x = none → H dx = none → dx ≠ x → sp_Order_init_ C CI [.ref x, v] (upd (upd H dx (.own x)) x (.ins C dx [])) (fun v H2 => v = .non ∧ Q (.ref x) H2) E := fun x dx hx hdx ne =>
  ⟨x, dx, v, d, rfl, At.same (made_same hx hdx) _ _ hd, hz, upd_same, by
    rw [hp]
    intro H' dd s h0 e
    exact k H' dd ((made_same hx hdx).trans s) (Lb.Same.free (made_same hx hdx) h0) e⟩
def sp_ofI (C CI : Addr) : Sp := fun vs H Q E => ∃ v d, vs = [v] ∧ At H d v ∧ dsz d ≤ 60 ∧ (match places d with
  | .ok p => ∀ H' q, Same H H' → OrdAt C H' q ((lvls d).map srt) p → FreshL C H H' q → Q (.ref q) H'
  | .error e => ∀ H' dd, Same H H' → H dd = none → H' dd = some (.xd [("position", posV e)]) → E (.ref CI) (some dd) H')
def sp_of (C CI : Addr) : Sp := fun vs H Q E => ∃ ws rest, vs = ws ++ rest ∧ ws.length = ([] : List Str).length ∧ rest.length ≤ sizeLine ∧ ∀ p, H p = Option.none → sp_ofI C CI (ws ++ [V.ref p]) (upd H p (.tup rest)) Q E
def sp_lev (C : Addr) (f : List (List Str) → Pl → V → Hp → Prop) : Sp := fun vs H Q _ => ∃ q L p, vs = [.ref q] ∧ OrdAt C H q L p ∧ L.length ≤ 60 ∧ (∀ x ∈ L, x.length ≤ 60) ∧ p.length ≤ 60 ∧ ∀ H' v, Same H H' → f L p v H' → Q v H'
/-- a list of tuples of texts -/
def LevA (H : Hp) (l : Addr) (L : List (List Str)) : Prop := ∃ ts : List Addr, H l = some (.lst (ts.map V.ref)) ∧ Paired (RowT H) ts L
theorem LevA.same {H H' : Hp} {l : Addr} {L : List (List Str)} (h : LevA H l L) (s : Same H H') : LevA H' l L := let ⟨ts, a, b⟩ := h; ⟨ts, s _ _ a, Paired.imp b fun _ _ h => s _ _ h⟩
def sp_nodes (C : Addr) : Sp := sp_lev C fun _ p v H' => ∃ t, v = .ref t ∧ RowT H' t (srt (p.map (·.1)))
def sp_levels (C : Addr) : Sp := fun vs H Q _ => ∃ q L p, vs = [.ref q] ∧ OrdAt C H q L p ∧ ∀ H' m, Same H H' → H m = none → LevA H' m L → Q (.ref m) H'
def sp_len (C : Addr) : Sp := sp_lev C fun L _ v _ => v = .int (L.length : Nat)
section
variable {P : Program} {w : World} {K : PySem.W.Frag} {mg : Str → Option Value} {base : Heap} {a : Ad}
theorem ok_Orderof (T : Txt K mg a) : FnR P w K mg base (L2.CX P w) 7 a.f_Orderof (sp_of a.c_Order a.c_InvalidLevels) := by
  refine star_okX (ps := []) (pv := "levels") (sp := sp_ofI a.c_Order a.c_InvalidLevels) T.F_Orderof sc_Orderof (fun _ _ _ _ _ _ us rest h => match us, rest, h with | [], [], _ => rfl | [], _ :: _, _ => rfl) (fun cdv A outer s H vs Q E hr h => ?_)
  obtain ⟨v, d, rfl, hd, hz, k⟩ := h
  refine ⟨_, (pss_one (ps_ret (pe_make (E := E) T.mkO (ok_Order_init_ T) (hr.mono (by decide)) (by rfl) T.mO (b_Order_init_ T) .nil (passes_call (takes_of rfl rfl rfl rfl) fun _ _ _ _ h => h) (pa_cons (pv 0) pa_nil)))), ?_⟩
  refine ⟨_, rfl, ?_⟩
  cases hp : places d with
  | ok p => rw [hp] at k; exact make_okN (G := fun q H' => Q (.ref q) H') hd hz hp k
  | error e => rw [hp] at k; exact make_bad hd hz hp k
theorem ok_Ordernodes (T : Txt K mg a) : FnOk P w K mg base CX0 1 a.f_Ordernodes a.d_Ordernodes ["self"] (sp_nodes a.c_Order) := by
  refine T.F_Ordernodes.ok sc_Ordernodes (fun vs H Q E h => ?_) (fun cdv A outer s H vs Q E hr h => ?_)
  · obtain ⟨q, L, p, rfl, _⟩ := h
    rfl
  · obtain ⟨q, L, p, rfl, ⟨dx, D, l, ts, hq, hD, hl, pr⟩, h1, h2, h3, k⟩ := h
    refine ⟨_, (pss_one (ps_ret (pe_lock (pe_callTy (call_tuple_ofK (K := K) rfl) (by rfl) T.b_tuple (by decide +kernel) (pa_cons (pe_callB cr_sortedS (by rfl) T.b_sorted (by decide +kernel) (pa_cons (pe_lc (own := [("name", 1)]) (by rfl) sc_Ordernodes.nd (pi_keys (pe_fldK (K := K) rfl (pv 0) rfl)) (blkOk_by (own := [("name", 1)]) (N := ["self", "name"]) (sc := defScope s_Ordernodes) (by decide +kernel)) (fun _ _ _ _ _ => (pg_name (i := 1) sc_Ordernodes.nd rfl (by first | exact Or.inl rfl | exact Or.inr rfl))) (fun _ _ _ _ _ => pts_nil) (fun _ _ _ _ _ => (pe_callTy SkE.call_str_str (by rfl) T.b_str (by decide +kernel) (pa_cons (pv 1) pa_nil)))) pa_nil)) pa_nil))))), ?_⟩
    refine ⟨D, _, hD, trivial, fun od => ?_⟩
    have hq1 : (upd H D (.frz od (.dK (kvK p)))) q = some (.ins a.c_Order dx (ordF D l)) := by rw [upd_ne (ne_of hq hD (fun z => nomatch z))]; exact hq
    have hD1 : (upd H D (.frz od (.dK (kvK p)))) D = some (.frz od (.dK (kvK p))) := upd_same
    have back : ∀ {H' : Hp}, Same (upd H D (.frz od (.dK (kvK p)))) H' → Same H (upd H' D (.dK (kvK p))) := fun {H'} s b o e => by
      by_cases hb : b = D
      · subst hb
        rw [hD] at e
        cases e
        exact upd_same
      · rw [upd_ne hb]
        exact s _ _ (by rw [upd_ne hb]; exact e)
    refine ⟨_, rfl, q, a.c_Order, dx, _, _, rfl, hq1, T.cl, T.nP, ord_pla D l, D, od, rfl, .inl ⟨kvK p, hD1, fun L1 hL1 => ?_⟩⟩
    generalize upd H D (.frz od (.dK (kvK p))) = H1 at *
    refine lc_it walk_keys (fun i H' => Same H1 H' ∧ H' L1 = some (.lst (((p.take i).map (·.1)).map V.str))) ⟨Lb.Same.upd hL1, upd_same⟩ (fun i H' _ b => b.1 _ _ hD1) ?_ ?_
    · rintro i v H2 H3 hi ⟨s2, eL⟩ ⟨rfl, k0, v0, ek, rfl⟩
      obtain ⟨e0, he0, e1⟩ : ∃ e0, p[i]? = some e0 ∧ k0 = Sum.inr e0.1 := by
        unfold kvK at ek
        rw [List.getElem?_map] at ek
        cases h : p[i]? with
        | none => rw [h] at ek; cases ek
        | some e0 => rw [h] at ek; cases ek; exact ⟨e0, rfl, rfl⟩
      subst e1
      refine ⟨rfl, _, rfl, _, rfl, _, eL, szlt (by rw [List.length_map, List.length_map, List.length_take]; omega), Lb.Same.updl s2 hL1, ?_⟩
      rw [upd_same, ← take_snoc he0, List.map_append, List.map_append]
      rfl
    · rintro H2 ⟨s2, eL⟩
      rw [show (kvK p).length = p.length by simp [kvK], List.take_length] at eL
      refine ⟨L1, _, rfl, SqL.of eL, by rw [List.length_map]; omega, fun ys p6 perm so hp6 => ⟨p6, _, rfl, .inl ⟨SqL.of upd_same, fun t7 ht7 => ?_⟩⟩⟩
      obtain rfl := srt_of perm so
      have s6 := s2.trans (Lb.Same.upd (o := .lst ((srt (p.map (·.1))).map V.str)) hp6)
      generalize e_H7 : upd _ t7 _ = H7
      obtain ⟨s7, f7⟩ := al3 e_H7 ht7
      clear e_H7
      (try dsimp only at f7)
      have s17 := s6.trans s7
      refine ⟨s17 _ _ hD1, k _ _ (back s17) ⟨t7, rfl, ?_⟩⟩
      unfold RowT
      rw [upd_ne (ne_of f7 (s17 _ _ hD1) (fun z => nomatch z))]
      exact f7
theorem ok_Orderlevels (T : Txt K mg a) : FnOk P w K mg base CX0 1 a.f_Orderlevels a.d_Orderlevels ["self"] (sp_levels a.c_Order) := by
  refine T.F_Orderlevels.ok sc_Orderlevels (fun vs H Q E h => ?_) (fun cdv A outer s H vs Q E hr h => ?_)
  · obtain ⟨q, L, p, rfl, _⟩ := h
    rfl
  · obtain ⟨q, L, p, rfl, ⟨dx, D, l, ts, hq, hD, hl, pr⟩, k⟩ := h
    refine ⟨_, (pss_one (ps_ret (pe_callTy call_list_of (by rfl) T.b_list (by decide +kernel) (pa_cons (pe_fldK (K := K) rfl (pv 0) rfl) pa_nil)))), ?_⟩
    refine ⟨_, rfl, q, a.c_Order, dx, _, _, rfl, hq, T.cl, T.nL, ord_lev D l, ?_⟩
    refine ⟨l, _, rfl, .inl (SqL.of hl), fun l2 hl2 => k _ l2 (Lb.Same.upd hl2) hl2 ⟨ts, upd_same, Paired.imp pr fun _ _ h => Lb.Same.upd hl2 _ _ h⟩⟩
theorem ok_Order_len_ (T : Txt K mg a) : FnOk P w K mg base CX0 1 a.f_Order_len_ a.d_Order_len_ ["self"] (sp_len a.c_Order) := by
  refine T.F_Order_len_.ok sc_Order_len_ (fun vs H Q E h => ?_) (fun cdv A outer s H vs Q E hr h => ?_)
  · obtain ⟨q, L, p, rfl, _⟩ := h
    rfl
  · obtain ⟨q, L, p, rfl, ⟨dx, D, l, ts, hq, hD, hl, pr⟩, h1, h2, h3, k⟩ := h
    refine ⟨_, (pss_one (ps_ret (pe_callB (call_lenK (K := K) rfl) (by rfl) T.b_len (by decide +kernel) (pa_cons (pe_fldK (K := K) rfl (pv 0) rfl) pa_nil)))), ?_⟩
    refine ⟨_, rfl, q, a.c_Order, dx, _, _, rfl, hq, T.cl, T.nL, ord_lev D l, ?_⟩
    refine ⟨l, _, rfl, .inl (SqL.of hl), k _ _ (Same.refl _) ?_⟩
    rw [List.length_map, Paired.len pr]
end
end K60

set_option Elab.async false
set_option linter.all false
set_option maxRecDepth 100000
set_option maxHeartbeats 4000000
namespace K60
open PySem L2 Lb
open C8 (pss_cut)
open PySem.Spec PyProof.Rows
/-! names as data -/
theorem cps_nm {z : Str} (h : nmS z = true) : ∀ c ∈ z.cps.toList, 97 ≤ c ∧ c ≤ 122 := by
  unfold nmS at h
  simp only [Bool.and_eq_true, decide_eq_true_eq, List.all_eq_true] at h
  intro c hc
  have := h.2.2 c hc
  unfold lett at this
  simp only [Bool.and_eq_true, decide_eq_true_eq] at this
  exact this
theorem nm_len {z : Str} (h : nmS z = true) : z.length ≤ 8 := by
  unfold nmS at h
  simp only [Bool.and_eq_true, decide_eq_true_eq] at h
  have e : z.cps.toList.length = z.length := by simp [Str.length]
  omega
theorem nm_ok {z : Str} (h : nmS z = true) : PyData.strOk z = true := by
  unfold PyData.strOk
  rw [← Array.all_toList, List.all_eq_true]
  intro c hc
  have := cps_nm h c hc
  exact decide_eq_true (show c < 1114112 by omega)
theorem nm_repr {z : Str} (h : nmS z = true) : (reprText z).length ≤ 82 := by
  have := StrLaws.reprText_len z (fun c hc => by have := cps_nm h c hc; omega)
  have := nm_len h
  omega
/-- lists of texts as data -/
def dT (x : List Str) : PyData := .tuple (x.map .str)
def dL (x : List Str) : PyData := .list (x.map .str)
def Nms (L : List (List Str)) : Prop := ∀ x ∈ L, ∀ z ∈ x, nmS z = true
theorem eqv_strs : ∀ (x y : List Str), PyData.eqvAll (x.map .str) (y.map .str) = decide (x = y)
  | [], [] => by simp [PyData.eqvAll]
  | [], _ :: _ => by simp [PyData.eqvAll]
  | _ :: _, [] => by simp [PyData.eqvAll]
  | a :: r, b :: t => by
    rw [List.map_cons, List.map_cons, PyData.eqvAll, eqv_strs r t]
    show (a == b && decide (r = t)) = _
    rw [Bool.eq_iff_iff]
    simp
theorem eqv_lev (f : List Str → PyData) (hf : ∀ x y, PyData.eqv (f x) (f y) = decide (x = y)) : ∀ (L M : List (List Str)), PyData.eqvAll (L.map f) (M.map f) = decide (L = M)
  | [], [] => by simp [PyData.eqvAll]
  | [], _ :: _ => by simp [PyData.eqvAll]
  | _ :: _, [] => by simp [PyData.eqvAll]
  | a :: r, b :: t => by
    rw [List.map_cons, List.map_cons, PyData.eqvAll, eqv_lev f hf r t, hf, Bool.eq_iff_iff]
    simp
theorem eqv_dT (x y : List Str) : PyData.eqv (dT x) (dT y) = decide (x = y) := by unfold dT; rw [PyData.eqv, eqv_strs]
theorem eqv_dL (x y : List Str) : PyData.eqv (dL x) (dL y) = decide (x = y) := by unfold dL; rw [PyData.eqv, eqv_strs]
theorem eqv_Lt (L M : List (List Str)) : PyData.eqv (.list (L.map dT)) (.list (M.map dT)) = decide (L = M) := by rw [PyData.eqv, eqv_lev dT eqv_dT]
theorem eqv_Ll (L M : List (List Str)) : PyData.eqv (.list (L.map dL)) (.list (M.map dL)) = decide (L = M) := by rw [PyData.eqv, eqv_lev dL eqv_dL]
theorem can_strs : ∀ {x : List Str}, (∀ z ∈ x, nmS z = true) → PyData.canLayAll0 (x.map .str) = true
  | [], _ => by simp [PyData.canLayAll0]
  | a :: r, h => by
    rw [List.map_cons]
    simp only [PyData.canLayAll0, PyData.canLay0, nm_ok (h a List.mem_cons_self), can_strs fun z hz => h z (List.mem_cons_of_mem _ hz), Bool.and_true]
theorem dep_strs : ∀ (x : List Str), PyData.depthAll (x.map .str) = 0
  | [] => by simp [PyData.depthAll]
  | a :: r => by rw [List.map_cons]; simp only [PyData.depthAll, PyData.depth, dep_strs r]; rfl
theorem can_lev (f : List Str → PyData) (hf : ∀ x, (∀ z ∈ x, nmS z = true) → PyData.canLay0 (f x) = true) : ∀ {L : List (List Str)}, Nms L → PyData.canLayAll0 (L.map f) = true
  | [], _ => by simp [PyData.canLayAll0]
  | a :: r, h => by
    rw [List.map_cons]
    simp only [PyData.canLayAll0, hf a (h a List.mem_cons_self), can_lev f hf fun z hz => h z (List.mem_cons_of_mem _ hz), Bool.and_true]
theorem dep_lev (f : List Str → PyData) (hf : ∀ x, PyData.depth (f x) ≤ 1) : ∀ (L : List (List Str)), PyData.depthAll (L.map f) ≤ 1
  | [] => by simp [PyData.depthAll]
  | a :: r => by
    have h1 := hf a
    have h2 := dep_lev f hf r
    rw [List.map_cons]
    simp only [PyData.depthAll]
    omega
theorem shaped_Lt {L : List (List Str)} (h : Nms L) : SeqAt.shaped (.list (L.map dT)) = true := by
  unfold SeqAt.shaped
  rw [PyData.canLay0, can_lev dT (fun x hx => by unfold dT; rw [PyData.canLay0, can_strs hx]) h]
  have := dep_lev dT (fun x => by unfold dT; rw [PyData.depth, dep_strs]; exact Nat.le_refl _) L
  rw [PyData.depth, decide_eq_true (show PyData.depthAll (L.map dT) + 1 ≤ 64 by omega)]
  rfl
theorem shaped_Ll {L : List (List Str)} (h : Nms L) : SeqAt.shaped (.list (L.map dL)) = true := by
  unfold SeqAt.shaped
  rw [PyData.canLay0, can_lev dL (fun x hx => by unfold dL; rw [PyData.canLay0, can_strs hx]) h]
  have := dep_lev dL (fun x => by unfold dL; rw [PyData.depth, dep_strs]; exact Nat.le_refl _) L
  rw [PyData.depth, decide_eq_true (show PyData.depthAll (L.map dL) + 1 ≤ 64 by omega)]
  rfl
theorem shaped_dT {x : List Str} (h : ∀ z ∈ x, nmS z = true) : SeqAt.shaped (dT x) = true := by
  unfold SeqAt.shaped dT
  rw [PyData.canLay0, can_strs h, PyData.depth, dep_strs]
  rfl
section
variable {K : PySem.W.Frag} {H : Hp}
theorem dp_strs : ∀ (x : List Str), DpAll K H (x.map V.str) (x.map PyData.str)
  | [] => .nil
  | z :: r => .cons (.str z) (dp_strs r)
theorem dp_row {t : Addr} {x : List Str} (h : RowT H t x) : Dp K H (.ref t) (dT x) := .tup (SqT.of h) (dp_strs x)
theorem dp_rows : ∀ {ts : List Addr} {L : List (List Str)}, Paired (RowT H) ts L → DpAll K H (ts.map V.ref) (L.map dT)
  | _, _, .nil => .nil
  | _, _, .cons h r => .cons (dp_row h) (dp_rows r)
theorem dp_lev {l : Addr} {L : List (List Str)} (h : LevA H l L) : Dp K H (.ref l) (.list (L.map dT)) := let ⟨_, a, b⟩ := h; .lst (SqL.of a) (dp_rows b)
end
/-! what is shown -/
def TrS (x : List Str) : List Tr := x.map fun z => Tr.lf (reprText z)
def TrT (x : List Str) : Tr := .tp (TrS x)
def TrL (L : List (List Str)) : Tr := .ls (L.map TrT)
section
variable {K : PySem.W.Frag} {O : Addr → Hp → Str → Prop} {H : Hp}
theorem shs_strs : ∀ x : List Str, Shs K O H (TrS x) (x.map V.str)
  | [] => by simp only [TrS, List.map_nil, Shs]
  | z :: r => by
    have := shs_strs r
    simp only [TrS, List.map_cons, Shs] at this ⊢
    exact ⟨_, _, rfl, by simp only [Sh, Lf], this⟩
theorem sh_row {t : Addr} {x : List Str} (h : RowT H t x) : Sh K O H (TrT x) (.ref t) := by
  unfold TrT
  simp only [Sh]
  exact ⟨t, _, rfl, SqT.of h, shs_strs x⟩
theorem shs_rows : ∀ {ts : List Addr} {L : List (List Str)}, Paired (RowT H) ts L → Shs K O H (L.map TrT) (ts.map V.ref)
  | _, _, .nil => by simp only [List.map_nil, Shs]
  | _, _, .cons h r => by
    simp only [List.map_cons, Shs]
    exact ⟨_, _, rfl, sh_row h, shs_rows r⟩
theorem sh_lev {l : Addr} {L : List (List Str)} (h : LevA H l L) : Sh K O H (TrL L) (.ref l) := by
  obtain ⟨ts, a, b⟩ := h
  unfold TrL
  simp only [Sh]
  exact ⟨l, _, rfl, SqL.of a, shs_rows b⟩
end
theorem list_len (t : Str) (ts : List Str) : (listText (t :: ts)).length = 2 + t.length + piled ts := by
  have q := textFrom_length_pos ts 1 (("[" : Str) ++ ("" : Str) ++ t) (by decide)
  show (textFrom 1 (("[" : Str) ++ ("" : Str) ++ t) ts ++ "]").length = _
  rw [strLen_append, q]
  simp only [strLen_append]
  have l1 : ("[" : Str).length = 1 := by decide +kernel
  have l2 : ("" : Str).length = 0 := by decide +kernel
  have l3 : ("]" : Str).length = 1 := by decide +kernel
  omega
theorem list_le (ts : List Str) : (listText ts).length ≤ 2 + piled ts := by
  cases ts with
  | nil => decide +kernel
  | cons t r => rw [list_len, piled_cons]; omega
theorem tup_le (ts : List Str) : (tupleText ts).length ≤ 3 + piled ts := by
  unfold tupleText
  rw [strLen_append, strLen_append]
  have l1 : ("(" : Str).length = 1 := by decide +kernel
  have l2 : (((if ts.length == 1 then ",)" else ")" : String)) : Str).length ≤ 2 := by split <;> decide +kernel
  cases ts with
  | nil =>
    have l3 : (Str.join ", " ([] : List Str)).length = 0 := by decide +kernel
    omega
  | cons t r =>
    have := join_length_add (t :: r) (by simp)
    omega
theorem piled_le : ∀ {ts : List Str} {n : Nat}, (∀ t ∈ ts, t.length ≤ n) → piled ts ≤ (n + 2) * ts.length
  | [], n, _ => by simp [piled]
  | t :: r, n, h => by
    have h1 := h t List.mem_cons_self
    have h2 := piled_le (ts := r) (n := n) fun z hz => h z (List.mem_cons_of_mem _ hz)
    rw [piled_cons, List.length_cons, Nat.mul_succ]
    omega
theorem TrT_len {x : List Str} (h : ∀ z ∈ x, nmS z = true) : (TrT x).text.length ≤ 3 + 84 * x.length := by
  unfold TrT TrS
  simp only [Tr.text, texts_map, List.map_map]
  refine Nat.le_trans (tup_le _) (Nat.add_le_add_left ?_ _)
  refine Nat.le_trans (piled_le (n := 82) fun t ht => ?_) (by rw [List.length_map]; exact Nat.le_refl _)
  obtain ⟨z, hz, rfl⟩ := List.mem_map.mp ht
  exact nm_repr (h z hz)
theorem TrL_len {L : List (List Str)} (h : Nms L) (hz : ∀ x ∈ L, x.length ≤ 40) : (TrL L).text.length ≤ 2 + 3365 * L.length := by
  unfold TrL
  simp only [Tr.text, texts_map, List.map_map]
  refine Nat.le_trans (list_le _) (Nat.add_le_add_left ?_ _)
  refine Nat.le_trans (piled_le (n := 3363) fun t ht => ?_) (by rw [List.length_map]; exact Nat.le_refl _)
  obtain ⟨x, hx, rfl⟩ := List.mem_map.mp ht
  have h1 := TrT_len (h x hx)
  have h2 := hz x hx
  show (TrT x).text.length ≤ _
  omega
theorem TrS_dep : ∀ x : List Str, Tr.deps (TrS x) = 0
  | [] => by simp [TrS, Tr.deps]
  | z :: r => by
    have := TrS_dep r
    simp only [TrS, List.map_cons, Tr.deps, Tr.dep] at this ⊢
    rw [this]
    rfl
theorem TrL_dep : ∀ L : List (List Str), Tr.deps (L.map TrT) ≤ 1
  | [] => by simp [Tr.deps]
  | x :: r => by
    have := TrL_dep r
    simp only [List.map_cons, Tr.deps, TrT, Tr.dep, TrS_dep]
    omega
/-! good rows -/
def plR : Nat → List (List Str) → Pl
  | _, [] => []
  | i, x :: r => x.map (·, i) ++ plR (i + 1) r
structure Good (R : List (List Str)) : Prop where
  ne : R ≠ []
  each : ∀ x ∈ R, x ≠ []
  nm : Nms R
  nd : R.flatten.Nodup
  len : R.flatten.length ≤ 40
theorem plR_keys : ∀ (i : Nat) (R : List (List Str)), (plR i R).map (·.1) = R.flatten
  | _, [] => rfl
  | i, x :: r => by
    rw [plR, List.map_append, plR_keys (i + 1) r, List.flatten_cons, List.map_map]
    congr 1
    simp [Function.comp_def]
theorem addN_ok {i : Nat} : ∀ {x : List Str} {acc : Pl}, (acc.map (·.1) ++ x).Nodup → addN i x acc = some (acc ++ x.map (·, i))
  | [], acc, _ => by simp [addN]
  | z :: r, acc, h => by
    have hz : z ∉ acc.map (·.1) := fun m => by
      rw [List.nodup_append] at h
      exact h.2.2 z m z List.mem_cons_self rfl
    unfold addN
    rw [if_neg hz, addN_ok (acc := acc ++ [(z, i)]) (by simpa using h)]
    simp
theorem plc_ok : ∀ {R : List (List Str)} {l : List Dt} {i : Nat} {acc : Pl}, l.map lvD = R.map some → (acc.map (·.1) ++ R.flatten).Nodup → plc i l acc = .ok (acc ++ plR i R)
  | [], l, i, acc, e, _ => by
    have : l = [] := by cases l; rfl; cases e
    subst this
    simp [plc, plR]
  | x :: r, l, i, acc, e, h => by
    cases l with
    | nil => cases e
    | cons d l' =>
      rw [List.map_cons, List.map_cons, List.cons.injEq] at e
      rw [List.flatten_cons, ← List.append_assoc] at h
      have h1 := addN_ok (i := i) (acc := acc) (x := x) (List.nodup_append.mp h).1
      rw [plc_go e.1 h1, plc_ok e.2 (by rw [List.map_append, List.map_map]; simpa [Function.comp_def] using h)]
      simp [plR]
theorem places_good {R : List (List Str)} (g : Good R) {d : Dt} {l : List Dt} (hs : seqD d = some l) (e : l.map lvD = R.map some) : places d = .ok (plR 0 R) ∧ lvls d = R := by
  have hl : 0 < l.length := by
    have h := congrArg List.length e
    rw [List.length_map, List.length_map] at h
    have := List.length_pos_iff.mpr g.ne
    omega
  constructor
  · rw [places_seq hs hl, plc_ok (acc := []) e (by simpa using g.nd)]
    rfl
  · unfold lvls
    rw [hs]
    show l.filterMap lvD = R
    have : ∀ {l : List Dt} {R : List (List Str)}, l.map lvD = R.map some → l.filterMap lvD = R := by
      intro l
      induction l with
      | nil => intro R e; cases R; rfl; cases e
      | cons d r ih =>
        intro R e
        cases R with
        | nil => cases e
        | cons x R =>
          rw [List.map_cons, List.map_cons, List.cons.injEq] at e
          rw [List.filterMap_cons, e.1, ih e.2]
    exact this e
/-- a row of names is a level -/
theorem lvD_row {x : List Str} (h0 : x ≠ []) (h : ∀ z ∈ x, nmS z = true) (f : Bool) : lvD (if f then .tp (x.map .str) else .ls (x.map .str)) = some x := by
  have m : ∀ {x : List Str}, (∀ z ∈ x, nmS z = true) → (x.map Dt.str).mapM nmD = some x := by
    intro x
    induction x with
    | nil => intro _; rfl
    | cons z r ih =>
      intro h
      rw [List.map_cons, List.mapM_cons, ih fun w hw => h w (List.mem_cons_of_mem _ hw)]
      have : nmD (.str z) = some z := by unfold nmD; show (if nmS z = true then some z else none) = _; rw [if_pos (h z List.mem_cons_self)]
      rw [this]
      rfl
  have s : seqD (if f then .tp (x.map .str) else .ls (x.map .str)) = some (x.map .str) := by cases f <;> rfl
  unfold lvD
  rw [s]
  cases x with
  | nil => exact absurd rfl h0
  | cons z r => exact m h
theorem Good.rlen {R : List (List Str)} (g : Good R) : R.length ≤ 40 ∧ ∀ x ∈ R, x.length ≤ 40 := by
  have h := g.len
  have e := g.each
  clear g
  induction R with
  | nil => exact ⟨by simp, fun _ h => nomatch h⟩
  | cons x r ih =>
    rw [List.flatten_cons, List.length_append] at h
    have hx : 0 < x.length := List.length_pos_iff.mpr (e x List.mem_cons_self)
    have : r.length ≤ r.flatten.length := by
      clear ih h
      induction r with
      | nil => simp
      | cons y s ih2 =>
        have hy : 0 < y.length := List.length_pos_iff.mpr (e y (List.mem_cons_of_mem _ List.mem_cons_self))
        have := ih2 fun z hz => e z (by rcases List.mem_cons.mp hz with rfl | hz; exact List.mem_cons_self; exact List.mem_cons_of_mem _ (List.mem_cons_of_mem _ hz))
        rw [List.flatten_cons, List.length_append, List.length_cons]
        omega
    refine ⟨by rw [List.length_cons]; omega, fun y hy => ?_⟩
    rcases List.mem_cons.mp hy with rfl | hy
    · omega
    · exact (ih (by omega) fun z hz => e z (List.mem_cons_of_mem _ hz)).2 y hy
theorem Good.perm {R S : List (List Str)} (p : S.Perm R) (g : Good R) : Good S where
  ne := fun z => g.ne (by rw [z] at p; exact p.symm.eq_nil)
  each := fun x hx => g.each x (p.mem_iff.mp hx)
  nm := fun x hx => g.nm x (p.mem_iff.mp hx)
  nd := (p.flatten.nodup_iff).mpr g.nd
  len := by rw [p.flatten.length_eq]; exact g.len
/-- a row, as a tuple or a list -/
def rowD (b : Bool) (x : List Str) : Dt := if b then .tp (x.map .str) else .ls (x.map .str)
def RD (M : List (Bool × List Str)) : List Dt := M.map fun q => rowD q.1 q.2
theorem dszs_strs : ∀ {x : List Str}, (∀ z ∈ x, nmS z = true) → dszs (x.map .str) ≤ 8
  | [], _ => by simp [dszs]
  | z :: r, h => by
    have h1 := nm_len (h z List.mem_cons_self)
    have h2 := dszs_strs (x := r) fun w hw => h w (List.mem_cons_of_mem _ hw)
    rw [List.map_cons]
    simp only [dszs, dsz]
    omega
theorem dsz_row {b : Bool} {x : List Str} (h : ∀ z ∈ x, nmS z = true) (hl : x.length ≤ 40) : dsz (rowD b x) ≤ 60 := by
  have := dszs_strs h
  cases b
  · show dsz (.ls (x.map .str)) ≤ 60
    simp only [dsz, List.length_map]
    omega
  · show dsz (.tp (x.map .str)) ≤ 60
    simp only [dsz, List.length_map]
    omega
theorem dszs_le {l : List Dt} {n : Nat} (h : ∀ d ∈ l, dsz d ≤ n) : dszs l ≤ n := by
  induction l with
  | nil => simp [dszs]
  | cons d r ih =>
    have h1 := h d List.mem_cons_self
    have h2 := ih fun w hw => h w (List.mem_cons_of_mem _ hw)
    simp only [dszs]
    omega
theorem RD_lv {M : List (Bool × List Str)} (h : ∀ q ∈ M, q.2 ≠ [] ∧ ∀ z ∈ q.2, nmS z = true) : (RD M).map lvD = (M.map (·.2)).map some := by
  unfold RD
  rw [List.map_map, List.map_map]
  refine List.map_congr_left fun q hq => ?_
  exact lvD_row (h q hq).1 (h q hq).2 q.1
theorem good_RD {M : List (Bool × List Str)} (g : Good (M.map (·.2))) {d : Dt} (hs : seqD d = some (RD M)) : places d = .ok (plR 0 (M.map (·.2))) ∧ lvls d = M.map (·.2) ∧ dsz d ≤ 60 := by
  have hm : ∀ q ∈ M, q.2 ∈ M.map (·.2) := fun q hq => List.mem_map.mpr ⟨q, hq, rfl⟩
  obtain ⟨h1, h2⟩ := places_good g hs (RD_lv fun q hq => ⟨g.each _ (hm q hq), g.nm _ (hm q hq)⟩)
  refine ⟨h1, h2, ?_⟩
  have hl := g.rlen.1
  rw [List.length_map] at hl
  have hz : max (RD M).length (dszs (RD M)) ≤ 60 := by
    have : dszs (RD M) ≤ 60 := dszs_le fun t ht => by
      obtain ⟨q, hq, rfl⟩ := List.mem_map.mp ht
      exact dsz_row (g.nm _ (hm q hq)) (g.rlen.2 _ (hm q hq))
    have : (RD M).length = M.length := by unfold RD; rw [List.length_map]
    omega
  cases d <;> simp only [seqD, Option.some.injEq, reduceCtorEq] at hs <;> subst hs <;> simp only [dsz] <;> exact hz
theorem ats_rev {H : Hp} : ∀ {l : List Dt} {xs : List V}, Ats H l xs → Ats H l.reverse xs.reverse
  | [], _, h => by rw [ats_inv0 h]; exact ats_nil
  | t :: r, _, h => by
    obtain ⟨x, q, rfl, h1, h2⟩ := ats_inv h
    rw [List.reverse_cons, List.reverse_cons]
    exact (ats_rev h2).append (ats_cons h1 ats_nil)
theorem ats_tups {H : Hp} : ∀ {ts : List Addr} {L : List (List Str)}, Paired (RowT H) ts L → Ats H (RD (L.map fun x => (true, x))) (ts.map V.ref)
  | _, _, .nil => ats_nil
  | t :: _, x :: _, .cons h r => ats_cons (by show At H (.tp (x.map .str)) _; simp only [At]; exact ⟨t, _, rfl, h, ats_strs.mpr rfl⟩) (ats_tups r)
theorem snd_true (L : List (List Str)) : (L.map fun x => (true, x)).map (·.2) = L := by rw [List.map_map]; exact List.map_id _
end K60

set_option Elab.async false
set_option linter.all false
set_option maxRecDepth 100000
set_option maxHeartbeats 4000000
namespace K60
open PySem L2 Lb
open C8 (pss_cut)
def ONo : Addr → Hp → Str → Prop := fun _ _ _ => False
theorem own_no : OwnT ONo := ⟨fun _ _ _ _ _ h => h.elim, fun _ _ _ h => h.elim⟩
theorem ow_no {X : Cx} {D : Nat} : OwR X D ONo := fun _ _ _ _ _ _ _ _ _ _ _ h => h.elim
theorem room8 {A : Around} {k : Nat} (h : Room k A) : A.units + 8 + 64 < cLine := by have := h.un; omega
theorem fold_len (sep : Str) : ∀ (ts : List Str) (acc : Array Nat), (ts.foldl (fun acc p => acc ++ sep.cps ++ p.cps) acc).size = acc.size + (ts.map (·.length)).sum + ts.length * sep.length
  | [], acc => by simp
  | t :: r, acc => by
    rw [List.foldl_cons, fold_len sep r]
    simp only [Array.size_append, List.map_cons, List.sum_cons, List.length_cons, Nat.add_mul, Nat.one_mul]
    show acc.size + sep.length + t.length + _ + _ = _
    omega
theorem join_le (sep : Str) (ts : List Str) : (Txt.join sep ts).length ≤ (ts.map (·.length)).sum + ts.length * sep.length := by
  unfold Txt.join Builtin.Str.glued
  show (List.foldl (fun acc p => acc ++ sep.cps ++ p.cps) (ts.headD Str.empty).cps (List.drop 1 ts)).size ≤ _
  rw [fold_len]
  cases ts with
  | nil => simp [Str.empty]
  | cons t r =>
    simp only [List.headD_cons, List.drop_one, List.tail_cons, List.map_cons, List.sum_cons, List.length_cons, Nat.add_mul, Nat.one_mul]
    show t.length + _ + _ ≤ _
    omega
theorem sum_le : ∀ {ts : List Str} {n : Nat}, (∀ t ∈ ts, t.length ≤ n) → (ts.map (·.length)).sum ≤ ts.length * n
  | [], n, _ => by simp
  | t :: r, n, h => by
    have h1 := h t List.mem_cons_self
    have h2 := sum_le (ts := r) (n := n) fun z hz => h z (List.mem_cons_of_mem _ hz)
    rw [List.map_cons, List.sum_cons, List.length_cons, Nat.add_mul, Nat.one_mul]
    omega
theorem comma_le {x : List Str} (h : ∀ z ∈ x, nmS z = true) : (Txt.join "," x).length ≤ x.length * 9 := by
  have h1 := join_le "," x
  have h2 := sum_le (ts := x) (n := 8) fun z hz => nm_len (h z hz)
  have h3 : ("," : Str).length = 1 := by decide +kernel
  rw [h3] at h1
  omega
def plAt (p : Pl) (z : Str) : Option Nat := (p.find? fun q => decide (q.1 = z)).map (·.2)
def pd (p : Pl) : Dt → Option Nat
  | .str z => plAt p z
  | _ => none
theorem kvK_val : ∀ (p : Pl) (z : Str), valV (kvK p) (Sum.inr z : Key) = (plAt p z).map fun i => V.int (i : Nat)
  | [], z => rfl
  | q :: r, z => by
    have ih := kvK_val r z
    unfold kvK valV plAt at ih ⊢
    rw [List.map_cons, List.find?_cons, List.find?_cons]
    by_cases h : q.1 = z
    · simp [h]
    · rw [show decide ((Sum.inr q.1 : Key) = Sum.inr z) = false by simp [h], show decide (q.1 = z) = false by simp [h]]
      exact ih
def sp_contains (C : Addr) : Sp := fun vs H Q _ => ∃ q L p v d, vs = [.ref q, v] ∧ OrdAt C H q L p ∧ At H d v ∧ Q (.bl (pd p d).isSome) H
def sp_getitem (C CU : Addr) : Sp := fun vs H Q E => ∃ q L p v d, vs = [.ref q, v] ∧ OrdAt C H q L p ∧ At H d v ∧ (match pd p d with
  | some i => Q (.int (i : Nat)) H
  | none => ∀ H' dd, Same H H' → H dd = none → H' dd = some (.xd [("value", v)]) → E (.ref CU) (some dd) H')
def sp_eq (C : Addr) : Sp := fun vs H Q _ => ∃ q L p v, vs = [.ref q, v] ∧ OrdAt C H q L p ∧ Nms L ∧ ((∃ q' L' p', v = .ref q' ∧ OrdAt C H q' L' p' ∧ Nms L' ∧ Q (.bl (decide (L = L'))) H) ∨ ∃ d, At H d v ∧ Q (.bl false) H)
def txL (L : List (List Str)) : Str := Txt.join " > " (L.map (Txt.join ","))
def rpL (L : List (List Str)) : Str := Str.empty ++ "Order(" ++ (TrL L).text ++ ")"
structure Sz (L : List (List Str)) : Prop where
  nm : Nms L
  l : L.length ≤ 40
  each : ∀ x ∈ L, x.length ≤ 40
def sp_tx (C : Addr) (f : List (List Str) → Str) : Sp := fun vs H Q _ => ∃ q L p, vs = [.ref q] ∧ OrdAt C H q L p ∧ Sz L ∧ ∀ H', Same H H' → Q (.str (f L)) H'
def sp_turned (C : Addr) : Sp := fun vs H Q _ => ∃ q L p, vs = [.ref q] ∧ OrdAt C H q L p ∧ Good L ∧ (∀ x ∈ L, srt x = x) ∧ ∀ H' q', Same H H' → OrdAt C H' q' L.reverse (plR 0 L.reverse) → Q (.ref q') H'
section
variable {P : Program} {w : World} {K : PySem.W.Frag} {mg : Str → Option Value} {base : Heap} {a : Ad}
theorem ok_Order_iter_ (T : Txt K mg a) : FnS P w K mg base 1 a.f_Order_iter_ a.d_Order_iter_ ["self"] (sp_it K a.c_Order "_levels") := by
  refine okS T.F_Order_iter_ sc_Order_iter_ (fun n vs H Q E h => ?_) (fun cdv A outer s H vs Q E hr h => ?_)
  · obtain ⟨q, dx, fs, l, xs, rfl, _⟩ := h
    rfl
  · obtain ⟨q, dx, fs, l, xs, rfl, hq, hl, hS, k⟩ := h
    refine ⟨_, (pss_one (ps_ret (pe_callB ItX.call_iterN (by rfl) T.b_iter (by decide +kernel) (pa_cons (pe_fldK (K := K) rfl (pv 0) rfl) pa_nil)))), ?_⟩
    exact ⟨_, rfl, q, a.c_Order, dx, _, _, rfl, hq, T.cl, T.nL, hl, l, xs, rfl, hS, fun it h0 hn => k it h0 hn⟩
theorem ok_Order_contains_ (T : Txt K mg a) : FnOk P w K mg base CX0 1 a.f_Order_contains_ a.d_Order_contains_ ["self", "value"] (sp_contains a.c_Order) := by
  refine T.F_Order_contains_.ok sc_Order_contains_ (fun vs H Q E h => ?_) (fun cdv A outer s H vs Q E hr h => ?_)
  · obtain ⟨q, L, p, v, d, rfl, _⟩ := h
    rfl
  · obtain ⟨q, L, p, v, d, rfl, ⟨dx, D, l, ts, hq, hD, hl, pr⟩, hd, k⟩ := h
    refine ⟨_, (pss_one (ps_ret (pe_and (pe_callB (call_isiK' (K := K) rfl) (by rfl) T.b_isinstance (by decide +kernel) (pa_cons (pv 1) (pa_cons (pe_bltn (v := .ty "str") (by rfl) T.b_str (by decide +kernel) rfl) pa_nil))) (pe_one (pe_cmp (pc_din (hu_of hr) (pv 1) (pe_fldK (K := K) rfl (pv 0) rfl))))))), ?_⟩
    obtain ⟨t, ty, _, ks, _⟩ := At.ty T hd
    refine ⟨_, rfl, _, _, _, _, _, rfl, .ty _, ty, ks, isStr d, rfl, ?_⟩
    cases d with
    | str z =>
      simp only [At] at hd
      subst hd
      refine iteT ⟨_, rfl, _, rfl, q, a.c_Order, dx, _, _, rfl, hq, T.cl, T.nP, ord_pla D l, D, _, rfl, DGet.k (k := Sum.inr z) hD, ?_⟩
      rw [kvK_val, Option.isSome_map]
      exact k
    | _ => exact iteF k
theorem ok_Order_getitem_ (T : Txt K mg a) : FnOk P w K mg base (L2.CX P w) 3 a.f_Order_getitem_ a.d_Order_getitem_ ["self", "node"] (sp_getitem a.c_Order a.c_UnknownNode) := by
  refine T.F_Order_getitem_.okX sc_Order_getitem_ (fun vs H Q E h => ?_) (fun cdv A outer s H vs Q E hr h => ?_)
  · obtain ⟨q, L, p, v, d, rfl, _⟩ := h
    rfl
  · obtain ⟨q, L, p, v, d, rfl, ⟨dx, D, l, ts, hq, hD, hl, pr⟩, hd, k⟩ := h
    refine ⟨_, (pss_cons (ps_if (PW.pt (pw_or (pt_not (pt_val (pe_callB (call_isiK' (K := K) rfl) (by rfl) T.b_isinstance (by decide +kernel) (pa_cons (pv 1) (pa_cons (pe_bltn (v := .ty "str") (by rfl) T.b_str (by decide +kernel) rfl) pa_nil))))) (pw_or1 (pt_cmp (pc_dnotin (hu_of hr) (pv 1) (pe_fldK (K := K) rfl (pv 0) rfl)))))) (pss_one (ps_raise rfl (takes_of rfl rfl rfl rfl) (pmk_oexF T.xUnknownNode.ox T.xUnknownNode.iC T.xUnknownNode.tI (ok_UnknownNode_init_ T) (hr.mono (by decide)) (b_UnknownNode_init_ T) .nil pass0 (by rfl) T.xUnknownNode.mC (pa_cons (pv 1) pa_nil)))) pss_nil)
 (pss_one (ps_ret (pe_dget (hu_of hr) (pe_fldK (K := K) rfl (pv 0) rfl) (pv 1) (fun _ _ => rfl))))), ?_⟩
    obtain ⟨t, ty, _, ks, _⟩ := At.ty T hd
    refine ⟨_, rfl, _, _, _, _, _, rfl, .ty _, ty, ks, isStr d, rfl, ?_⟩
    have raise : (∀ H' dd, Same H H' → H dd = none → H' dd = some (.xd [("value", v)]) → E (.ref a.c_UnknownNode) (some dd) H') →
        tMkO a.c_UnknownNode (sp_exq K a.c_UnknownNode "value") [] (tCons (tVar 1) tNil) (L2.start ["self", "node"] [.ref q, v]) H fun cls d H' => E cls d H' := fun kx =>
      ⟨_, rfl, (show 1 ≤ 1000 by decide), fun q hq => ⟨q, v, rfl, upd_same, fun dx' hdx' ne' => ⟨rfl, exq_way hq (fun H' dd s n e => kx H' dd s n e) dx' hdx' ne'⟩⟩⟩
    cases d with
    | str z =>
      simp only [At] at hd
      subst hd
      refine iteF ⟨_, rfl, _, rfl, q, a.c_Order, dx, _, _, rfl, hq, T.cl, T.nP, ord_pla D l, D, _, rfl, DGet.k (k := Sum.inr z) hD, ?_⟩
      rw [kvK_val, Option.isSome_map]
      rw [show pd p (.str z) = plAt p z from rfl] at k
      cases hp : plAt p z with
      | none =>
        rw [hp] at k
        exact ⟨_, rfl, iteT (raise k)⟩
      | some i =>
        rw [hp] at k
        refine ⟨_, rfl, iteF ⟨_, rfl, q, a.c_Order, dx, _, _, rfl, hq, T.cl, T.nP, ord_pla D l, _, rfl, D, _, rfl, ?_, k⟩⟩
        have := DGet.k (k := Sum.inr z) hD
        rw [kvK_val, hp] at this
        exact this
    | _ => exact iteT (iteT (raise k))
theorem ok_Order_eq_ (T : Txt K mg a) : FnOk P w K mg base CX0 1 a.f_Order_eq_ a.d_Order_eq_ ["self", "other"] (sp_eq a.c_Order) := by
  refine T.F_Order_eq_.ok sc_Order_eq_ (fun vs H Q E h => ?_) (fun cdv A outer s H vs Q E hr h => ?_)
  · obtain ⟨q, L, p, v, rfl, _⟩ := h
    rfl
  · obtain ⟨q, L, p, v, rfl, ⟨dx, D, l, ts, hq, hD, hl, pr⟩, nL, hv⟩ := h
    refine ⟨_, (pss_one (ps_ret (pe_and (pe_callB (call_isiK' (K := K) rfl) (by rfl) T.b_isinstance (by decide +kernel) (pa_cons (pv 1) (pa_cons (pe_glob (v := .ref a.c_Order) rfl T.mO rfl) pa_nil))) (pe_one (pe_cmpR (op_eqD hr.units) (pe_fldK (K := K) rfl (pv 0) rfl) (pe_fldK (K := K) rfl (pv 1) rfl) (nomark _)))))), ?_⟩
    rcases hv with ⟨q', L', p', rfl, ⟨dx', D', l', ts', hq', hD', hl', pr'⟩, nL', k⟩ | ⟨d, hd, k⟩
    · refine ⟨_, rfl, _, _, _, _, true, rfl, .own _, .base (T.I.ty T.cl hq'), Inst.kSelf, true, rfl, iteT ?_⟩
      refine ⟨_, rfl, q, a.c_Order, dx, _, _, rfl, hq, T.cl, T.nL, ord_lev D l, _, rfl, q', a.c_Order, dx', _, _, rfl, hq', T.cl, T.nL, ord_lev D' l', ?_⟩
      refine ⟨_, _, dp_lev ⟨ts, hl, pr⟩, dp_lev ⟨ts', hl', pr'⟩, shaped_Lt nL, shaped_Lt nL', ?_⟩
      rw [eqv_Lt]
      exact k
    · obtain ⟨t, ty, _, _, ko⟩ := At.ty T hd
      exact ⟨_, rfl, _, _, _, _, false, rfl, .own _, ty, ko, false, rfl, iteF k⟩
theorem ok_Order_str_ (T : Txt K mg a) : FnOk P w K mg base CX0 1 a.f_Order_str_ a.d_Order_str_ ["self"] (sp_tx a.c_Order txL) := by
  refine T.F_Order_str_.ok sc_Order_str_ (fun vs H Q E h => ?_) (fun cdv A outer s H vs Q E hr h => ?_)
  · obtain ⟨q, L, p, rfl, _⟩ := h
    rfl
  · obtain ⟨q, L, p, rfl, ⟨dx, D, l, ts, hq, hD, hl, pr⟩, hz, k⟩ := h
    refine ⟨_, (pss_one (ps_ret (pe_join pe_str (pe_lc (own := [("level", 1)]) (by rfl) sc_Order_str_.nd (pi_listK (K := K) rfl (pe_fldK (K := K) rfl (pv 0) rfl)) (blkOk_by (own := [("level", 1)]) (N := ["self", "level"]) (sc := defScope s_Order_str_) (by decide +kernel)) (fun _ _ _ _ _ => (pg_name (i := 1) sc_Order_str_.nd rfl (by first | exact Or.inl rfl | exact Or.inr rfl))) (fun _ _ _ _ _ => pts_nil) (fun _ _ _ _ _ => (pe_joinK (K := K) rfl pe_str (pv 1))))))), ?_⟩
    refine ⟨⟨_, rfl⟩, _, rfl, q, a.c_Order, dx, _, _, rfl, hq, T.cl, T.nL, ord_lev D l, l, rfl, ⟨_, SqL.of hl⟩, fun D2 hD2 => ?_⟩
    have lt : ts.length = L.length := Paired.len pr
    refine lc_list (K := K) (a := l) (xs := ts.map V.ref) (fun i H' => Same H H' ∧ H' D2 = some (.lst (((L.take i).map (Txt.join ",")).map V.str))) ⟨Lb.Same.upd hD2, upd_same⟩ (fun i H' _ b => SqL.of (b.1 _ _ hl)) ?_ ?_
    · rintro i v H' hi ⟨s', eD⟩
      rw [List.getElem?_map] at hi
      obtain ⟨t0, ht0, rfl⟩ : ∃ t0, ts[i]? = some t0 ∧ V.ref t0 = v := by
        cases h : ts[i]? with
        | none => rw [h] at hi; cases hi
        | some t0 => rw [h] at hi; exact ⟨t0, rfl, by simpa using hi⟩
      obtain ⟨x, hx, hr0⟩ := Paired.at_ pr ht0
      have hxm := List.mem_of_getElem? hx
      have h1 := hz.each x hxm
      have h2 := comma_le (hz.nm x hxm)
      have h3 := hz.l
      refine ⟨rfl, ⟨_, rfl⟩, _, rfl, _, t0, x, rfl, rfl, .inr (SqT.of (s' _ _ hr0)), ?_, _, eD, szlt (by rw [List.length_map, List.length_map, List.length_take]; omega), Lb.Same.updl s' hD2, ?_⟩
      · have h4 := sum_le (ts := x) (n := 8) fun z hz' => nm_len (hz.nm x hxm z hz')
        have h5 : ("," : Str).length = 1 := by decide +kernel
        rw [h5]
        omega
      · rw [upd_same, ← take_snoc hx, List.map_append, List.map_append]
        rfl
    · rintro H' ⟨s', eD⟩
      rw [List.length_map, lt, List.take_length] at eD
      refine ⟨_, D2, _, rfl, rfl, .inl (SqL.of eD), ?_, k _ s'⟩
      have h4 := sum_le (ts := L.map (Txt.join ",")) (n := 360) fun z hz' => by
        obtain ⟨x, hx, rfl⟩ := List.mem_map.mp hz'
        have h1 := hz.each x hx
        have h2 := comma_le (hz.nm x hx)
        omega
      have h5 : (" > " : Str).length = 3 := by decide +kernel
      have h3 := hz.l
      rw [h5]
      rw [List.length_map] at h4 ⊢
      omega
theorem ok_Order_repr_ (T : Txt K mg a) : FnG P w K mg base CX0 1 a.f_Order_repr_ a.d_Order_repr_ ["self"] (sp_tx a.c_Order rpL) := by
  refine okG T.F_Order_repr_ sc_Order_repr_ (fun vs H Q E h => ?_) (fun cdv A outer s H vs Q E gu hr h => ?_)
  · obtain ⟨q, L, p, rfl, _⟩ := h
    rfl
  · obtain ⟨q, L, p, rfl, ⟨dx, D, l, ts, hq, hD, hl, pr⟩, hz, k⟩ := h
    refine ⟨_, (pss_one (ps_ret (pe_joined (.cons pe_str (.cons (pe_fmtShow (K := K) (O := ONo) (D := 8) rfl gu (room8 hr) own_no ow_no (pe_fldK (K := K) rfl (pv 0) rfl)) (.cons pe_str .nil)))))), ?_⟩
    have h3 := hz.l
    have h4 := TrL_len hz.nm hz.each
    have h5 := TrL_dep L
    have l1 : ("Order(" : Str).length = 6 := by decide +kernel
    have l2 : (")" : Str).length = 1 := by decide +kernel
    have l0 : (Str.empty : Str).length = 0 := by decide +kernel
    refine ⟨_, rfl, ?_, _, rfl, q, a.c_Order, dx, _, _, rfl, hq, T.cl, T.nL, ord_lev D l, L.map TrT, sh_lev ⟨ts, hl, pr⟩, ?_, ?_, fun H' s' => ⟨_, rfl, ?_, _, rfl, ?_, k _ s'⟩⟩
    · rw [strLen_append, sizeLine_eq]; omega
    · show (TrL L).text.length ≤ _; rw [sizeLine_eq]; omega
    · simp only [Tr.dep]; omega
    · show (_ ++ (TrL L).text).length ≤ _; rw [strLen_append, strLen_append, sizeLine_eq]; omega
    · show (_ ++ (TrL L).text ++ _).length ≤ _; rw [strLen_append, strLen_append, strLen_append, sizeLine_eq]; omega
theorem ok_Orderturned (T : Txt K mg a) : FnOk P w K mg base CX0 7 a.f_Orderturned a.d_Orderturned ["self"] (sp_turned a.c_Order) := by
  refine T.F_Orderturned.ok sc_Orderturned (fun vs H Q E h => ?_) (fun cdv A outer s H vs Q E hr h => ?_)
  · obtain ⟨q, L, p, rfl, _⟩ := h
    rfl
  · obtain ⟨q, L, p, rfl, ⟨dx, D, l, ts, hq, hD, hl, pr⟩, g, hs, k⟩ := h
    refine ⟨_, (pss_one (ps_ret (pe_make T.mkO (ok_Order_init_ T) (hr.mono (by decide)) (by rfl) T.mO (b_Order_init_ T) .nil passX0 (pa_cons (pe_revL (pe_fldK (K := K) rfl (pv 0) rfl)) pa_nil)))), ?_⟩
    refine ⟨_, rfl, q, a.c_Order, dx, _, _, rfl, hq, T.cl, T.nL, ord_lev D l, ?_⟩
    refine ⟨l, _, rfl, SqL.of hl, fun r hr => ?_⟩
    have gr : Good L.reverse := Good.perm (List.reverse_perm L) g
    obtain ⟨e1, e2, e3⟩ := good_RD (M := L.reverse.map fun x => (true, x)) (d := .ls (RD (L.reverse.map fun x => (true, x)))) (by rw [snd_true]; exact gr) rfl
    rw [snd_true] at e1 e2
    have sr : Same H (upd H r (.lst (ts.map V.ref).reverse)) := Lb.Same.upd hr
    refine make_ok (d := .ls (RD (L.reverse.map fun x => (true, x)))) ?_ e3 e1 fun H' q' s' o => k H' q' (sr.trans s') ?_
    · simp only [At]
      refine ⟨r, _, rfl, upd_same, ?_⟩
      have z := ats_rev (ats_tups (Paired.imp pr fun _ _ h => sr _ _ h))
      rw [show RD (L.reverse.map fun x => (true, x)) = (RD (L.map fun x => (true, x))).reverse by unfold RD; rw [List.map_reverse, List.map_reverse]]
      exact z
    · rw [e2, show L.reverse.map srt = L.reverse from by rw [show L.reverse.map srt = L.reverse.map id from List.map_congr_left fun x hx => hs x (List.mem_reverse.mp hx)]; simp] at o
      exact o
end
end K60

set_option Elab.async false
set_option linter.all false
set_option maxRecDepth 100000
set_option maxHeartbeats 4000000
namespace K60
open PySem L2 Lb
def sp_pot (K : PySem.W.Frag) : Sp := fun vs H Q _ => ∃ (sc : Addr) (ns : List Int) (k : Nat), vs = [.ref sc, .int k] ∧ SqL K H sc (ns.map V.int) ∧ ns.length ≤ 63 ∧ k ≤ 1000 ∧
  ∀ H' p, Same H H' → H p = none → PotAt H' p → Q (.ref p) H'
def sp_draw : Sp := fun vs H Q _ => ∃ (p : Addr) (n : Int), vs = [.ref p, .int n] ∧ PotAt H p ∧ 0 < n ∧ Bd 200 n ∧
  ∀ H' d, Mov p H H' → 0 ≤ d → d < n → Q (.int d) H'
def sp_choice (K : PySem.W.Frag) : Sp := fun vs H Q _ => ∃ (p l : Addr) (xs : List V), vs = [.ref p, .ref l] ∧ PotAt H p ∧ SqL K H l xs ∧ l ≠ p ∧ 0 < xs.length ∧ xs.length ≤ 1000 ∧
  ∀ H' (i : Nat) v, Mov p H H' → xs[i]? = some v → Q v H'
section
variable {P : Program} {w : World} {K : PySem.W.Frag} {mg : Str → Option Value} {base : Heap} {a : Ad}
theorem ok_pot (T : Txt K mg a) : FnOk P w K mg base CX0 1 a.f_pot a.d_pot ["_law_script", "_law_k"] (sp_pot K) := by
  refine T.F_pot.ok sc_pot (fun vs H Q E h => ?_) (fun cdv A outer s H vs Q E hr h => ?_)
  · obtain ⟨sc, ns, k, rfl, _⟩ := h
    rfl
  · obtain ⟨sc, ns, k, rfl, hS, hlen, hk, q⟩ := h
    have fin : ∀ c : Int, 0 ≤ c → ∀ p, H p = none → Q (.ref p) (upd H p (.lst [.int (if c - 10 ^ (18 : Int).toNat > 0 then c - 10 ^ (18 : Int).toNat else 0), .int ((c % 2147483563 * 40692 + 9973 * (k : Int) + 71) % 2147483629 + 1)])) := by
      intro c hc p hp
      refine q _ p (Lb.Same.upd hp) hp ⟨_, _, upd_same, ?_, ?_, ?_⟩
      · split <;> omega
      · omega
      · omega
    refine ⟨_, (pss_cons (ps_set (i := 2) sc_pot.nd rfl (by first | exact Or.inl rfl | exact Or.inr rfl) (pe_op op_add (pe_op op_mulX pe_int (pv 1)) pe_int))
 (pss_cons (ps_if (pt_cmpR op_lt (pv 1) (pe_callB (call_lenK (K := K) rfl) (by rfl) T.b_len (by decide +kernel) (pa_cons (pv 0) pa_nil)) (nomark _)) (pss_one (ps_set (i := 2) sc_pot.nd rfl (by first | exact Or.inl rfl | exact Or.inr rfl) (pe_callB call_abs (by rfl) T.b_abs (by decide +kernel) (pa_cons (pe_ix (ix_listK (K := K) rfl) (pv 0) (pv 1) (fun _ _ => rfl)) pa_nil)))) pss_nil)
 (pss_one (ps_ret (pe_lst (pa_cons (pe_callB (call_max2 rfl) (by rfl) T.b_max (by decide +kernel) (pa_cons pe_int (pa_cons (pe_op op_sub (pv 2) (pe_op op_pow pe_int pe_int)) pa_nil))) (pa_cons (pe_op op_add (pe_op op_mod (pe_callTy call_int1 (by rfl) T.b_int (by decide +kernel) (pa_cons (pe_op op_add (pe_op op_add (pe_op op_mulX (pe_op op_mod (pe_callTy call_int1 (by rfl) T.b_int (by decide +kernel) (pa_cons (pv 2) pa_nil)) pe_int) pe_int) (pe_op op_mulX pe_int (pv 1))) pe_int) pa_nil)) pe_int) pe_int) pa_nil))))))), ?_⟩
    refine ⟨_, rfl, _, _, rfl, rfl, mulx_ok (a := 100) (b := 100) (by decide) (by omega) (by decide), _, _, rfl, rfl, ?_⟩
    -- if k < len(script)
    refine ⟨_, rfl, _, rfl, _, _, rfl, .inl hS, _, _, rfl, rfl, _, rfl, ?_⟩
    rw [List.length_map]
    refine ite2 (fun hlt => ?_) (fun _ => ?_)
    · have hlt' : k < ns.length := by simpa using hlt
      have hget : (ns.map V.int)[k]? = some (V.int ns[k]) := by simp [hlt']
      refine ⟨_, rfl, _, rfl, _, _, _, _, rfl, rfl, hS, atI_nat hget, _, rfl, ?_⟩
      refine ⟨_, rfl, _, _, rfl, rfl, ⟨by decide, by decide, by decide⟩, _, _, rfl, rfl, _, _, rfl, ?_⟩
      refine ⟨_, rfl, .inl ⟨_, rfl, _, _, rfl, rfl, (by show (0 : Int) < _; decide), _, _, rfl, rfl, mulx_ok (a := 100) (b := 100) (by omega) (by decide) (by decide), ?_⟩⟩
      refine ⟨_, rfl, _, _, rfl, rfl, mulx_ok (a := 100) (b := 100) (by decide) (by omega) (by decide), _, _, rfl, rfl, _, _, rfl, rfl, ?_⟩
      refine .inl ⟨_, rfl, _, _, rfl, rfl, (by show (0 : Int) < _; decide), _, _, rfl, rfl, sz, fun p hp => ?_⟩
      exact fin _ (by split <;> omega) p hp
    · refine ⟨_, rfl, _, _, rfl, rfl, ⟨by decide, by decide, by decide⟩, _, _, rfl, rfl, _, _, rfl, ?_⟩
      refine ⟨_, rfl, .inl ⟨_, rfl, _, _, rfl, rfl, (by show (0 : Int) < _; decide), _, _, rfl, rfl, mulx_ok (a := 100) (b := 100) (by omega) (by decide) (by decide), ?_⟩⟩
      refine ⟨_, rfl, _, _, rfl, rfl, mulx_ok (a := 100) (b := 100) (by decide) (by omega) (by decide), _, _, rfl, rfl, _, _, rfl, rfl, ?_⟩
      refine .inl ⟨_, rfl, _, _, rfl, rfl, (by show (0 : Int) < _; decide), _, _, rfl, rfl, sz, fun p hp => ?_⟩
      exact fin _ (by omega) p hp

theorem ok_draw (T : Txt K mg a) : FnOk P w K mg base CX0 1 a.f_draw a.d_draw ["_law_pot_here", "_law_many"] sp_draw := by
  refine T.F_draw.ok sc_draw (fun vs H Q E h => ?_) (fun cdv A outer s H vs Q E hr h => ?_)
  · obtain ⟨p, n, rfl, _⟩ := h
    rfl
  · obtain ⟨p, n, rfl, ⟨x, y, hp, hx, hy0, hy1⟩, hn, hb, q⟩ := h
    have S := SqL.of (K := K) hp
    have e0 : atI ([.int x, .int y] : List V) ((0 : Nat) : Int) = some (.int x) := atI_nat rfl
    have e1 : atI ([.int x, .int y] : List V) ((1 : Nat) : Int) = some (.int y) := atI_nat rfl
    refine ⟨_, (pss_cons (ps_if (pt_cmpR op_gt (pe_ix (ix_listK (K := K) rfl) (pv 0) pe_int (fun _ _ => rfl)) pe_int (nomark _)) (pss_cons (ps_asg (pe_callB call_divmodW (by rfl) T.b_divmod (by decide +kernel) (pa_cons (pe_ix (ix_listK (K := K) rfl) (pv 0) pe_int (fun _ _ => rfl)) (pa_cons (pv 1) pa_nil))) (pg_tupK (K := K) (n := 2) rfl rfl (pgs_cons (pg_sub (pv 0) pe_int set_list) (pgs_cons (pg_name (i := 2) sc_draw.nd rfl (by first | exact Or.inl rfl | exact Or.inr rfl)) pgs_nil))))
 (pss_one (ps_ret (pv 2)))) pss_nil)
 (pss_cons (ps_asg (pe_op op_mod (pe_callTy call_int1 (by rfl) T.b_int (by decide +kernel) (pa_cons (pe_op op_add (pe_op op_mulX (pe_ix (ix_listK (K := K) rfl) (pv 0) pe_int (fun _ _ => rfl)) pe_int) pe_int) pa_nil)) pe_int) (pg_sub (pv 0) pe_int set_list))
 (pss_one (ps_ret (pe_op op_mod (pe_callTy call_int1 (by rfl) T.b_int (by decide +kernel) (pa_cons (pe_op op_fdivW (pe_op op_mod (pe_callTy call_int1 (by rfl) T.b_int (by decide +kernel) (pa_cons (pe_op op_mulX (pe_ix (ix_listK (K := K) rfl) (pv 0) pe_int (fun _ _ => rfl)) (pe_ix (ix_listK (K := K) rfl) (pv 0) pe_int (fun _ _ => rfl))) pa_nil)) pe_int) pe_int) pa_nil)) (pv 1)))))), ?_⟩
    refine ⟨_, rfl, _, _, _, _, rfl, rfl, S, e0, _, _, rfl, rfl, _, rfl, ?_⟩
    refine ite2 (fun hlt => ?_) (fun _ => ?_)
    · have hlt : 0 < x := by simpa using hlt
      refine ⟨_, rfl, _, _, _, _, rfl, rfl, S, e0, _, rfl, _, _, rfl, divp_small hn (hb.mono (by decide)), fun t ht => ?_⟩
      have npt : p ≠ t := ne_of_none hp ht
      refine ⟨_, _, rfl, SqT.of upd_same, rfl, ?_⟩
      have hp2 : upd H t (.tup [.int (x / n), .int (x % n)]) p = some (.lst [.int x, .int y]) := by rw [upd_ne npt]; exact hp
      refine ⟨_, _, rfl, ⟨_, rfl, _, _, _, 0, rfl, rfl, hp2, rfl, _, _, rfl, ⟨rfl, ?_⟩⟩⟩
      refine ⟨_, rfl, ?_⟩
      refine q _ _ ⟨fun b o nb e => ?_, _, _, upd_same, Int.ediv_nonneg hx (by omega), hy0, hy1⟩ (Int.emod_nonneg _ (by omega)) (Int.emod_lt_of_pos _ hn)
      rw [upd_ne nb, upd_ne (ne_of_none e ht)]
      exact e
    · refine ⟨_, rfl, _, _, _, _, rfl, rfl, S, e1, _, _, rfl, rfl, mulx_ok (a := 100) (b := 100) (by omega) (by decide) (by decide), _, _, rfl, rfl, .inl ⟨_, rfl, _, _, rfl, rfl, (by show (0 : Int) < _; decide), ?_⟩⟩
      refine ⟨_, rfl, _, _, _, 1, rfl, rfl, hp, rfl, ?_⟩
      have e2 : ∀ z : Int, atI ([.int x, .int z] : List V) ((1 : Nat) : Int) = some (.int z) := fun z => atI_nat rfl
      have S2 : ∀ z : Int, SqL K (upd H p (.lst ([V.int x, V.int y].set 1 (.int z)))) p [.int x, .int z] := fun z => SqL.of upd_same
      refine ⟨_, rfl, _, _, _, _, rfl, rfl, S2 _, e2 _, _, rfl, _, _, _, _, rfl, rfl, S2 _, e2 _, _, _, rfl, rfl, mulx_ok (a := 100) (b := 100) (by omega) (by omega) (by decide), ?_⟩
      refine .inl ⟨_, rfl, _, _, rfl, rfl, (by show (0 : Int) < _; decide), _, _, rfl, rfl, ⟨(by show (0 : Int) < _; decide), (by decide)⟩, .inl ⟨_, rfl, _, rfl, _, _, rfl, rfl, hn, ?_⟩⟩
      refine q _ _ ⟨fun b o nb e => ?_, _, _, upd_same, hx, by omega, by omega⟩ (Int.emod_nonneg _ (by omega)) (Int.emod_lt_of_pos _ hn)
      rw [upd_ne nb]
      exact e
end
section
variable {P : Program} {w : World} {K : PySem.W.Frag} {mg : Str → Option Value} {base : Heap} {a : Ad}
theorem ok_choice (T : Txt K mg a) : FnOk P w K mg base CX0 2 a.f_choice a.d_choice ["_law_pot_here", "_law_some"] (sp_choice K) := by
  refine T.F_choice.ok sc_choice (fun vs H Q E h => ?_) (fun cdv A outer s H vs Q E hr h => ?_)
  · obtain ⟨p, l, xs, rfl, _⟩ := h
    rfl
  · obtain ⟨p, l, xs, rfl, hp, hS, hne, h0, h1, q⟩ := h
    refine ⟨_, (pss_one (ps_ret (pe_ix (ix_listK (K := K) rfl) (pv 1) (pe_call (ok_draw T) (hr.mono (by decide)) (by rfl) T.m_draw T.F_draw.kp (b_draw T) .nil pass0 (pa_cons (pv 0) (pa_cons (pe_callB (call_lenK (K := K) rfl) (by rfl) T.b_len (by decide +kernel) (pa_cons (pv 1) pa_nil)) pa_nil))) (fun _ _ => rfl)))), ?_⟩
    refine ⟨_, rfl, _, rfl, _, rfl, _, _, rfl, .inl hS, ?_⟩
    refine ⟨p, _, rfl, hp, by omega, by unfold Bd; omega, fun H' d m d0 d1 => ?_⟩
    have hi : d.toNat < xs.length := by omega
    have e : atI xs d = some xs[d.toNat] := by
      have := atI_nat (xs := xs) (j := d.toNat) (List.getElem?_eq_getElem hi)
      rwa [Int.toNat_of_nonneg d0] at this
    exact ⟨_, _, _, _, rfl, rfl, SqL.mov m hne hS, e, q _ _ _ m (List.getElem?_eq_getElem hi)⟩
end
theorem mov_upd {p D : Addr} {H H' : Hp} {o : HO} (m : Mov p H H') (hp : PotAt H p) (hD : H D = none) : Mov p H (upd H' D o) := by
  have hn : D ≠ p := by
    rintro rfl
    obtain ⟨_, _, e, _⟩ := hp
    rw [hD] at e
    cases e
  refine ⟨fun b u n e => ?_, ?_⟩
  · rw [upd_ne (ne_of_none e hD)]
    exact m.keep b u n e
  · obtain ⟨x, y, e, r⟩ := m.pot
    exact ⟨x, y, by rw [upd_ne hn.symm]; exact e, r⟩
theorem erase_perm {α : Type} : ∀ (l : List α) (i : Nat) (h : i < l.length), (l[i] :: l.eraseIdx i).Perm l
  | [], i, h => absurd h (by simp)
  | x :: r, 0, h => .refl _
  | x :: r, i + 1, h => by
    rw [List.getElem_cons_succ, List.eraseIdx_cons_succ]
    exact (List.Perm.swap _ _ _).trans ((erase_perm r i (by simpa using h)).cons x)
def sp_shuffled : Sp := fun vs H Q _ => ∃ (p l : Addr) (xs : List V), vs = [.ref p, .ref l] ∧ PotAt H p ∧ H l = some (.lst xs) ∧ l ≠ p ∧ xs.length ≤ 100 ∧
  ∀ H' m ys, Mov p H H' → ys.Perm xs → H m = none → H' m = some (.lst ys) → Q (.ref m) H'
section
variable {P : Program} {w : World} {K : PySem.W.Frag} {mg : Str → Option Value} {base : Heap} {a : Ad}
theorem ok_shuffled (T : Txt K mg a) : FnOk P w K mg base CX0 2 a.f_shuffled a.d_shuffled ["_law_pot_here", "_law_some"] sp_shuffled := by
  refine T.F_shuffled.ok sc_shuffled (fun vs H Q E h => ?_) (fun cdv A outer s H vs Q E hr h => ?_)
  · obtain ⟨p, l, xs, rfl, _⟩ := h
    rfl
  · obtain ⟨p, l, xs, rfl, hp, hl, hne, hz, q⟩ := h
    refine ⟨_, (pss_cons (ps_par (i := 2) (j := 3) rfl sc_shuffled.nd rfl rfl (by decide) rfl rfl (pa_cons (pe_callTy call_list_of (by rfl) T.b_list (by decide +kernel) (pa_cons (pv 1) pa_nil)) (pa_cons (pe_lst pa_nil) pa_nil)) (by rfl))
 (pss_cons (ps_for PassesOwn.never rfl (pi_range1 rfl T.b_range (pa_cons (pe_callB (call_lenK (K := K) rfl) (by rfl) T.b_len (by decide +kernel) (pa_cons (pv 1) pa_nil)) pa_nil)) (pg_name (i := 4) sc_shuffled.nd rfl (by first | exact Or.inl rfl | exact Or.inr rfl)) (pss_one (ps_expr (pe_bm PySem.F.plainAttrs_list PySem.F.slot_list_append PySem.F.type_list_append mt_append (pv 3) (pa_cons (pe_bm PySem.F.plainAttrs_list PySem.F.slot_list_pop PySem.F.type_list_pop mt_popAt (pv 2) (pa_cons (pe_call (ok_draw T) (hr.mono (by decide)) (by rfl) T.m_draw T.F_draw.kp (b_draw T) .nil pass0 (pa_cons (pv 0) (pa_cons (pe_callB (call_lenK (K := K) rfl) (by rfl) T.b_len (by decide +kernel) (pa_cons (pv 2) pa_nil)) pa_nil))) pa_nil)) pa_nil)))))
 (pss_one (ps_ret (pv 3))))), ?_⟩
    refine ⟨_, rfl, l, _, rfl, .inl (SqL.of hl), fun lf hlf => ⟨sz, fun mx hmx => ⟨_, _, rfl, ?_⟩⟩⟩
    have hmx0 : H mx = none := by rw [← hmx, upd_ne (fun z => by rw [z, upd_same] at hmx; cases hmx)]
    have nlm : lf ≠ mx := fun z => by rw [z, upd_same] at hmx; cases hmx
    have m0 : Mov p H (upd (upd H lf (.lst xs)) mx (.lst [])) := mov_upd (mov_upd (Mov.refl hp) hp hlf) hp hmx0
    have hl0 := m0.keep _ _ hne hl
    refine ⟨_, rfl, l, _, rfl, .inl (SqL.of hl0), _, rfl, by omega, by omega, ?_⟩
    rw [Int.toNat_natCast]
    refine for_range (fun i σ H' => ∃ u ls ms, σ = [some (.ref p), some (.ref l), some (.ref lf), some (.ref mx), u] ∧ Mov p H H' ∧ H' lf = some (.lst ls) ∧ H' mx = some (.lst ms) ∧ (ms ++ ls).Perm xs ∧ ls.length + i = xs.length)
      ⟨_, xs, [], rfl, m0, by rw [upd_ne nlm, upd_same], upd_same, .refl _, rfl⟩ ?_ ?_
    · rintro i σ H' hi ⟨u, ls, ms, rfl, m, el, em, pm, hn⟩
      have hpl : lf ≠ p := fun z => by obtain ⟨_, _, e, _⟩ := hp; rw [z, e] at hlf; cases hlf
      have hpm : mx ≠ p := fun z => by obtain ⟨_, _, e, _⟩ := hp; rw [z, e] at hmx0; cases hmx0
      refine ⟨_, rfl, .inl ⟨rfl, _, SqL.of em⟩, _, rfl, .inl ⟨rfl, _, SqL.of el⟩, ?_⟩
      refine ⟨_, rfl, _, rfl, lf, _, rfl, .inl (SqL.of el), p, _, rfl, m.pot, by omega, by unfold Bd; omega, fun H2 d m2 d0 d1 => ?_⟩
      have hd : d.toNat < ls.length := by omega
      have el2 := m2.keep _ _ hpl el
      have em2 := m2.keep _ _ hpm em
      have hg : ls[d.toNat]? = some ls[d.toNat] := List.getElem?_eq_getElem hd
      refine ⟨lf, ls, d, d.toNat, ls[d.toNat], rfl, rfl, el2, by omega, by omega, ?_, hg, ?_⟩
      · unfold seqIndex?
        rw [if_neg (show ¬ d < 0 by omega)]
        simp only [decide_eq_true d0, Bool.true_and]
        rw [if_pos (decide_eq_true (show d < (ls.length : Int) by omega))]
      have em3 : (upd H2 lf (.lst (ls.eraseIdx d.toNat))) mx = some (.lst ms) := by rw [upd_ne nlm.symm]; exact em2
      refine ⟨mx, ms, _, rfl, rfl, em3, ?_, ?_⟩
      · have := pm.length_eq
        rw [List.length_append] at this
        exact szlt (by omega)
      refine ⟨_, ls.eraseIdx d.toNat, ms ++ [ls[d.toNat]], rfl, mov_upd (mov_upd (m.trans m2) hp hlf) hp hmx0, by rw [upd_ne nlm, upd_same], upd_same, ?_, by rw [List.length_eraseIdx_of_lt hd]; omega⟩
      rw [List.append_assoc]
      refine List.Perm.trans (List.Perm.append_left ms ?_) pm
      exact erase_perm ls d.toNat hd
    · rintro σ H' ⟨u, ls, ms, rfl, m, el, em, pm, hn⟩
      have : ls = [] := List.eq_nil_of_length_eq_zero (by omega)
      subst this
      exact ⟨_, rfl, q _ mx ms m (by simpa using pm) hmx0 em⟩
end
end K60

set_option Elab.async false
set_option linter.all false
set_option maxRecDepth 100000
set_option maxHeartbeats 4000000
namespace K60
open PySem L2 Lb
open C8 (pss_cut)
theorem op_notInK {X : Cx} {K : PySem.W.Frag} (hK : X.K = K) : OpR X (compareOp .NotIn) (rIn K true) := by subst hK; exact op_notIn_seq
theorem alphabet {d : Int} (h0 : 0 ≤ d) (h : d < 26) : ∃ c, atI (Str.ofString "abcdefghijklmnopqrstuvwxyz").cps.toList d = some c ∧ lett c = true := by
  obtain ⟨n, rfl⟩ := Int.eq_ofNat_of_zero_le h0
  have hn : n < 26 := by omega
  have e : (Str.ofString "abcdefghijklmnopqrstuvwxyz").cps.toList = (List.range 26).map (· + 97) := by decide +kernel
  rw [e]
  refine ⟨n + 97, atI_nat (by rw [List.getElem?_map, List.getElem?_range hn]; rfl), ?_⟩
  unfold lett
  rw [decide_eq_true (show 97 ≤ n + 97 by omega), decide_eq_true (show n + 97 ≤ 122 by omega)]
  rfl
def s1 (c : Nat) : Str := ⟨#[c]⟩
theorem cat_s1 : ∀ cs : List Nat, cat (cs.map s1) = tx cs
  | [] => rfl
  | c :: r => by
    rw [List.map_cons, cat, cat_s1 r]
    exact str_ext (by show ((#[c] : Array Nat) ++ r.toArray).toList = _; simp [tx])
def Ls : List Nat := (Str.ofString "abcdefghijklmnopqrstuvwxyz").cps.toList
theorem Ls_eq : Ls = (List.range 26).map (· + 97) := by decide +kernel
theorem Ls_len : Ls.length = 26 := by decide +kernel
def cands (cs : List Nat) : List Str := tx cs :: Ls.map fun c => tx cs ++ s1 c
theorem cands_len (cs : List Nat) : (cands cs).length = 27 := by unfold cands; rw [List.length_cons, List.length_map, Ls_len]
theorem app_s1 (cs : List Nat) (c : Nat) : (tx cs ++ s1 c).cps.toList = cs ++ [c] := by
  show ((cs.toArray : Array Nat) ++ #[c]).toList = _
  simp
theorem cands_nd (cs : List Nat) : (cands cs).Nodup := by
  unfold cands
  refine List.nodup_cons.mpr ⟨fun m => ?_, ?_⟩
  · obtain ⟨c, _, e⟩ := List.mem_map.mp m
    have e := congrArg (fun z : Str => z.cps.toList.length) e
    have e : (tx cs ++ s1 c).cps.toList.length = (tx cs).cps.toList.length := e
    rw [app_s1] at e
    simp [tx] at e
  · rw [List.Nodup, List.pairwise_map]
    have h : Ls.Nodup := by decide +kernel
    refine List.Pairwise.imp ?_ h
    intro a b hab e
    have e := congrArg (fun z : Str => z.cps.toList) e
    have e : (tx cs ++ s1 a).cps.toList = (tx cs ++ s1 b).cps.toList := e
    rw [app_s1, app_s1] at e
    simp at e
    exact hab e
theorem cands_left (cs : List Nat) {zs : List Str} (h : zs.length < 27) : ∃ y r, (cands cs).filter (fun z => decide (z ∉ zs)) = y :: r := by
  cases e : (cands cs).filter (fun z => decide (z ∉ zs)) with
  | cons y r => exact ⟨y, r, rfl⟩
  | nil =>
    have sub : cands cs ⊆ zs := fun z hz => by
      rw [List.filter_eq_nil_iff] at e
      have := e z hz
      simpa using this
    have := (cands_nd cs).length_le_of_subset sub
    rw [cands_len] at this
    omega
theorem nmS_of {z : Str} {cs : List Nat} (e : z.cps.toList = cs) (h : ∀ c ∈ cs, lett c = true) (h1 : 1 ≤ cs.length) (h2 : cs.length ≤ 8) : nmS z = true := by
  unfold nmS
  rw [e, decide_eq_true h1, decide_eq_true h2, Bool.true_and, Bool.true_and, List.all_eq_true]
  exact h
theorem cands_nm {cs : List Nat} (h : ∀ c ∈ cs, lett c = true) (h1 : 1 ≤ cs.length) (h2 : cs.length ≤ 3) {y : Str} (hy : y ∈ cands cs) : nmS y = true ∧ y.length ≤ 4 := by
  unfold cands at hy
  have hl : ∀ z : Str, z.length = z.cps.toList.length := fun z => by simp [Str.length]
  rcases List.mem_cons.mp hy with rfl | hy
  · have e : (tx cs).cps.toList = cs := by simp [tx]
    exact ⟨nmS_of e h h1 (by omega), by rw [hl, e]; omega⟩
  · obtain ⟨c, hc, rfl⟩ := List.mem_map.mp hy
    have e := app_s1 cs c
    have lc : lett c = true := by
      rw [Ls_eq] at hc
      obtain ⟨n, hn, rfl⟩ := List.mem_map.mp hc
      rw [List.mem_range] at hn
      unfold lett
      rw [decide_eq_true (show 97 ≤ n + 97 by omega), decide_eq_true (show n + 97 ≤ 122 by omega)]
      rfl
    refine ⟨nmS_of e (fun z hz => ?_) (by rw [List.length_append]; simp) (by rw [List.length_append]; simp; omega), by rw [hl, e, List.length_append]; simp; omega⟩
    rcases List.mem_append.mp hz with hz | hz
    · exact h z hz
    · rw [List.mem_singleton.mp hz]; exact lc
theorem flat_strs : ∀ zs : List Str, (zs.map V.str).all flatV = true
  | [] => rfl
  | z :: r => by rw [List.map_cons, List.all_cons, flat_strs r]; rfl
theorem inV_strs (y : Str) : ∀ zs : List Str, inV (.str y) (zs.map V.str) = decide (y ∈ zs)
  | [] => by simp [inV]
  | z :: r => by
    have ih := inV_strs y r
    unfold inV at ih ⊢
    rw [List.map_cons, List.any_cons, ih]
    have : eqV (.str z) (.str y) = (z == y) := rfl
    rw [this, Bool.eq_iff_iff]
    simp only [Bool.or_eq_true, beq_iff_eq, decide_eq_true_eq, List.mem_cons]
    exact ⟨fun h => h.imp Eq.symm id, fun h => h.imp Eq.symm id⟩
def sp_names : Sp := fun vs H Q _ => ∃ (p : Addr) (n : Nat), vs = [.ref p, .int n] ∧ PotAt H p ∧ n ≤ 8 ∧
  ∀ H' l (zs : List Str), Mov p H H' → H l = none → H' l = some (.lst (zs.map V.str)) → zs.length = n → zs.Nodup → (∀ z ∈ zs, nmS z = true ∧ z.length ≤ 4) → Q (.ref l) H'
section
variable {P : Program} {w : World} {K : PySem.W.Frag} {mg : Str → Option Value} {base : Heap} {a : Ad}
theorem ok_names (T : Txt K mg a) : FnOk P w K mg base CX0 2 a.f_names a.d_names ["_law_pot_here", "_law_many"] sp_names := by
  refine T.F_names.ok sc_names (fun vs H Q E h => ?_) (fun cdv A outer s H vs Q E hr h => ?_)
  · obtain ⟨p, n, rfl, _⟩ := h
    rfl
  · obtain ⟨p, n, rfl, hp, hn, k⟩ := h
    refine ⟨_, (pss_cons (ps_asg (pe_tup (pa_cons pe_str (pa_cons (pe_lst pa_nil) pa_nil))) (pg_tupK (K := K) (n := 2) rfl rfl (pgs_cons (pg_name (i := 2) sc_names.nd rfl (by first | exact Or.inl rfl | exact Or.inr rfl)) (pgs_cons (pg_name (i := 3) sc_names.nd rfl (by first | exact Or.inl rfl | exact Or.inr rfl)) pgs_nil))))
 (pss_cons (ps_for PassesOwn.never rfl (pi_range1 rfl T.b_range (pa_cons (pv 1) pa_nil)) (pg_name (i := 4) sc_names.nd rfl (by first | exact Or.inl rfl | exact Or.inr rfl)) (pss_cons (ps_set (i := 5) sc_names.nd rfl (by first | exact Or.inl rfl | exact Or.inr rfl) (pe_join pe_str (pe_lc (own := [("_law_sign", 6)]) (by rfl) sc_names.nd (pi_range1 rfl T.b_range (pa_cons (pe_op op_add pe_int (pe_call (ok_draw T) (hr.mono (by decide)) (by rfl) T.m_draw T.F_draw.kp (b_draw T) .nil pass0 (pa_cons (pv 0) (pa_cons pe_int pa_nil)))) pa_nil)) (blkOk_by (own := [("_law_sign", 6)]) (N := ["_law_pot_here", "_law_many", "_law_letters", "_law_found", "_law_turn", "_law_name", "_law_sign", "_law_one", "_law_letter"]) (sc := defScope s_names) (by decide +kernel)) (fun _ _ _ _ _ => (pg_name (i := 6) sc_names.nd rfl (by first | exact Or.inl rfl | exact Or.inr rfl))) (fun _ _ _ _ _ => pts_nil) (fun _ _ _ _ _ => (pe_ix ix_str (pv 2) (pe_call (ok_draw T) (hr.mono (by decide)) (by rfl) T.m_draw T.F_draw.kp (b_draw T) .nil pass0 (pa_cons (pv 0) (pa_cons pe_int pa_nil))) (fun _ _ => rfl))))))
 (pss_one (ps_expr (pe_bm PySem.F.plainAttrs_list PySem.F.slot_list_append PySem.F.type_list_append mt_append (pv 3) (pa_cons (pe_ix (ix_listK (K := K) rfl) (pe_lc (own := [("_law_one", 7)]) (by rfl) sc_names.nd (pi_listK (K := K) rfl (pe_op op_cat (pe_lst (pa_cons (pv 5) pa_nil)) (pe_lc (own := [("_law_letter", 8)]) (by rfl) sc_names.nd (pi_str (pv 2)) (blkOk_by (own := [("_law_letter", 8)]) (N := ["_law_pot_here", "_law_many", "_law_letters", "_law_found", "_law_turn", "_law_name", "_law_sign", "_law_one", "_law_letter"]) (sc := defScope s_names) (by decide +kernel)) (fun _ _ _ _ _ => (pg_name (i := 8) sc_names.nd rfl (by first | exact Or.inl rfl | exact Or.inr rfl))) (fun _ _ _ _ _ => pts_nil) (fun _ _ _ _ _ => (pe_op op_add_str (pv 5) (pv 8)))))) (blkOk_by (own := [("_law_one", 7)]) (N := ["_law_pot_here", "_law_many", "_law_letters", "_law_found", "_law_turn", "_law_name", "_law_sign", "_law_one", "_law_letter"]) (sc := defScope s_names) (by decide +kernel)) (fun _ _ _ _ _ => (pg_name (i := 7) sc_names.nd rfl (by first | exact Or.inl rfl | exact Or.inr rfl))) (fun _ _ _ _ _ => pts_one (pt_cmpR (op_notInK (K := K) rfl) (pv 7) (pv 3) rfl)) (fun _ _ _ _ _ => (pv 7))) pe_int (fun _ _ => rfl)) pa_nil))))))
 (pss_one (ps_ret (pv 3))))), ?_⟩
    refine ⟨sz, fun fl hfl => ⟨sz, fun tp htp => ⟨tp, _, rfl, SqT.of upd_same, rfl, _, _, rfl, _, _, rfl, rfl, ?_⟩⟩⟩
    have htp0 : H tp = none := by rw [← htp, upd_ne (fun z => by rw [z, upd_same] at htp; cases htp)]
    have nft : fl ≠ tp := fun z => by rw [z, upd_same] at htp; cases htp
    have hpf : fl ≠ p := fun z => by obtain ⟨_, _, e, _⟩ := hp; rw [z, e] at hfl; cases hfl
    have m0 := mov_upd (o := .tup [.str "abcdefghijklmnopqrstuvwxyz", .ref fl]) (mov_upd (o := .lst []) (Mov.refl hp) hp hfl) hp htp0
    refine ⟨_, rfl, n, rfl, by omega, by omega, ?_⟩
    rw [Int.toNat_natCast]
    refine for_range (fun i σ H' => ∃ u4 u5, ∃ zs : List Str, σ = [some (.ref p), some (.int (n : Nat)), some (.str "abcdefghijklmnopqrstuvwxyz"), some (.ref fl), u4, u5, none, none, none] ∧ Mov p H H' ∧ H' fl = some (.lst (zs.map V.str)) ∧ zs.length = i ∧ zs.Nodup ∧ ∀ z ∈ zs, nmS z = true ∧ z.length ≤ 4)
      ⟨_, _, [], rfl, m0, by rw [upd_ne nft, upd_same]; rfl, rfl, .nil, fun _ h => nomatch h⟩ ?_ ?_
    · rintro i σ H1 hi ⟨u4, u5, zs, rfl, M1, el, hzl, hnd, hzs⟩
      refine ⟨⟨_, rfl⟩, ?_⟩
      refine ⟨_, rfl, p, _, rfl, M1.pot, by decide, by unfold Bd; decide, fun H2 d m2 d0 d1 => ⟨_, _, rfl, rfl, _, rfl, by omega, by omega, fun D hD => ?_⟩⟩
      have M2 := M1.trans m2
      have hpD : D ≠ p := m2.ne hD
      refine lc_it walk_range (fun j H' => Mov p H2 H' ∧ ∃ cs : List Nat, H' D = some (.lst ((cs.map s1).map V.str)) ∧ cs.length = j ∧ ∀ c ∈ cs, lett c = true) ⟨mov_upd (Mov.refl M2.pot) M2.pot hD, [], upd_same, rfl, fun _ h => nomatch h⟩ (fun _ _ _ _ => trivial) ?_ ?_
      · rintro j v H3 H4 hj ⟨M3, cs, eD, lc, hc⟩ ⟨rfl, rfl⟩
        refine ⟨rfl, _, rfl, _, rfl, p, _, rfl, M3.pot, by decide, by unfold Bd; decide, fun H5 d5 m5 e0 e1 => ?_⟩
        obtain ⟨c, hcc, hl⟩ := alphabet e0 e1
        have eD5 := m5.keep _ _ hpD eD
        refine ⟨_, _, c, rfl, rfl, szle (by decide +kernel), hcc, _, eD5, szlt (by rw [List.length_map, List.length_map]; omega), mov_upd (M3.trans m5) M2.pot hD, cs ++ [c], by rw [upd_same, List.map_append, List.map_append]; rfl, by rw [List.length_append, lc]; rfl, fun z hz => ?_⟩
        rcases List.mem_append.mp hz with hz | hz
        · exact hc z hz
        · rw [List.mem_singleton.mp hz]; exact hl
      rintro H3 ⟨M3, cs, eD, lc, hc⟩
      have M03 := M2.trans M3
      have hcl : cs.length ≤ 3 ∧ 1 ≤ cs.length := by omega
      refine ⟨_, D, cs.map s1, rfl, rfl, .inl (SqL.of eD), ?_, ?_⟩
      · have h1 := sum_le (ts := cs.map s1) (n := 1) fun t ht => by
          obtain ⟨c, _, rfl⟩ := List.mem_map.mp ht
          exact Nat.le_refl _
        have h0 : (("" : String) : Str).length = 0 := by decide +kernel
        rw [h0]
        rw [List.length_map] at h1 ⊢
        omega
      rw [show Str.ofString "" = Str.empty by decide +kernel, join_empty, cat_s1]
      have el3 := (m2.trans M3).keep _ _ hpf el
      refine ⟨_, rfl, .inl ⟨rfl, _, SqL.of el3⟩, ?_⟩
      have hnm1 : ∀ c ∈ cs, lett c = true := hc
      refine ⟨_, rfl, sz, fun l1 hl1 => ⟨_, rfl, _, rfl, fun D2 hD2 => ?_⟩⟩
      have hD20 : H3 D2 = none := by rw [← hD2, upd_ne (fun z => by rw [z, upd_same] at hD2; cases hD2)]
      have n12 : l1 ≠ D2 := fun z => by rw [z, upd_same] at hD2; cases hD2
      have S1 : Same H3 (upd H3 l1 (.lst [.str (tx cs)])) := Lb.Same.upd hl1
      refine lc_it (walk_str (z := "abcdefghijklmnopqrstuvwxyz")) (fun j H' => Same (upd H3 l1 (.lst [.str (tx cs)])) H' ∧ H' D2 = some (.lst (((Ls.take j).map fun c => tx cs ++ s1 c).map V.str))) ⟨Lb.Same.upd hD2, upd_same⟩ (fun _ _ _ _ => trivial) ?_ ?_
      · rintro j v H4 H5 hj ⟨s4, e4⟩ ⟨rfl, c, hcj, rfl⟩
        have hcj' : Ls[j]? = some c := by
          rw [← Array.getElem?_toList] at hcj
          exact hcj
        have hjl : j < 26 := by
          have := (List.getElem?_eq_some_iff.mp hcj').1
          rw [Ls_len] at this
          exact this
        refine ⟨rfl, _, rfl, _, rfl, _, _, rfl, rfl, szle (by rw [tx_len]; show cs.length + 1 ≤ _; omega), _, e4, szlt (by rw [List.length_map, List.length_map, List.length_take]; omega), Lb.Same.updl s4 hD2, ?_⟩
        rw [upd_same, ← take_snoc hcj', List.map_append, List.map_append]
        rfl
      rintro H4 ⟨s4, e4⟩
      rw [show (Str.ofString "abcdefghijklmnopqrstuvwxyz").cps.size = Ls.length by decide +kernel, List.take_length] at e4
      have e1 := s4 _ _ (show upd H3 l1 (.lst [.str (tx cs)]) l1 = _ from upd_same)
      have S4 := S1.trans s4
      refine ⟨l1, D2, _, _, rfl, rfl, e1, e4, szle (by rw [List.length_map, List.length_map, Ls_len]; show 1 + 26 ≤ 10000; decide), fun c0 hc0 => ?_⟩
      generalize e_H5 : upd _ c0 _ = H5
      obtain ⟨s5, e5⟩ := al3 e_H5 hc0
      clear e_H5
      (try dsimp only at e5)
      have e5 : H5 c0 = some (.lst ((cands cs).map V.str)) := e5
      have S5 := S4.trans s5
      have el5 := S5 _ _ el3
      refine ⟨c0, rfl, ⟨_, SqL.of e5⟩, fun D3 hD3 => ?_⟩
      refine lc_list (K := K) (a := c0) (xs := (cands cs).map V.str) (fun j H' => Same H5 H' ∧ H' D3 = some (.lst ((((cands cs).take j).filter fun z => decide (z ∉ zs)).map V.str))) ⟨Lb.Same.upd hD3, upd_same⟩ (fun j H' _ b => SqL.of (b.1 _ _ e5)) ?_ ?_
      · rintro j v H6 hv ⟨s6, e6⟩
        rw [List.getElem?_map] at hv
        obtain ⟨y, hy, rfl⟩ : ∃ y, (cands cs)[j]? = some y ∧ V.str y = v := by
          cases h : (cands cs)[j]? with
          | none => rw [h] at hv; cases hv
          | some y => rw [h] at hv; exact ⟨y, rfl, by simpa using hv⟩
        have hjl := (List.getElem?_eq_some_iff.mp hy).1
        rw [cands_len] at hjl
        refine ⟨rfl, _, rfl, _, rfl, fl, _, rfl, .inl (SqL.of (s6 _ _ el5)), rfl, flat_strs zs, _, rfl, ?_⟩
        rw [inV_strs]
        have hfl : ((cands cs).take j).filter (fun z => decide (z ∉ zs)) = ((cands cs).take j).filter (fun z => decide (z ∉ zs)) := rfl
        by_cases hin : y ∈ zs
        · rw [decide_eq_true hin]
          refine iteF ⟨s6, ?_⟩
          rw [← take_snoc hy, List.filter_append, List.filter_cons, if_neg (by simp [hin]), List.filter_nil, List.append_nil]
          exact e6
        · rw [decide_eq_false hin]
          refine iteT ⟨_, rfl, _, e6, szlt (by rw [List.length_map]; exact Nat.le_trans (List.length_filter_le _ _) (by rw [List.length_take]; omega)), Lb.Same.updl s6 hD3, ?_⟩
          rw [upd_same, ← take_snoc hy, List.filter_append, List.filter_cons, if_pos (by simp [hin]), List.filter_nil, List.map_append]
          rfl
      rintro H6 ⟨s6, e6⟩
      rw [List.length_map, List.take_length] at e6
      obtain ⟨y, r, hF⟩ := cands_left cs (zs := zs) (by omega)
      rw [hF] at e6
      have hy : y ∈ cands cs ∧ y ∉ zs := by
        have : y ∈ (cands cs).filter fun z => decide (z ∉ zs) := by rw [hF]; exact List.mem_cons_self
        rw [List.mem_filter, decide_eq_true_eq] at this
        exact this
      refine ⟨D3, _, 0, .str y, rfl, rfl, SqL.of e6, atI_nat (j := 0) rfl, fl, _, _, rfl, rfl, s6 _ _ el5, szlt (by rw [List.length_map]; omega), _, _, zs ++ [y], rfl, ?_, ?_, by rw [List.length_append, hzl]; rfl, ?_, ?_⟩
      · exact mov_upd (M03.same (S5.trans s6)) hp hfl
      · rw [upd_same, List.map_append]
        rfl
      · rw [List.nodup_append]
        exact ⟨hnd, by simp, fun a ha b hb => by rw [List.mem_singleton.mp hb]; rintro rfl; exact hy.2 ha⟩
      · intro z hz
        rcases List.mem_append.mp hz with hz | hz
        · exact hzs z hz
        · rw [List.mem_singleton.mp hz]
          exact cands_nm hnm1 hcl.2 hcl.1 hy.1
    · rintro σ H1 ⟨u4, u5, zs, rfl, M1, el, hzl, hnd, hzs⟩
      exact ⟨_, rfl, k _ fl zs M1 hfl el hzl hnd hzs⟩
end
end K60

set_option Elab.async false
set_option linter.all false
set_option maxRecDepth 100000
set_option maxHeartbeats 4000000
/-! set(xs) of a list of ints, list(d.values()) -/
namespace Lb
open PySem PySem.Spec PyProof.Rows L2
/-- a set just made -/
def newSetO (w : World) : Obj := ⟨.type "set", none, .set #[] 0 (.fresh 0 0 (!w.params.followText "set-order")), #[]⟩
section
variable {P : Program} {w : World} {A : Around} {E : Value → Shared → Prop} {s : Shared} {Q : Value → Shared → Prop}
/-- a built-in class called: its __new__, then its __init__, each as a code -/
theorem typeCall_by {T nId iId : String} {bi : Builtin} {as : List Value} {R1 : Value → Shared → Prop} (ft : TypeCalled T nId iId) (ok : checkTypeCall T ⟨as, []⟩ = pure ()) (en : entryFor table iId = some bi)
    (mk : codeAny (model P w) A.in1 (.call (.builtin nId) ⟨.type T :: as, []⟩) (wants R1 E) s)
    (nx : ∀ ob t, R1 ob t → t.TypeIs ob T ∧ codeAny (model P w) A.in1 (.call (.builtin iId) ⟨ob :: as, []⟩) (wants (fun r u => r = .none ∧ Q ob u) E) t) : wpAny (model P w) A (call (.type T) as) Q E s := by
  obtain ⟨c0, tl0, isMro⟩ := ft.mro
  have isMade := ft.made
  have isSub := ft.sub
  refine wpAny_call (codeAny_of_tree (show wpAny _ _ (callAny (.type T) _) _ _ _ from ?_))
  refine wpAny_pure ⟨Code.quiet_builtin _ (by decide +kernel), codeAny_builtin PySem.F.entry_type_call ?_⟩
  rw [Around.under_plain (weight_type_call_type T as []) rfl]
  have isNot := ft.notType
  have isCan := ft.canCreate
  repeat (any_goals first | wp_step | assumption)
  refine codeAny_mono mk fun r t hr => ?_
  match r, hr with
  | .error e, hr => exact hr
  | .ok .next, hr => exact hr.elim
  | .ok .brk, hr => exact hr.elim
  | .ok .cont, hr => exact hr.elim
  | .ok (.ret ob), hr =>
    obtain ⟨hT, hi⟩ := nx _ _ hr
    have look := ft.init.lookup
    have bnd := ft.init.bind ob
    repeat (any_goals first | wp_step | assumption)
    refine codeAny_mono hi fun r2 t2 hr2 => ?_
    match r2, hr2 with
    | .error e, hr2 => exact hr2
    | .ok .next, hr2 => exact hr2.elim
    | .ok .brk, hr2 => exact hr2.elim
    | .ok .cont, hr2 => exact hr2.elim
    | .ok (.ret v), hr2 =>
      obtain ⟨rfl, hq⟩ := hr2
      repeat (any_goals first | wp_step | assumption)
variable {l : Addr} {its : Array Value} {ns : List Int}
theorem set_of_list (hA : A.handled = none) (il : s.heap.IsList l its) (ia : IntsAre its.toList ns) (bd : ns.length + 1 < scanBound)
    (fin : ∀ (h2 : Heap) (tk c : Nat), SetR w h2 s.heap.objs.size (fun j => decide (j ∈ ns)) c → c ≤ ns.length → (∀ b o, s.heap.get? b = some o → h2.get? b = some o) → Q (.ref s.heap.objs.size) { s with heap := h2, toks := tk }) :
    wpAny (model P w) A (call (.type "set") [.ref l]) Q E s := by
  have cnt : its.size = ns.length := by
    have q := ia.length
    rw [Array.length_toList] at q
    exact q
  refine typeCall_by (R1 := fun obj s1 => obj = .ref s.heap.objs.size ∧ s1 = { s with heap := s.heap.push (newSetO w) }) F.called_set (F.typeCall_set_1 (.ref l)) F.entry_set_init (code_set_led1 _ ⟨rfl, rfl⟩) fun obj s1 h1 => ?_
  obtain ⟨rfl, rfl⟩ := h1
  have gS : (s.heap.push (newSetO w)).get? s.heap.objs.size = some (newSetO w) := Heap.get?_push_size _ rfl
  have tS : Shared.TypeIs { s with heap := s.heap.push (newSetO w) } (.ref s.heap.objs.size) "set" := ⟨_, gS, rfl⟩
  refine ⟨tS, codeAny_call_builtin F.called_set.init.plain F.entry_set_init (check_set_init_1 tS ?_)⟩
  have il0 := il
  obtain ⟨⟨lc, ld, lda, lsl⟩, gl, hc, nl, hd⟩ := il
  simp only at hc hd
  subst hc
  subst hd
  have gl1 := Heap.get?_push_of_some (newSetO w) gl
  have il1 : (s.heap.push (newSetO w)).IsList l its := ⟨_, gl1, rfl, nl, rfl⟩
  have sub1 := F.sub_list_set
  have sub2 := F.sub_list_frozenset
  have notD : (Value.type "list" == Value.type "dict") = false := by decide
  unfold Builtin.«set.__init__» noKeywords Builtin.Frozenset.updateFrom
  generalize eP : pyIter = PI
  wp_walk
  subst eP
  refine wpAny_pyIter_list il1 (wpAny_bind (wpAny_runValue ?_))
  have lS : l < s.heap.objs.size := Heap.lt_size gl
  have szI : (s.heap.push (newSetO w)).objs.size = s.heap.objs.size + 1 := Heap.size_push ..
  have nI : l ≠ (s.heap.push (newSetO w)).objs.size := by rw [szI]; exact Nat.ne_of_lt (Nat.lt_succ_of_lt lS)
  have nS : s.heap.objs.size ∉ [(s.heap.push (newSetO w)).objs.size, l] := fun m => by
    rw [szI] at m
    rcases List.mem_cons.mp m with e | m
    · exact absurd e (Nat.ne_of_lt (Nat.lt_succ_self _))
    · exact absurd (List.mem_singleton.mp m) (Nat.ne_of_gt lS)
  have val : ∀ (i : Nat) (v : Value), its[i]? = some v → ∃ k t, ns[i]? = some k ∧ v = .int k t := fun i v hv => by
    have hi : i < ns.length := by rw [← cnt]; exact (Array.getElem?_eq_some_iff.mp hv).1
    obtain ⟨t, e⟩ := PyProof.Rows.IntsAre.int_at ia i v (by rw [Array.getElem?_toList]; exact hv)
    have eg : ns[i]? = some ns[i] := List.getElem?_eq_getElem hi
    refine ⟨ns[i], t, eg, ?_⟩
    rw [List.getD_eq_getElem?_getD, eg] at e
    exact e
  refine set_update_ints ((Walks.list (A := A.in1.in1.in1) (by simp [hA]) _ l nI its).toS) s.heap.objs.size nS ns cnt bd val (its.size - 0) 0 _ (by omega) (Nat.zero_le _)
    ⟨⟨_, Heap.get?_push_size _ rfl, rfl, rfl⟩, il1.push _⟩ ⟨0, Nat.le_refl 0, setR_new_at (Heap.get?_push_of_some _ gS)⟩ fun t c mv hc R => ?_
  obtain ⟨h2, g2, d2, tk2, os2⟩ := t
  obtain rfl : g2 = s.gens := mv.gens
  obtain rfl : d2 = s.drawn := mv.drawn
  obtain rfl : os2 = s.os := mv.os
  rw [cnt] at hc
  refine wpAny_pure (wpAny_pure ⟨rfl, fin h2 tk2 c R hc fun b o e => ?_⟩)
  have hb : b < s.heap.objs.size := Heap.lt_size e
  refine mv.heap b o (fun m => ?_) (Heap.get?_push_of_some _ (Heap.get?_push_of_some _ e))
  rw [szI] at m
  rcases List.mem_cons.mp m with z | m
  · exact absurd z (Nat.ne_of_lt hb)
  · exact absurd (List.mem_singleton.mp m) (Nat.ne_of_lt (Nat.lt_succ_of_lt hb))
end
theorem kv_vals {κ : Type} : ∀ {kvs : List (κ × V)} {vs : List (κ × Value)}, KV kvs vs → Vals (kvs.map (·.2)) (vs.map (·.2))
  | _, _, .nil => .nil
  | _, _, .cons h r => .cons h.2 (kv_vals r)
section
variable {X : Cx}
def rSetI (K : PySem.W.Frag) (w : World) : List V → Hp → VK → Prop := fun xs H Q => ∃ (l : Addr) (ns : List Int), xs = [.ref l] ∧ SqL K H l (ns.map V.int) ∧ ns.length ≤ 100 ∧ ∀ p c, H p = none → c ≤ ns.length → Q (.ref p) (upd H p (SetO w p (fun j => decide (j ∈ ns)) c))
theorem call_setI (hc : X.calm = true) : CallR X (.type "set") (rSetI X.K X.w) := by
  intro pins s σ H xs us Q I r h
  obtain ⟨l, ns, rfl, hS, hl, q⟩ := h
  obtain rfl := Vals.ref1 r
  obtain ⟨its, rv, pl, hz⟩ := I.list hS
  have hi := rv.ints
  refine set_of_list (I.ok.hd hc) pl.isList (ns := ns) (by simpa using hi) (by unfold scanBound; omega) fun h2 tk c R hcl kp => ?_
  exact ⟨.ref s.heap.objs.size, _, I.laid (t' := tk) kp (Nat.le_refl _) (setO_new R), rfl, q _ c (I.hok.fresh (Nat.le_refl _)) hcl⟩
def tListVals (te : TE) : TE := fun σ H Q => te σ H fun x H1 => ∃ (d : Addr) (kvs : List (Key × V)), x = .ref d ∧ H1 d = some (.dK kvs) ∧ ∀ p, H1 p = none → Q (.ref p) (upd H1 p (.lst (kvs.map (·.2))))
theorem pe_listVals {e : Expr} {te : TE} {p apos cpos pos : Pos} (hc : X.calm = true) (he : PE X e te) (hg : Gl X "list") (hm : X.mg "list" = none) (hv : bootBuiltins "list" = some (.type "list") := by decide +kernel) (hbase : attributeBase e "values" X.env (eval e X.env) = eval e X.env := by rfl) (hline : (apos.endLine == cpos.line) = true := by rfl)
    (hs : starEach [.Call (.Attribute e "values" apos) [] [] cpos] X.env = (false, eval (.Call (.Attribute e "values" apos) [] [] cpos) X.env) :: starEach [] X.env := by rfl) :
    PE X (.Call (.Name "list" p) [.Call (.Attribute e "values" apos) [] [] cpos] [] pos) (tListVals te) := by
  refine ⟨fun pins s σ H Q I hq => ?_⟩
  refine wpAny_Call_Name_kw (ld_blt I hg hm hv (PyProof.Rows.callWith_type1 ?_ hs rfl))
  rw [hs]
  refine (show wpAny _ _ (spliced ((false, eval (.Call (.Attribute e "values" apos) [] [] cpos) X.env) :: backTo pos (starEach [] X.env))) _ _ s from Calls.spliced_cons ?_)
  refine wpAny_Call_method (T := "dict") (id := "dict.values") hbase rfl hline F.plainAttrs_dict F.slot_dict_values F.type_dict_values (thn (he.run pins s σ H _ I hq) fun u s1 ⟨x, H1, I1, rx, d, kvs, ex, hd, q⟩ => ?_)
  subst ex
  obtain rfl : u = Value.ref d := rx
  obtain ⟨hz, lo, vs, kv, hdo⟩ := I1.hok d _ hd
  obtain ⟨ep, hat⟩ := hdo.dictAt
  have lk : kvs.length = vs.length := Paired.length kv
  refine ⟨hdo.typeIs, hdo.mapOf.noDict, ?_⟩
  show wpAny _ _ (callWith cpos (.builtin "dict.values") [.ref d] [] []) _ X.xe s1
  refine method_meetsIn F.slot_dict_values F.entry_dict_values rfl (PySem.evalArgs_none ⟨rfl, hdo.typeIs, F.args_dict_values_1 _, _, meets_dict_values (mixKind X.prog X.w) d lo, ⟨vs, hdo⟩, ?_⟩)
  refine Calls.spliced_nil ?_
  have I2 : Inv X pins σ H1 { s1 with heap := s1.heap.push ⟨.type "dict_values", none, .fields #[.ref d], #[]⟩ } := I1.kept (t' := s1.toks) fun b o q => Heap.get?_push_of_some _ q
  refine PySem.W.kdl_call (PySem.W.kdl_values (knd := mixKind X.prog X.w) (kvs := vs) (ep := ep)) (I1.ok.hd hc) ⟨⟨_, Heap.get?_push_size _ rfl, rfl, rfl⟩, hat.push _⟩ (by rw [← lk]; exact hz) fun h2 tk acc c keep gS items => ?_
  have nS := I2.hok.fresh (Nat.le_refl _)
  refine ⟨.ref _, upd H1 _ (.lst (kvs.map (·.2))), I2.laid keep (Nat.le_refl _) (show ObjOk X.prog X.w _ _ _ (.lst (kvs.map (·.2))) from ⟨by rw [List.length_map]; exact hz, acc.toList, c, ?_, ?_⟩), rfl, q _ nS⟩
  · have el : acc.toList.length = acc.size := by simp
    rw [PySem.W.kdl_vals_eq (kvs := vs) acc.toList (by rw [el, items.1]) fun j v h2 => items.2 j v (by rw [← Array.getElem?_toList]; exact h2)]
    exact kv_vals kv
  · rw [Array.toArray_toList]; exact gS
end
end Lb

set_option Elab.async false
set_option linter.all false
set_option maxRecDepth 100000
set_option maxHeartbeats 4000000
namespace K60
open PySem L2 Lb
open C8 (pss_cut)
/-! rows of names as lists -/
def RowL (H : Hp) (a : Addr) (x : List Str) : Prop := H a = some (.lst (x.map V.str))
def RowsL (H : Hp) (r : Addr) (R : List (List Str)) : Prop := ∃ as : List Addr, H r = some (.lst (as.map V.ref)) ∧ Paired (RowL H) as R
theorem RowsL.same {H H' : Hp} {r : Addr} {R : List (List Str)} (h : RowsL H r R) (s : Same H H') : RowsL H' r R := let ⟨as, a, b⟩ := h; ⟨as, s _ _ a, Paired.imp b fun _ _ h => s _ _ h⟩
theorem row_pot {H : Hp} {p a : Addr} {x : List Str} (hp : PotAt H p) (h : RowL H a x) : a ≠ p := fun z => by
  obtain ⟨_, _, e, _⟩ := hp
  unfold RowL at h
  rw [z, e] at h
  cases x with
  | nil => cases h
  | cons _ _ => cases h
theorem refs_pot {H : Hp} {p r : Addr} {as : List Addr} (hp : PotAt H p) (h : H r = some (.lst (as.map V.ref))) : r ≠ p := fun z => by
  obtain ⟨_, _, e, _⟩ := hp
  rw [z, e] at h
  cases as with
  | nil => cases h
  | cons _ _ => cases h
theorem RowL.mov {H H' : Hp} {p a : Addr} {x : List Str} (h : RowL H a x) (m : Mov p H H') (hp : PotAt H p) : RowL H' a x := m.keep _ _ (row_pot hp h) h
theorem RowsL.mov {H H' : Hp} {p r : Addr} {R : List (List Str)} (h : RowsL H r R) (m : Mov p H H') (hp : PotAt H p) : RowsL H' r R :=
  let ⟨as, a, b⟩ := h; ⟨as, m.keep _ _ (refs_pot hp a) a, Paired.imp b fun _ _ h => RowL.mov h m hp⟩
/-! ranks -/
def kvI (ps : List (Str × Int)) : List (Key × V) := ps.map fun q => (Sum.inr q.1, V.int q.2)
def rk (ps : List (Str × Int)) (z : Str) : Int := ((ps.find? fun q => decide (q.1 = z)).map (·.2)).getD 0
theorem kvI_val : ∀ {ps : List (Str × Int)} {z : Str}, z ∈ ps.map (·.1) → valV (kvI ps) (Sum.inr z : Key) = some (.int (rk ps z))
  | [], z, h => by simp at h
  | q :: r, z, h => by
    unfold kvI valV rk
    rw [List.map_cons, List.find?_cons, List.find?_cons]
    by_cases e : q.1 = z
    · simp [e]
    · rw [show decide ((Sum.inr q.1 : Key) = Sum.inr z) = false by simp [e], show decide (q.1 = z) = false by simp [e]]
      have h' : z ∈ r.map (·.1) := by
        rw [List.map_cons] at h
        rcases List.mem_cons.mp h with z1 | h
        · exact absurd z1.symm e
        · exact h
      exact kvI_val h'
theorem put_new {κ : Type} [DecidableEq κ] {kvs : List (κ × V)} {k : κ} {v : V} (h : k ∉ kvs.map (·.1)) : putK kvs k v = kvs ++ [(k, v)] := by
  unfold putK
  rw [if_neg]
  intro w
  rw [List.any_eq_true] at w
  obtain ⟨x, hx, e⟩ := w
  exact h (List.mem_map.mpr ⟨x, hx, of_decide_eq_true e⟩)
theorem merge_nd : ∀ (more kvs : List (Key × V)), ((kvs ++ more).map (·.1)).Nodup → mergeK kvs more = kvs ++ more
  | [], kvs, _ => by simp [mergeK]
  | q :: r, kvs, h => by
    have hq : q.1 ∉ kvs.map (·.1) := fun m => by
      rw [List.map_append, List.nodup_append] at h
      exact h.2.2 _ m q.1 (by simp) rfl
    show mergeK (putK kvs q.1 q.2) r = _
    rw [put_new hq, merge_nd r (kvs ++ [(q.1, q.2)]) (by simpa using h)]
    simp
theorem kvI_nd {ps : List (Str × Int)} (h : (ps.map (·.1)).Nodup) : mergeK [] (kvI ps) = kvI ps := by
  rw [merge_nd _ []]
  · rfl
  · rw [List.nil_append]
    unfold kvI
    rw [List.map_map]
    have e : ((fun q : Key × V => q.1) ∘ fun q : Str × Int => ((Sum.inr q.1 : Key), V.int q.2)) = fun q => (Sum.inr q.1 : Key) := rfl
    rw [e, List.Nodup, List.pairwise_map]
    rw [List.Nodup, List.pairwise_map] at h
    exact h.imp fun {a b} n z => n (by simpa using z)
theorem rk_at : ∀ {ps : List (Str × Int)}, (ps.map (·.1)).Nodup → ∀ q ∈ ps, rk ps q.1 = q.2
  | [], _, q, h => nomatch h
  | a :: r, hn, q, h => by
    rw [List.map_cons, List.nodup_cons] at hn
    unfold rk
    rw [List.find?_cons]
    rcases List.mem_cons.mp h with rfl | h
    · simp
    · have : ¬ a.1 = q.1 := fun z => hn.1 (z ▸ List.mem_map.mpr ⟨q, h, rfl⟩)
      rw [show decide (a.1 = q.1) = false by simp [this]]
      exact rk_at hn.2 q h
/-- rows by ranks -/
def byR (ps : List (Str × Int)) (zs : List Str) (rs : List Int) : List (List Str) := rs.map fun r => zs.filter fun z => decide (rk ps z = r)
theorem byR_perm (ps : List (Str × Int)) (zs : List Str) : ∀ {rs : List Int}, rs.Nodup → (byR ps zs rs).flatten.Perm (zs.filter fun z => decide (rk ps z ∈ rs))
  | [], _ => by simp [byR]
  | r :: rs, h => by
    rw [List.nodup_cons] at h
    have ih := byR_perm ps zs (rs := rs) h.2
    show (zs.filter (fun z => decide (rk ps z = r)) ++ (byR ps zs rs).flatten).Perm _
    refine (List.Perm.append_left _ ih).trans ?_
    have q := List.filter_append_perm (fun z => decide (rk ps z = r)) (zs.filter fun z => decide (rk ps z ∈ r :: rs))
    rw [List.filter_filter, List.filter_filter] at q
    refine List.Perm.trans ?_ q
    rw [show (zs.filter fun a => decide (rk ps a = r) && decide (rk ps a ∈ r :: rs)) = zs.filter fun z => decide (rk ps z = r) from List.filter_congr fun z _ => by by_cases e : rk ps z = r <;> simp [e],
      show (zs.filter fun a => (!decide (rk ps a = r)) && decide (rk ps a ∈ r :: rs)) = zs.filter fun z => decide (rk ps z ∈ rs) from List.filter_congr fun z _ => by
        by_cases e : rk ps z = r
        · have : r ∉ rs := h.1
          simp [e, this]
        · simp [e]]
theorem byR_all {ps : List (Str × Int)} {zs : List Str} {rs : List Int} (hn : rs.Nodup) (h : ∀ z ∈ zs, rk ps z ∈ rs) : (byR ps zs rs).flatten.Perm zs := by
  have := byR_perm ps zs hn
  rw [List.filter_eq_self.mpr fun z hz => decide_eq_true (h z hz)] at this
  exact this
theorem byR_each {ps : List (Str × Int)} {zs : List Str} {rs : List Int} (h : ∀ r ∈ rs, ∃ z ∈ zs, rk ps z = r) : ∀ x ∈ byR ps zs rs, x ≠ [] := fun x hx => by
  obtain ⟨r, hr, rfl⟩ := List.mem_map.mp hx
  obtain ⟨z, hz, e⟩ := h r hr
  intro w
  have : z ∈ zs.filter fun z => decide (rk ps z = r) := List.mem_filter.mpr ⟨hz, decide_eq_true e⟩
  rw [w] at this
  cases this
def PairT (H : Hp) (t : Addr) (q : Str × Int) : Prop := H t = some (.tup [.str q.1, .int q.2])
theorem pairs_kv {K : PySem.W.Frag} {H : Hp} : ∀ {ts : List Addr} {ps : List (Str × Int)}, Paired (PairT H) ts ps → Paired (fun (t : Addr) (kv : Key × V) => SqT K H t [kV kv.1, kv.2]) ts (kvI ps)
  | _, _, .nil => .nil
  | _, _, .cons h r => .cons (SqT.of h) (pairs_kv r)
theorem bd_small {z : Int} (h : z.natAbs < 1000) : Bd 200 z := Nat.lt_of_lt_of_le (show z.natAbs < 2 ^ 10 by omega) (Nat.pow_le_pow_right (by decide) (by decide))
def unS : V → Str
  | .str z => z
  | _ => Str.empty
theorem perm_strs {ys : List V} {zs : List Str} (h : ys.Perm (zs.map V.str)) : ∃ ws : List Str, ys = ws.map V.str ∧ ws.Perm zs := by
  refine ⟨ys.map unS, ?_, ?_⟩
  · rw [List.map_map]
    refine (List.map_id' ys).symm.trans (List.map_congr_left fun v hv => ?_)
    obtain ⟨z, _, rfl⟩ := List.mem_map.mp (h.mem_iff.mp hv)
    rfl
  · have := h.map unS
    rw [List.map_map] at this
    rw [show zs.map (unS ∘ V.str) = zs from (List.map_congr_left fun _ _ => rfl).trans (List.map_id' zs)] at this
    exact this
def ixs (ws : List Str) : List (Str × Int) := ws.zipIdx.map fun q => (q.1, (q.2 : Int))
theorem ixs_len (ws : List Str) : (ixs ws).length = ws.length := by unfold ixs; rw [List.length_map, List.length_zipIdx]
theorem ixs_fst (ws : List Str) : (ixs ws).map (·.1) = ws := by unfold ixs; rw [List.map_map]; exact List.zipIdx_map_fst 0 ws
theorem ixs_at {ws : List Str} {i : Nat} {z : Str} (h : ws[i]? = some z) : (ixs ws)[i]? = some (z, (i : Int)) := by
  unfold ixs
  rw [List.getElem?_map, List.getElem?_zipIdx, h]
  simp
theorem ne_of_none' {H : Hp} {a b : Addr} {o : HO} (h : H a = none) (e : H b = some o) : a ≠ b := fun z => by rw [z, e] at h; cases h
theorem paired_mem {α β : Type} {F G : α → β → Prop} : ∀ {xs : List α} {ys : List β}, Paired F xs ys → (∀ x y, x ∈ xs → F x y → G x y) → Paired G xs ys
  | _, _, .nil, _ => .nil
  | _, _, .cons h r, k => .cons (k _ _ List.mem_cons_self h) (paired_mem r fun x y hx => k x y (List.mem_cons_of_mem _ hx))
def sp_levels_l : Sp := fun vs H Q _ => ∃ (p l : Addr) (zs : List Str), vs = [.ref p, .ref l] ∧ PotAt H p ∧ RowL H l zs ∧ zs.Nodup ∧ 1 ≤ zs.length ∧ zs.length ≤ 8 ∧
  ∀ H' r R, Mov p H H' → H r = none → RowsL H' r R → R.flatten.Perm zs → (∀ x ∈ R, x ≠ []) → Q (.ref r) H'
section
variable {P : Program} {w : World} {K : PySem.W.Frag} {mg : Str → Option Value} {base : Heap} {a : Ad}
theorem ok_levels (T : Txt K mg a) : FnOk P w K mg base CX0 3 a.f_levels a.d_levels ["_law_pot_here", "_law_nodes"] sp_levels_l := by
  refine T.F_levels.ok sc_levels (fun vs H Q E h => ?_) (fun cdv A outer s H vs Q E hr h => ?_)
  · obtain ⟨p, l, zs, rfl, _⟩ := h
    rfl
  · obtain ⟨p, l, zs, rfl, hp, hl, hnd, h1, h8, k⟩ := h
    refine ⟨_, (pss_cons (ps_set (i := 2) sc_levels.nd rfl (by first | exact Or.inl rfl | exact Or.inr rfl) (pe_callTy (call_dictP rfl) (by rfl) T.b_dict (by decide +kernel) (pa_cons (pe_lc (own := [("_law_node", 3)]) (by rfl) sc_levels.nd (pi_listK (K := K) rfl (pv 1)) (blkOk_by (own := [("_law_node", 3)]) (N := ["_law_pot_here", "_law_nodes", "_law_ranks_of", "_law_node", "_law_rank", "_law_found"]) (sc := defScope s_levels) (by decide +kernel)) (fun _ _ _ _ _ => (pg_name (i := 3) sc_levels.nd rfl (by first | exact Or.inl rfl | exact Or.inr rfl))) (fun _ _ _ _ _ => pts_nil) (fun _ _ _ _ _ => (pe_tup (pa_cons (pv 3) (pa_cons (pe_call (ok_draw T) (hr.mono (by decide)) (by rfl) T.m_draw T.F_draw.kp (b_draw T) .nil pass0 (pa_cons (pv 0) (pa_cons (pe_op op_add pe_int (pe_call (ok_draw T) (hr.mono (by decide)) (by rfl) T.m_draw T.F_draw.kp (b_draw T) .nil pass0 (pa_cons (pv 0) (pa_cons (pe_callB (call_lenK (K := K) rfl) (by rfl) T.b_len (by decide +kernel) (pa_cons (pv 1) pa_nil)) pa_nil)))) pa_nil))) pa_nil))))) pa_nil)))
 (pss_cut (ps_if (pt_cmpR op_eq (pe_call (ok_draw T) (hr.mono (by decide)) (by rfl) T.m_draw T.F_draw.kp (b_draw T) .nil pass0 (pa_cons (pv 0) (pa_cons pe_int pa_nil))) pe_int (nomark _)) (pss_one (ps_set (i := 2) sc_levels.nd rfl (by first | exact Or.inl rfl | exact Or.inr rfl) (pe_callTy (call_dictP rfl) (by rfl) T.b_dict (by decide +kernel) (pa_cons (pe_lc (own := [("_law_rank", 4), ("_law_node", 3)]) (by rfl) sc_levels.nd (pi_enum (by rfl) T.b_enumerate (pa_cons (pe_call (ok_shuffled T) (hr.mono (by decide)) (by rfl) T.m_shuffled T.F_shuffled.kp (b_shuffled T) .nil pass0 (pa_cons (pv 0) (pa_cons (pv 1) pa_nil))) pa_nil)) (blkOk_by (own := [("_law_rank", 4), ("_law_node", 3)]) (N := ["_law_pot_here", "_law_nodes", "_law_ranks_of", "_law_node", "_law_rank", "_law_found"]) (sc := defScope s_levels) (by decide +kernel)) (fun _ _ _ _ _ => (pg_tupK (K := K) (n := 2) rfl rfl (pgs_cons (pg_name (i := 4) sc_levels.nd rfl (by first | exact Or.inl rfl | exact Or.inr rfl)) (pgs_cons (pg_name (i := 3) sc_levels.nd rfl (by first | exact Or.inl rfl | exact Or.inr rfl)) pgs_nil)))) (fun _ _ _ _ _ => pts_nil) (fun _ _ _ _ _ => (pe_tup (pa_cons (pv 3) (pa_cons (pv 4) pa_nil))))) pa_nil)))) pss_nil)
 (pss_cons (ps_set (i := 5) sc_levels.nd rfl (by first | exact Or.inl rfl | exact Or.inr rfl) (pe_lst pa_nil))
 (pss_cons (ps_for PassesOwn.never rfl (pi_listK (K := K) rfl (pe_revL (pe_callB (cr_sortedSet rfl) (by rfl) T.b_sorted (by decide +kernel) (pa_cons (pe_callTy (call_setI rfl) (by rfl) T.b_set (by decide +kernel) (pa_cons (pe_listVals rfl (pv 2) (by rfl) T.b_list) pa_nil)) pa_nil)))) (pg_name (i := 4) sc_levels.nd rfl (by first | exact Or.inl rfl | exact Or.inr rfl)) (pss_one (ps_expr (pe_bm PySem.F.plainAttrs_list PySem.F.slot_list_append PySem.F.type_list_append mt_append (pv 5) (pa_cons (pe_lc (own := [("_law_node", 3)]) (by rfl) sc_levels.nd (pi_listK (K := K) rfl (pv 1)) (blkOk_by (own := [("_law_node", 3)]) (N := ["_law_pot_here", "_law_nodes", "_law_ranks_of", "_law_node", "_law_rank", "_law_found"]) (sc := defScope s_levels) (by decide +kernel)) (fun _ _ _ _ _ => (pg_name (i := 3) sc_levels.nd rfl (by first | exact Or.inl rfl | exact Or.inr rfl))) (fun _ _ _ _ _ => pts_one (pt_cmpR op_eq (pe_dget (hu_of hr) (pv 2) (pv 3) (fun _ _ => rfl)) (pv 4) (nomark _))) (fun _ _ _ _ _ => (pv 3))) pa_nil)))))
 (pss_one (ps_ret (pv 5))))))), ?_⟩
    have hl0 : H l = some (.lst (zs.map V.str)) := hl
    have hpl := row_pot hp hl
    refine ⟨_, rfl, l, rfl, ⟨_, SqL.of hl0⟩, fun D0 hD0 => ?_⟩
    have nD0 : D0 ≠ p := fun z => by obtain ⟨_, _, e, _⟩ := hp; rw [z, e] at hD0; cases hD0
    refine lc_list (K := K) (a := l) (xs := zs.map V.str) (fun i H' => Mov p H H' ∧ ∃ (ts : List Addr) (ps : List (Str × Int)), H' D0 = some (.lst (ts.map V.ref)) ∧ Paired (PairT H') ts ps ∧ ps.map (·.1) = zs.take i)
      ⟨mov_upd (Mov.refl hp) hp hD0, [], [], upd_same, .nil, rfl⟩ (fun i H' _ b => SqL.of (RowL.mov hl b.1 hp)) ?_ ?_
    · rintro i v H2 hv ⟨M2, ts, ps, e2, pr, hps⟩
      rw [List.getElem?_map] at hv
      obtain ⟨y, hy, rfl⟩ : ∃ y, zs[i]? = some y ∧ V.str y = v := by
        cases h : zs[i]? with
        | none => rw [h] at hv; cases hv
        | some y => rw [h] at hv; exact ⟨y, rfl, by simpa using hv⟩
      refine ⟨rfl, _, rfl, _, rfl, _, rfl, _, rfl, l, _, rfl, .inl (SqL.of (RowL.mov hl M2 hp)), p, _, rfl, M2.pot, by rw [List.length_map]; omega, by rw [List.length_map]; exact bd_small (by omega), fun H3 d1 m3 a0 a1 => ⟨_, _, rfl, rfl, p, _, rfl, m3.pot, by omega, ?_, fun H4 d2 m4 b0 b1 => ⟨sz, fun t ht => ?_⟩⟩⟩
      · rw [List.length_map] at a1
        exact bd_small (by omega)
      have m24 := m3.trans m4
      have e4 := m24.keep _ _ nD0 e2
      have pr4 := Paired.imp pr fun _ _ h => m24.tup M2.pot h
      generalize e_H5 : upd _ t _ = H5
      obtain ⟨s5, f5⟩ := al3 e_H5 ht
      clear e_H5
      (try dsimp only at f5)
      have e5 := s5 _ _ e4
      refine ⟨_, e5, ?_, mov_upd ((M2.trans m24).same s5) hp hD0, ts ++ [t], ps ++ [(y, d2)], by rw [upd_same, List.map_append]; rfl, ?_, ?_⟩
      · rw [List.length_map, Paired.len pr]
        have := congrArg List.length hps
        rw [List.length_map, List.length_take] at this
        exact szlt (by omega)
      · have up : ∀ {b : Addr} {q : Str × Int}, PairT H5 b q → PairT (upd H5 D0 (.lst (ts.map V.ref ++ [V.ref t]))) b q := fun {b q} h => by
          unfold PairT at h ⊢
          rw [upd_ne (ne_of h e5 (fun z => nomatch z))]
          exact h
        exact Paired.snoc (up (q := (y, d2)) f5) (Paired.imp pr4 fun _ _ h => up (s5 _ _ h))
      · rw [List.map_append, hps]
        exact take_snoc hy
    rintro H2 ⟨M2, ts, ps, e2, pr, hps⟩
    rw [List.length_map, List.take_length] at hps
    refine ⟨D0, ts, kvI ps, rfl, SqL.of e2, pairs_kv pr, fun D hD => ?_⟩
    rw [kvI_nd (by rw [hps]; exact hnd)]
    have M2D := mov_upd (o := .dK (kvI ps)) M2 hp (M2.free hp hD)
    refine ⟨fun σ H' => ∃ (D : Addr) (ps : List (Str × Int)), σ = [some (.ref p), some (.ref l), some (.ref D), none, none, none] ∧ Mov p H H' ∧ H' D = some (.dK (kvI ps)) ∧ (ps.map (·.1)).Perm zs, ?_, ?_⟩
    · refine ⟨_, rfl, p, _, rfl, M2D.pot, by decide, by unfold Bd; decide, fun H3 d M3 a0 a1 => ⟨rfl, _, rfl, ite2 (fun _ => ?_) (fun _ => ?_)⟩⟩
      · have M23 := M2D.trans M3
        refine ⟨_, rfl, _, rfl, p, l, _, rfl, M3.pot, RowL.mov hl M23 hp, hpl, by rw [List.length_map]; omega, fun H4 m ys M4 perm hm em => ?_⟩
        obtain ⟨ws, rfl, pw⟩ := perm_strs perm
        have M24 := M23.trans M4
        have wl : ws.length = zs.length := pw.length_eq
        refine ⟨m, _, rfl, SqL.of em, fun D1 hD1 => ?_⟩
        refine lc_it walk_enum (fun i H' => Same H4 H' ∧ ∃ ts : List Addr, H' D1 = some (.lst (ts.map V.ref)) ∧ Paired (PairT H') ts ((ixs ws).take i)) ⟨Lb.Same.upd hD1, [], upd_same, .nil⟩ (fun i H' _ b => SqL.of (b.1 _ _ em)) ?_ ?_
        · rintro i v H5 H6 hi ⟨s5, ts, e5, pr5⟩ ⟨T0, x, y, rfl, hT0, rfl, ex, ey⟩
          cases ex
          have ey : (ws.map V.str)[i]? = some y := ey
          rw [List.getElem?_map] at ey
          obtain ⟨z, hz, rfl⟩ : ∃ z, ws[i]? = some z ∧ V.str z = y := by
            cases h : ws[i]? with
            | none => rw [h] at ey; cases ey
            | some z => rw [h] at ey; exact ⟨z, rfl, by simpa using ey⟩
          generalize e_H7 : upd _ T0 _ = H7
          obtain ⟨s7, f7⟩ := al3 e_H7 hT0
          clear e_H7
          (try dsimp only at f7)
          refine ⟨T0, _, rfl, SqT.of f7, rfl, _, _, rfl, _, _, rfl, rfl, rfl, _, rfl, _, rfl, sz, fun t ht => ?_⟩
          generalize e_H8 : upd _ t _ = H8
          obtain ⟨s8, f8⟩ := al3 e_H8 ht
          clear e_H8
          (try dsimp only at f8)
          have s58 := s7.trans s8
          have e8 := s58 _ _ e5
          have li : ((ixs ws).take i).length ≤ 8 := by rw [List.length_take, ixs_len]; omega
          refine ⟨_, e8, szlt (by rw [List.length_map, Paired.len pr5]; omega), Lb.Same.updl (s5.trans s58) hD1, ts ++ [t], by rw [upd_same, List.map_append]; rfl, ?_⟩
          have up : ∀ {b : Addr} {q : Str × Int}, PairT H8 b q → PairT (upd H8 D1 (.lst (ts.map V.ref ++ [V.ref t]))) b q := fun {b q} h => by
            unfold PairT at h ⊢
            rw [upd_ne (ne_of h e8 (fun z => nomatch z))]
            exact h
          rw [← take_snoc (ixs_at hz)]
          exact Paired.snoc (up (q := (z, (i : Int))) f8) (Paired.imp pr5 fun _ _ h => up (s58 _ _ h))
        rintro H5 ⟨s5, ts, e5, pr5⟩
        rw [List.length_map, show ws.length = (ixs ws).length from (ixs_len ws).symm, List.take_length] at pr5
        refine ⟨D1, ts, kvI (ixs ws), rfl, SqL.of e5, pairs_kv pr5, fun D2 hD2 => ?_⟩
        rw [kvI_nd (by rw [ixs_fst]; exact pw.nodup_iff.mpr hnd)]
        exact ⟨D2, ixs ws, rfl, M24.same (s5.trans (Lb.Same.upd hD2)), upd_same, by rw [ixs_fst]; exact pw⟩
      · have ed : H3 D = some (.dK (kvI ps)) := M3.keep _ _ (fun z => by obtain ⟨_, _, e, _⟩ := M2D.pot; rw [z, upd_same] at e; cases e) upd_same
        exact ⟨D, ps, rfl, M2D.trans M3, ed, by rw [hps]⟩
    rintro σ H3 ⟨D, ps, rfl, M3, eD, pp⟩
    have npD : D ≠ p := fun z => by obtain ⟨_, _, e, _⟩ := M3.pot; rw [z, e] at eD; cases eD
    have lps : ps.length ≤ 8 := by have := pp.length_eq; rw [List.length_map] at this; omega
    refine ⟨sz, fun fl hfl => ?_⟩
    have hflH := M3.free hp hfl
    generalize e_H4 : upd _ fl _ = H4
    obtain ⟨s4, f4⟩ := al3 e_H4 hfl
    clear e_H4
    (try dsimp only at f4)
    refine ⟨_, rfl, D, _, rfl, s4 _ _ eD, fun v1 hv1 => ?_⟩
    have hvals : (kvI ps).map (·.2) = (ps.map (·.2)).map V.int := by unfold kvI; rw [List.map_map, List.map_map]; rfl
    rw [hvals]
    generalize e_H5 : upd _ v1 _ = H5
    obtain ⟨s5, f5⟩ := al3 e_H5 hv1
    clear e_H5
    (try dsimp only at f5)
    refine ⟨v1, ps.map (·.2), rfl, SqL.of f5, by rw [List.length_map]; omega, fun t1 c ht1 hc => ?_⟩
    rw [List.length_map] at hc
    generalize e_H6 : upd _ t1 _ = H6
    obtain ⟨s6, f6⟩ := al3 e_H6 ht1
    clear e_H6
    (try dsimp only at f6)
    refine ⟨t1, _, c, rfl, f6, by omega, fun ns n1 pw mem ln hn1 => ?_⟩
    generalize e_H7 : upd _ n1 _ = H7
    obtain ⟨s7, f7⟩ := al3 e_H7 hn1
    clear e_H7
    (try dsimp only at f7)
    refine ⟨n1, _, rfl, SqL.of f7, fun r1 hr1 => ?_⟩
    generalize e_H8 : upd _ r1 _ = H8
    obtain ⟨s8, f8⟩ := al3 e_H8 hr1
    clear e_H8
    (try dsimp only at f8)
    have s48 := ((s5.trans s6).trans s7).trans s8
    have f4' := s48 _ _ f4
    have nfr : r1 ≠ fl := ne_of_none' hr1 (((s5.trans s6).trans s7) _ _ f4)
    have hnd2 : (ps.map (·.1)).Nodup := pp.nodup_iff.mpr hnd
    rw [← List.map_reverse] at f8
    generalize hrs : ns.reverse = rs at f8
    have rmem : ∀ r, r ∈ rs ↔ r ∈ ps.map (·.2) := fun r => by rw [← hrs, List.mem_reverse, mem r]; simp
    have rnd : rs.Nodup := by
      rw [← hrs]
      exact (List.reverse_perm ns).nodup_iff.mpr (pw.imp fun {a b} h => Int.ne_of_lt h)
    refine ⟨r1, rfl, ⟨_, SqL.of f8⟩, ?_⟩
    have M8 := (M3.same s4).same s48
    refine for_list (K := K) (a := r1) (xs := rs.map V.int) (fun i σ H' => ∃ u4, σ = [some (.ref p), some (.ref l), some (.ref D), none, u4, some (.ref fl)] ∧ (∀ b o, b ≠ fl → H8 b = some o → H' b = some o) ∧ ∃ as : List Addr, H' fl = some (.lst (as.map V.ref)) ∧ Paired (RowL H') as (byR ps zs (rs.take i)) ∧ ∀ b ∈ as, b ≠ fl)
      ⟨_, rfl, fun _ _ _ e => e, [], f4', .nil, fun _ h => nomatch h⟩ (fun i σ H' _ ⟨u4, _, kb, _⟩ => SqL.of (kb _ _ nfr f8)) ?_ ?_
    · rintro i v σ H9 hv ⟨u4, rfl, kb, as, ef, pr, nf⟩
      rw [List.getElem?_map] at hv
      obtain ⟨r, hr0, rfl⟩ : ∃ r, rs[i]? = some r ∧ V.int r = v := by
        cases h : rs[i]? with
        | none => rw [h] at hv; cases hv
        | some r => rw [h] at hv; exact ⟨r, rfl, by simpa using hv⟩
      have nlf : l ≠ fl := fun z => by rw [z] at hl0; rw [hflH] at hl0; cases hl0
      have nDf : D ≠ fl := fun z => by rw [z] at eD; exact absurd eD (by intro e; have := s4 _ _ e; rw [f4] at this; cases this)
      have hl9 : H9 l = some (.lst (zs.map V.str)) := kb _ _ nlf (RowL.mov hl M8 hp)
      have hD9 : H9 D = some (.dK (kvI ps)) := kb _ _ nDf (s48 _ _ (s4 _ _ eD))
      refine ⟨_, rfl, .inl ⟨rfl, _, SqL.of ef⟩, _, rfl, l, rfl, ⟨_, SqL.of hl9⟩, fun D3 hD3 => ?_⟩
      refine lc_list (K := K) (a := l) (xs := zs.map V.str) (fun j H' => Same H9 H' ∧ H' D3 = some (.lst (((zs.take j).filter fun z => decide (rk ps z = r)).map V.str))) ⟨Lb.Same.upd hD3, upd_same⟩ (fun j H' _ b => SqL.of (b.1 _ _ hl9)) ?_ ?_
      · rintro j v H10 hv ⟨s10, e10⟩
        rw [List.getElem?_map] at hv
        obtain ⟨z, hz, rfl⟩ : ∃ z, zs[j]? = some z ∧ V.str z = v := by
          cases h : zs[j]? with
          | none => rw [h] at hv; cases hv
          | some z => rw [h] at hv; exact ⟨z, rfl, by simpa using hv⟩
        have hzm : z ∈ ps.map (·.1) := pp.mem_iff.mpr (List.mem_of_getElem? hz)
        have hjl := (List.getElem?_eq_some_iff.mp hz).1
        refine ⟨rfl, _, rfl, _, rfl, D, _, rfl, (kvI_val hzm) ▸ DGet.k (k := Sum.inr z) (s10 _ _ hD9), _, rfl, rfl, _, rfl, ?_⟩
        rw [show decide (V.int (rk ps z) = V.int r) = decide (rk ps z = r) by simp]
        by_cases hr1 : rk ps z = r
        · rw [decide_eq_true hr1]
          refine iteT ⟨_, rfl, _, e10, szlt (by rw [List.length_map]; exact Nat.le_trans (List.length_filter_le _ _) (by rw [List.length_take]; omega)), Lb.Same.updl s10 hD3, ?_⟩
          rw [upd_same, ← take_snoc hz, List.filter_append, List.filter_cons, if_pos (by simp [hr1]), List.filter_nil, List.map_append]
          rfl
        · rw [decide_eq_false hr1]
          refine iteF ⟨s10, ?_⟩
          rw [← take_snoc hz, List.filter_append, List.filter_cons, if_neg (by simp [hr1]), List.filter_nil, List.append_nil]
          exact e10
      rintro H10 ⟨s10, e10⟩
      rw [List.length_map, List.take_length] at e10
      have ef10 := s10 _ _ ef
      have n3f : D3 ≠ fl := ne_of_none' hD3 ef
      have lrs : rs.length ≤ 8 := by
        rw [← hrs, List.length_reverse]
        omega
      refine ⟨fl, _, _, rfl, rfl, ef10, szlt (by rw [List.length_map, Paired.len pr]; unfold byR; rw [List.length_map, List.length_take]; omega), _, rfl, fun b o nb e => ?_, as ++ [D3], by rw [upd_same, List.map_append]; rfl, ?_, fun b hb => ?_⟩
      · rw [upd_ne nb]
        exact s10 _ _ (kb b o nb e)
      · have up : ∀ {b : Addr} {x : List Str}, b ≠ fl → RowL H10 b x → RowL (upd H10 fl (.lst (as.map V.ref ++ [V.ref D3]))) b x := fun {b x} n h => by
          unfold RowL at h ⊢
          rw [upd_ne n]
          exact h
        rw [show byR ps zs (rs.take (i + 1)) = byR ps zs (rs.take i) ++ [zs.filter fun z => decide (rk ps z = r)] by unfold byR; rw [← take_snoc hr0, List.map_append]; rfl]
        exact Paired.snoc (up n3f e10) (paired_mem pr fun b x hb h => up (nf b hb) (s10 _ _ h))
      · rcases List.mem_append.mp hb with hb | hb
        · exact nf b hb
        · rw [List.mem_singleton.mp hb]; exact n3f
    · rintro σ H9 ⟨u4, rfl, kb, as, ef, pr, nf⟩
      rw [List.length_map, List.take_length] at pr
      refine ⟨_, rfl, k H9 fl (byR ps zs rs) ?_ hflH ⟨as, ef, pr⟩ (byR_all rnd fun z hz => ?_) (byR_each fun r hr0 => ?_)⟩
      · refine ⟨fun b o nb e => kb b o (fun z => by rw [z, hflH] at e; cases e) (M8.keep b o nb e), ?_⟩
        obtain ⟨x, y, e, q⟩ := M8.pot
        exact ⟨x, y, kb p _ (fun z => by rw [z, f4'] at e; cases e) e, q⟩
      · have : z ∈ ps.map (·.1) := pp.mem_iff.mpr hz
        obtain ⟨q, hq, rfl⟩ := List.mem_map.mp this
        rw [rk_at hnd2 q hq]
        exact (rmem _).mpr (List.mem_map.mpr ⟨q, hq, rfl⟩)
      · obtain ⟨q, hq, rfl⟩ := List.mem_map.mp ((rmem r).mp hr0)
        exact ⟨q.1, pp.mem_iff.mp (List.mem_map.mpr ⟨q, hq, rfl⟩), rk_at hnd2 q hq⟩
end
end K60

set_option Elab.async false
set_option linter.all false
set_option maxRecDepth 100000
set_option maxHeartbeats 4000000
/-! [f(x) for x in ..], each of it found from one of the other's -/
namespace Lb
open PySem PySem.Spec PyProof.Rows L2
theorem paired_mono {α β : Type} {F G : α → β → Prop} (h : ∀ a b, F a b → G a b) : ∀ {l : List α} {m : List β}, Paired F l m → Paired G l m
  | _, _, .nil => .nil
  | _, _, .cons r t => .cons (h _ _ r) (paired_mono h t)
theorem paired_snoc {α β : Type} {F : α → β → Prop} {x : α} {y : β} (r : F x y) : ∀ {l : List α} {m : List β}, Paired F l m → Paired F (l ++ [x]) (m ++ [y])
  | _, _, .nil => .cons r .nil
  | _, _, .cons q t => .cons q (paired_snoc r t)
/-- what is known after i steps -/
def MapP (R : V → V → Hp → Prop) (H1 : Hp) (D : Addr) (xs : List V) (i : Nat) (H : Hp) : Prop :=
  Same H1 H ∧ ∃ acc, H D = some (.lst acc) ∧ acc.length = i ∧ Paired (fun x y => R x y H) (xs.take i) acc
section
variable {K : PySem.W.Frag} {a D : Addr} {xs : List V} {g : TG} {te : TE} {vs : List Nat} {σ : L2.St} {H1 : Hp} {Qd : Hp → Prop} (R : V → V → Hp → Prop)
theorem mapP (hR : ∀ x y H H', Same H H' → R x y H → R x y H') (hU : ∀ x y H acc o, H D = some (.lst acc) → R x y H → R x y (upd H D o)) (hD : H1 D = none) (hlen : xs.length ≤ 1000)
    (hs : ∀ (i : Nat) (x : V) (H : Hp), xs[i]? = some x → Same H1 H → ∀ Q' : VK, (∀ y H4, Same H H4 → R x y H4 → Q' y H4) → g x (wipe σ vs) H fun σ2 H2 => wipe σ2 vs = wipe σ vs ∧ te σ2 H2 Q') (i : Nat) (x : V) (H : Hp) (e : xs[i]? = some x)
    (p : MapP R H1 D xs i H) :
    g x (wipe σ vs) H fun σ2 H2 => wipe σ2 vs = wipe σ vs ∧ tYes σ2 H2 fun b H3 =>
      if b = true then te σ2 H3 fun y H4 => ∃ acc, H4 D = some (.lst acc) ∧ acc.length < sizeLine ∧ MapP R H1 D xs (i + 1) (upd H4 D (.lst (acc ++ [y]))) else MapP R H1 D xs (i + 1) H3 := by
  obtain ⟨s, acc, ed, el, pr⟩ := p
  have hi : i < xs.length := by
    rcases Nat.lt_or_ge i xs.length with h | h
    · exact h
    · rw [List.getElem?_eq_none h] at e
      cases e
  refine hs i x H e s (fun y H4 => ∃ acc, H4 D = some (.lst acc) ∧ acc.length < sizeLine ∧ MapP R H1 D xs (i + 1) (upd H4 D (.lst (acc ++ [y])))) fun y H4 s4 r4 => ?_
  refine ⟨acc, s4 _ _ ed, szlt (by omega), fun b o eb => ?_, _, upd_same, by simp [el], ?_⟩
  · have nb : b ≠ D := ne_of_none eb hD
    rw [upd_ne nb]
    exact s4 _ _ (s _ _ eb)
  · have et : xs.take (i + 1) = xs.take i ++ [x] := by simp [List.take_add_one, e]
    rw [et]
    exact paired_snoc (F := fun u z => R u z (upd H4 D (.lst (acc ++ [y])))) (hU _ _ _ _ _ (s4 _ _ ed) r4) (paired_mono (fun x y r => hU _ _ _ _ _ (s4 _ _ ed) (hR _ _ _ _ s4 r)) pr)
/-- over a tuple -/
theorem map_tup (hR : ∀ x y H H', Same H H' → R x y H → R x y H') (hU : ∀ x y H acc o, H D = some (.lst acc) → R x y H → R x y (upd H D o)) (hD : H1 D = none) (hlen : xs.length ≤ 1000) (hS : SqT K H1 a xs)
    (hs : ∀ (i : Nat) (x : V) (H : Hp), xs[i]? = some x → Same H1 H → ∀ Q' : VK, (∀ y H4, Same H H4 → R x y H4 → Q' y H4) → g x (wipe σ vs) H fun σ2 H2 => wipe σ2 vs = wipe σ vs ∧ te σ2 H2 Q')
    (hd : ∀ H ys, Same H1 H → H D = some (.lst ys) → Paired (fun x y => R x y H) xs ys → Qd H) :
    ∃ W : Nat → Nat → Hp → Prop, (∃ m, W 0 m (upd H1 D (.lst []))) ∧ ∀ i m H, W i m H →
      ((Itt K a).stop i H ∧ Qd H) ∨ ((Itt K a).go i H ∧ ∃ Nx : Hp → Prop, (∀ H', Nx H' → ∃ m', m' < m ∧ W (i + 1) m' H') ∧ ∀ x H', (Itt K a).yld i H x H' → g x (wipe σ vs) H' fun σ2 H2 => wipe σ2 vs = wipe σ vs ∧ tYes σ2 H2 fun b H3 =>
        if b = true then te σ2 H3 fun y H4 => ∃ acc, H4 D = some (.lst acc) ∧ acc.length < sizeLine ∧ Nx (upd H4 D (.lst (acc ++ [y]))) else Nx H3) :=
  lc_tup (Qd := Qd) (MapP R H1 D xs) ⟨upd_same_hp (Same.refl H1) hD, [], upd_same, rfl, .nil⟩ (fun i H _ p => SqT.ext hS p.1) (fun i x H e p => mapP R hR hU hD hlen hs i x H e p)
    fun H p => let ⟨s, acc, ed, el, pr⟩ := p; hd H acc s ed (by rw [List.take_length] at pr; exact pr)
/-- over a list -/
theorem map_lst (hR : ∀ x y H H', Same H H' → R x y H → R x y H') (hU : ∀ x y H acc o, H D = some (.lst acc) → R x y H → R x y (upd H D o)) (hD : H1 D = none) (hlen : xs.length ≤ 1000) (hS : SqL K H1 a xs)
    (hs : ∀ (i : Nat) (x : V) (H : Hp), xs[i]? = some x → Same H1 H → ∀ Q' : VK, (∀ y H4, Same H H4 → R x y H4 → Q' y H4) → g x (wipe σ vs) H fun σ2 H2 => wipe σ2 vs = wipe σ vs ∧ te σ2 H2 Q')
    (hd : ∀ H ys, Same H1 H → H D = some (.lst ys) → Paired (fun x y => R x y H) xs ys → Qd H) :
    ∃ W : Nat → Nat → Hp → Prop, (∃ m, W 0 m (upd H1 D (.lst []))) ∧ ∀ i m H, W i m H →
      ((Itl K a).stop i H ∧ Qd H) ∨ ((Itl K a).go i H ∧ ∃ Nx : Hp → Prop, (∀ H', Nx H' → ∃ m', m' < m ∧ W (i + 1) m' H') ∧ ∀ x H', (Itl K a).yld i H x H' → g x (wipe σ vs) H' fun σ2 H2 => wipe σ2 vs = wipe σ vs ∧ tYes σ2 H2 fun b H3 =>
        if b = true then te σ2 H3 fun y H4 => ∃ acc, H4 D = some (.lst acc) ∧ acc.length < sizeLine ∧ Nx (upd H4 D (.lst (acc ++ [y]))) else Nx H3) :=
  lc_list (Qd := Qd) (MapP R H1 D xs) ⟨upd_same_hp (Same.refl H1) hD, [], upd_same, rfl, .nil⟩ (fun i H _ p => Same.seq p.1 hS) (fun i x H e p => mapP R hR hU hD hlen hs i x H e p)
    fun H p => let ⟨s, acc, ed, el, pr⟩ := p; hd H acc s ed (by rw [List.take_length] at pr; exact pr)
end
end Lb

set_option Elab.async false
set_option linter.all false
set_option maxRecDepth 100000
set_option maxHeartbeats 1000000
/-! x(lambda: body, y): a def that is given a lambda and a value -/
namespace Lb
open PySem PySem.Spec PyProof.Rows L2 LamX
def GivesTo2 (X : Cx) (Ng : List Str) (x : Str) (sg : Scope) (g : Addr) (cdg : Value) (bg : List Stmt) (a : Str) (q : Str) (TT : V → (XK → Hp → VK → Prop) → Hp → VK → Prop) : Prop :=
  ∀ (f c' : Addr) (s : Shared) (H : Hp) (Q : VK) (tl : XK → Hp → VK → Prop) (v : V),
    (∀ (W : WX) (pn : List (Addr × Obj)) (xe : Value → Shared → Prop) (E : XK) (σ0 : List (Option V)) (p1 p2 : Pos), Takes ((cxOf C8.CX0 X.prog X.w X.K X.mg X.base Ng x sg g cdg X.A X.stack s H C8.E0).tr pn xe) W → (∀ cls d H', E cls d H' → W cls d σ0 H') →
      PE ((cxOf C8.CX0 X.prog X.w X.K X.mg X.base Ng x sg g cdg X.A X.stack s H C8.E0).tr pn xe) (.Call (.Name a p1) [] [] p2) (fun σZ HZ Q => σZ = σ0 ∧ σZ[0]? = some (some (.ref f)) ∧ HZ c' = some (CodeO c' q) ∧ tl E HZ Q)) →
    H c' = some (CodeO c' q) → TT v tl H Q →
    ∃ t, PSs (cxOf C8.CX0 X.prog X.w X.K X.mg X.base Ng x sg g cdg X.A X.stack s H C8.E0).nox bg t ∧ t { nx := fun _ H' => Q .non H', rt := Q } (L2.start Ng [.ref f, v]) H
def tLam2 (T : List (Addr × Str)) (j : Nat) (TT : V → (XK → Hp → VK → Prop) → Hp → VK → Prop) (t : XK → TE) : TE := fun σ H Q => ∃ v, σ[j]? = some (some v) ∧ Tabs T H ∧ ∀ H1, ExtN H H1 → Tabs T H1 → TT v (fun E H' Q' => t E σ H' Q') H1 Q
section
variable {X : Cx} {pins : List (Addr × Obj)} {σ : List (Option V)} {H : Hp} {s : Shared}
/-- the lambda's run, from the body that calls it -/
theorem lam_run {A : Around} {outer : List Env} {f c' : Addr} {q : Str} {pm ctv : Value} {params : Arguments} {body : Expr} {scope : Scope} {k : Nat} {E : XK} {tb : TE} {HZ : Hp} {sZ : Shared} {Q : VK}
    (I : Inv X pins σ H s) (L : LamS X.env.scope scope) (of1 : sZ.heap.get? f = some (PySem.W.kla_obj "<lambda>" (X.env.qual ++ "<lambda>") params body scope (cloFrom X.env.cells scope.names []) pm c' ctv)) (hc : HZ c' = some (CodeO c' q))
    (hbind : bindArgs (PySem.W.kla_fn "<lambda>" (X.env.qual ++ "<lambda>") params body scope (cloFrom X.env.cells scope.names []) pm (.ref c') ctv) ⟨[], []⟩ = pure []) (hq : q = X.env.qual ++ "<lambda>") (hr : Room (k + 1) A) (e0 : Env0 X.prog X.w X.K X.mg X.base A outer sZ HZ) (lim : sZ.heap.NoLimit)
    (un : Un (frs X.stack) [] H HZ s.heap sZ.heap) (hbody : ∀ (A : Around) (outer : List Env) (s : Shared) (H : Hp), Room k (A.deeper (lamEnv X scope s.heap.objs.size f c')) → PE (lamCx X A outer s H E scope f c') body tb) (ht : tb σ HZ Q) :
    codeAny (model X.prog X.w) A (.call (.ref f) ⟨[], []⟩) (CR (L2.CX X.prog X.w) outer X.prog X.w HZ sZ Q E) sZ := by
  subst hq
  obtain ⟨⟨oc, vs, t, hoc, hdc, hvc⟩, _, _⟩ := e0.hok c' _ hc
  refine PySem.W.kla_callFunE hr.depth of1 rfl L.co L.gen rfl ⟨c', oc, vs, t, rfl, hoc, hdc, hvc⟩ ?_
  rw [hbind]
  refine wpAny_pure (wpAny_newFunctionEnv (fun y hy => (L.own y hy).2) (fun y hy => absurd hy (by simp)) (fun h₁ hns hsb => ⟨lim.fresh _ hsb, ?_⟩) L.kind)
  show codeAny _ _ (.expr body (lamEnv X scope sZ.heap.objs.size f c')) _ _
  refine PySem.W.kla_codeExpr (wpAny_mono ((hbody A outer sZ HZ (hr.deeper _)).run [] _ _ HZ Q (lam_start2 I L e0 hr.hd un hns fun b o e => hsb.extBut b o (Nat.ne_of_lt (Heap.lt_size e)) (Heap.get?_push_of_some _ e)) ht) (fun v s' z => ?_) fun e s' z => z)
  obtain ⟨w', H', J', rv, z⟩ := z
  exact ⟨w', H', J'.os, J'.bare, J'.base, J'.hok, rv, z⟩
/-- x(), in the def that got the lambda, the frame's values known -/
theorem pe_act2 {CXg : CXT} {Eg : XK} {Ng : List Str} {qg : Str} {sg : Scope} {g f c' : Addr} {cdg pm ctv : Value} {params : Arguments} {body : Expr} {scope : Scope} {k i : Nat} {a : Str} {pn : List (Addr × Obj)} {xe : Value → Shared → Prop} {W : WX} {E : XK} {tb : TE} {σ0 : List (Option V)} {p1 p2 : Pos}
    (I : Inv X pins σ H s) (L : LamS X.env.scope scope) (hf : s.heap.get? f = some (PySem.W.kla_obj "<lambda>" (X.env.qual ++ "<lambda>") params body scope (cloFrom X.env.cells scope.names []) pm c' ctv)) (hfn : H f = none) (hfr : f ∉ frs X.stack)
    (hbind : bindArgs (PySem.W.kla_fn "<lambda>" (X.env.qual ++ "<lambda>") params body scope (cloFrom X.env.cells scope.names []) pm (.ref c') ctv) ⟨[], []⟩ = pure [])
    (tk : Takes ((cxOf CXg X.prog X.w X.K X.mg X.base Ng qg sg g cdg X.A X.stack s H Eg).tr pn xe) W) (hW : ∀ cls d H', E cls d H' → W cls d σ0 H') (hr : Room (k + 1) (X.A.deeper (envOfC qg sg s.heap.objs.size g cdg)))
    (hbody : ∀ (A : Around) (outer : List Env) (s : Shared) (H : Hp), Room k (A.deeper (lamEnv X scope s.heap.objs.size f c')) → PE (lamCx X A outer s H E scope f c') body tb)
    (hN : Ng[i]? = some a) (hv : Vis sg a) (hd : (a == ("__debug__" : Str)) = false := by decide) (hcd : (a == ("__classdict__" : Str)) = false := by decide) :
    PE ((cxOf CXg X.prog X.w X.K X.mg X.base Ng qg sg g cdg X.A X.stack s H Eg).tr pn xe) (.Call (.Name a p1) [] [] p2)
      (fun σZ HZ Q => σZ = σ0 ∧ σZ[i]? = some (some (.ref f)) ∧ HZ c' = some (CodeO c' (X.env.qual ++ "<lambda>")) ∧ tb σ HZ Q) := by
  refine ⟨fun pinsZ sZ σZ HZ Q IZ h => ?_⟩
  obtain ⟨rfl, hs, hc, ht⟩ := h
  refine wpAny_Call_Name_kw (thn ((pe_var (pos := p1) (i := i) hN hv hd hcd).run pinsZ sZ σZ HZ (fun v H1 => v = .ref f ∧ H1 = HZ) IZ ⟨.ref f, hs, rfl, rfl⟩) fun u s1 ⟨v, H1, I1, r1, q1⟩ => ?_)
  obtain ⟨ev, eH⟩ := q1
  subst ev
  rw [eH] at I1
  obtain rfl : u = Value.ref f := r1
  have of1 : s1.heap.get? f = some (PySem.W.kla_obj "<lambda>" (X.env.qual ++ "<lambda>") params body scope (cloFrom X.env.cells scope.names []) pm c' ctv) := I1.base.keep f _ hf hfn hfr (fun z => nomatch (show f ∈ ([] : List Addr) from z))
  refine PySem.W.callWith_F0 ⟨_, _, _, _, of1⟩ ?_
  have lim : s1.heap.NoLimit := I1.nolimit
  have un : Un (frs X.stack) [] H HZ s.heap s1.heap := I1.base
  have e0 : Env0 X.prog X.w X.K X.mg X.base (X.A.deeper (envOfC qg sg s.heap.objs.size g cdg)) (envOfC qg sg s.heap.objs.size g cdg :: X.stack) s1 HZ := I1.env0
  have rc := lam_run (X := X) (E := E) (Q := Q) I L of1 hc hbind rfl hr e0 lim un hbody ht
  refine wpAny_call (codeAny_mono rc fun r s' z => ?_)
  cases r with
  | error er => exact tk er s' (XE.of_call I1 (fun cls d H' h => hW cls d H' h) z)
  | ok fl =>
    cases fl with
    | ret u => exact I1.after z
    | next => exact False.elim z
    | brk => exact False.elim z
    | cont => exact False.elim z
theorem pe_lamcall2 {T : List (Addr × Str)} {TT : V → (XK → Hp → VK → Prop) → Hp → VK → Prop} {x a b : Str} {g c P : Addr} {k j : Nat} {pg : Arguments} {bg : List Stmt} {sg : Scope} {dV kV doc pm cdv ct oc : Value} {an od : Option Addr} {osl : Array (Option Value)} {Ng : List Str}
    {params : Arguments} {body e2 : Expr} {scope : Scope} {t : XK → TE} {p lpos pos : Pos} (hg : Gl X x) (hm : X.mg x = some (.ref g)) (hk : PySem.W.keepIn X.K (.ref g) = true)
    (lk : X.K.lookup g = some ⟨oc, od, .func (PySem.W.fnOf x x pg bg sg dV kV doc pm an cdv ct), osl⟩) (hcg : PySem.W.codeIn X.K cdv x = true) (hb : L2.Binds X.K (PySem.W.fnOf x x pg bg sg dV kV doc pm an cdv ct) [a, b] []) (Sg : FnScope Ng [a, b] sg) (hNg : Ng[0]? = some a) (hva : Vis sg a)
    (hG : GivesTo2 X Ng x sg g cdv bg a (X.env.qual ++ "<lambda>") TT) (he2 : PE X e2 (tVar j))
    (TB : TabB X.base X.mg c P) (hcode : X.env.code = .ref c) (hmT : (P, X.env.qual ++ "<lambda>") ∈ T) (hu : ∀ p ∈ T, p.1 = P → p.2 = X.env.qual ++ "<lambda>") (hr : Room (k + 2) X.A) (L : LamS X.env.scope scope) (hdef : defaultsOf params X.env = ([], []))
    (hbind : ∀ (q : Str) (cl : List (Str × Addr)) (pm cv ctv : Value), bindArgs (PySem.W.kla_fn "<lambda>" q params body scope cl pm cv ctv) ⟨[], []⟩ = pure [])
    (hbody : ∀ (A : Around) (outer : List Env) (s : Shared) (H : Hp) (E : XK) (f c' : Addr), Room k (A.deeper (lamEnv X scope s.heap.objs.size f c')) → PE (lamCx X A outer s H E scope f c') body (t E))
    (hs2 : starEach [e2] X.env = (false, eval e2 X.env) :: starEach [] X.env := by rfl)
    (hdb : (x == ("__debug__" : Str)) = false := by decide) (hd : (a == ("__debug__" : Str)) = false := by decide) (hcd : (a == ("__classdict__" : Str)) = false := by decide) :
    PE X (.Call (.Name x p) [.Lambda params body scope lpos, e2] [] pos) (tLam2 T j TT t) := by
  refine ⟨fun pins s σ H Q I h => ?_⟩
  obtain ⟨v2, hv2, hT, h⟩ := h
  refine wpAny_Call_Name_kw (ld_glob I hg hm ?_ hdb)
  refine PySem.W.callWith_K (h₀ := X.base) I.ok.mod.kin hk ?_ (by rfl) (by rw [hs2]; rfl)
  show wpAny _ _ (spliced ((false, eval (.Lambda params body scope lpos) X.env) :: backTo pos (starEach [e2] X.env))) _ _ s
  refine Calls.spliced_cons (lam_make2 I TB hcode hmT hu hT hdef (L.has I.ok) fun f c' pm' ctv H1 s' I1 eN T1 hf hfn hfr hco => ?_)
  rw [hs2]
  show wpAny _ _ (spliced ((false, eval e2 X.env) :: backTo pos (starEach [] X.env))) _ _ s'
  have fd : ∀ {b : Addr} {o : Obj} {es ep}, s'.heap.get? b = some o → o.data = .dict es ep → f ≠ b := fun {b o es ep} e d z => by
    rw [← z, hf] at e
    cases e
    cases d
  have nL : f ≠ X.env.locals := by
    obtain ⟨m, ⟨o, es, ep, ho, hd', _⟩, _⟩ := I1.loc
    exact fd ho hd'
  have nF : f ∉ X.fs := fun hb => by
    refine hfr ?_
    rcases I1.ok.stk with e | ⟨e, hfm⟩
    · rw [e]
      exact hb
    · rw [e]
      unfold frs
      rw [List.filterMap_cons, hfm]
      exact List.mem_cons_of_mem _ hb
  have I1p : Inv X ((f, PySem.W.kla_obj "<lambda>" (X.env.qual ++ "<lambda>") params body scope (cloFrom X.env.cells scope.names []) pm' c' ctv) :: pins) σ H1 s' :=
    ⟨I1.ok, I1.os, I1.bare, I1.base, I1.loc, I1.cell, I1.free, I1.freeC, fun p hp => by
        rcases List.mem_append.mp hp with hp | hp
        · exact I1.pin p (List.mem_append_left _ hp)
        · rcases List.mem_cons.mp hp with rfl | hp
          · exact ⟨hf, hfn, nL, nF, fun v z => nomatch z⟩
          · exact I1.pin p (List.mem_append_right _ hp), I1.hok, I1.len⟩
  refine Calls.spliced_cons (thn (he2.run _ s' σ H1 (fun v H2 => v = v2 ∧ H2 = H1) I1p ⟨v2, hv2, rfl, rfl⟩) fun u s2 ⟨v, H2, I2, r2, q2⟩ => ?_)
  obtain ⟨rfl, rfl⟩ := q2
  have hf2 := (I2.pin _ (List.mem_append_right _ List.mem_cons_self)).1
  have I2' : Inv X pins σ H2 s2 := ⟨I2.ok, I2.os, I2.bare, I2.base, I2.loc, I2.cell, I2.free, I2.freeC, fun p hp => I2.pin p (by
    rcases List.mem_append.mp hp with hp | hp
    · exact List.mem_append_left _ hp
    · exact List.mem_append_right _ (List.mem_cons_of_mem _ hp)), I2.hok, I2.len⟩
  refine Calls.spliced_nil ⟨I2'.kIn, ?_⟩
  have rc : codeAny (model X.prog X.w) X.A (.call (.ref g) ⟨[.ref f, u], []⟩) (CR C8.CX0 X.stack X.prog X.w H2 s2 Q C8.E0) s2 := by
    refine run_ofS (N := Ng) (ps := [a, b]) (us := [.ref f, u]) (vs := [.ref f, v]) lk hcg Sg hr I2'.env0 (hb s2 [.ref f, u] I2'.kIn rfl) (.cons rfl (.cons r2 .nil)) rfl fun hr' => ?_
    obtain ⟨t', ht', hq'⟩ := hG f c' s2 H2 Q (fun E H' Q' => t E σ H' Q') v (fun W pn xe E σ0 p1 p2 tk hW => pe_act2 (i := 0) I2' L hf2 hfn hfr (hbind _ _ _ _ _) tk hW hr' (fun A outer s H hr2 => hbody A outer s H E f c' hr2) hNg hva hd hcd) hco (h H2 eN T1)
    exact ⟨t', ht'.nox, hq'⟩
  refine wpAny_call (codeAny_mono rc fun r s3 hq => ?_)
  cases r with
  | error e => exact (show False from hq).elim
  | ok fl =>
    cases fl with
    | ret u => exact I2'.after hq
    | next => exact False.elim hq
    | brk => exact False.elim hq
    | cont => exact False.elim hq
end
end Lb

set_option Elab.async false
set_option linter.all false
set_option maxRecDepth 100000
set_option maxHeartbeats 4000000
namespace K60
open PySem L2 Lb
open C8 (pss_cut)
open LamX (ExtN GivesTo CodeO)
open PySem.Spec PyProof.Rows
section
variable {K : PySem.W.Frag} {mg : Str → Option Value} {a : Ad}
theorem Txt.eInvalidLevels (T : Txt K mg a) : ExcC K a.c_InvalidLevels := T.xInvalidLevels.eC
theorem Txt.eUnknownNode (T : Txt K mg a) : ExcC K a.c_UnknownNode := T.xUnknownNode.eC
theorem _root_.Lb.ExqF.xf {x : Str} {C f : Addr} (h : ExqF K mg x C f) : XfC K C := ⟨h.eC.hg, h.eC.hk, h.eC.hs, h.eC.hd⟩
theorem noT {D : Addr} : (veT : List Value).contains (.ref D) = false := by simp [veT]
theorem noL {D : Addr} : (leT : List Value).contains (.ref D) = false := by simp [leT]
theorem famA {C L : Addr} {tail : List Value} (h : Abv K C L tail) : FamC K C := ⟨h.ic, h.ty, h.ex⟩
theorem ndA (T : Txt K mg a) : a.c_InvalidLevels ≠ a.c_UnknownNode ∧ a.c_InvalidLevels ≠ a.c_MissingError ∧ a.c_InvalidOrder ≠ a.c_InvalidLevels ∧ a.c_InvalidOrder ≠ a.c_PipeError ∧ a.c_PipeError ≠ a.c_UnknownNode ∧ a.c_PipeError ≠ a.c_MissingError := by
  have h := T.nd
  simp only [List.nodup_cons, List.mem_cons, List.not_mem_nil, or_false, not_or] at h
  obtain ⟨⟨h1, h2, h3, h4⟩, ⟨h5, h6, h7⟩, ⟨h8, h9⟩, _⟩ := h
  exact ⟨h1, h3, Ne.symm h4, Ne.symm h9, Ne.symm h5, h8⟩
theorem te_L (T : Txt K mg a) : PySem.W.exmOne K (.ref a.c_InvalidLevels) (.ref a.c_InvalidLevels) = some true := by
  rw [T.bInvalidLevels.exm (fun _ => noT) (famA T.bInvalidLevels), decide_eq_true (Or.inl rfl)]
theorem te_U (T : Txt K mg a) : PySem.W.exmOne K (.ref a.c_UnknownNode) (.ref a.c_UnknownNode) = some true := by
  rw [T.bUnknownNode.exm (fun _ => noL) (famA T.bUnknownNode), decide_eq_true (Or.inl rfl)]
theorem xUL (T : Txt K mg a) : PySem.W.exmOne K (.ref a.c_UnknownNode) (.ref a.c_InvalidLevels) = some false := by
  obtain ⟨h1, h2, _⟩ := ndA T
  rw [T.bUnknownNode.exm (fun _ => noL) (famA T.bInvalidLevels), decide_eq_false (fun h => h.elim h1 h2)]
theorem kLP (T : Txt K mg a) : PySem.W.kitOne K (.ref a.c_InvalidLevels) (.ref a.c_PipeError) = some true := by
  rw [T.bInvalidLevels.kit (fun _ => noT) T.qPipeError.ic T.qPipeError.ty, decide_eq_true (Or.inr rfl)]
theorem kLO (T : Txt K mg a) : PySem.W.kitOne K (.ref a.c_InvalidLevels) (.ref a.c_InvalidOrder) = some false := by
  obtain ⟨_, _, h1, h2, _⟩ := ndA T
  rw [T.bInvalidLevels.kit (fun _ => noT) T.qInvalidOrder.ic T.qInvalidOrder.ty, decide_eq_false (fun h => h.elim h1 h2)]
theorem kUM (T : Txt K mg a) : PySem.W.kitOne K (.ref a.c_UnknownNode) (.ref a.c_MissingError) = some true := by
  rw [T.bUnknownNode.kit (fun _ => noL) T.qMissingError.ic T.qMissingError.ty, decide_eq_true (Or.inr rfl)]
theorem kUP (T : Txt K mg a) : PySem.W.kitOne K (.ref a.c_UnknownNode) (.ref a.c_PipeError) = some false := by
  obtain ⟨_, _, _, _, h1, h2⟩ := ndA T
  rw [T.bUnknownNode.kit (fun _ => noL) T.qPipeError.ic T.qPipeError.ty, decide_eq_false (fun h => h.elim h1 h2)]
end
/-- what may be shown of an error -/
def ShV (K : PySem.W.Frag) (H : Hp) (v : V) (Tv : Tr) : Prop := Sh K OEmpty H Tv v ∧ Tv.text.length ≤ 6000 ∧ Tv.dep ≤ 2
theorem ShV.same {K : PySem.W.Frag} {H H' : Hp} {v : V} {Tv : Tr} (h : ShV K H v Tv) (s : Same H H') : ShV K H' v Tv := ⟨Sh.same (fun a t o => own_empty.mono _ _ _ _ s o) s _ _ h.1, h.2⟩
def TD (kd : Str) (Tv : Tr) : Tr := .ls [.lf (reprText kd), Tv, .lf "True", .lf "False"]
theorem sh_td {K : PySem.W.Frag} {kd : Str} {Tv : Tr} {v : V} {H : Hp} {l : Addr} (h : ShV K H v Tv) (e : H l = some (.lst [.str kd, v, .bl true, .bl false])) : Sh K OEmpty H (TD kd Tv) (.ref l) := by
  unfold TD
  simp only [Sh, Shs]
  exact ⟨l, _, rfl, SqL.of e, _, _, rfl, rfl, _, _, rfl, h.1, _, _, rfl, rfl, _, _, rfl, rfl, rfl⟩
theorem td_len {K : PySem.W.Frag} {kd : Str} {Tv : Tr} {v : V} {H : Hp} (hk : kd = "levels" ∨ kd = "node") (h : ShV K H v Tv) : (TD kd Tv).text.length ≤ sizeLine := by
  have l1 : ("[" : Str).length = 1 := by decide +kernel
  have l2 : (", " : Str).length = 2 := by decide +kernel
  have l3 : ("]" : Str).length = 1 := by decide +kernel
  have l4 : ("" : Str).length = 0 := by decide +kernel
  have l5 : ("True" : Str).length = 4 := by decide +kernel
  have l6 : ("False" : Str).length = 5 := by decide +kernel
  have l7 : (reprText kd).length ≤ 10 := by rcases hk with rfl | rfl <;> decide +kernel
  have l8 := h.2.1
  show (("[" ++ ("" : Str) ++ reprText kd) ++ ", " ++ Tv.text ++ ", " ++ "True" ++ ", " ++ "False" ++ "]" : Str).length ≤ _
  simp only [strLen_append]
  exact szle (by omega)
theorem td_dep {K : PySem.W.Frag} {kd : Str} {Tv : Tr} {v : V} {H : Hp} (h : ShV K H v Tv) : (TD kd Tv).dep + 1 ≤ 8 := by
  have := h.2.2
  unfold TD
  simp only [Tr.dep, Tr.deps]
  omega
def EchT (K : PySem.W.Frag) (a : Ad) (Q : VK) : XK := fun cls d H' => ∃ dd v Tv kd, d = some dd ∧ ((cls = .ref a.c_InvalidLevels ∧ H' dd = some (.xd [("position", v)]) ∧ kd = "levels") ∨ (cls = .ref a.c_UnknownNode ∧ H' dd = some (.xd [("value", v)]) ∧ kd = "node")) ∧ ShV K H' v Tv ∧
  ∀ H2, Same H' H2 → Q (.str (TD kd Tv).text) H2
def TTold (K : PySem.W.Frag) (a : Ad) : (XK → Hp → VK → Prop) → Hp → VK → Prop := fun tl H Q => ∀ H1 Q', Same H H1 → tl (EchT K a Q) H1 Q'
theorem ps_ex {X : Cx} {st : Stmt} {C : XK → Prop} {t : XK → TS} (h : ∀ E, C E → PS X st (t E)) : PS X st (fun D σ H => ∃ E, C E ∧ t E D σ H) := ⟨fun pins s σ H D I ⟨E, c, w⟩ => (h E c).run pins s σ H D I w⟩
section
variable {P : Program} {w : World} {K : PySem.W.Frag} {mg : Str → Option Value} {base : Heap} {a : Ad}
abbrev toldCx (P : Program) (w : World) (K : PySem.W.Frag) (mg : Str → Option Value) (base : Heap) (a : Ad) (cdg : Value) (A : Around) (st : List Env) (s : Shared) (H : Hp) : Cx :=
  cxOf C8.CX0 P w K mg base ["_law_call", "_law_told_here", "e"] "_law_told" (defScope s_told) a.f_told cdg A st s H C8.E0
theorem told_body (T : Txt K mg a) {A : Around} {st : List Env} {cdg : Value} {f c' : Addr} {s : Shared} {H : Hp} {q : Str} {Q : VK} {tl : XK → Hp → VK → Prop} (gu : A.guards = some []) (hr : Room 9 A)
    (act : ∀ (W : WX) (pn : List (Addr × Obj)) (xe : Value → Shared → Prop) (E : XK) (p1 p2 : Pos), Takes ((toldCx P w K mg base a cdg A st s H).tr pn xe) W → (∀ cls d σ' H', E cls d H' → W cls d σ' H') →
      PE ((toldCx P w K mg base a cdg A st s H).tr pn xe) (.Call (.Name "_law_call" p1) [] [] p2) (fun σZ HZ Q => σZ[0]? = some (some (.ref f)) ∧ HZ c' = some (CodeO c' q) ∧ tl E HZ Q))
    (hc : H c' = some (CodeO c' q)) (h : TTold K a tl H Q) :
    ∃ t, PSs (toldCx P w K mg base a cdg A st s H).nox (defBody s_told) t ∧ t { nx := fun _ H' => Q .non H', rt := Q } (L2.start ["_law_call", "_law_told_here", "e"] [.ref f]) H := by
  have gu1 : (A.deeper (envOfC "_law_told" (defScope s_told) s.heap.objs.size a.f_told cdg)).guards = some [] := by
    first
      | exact gu
      | simpa [Around.deeper] using gu
  have hr1 : Room 8 (A.deeper (envOfC "_law_told" (defScope s_told) s.heap.objs.size a.f_told cdg)) := hr.deeper _
  refine ⟨_, (pss_cons (ps_set (i := 1) sc_told.nd rfl (by first | exact Or.inl rfl | exact Or.inr rfl) (pe_lst (pa_cons pe_str pa_nil)))
 (pss_cons (ps_try_named  rfl rfl sc_told.nd takes_none5 (fun W pn xe tk _ => (pss_one (ps_ex (C := fun Ech => ∀ cls d σ' H', Ech cls d H' → σ'.length = 3 → W cls d σ' H') fun Ech hW => ps_set (i := 1) sc_told.nd rfl (by first | exact Or.inl rfl | exact Or.inr rfl) (pe_lst (pa_cons pe_str (pa_cons (act _ pn xe Ech _ _ (takes_len tk) hW) pa_nil)))))) (.cons (i := 2) ⟨rfl, by decide, .inl T.xInvalidLevels.mC⟩ rfl rfl (fun e oe k dd pn hz hf => (pss_one (ps_set (i := 1) sc_told.nd rfl (by first | exact Or.inl rfl | exact Or.inr rfl) (pe_lst (pa_cons pe_str (pa_cons (pe_xf T.xInvalidLevels.xf T.nInvalidLevels hz hf (pv 2)) (pa_cons (pe_callB (call_isX T.eInvalidLevels hz hf) (by rfl) T.b_isinstance (by decide +kernel) (pa_cons (pv 2) (pa_cons (pe_glob (v := .ref a.c_PipeError) rfl T.mPipeError rfl) pa_nil))) (pa_cons (pe_callB (call_isX T.eInvalidLevels hz hf) (by rfl) T.b_isinstance (by decide +kernel) (pa_cons (pv 2) (pa_cons (pe_glob (v := .ref a.c_InvalidOrder) rfl T.mInvalidOrder rfl) pa_nil))) pa_nil)))))))) (.cons (i := 2) ⟨rfl, by decide, .inl T.xUnknownNode.mC⟩ rfl rfl (fun e oe k dd pn hz hf => (pss_one (ps_set (i := 1) sc_told.nd rfl (by first | exact Or.inl rfl | exact Or.inr rfl) (pe_lst (pa_cons pe_str (pa_cons (pe_xf T.xUnknownNode.xf T.nUnknownNode hz hf (pv 2)) (pa_cons (pe_callB (call_isX T.eUnknownNode hz hf) (by rfl) T.b_isinstance (by decide +kernel) (pa_cons (pv 2) (pa_cons (pe_glob (v := .ref a.c_MissingError) rfl T.mMissingError rfl) pa_nil))) (pa_cons (pe_callB (call_isX T.eUnknownNode hz hf) (by rfl) T.b_isinstance (by decide +kernel) (pa_cons (pv 2) (pa_cons (pe_glob (v := .ref a.c_PipeError) rfl T.mPipeError rfl) pa_nil))) pa_nil)))))))) .nil)))
 (pss_one (ps_ret (pe_callB (call_show (K := K) (O := OEmpty) (D := 8) rfl gu1 (room8 hr1) own_empty (ow_empty (room8 hr1))) (by rfl) T.b_repr (by decide +kernel) (pa_cons (pv 1) pa_nil)))))), ?_⟩
  refine ⟨sz, fun l0 hl0 => ?_⟩
  have s1 : Same H (upd H l0 (.lst [V.str "other"])) := Lb.Same.upd hl0
  refine ⟨EchT K a Q, fun cls d σ' H' hE hlen => ?_, rfl, s1 _ _ hc, h _ _ s1⟩
  obtain ⟨x0, x1, x2, rfl⟩ : ∃ x0 x1 x2, σ' = [x0, x1, x2] := by
    match σ', hlen with
    | [x, y, z], _ => exact ⟨x, y, z, rfl⟩
  obtain ⟨dd, v, Tv, kd, rfl, hk, sh, k⟩ := hE
  rcases hk with ⟨rfl, ed, rfl⟩ | ⟨rfl, ed, rfl⟩
  · refine ⟨true, te_L T, fun q => Bool.noConfusion q, fun _ e he => ?_⟩
    refine ⟨_, rfl, rfl, rfl, dd, _, v, rfl, ed, rfl, ?_⟩
    refine ⟨_, rfl, _, _, true, dd, _, rfl, rfl, rfl, ed, (fun v r => (ClsV.own _).eq r), kLP T, ?_⟩
    refine ⟨_, rfl, _, _, false, dd, _, rfl, rfl, rfl, ed, (fun v r => (ClsV.own _).eq r), kLO T, sz, fun l hl => ?_⟩
    have s2 : Same H' (upd H' l (.lst [.str "levels", v, .bl true, .bl false])) := Lb.Same.upd hl
    exact ⟨_, rfl, _, _, rfl, sh_td (sh.same s2) upd_same, ⟨_, .inl rfl⟩, td_len (.inl rfl) sh, td_dep sh, fun H3 s3 => k _ (s2.trans s3)⟩
  · refine ⟨false, xUL T, fun _ => ?_, fun q => Bool.noConfusion q⟩
    refine ⟨true, te_U T, fun q => Bool.noConfusion q, fun _ e he => ?_⟩
    refine ⟨_, rfl, rfl, rfl, dd, _, v, rfl, ed, rfl, ?_⟩
    refine ⟨_, rfl, _, _, true, dd, _, rfl, rfl, rfl, ed, (fun v r => (ClsV.own _).eq r), kUM T, ?_⟩
    refine ⟨_, rfl, _, _, false, dd, _, rfl, rfl, rfl, ed, (fun v r => (ClsV.own _).eq r), kUP T, sz, fun l hl => ?_⟩
    have s2 : Same H' (upd H' l (.lst [.str "node", v, .bl true, .bl false])) := Lb.Same.upd hl
    exact ⟨_, rfl, _, _, rfl, sh_td (sh.same s2) upd_same, ⟨_, .inl rfl⟩, td_len (.inr rfl) sh, td_dep sh, fun H3 s3 => k _ (s2.trans s3)⟩
/-- told, given a lambda -/
theorem told_gives {X : Cx} (T : Txt X.K X.mg a) (gu : X.A.guards = some []) (hr : Room 9 X.A) (cdg : Value) (q : Str) :
    GivesTo X ["_law_call", "_law_told_here", "e"] "_law_told" (defScope s_told) a.f_told cdg (defBody s_told) "_law_call" q (TTold X.K a) :=
  fun f c' s H Q tl act hc h => told_body T gu hr act hc h
end
end K60

set_option Elab.async false
set_option linter.all false
set_option maxRecDepth 100000
set_option maxHeartbeats 4000000
/-! list(x) of an instance whose `__iter__` gives the iterator of a list of its own, with `__len__` -/
namespace Lb
open PySem PySem.Spec PyProof.Rows L2
theorem sqL_same {K : PySem.W.Frag} {a : Addr} {H H1 : Hp} {xs : List V} (m : Same H H1) (h : SqL K H a xs) : SqL K H1 a xs :=
  h.elim (fun h => .inl (h.elim (fun h => .inl (m _ _ h)) fun ⟨o, h⟩ => .inr ⟨o, m _ _ h⟩)) fun h => .inr h
section
variable {X : Cx} {pins : List (Addr × Obj)} {σ : L2.St} {a C dx g gl l it q : Addr} {fs : List (Str × V)} {fld : Str} {k n : Nat} {fd : FuncData} {xs : List V}
theorem ext_list {A1 : Around} {Rs : Result → Shared → Prop} {H0 : Hp} (hh : A1.in1.handled = none) (hz : xs.length ≤ 10000) (nlq : l ≠ q) (nit : it ≠ q)
    (hdone : ∀ s', Inv X pins σ (upd H0 q (.lst xs)) s' → Rs (.ok (.ret .none)) s') (hS : SqL X.K H0 l xs) (h0 : H0 it = none) :
    ∀ (m i : Nat) (s : Shared), xs.length - i = m → i ≤ xs.length → Inv X pins σ (upd H0 q (.lst (xs.take i))) s → FpOk X pins (upd H0 q (.lst (xs.take i))) it → s.heap.IsListIter it l i →
      codeAny (model X.prog X.w) A1 (.builtin "list.extend.loop" ⟨[.ref q, .ref it, .none], []⟩) Rs s := by
  have sqk : ∀ ys, SqL X.K (upd H0 q (.lst ys)) l xs := fun ys =>
    hS.elim (fun h => .inl (by rcases h with h | ⟨o, h⟩; exact .inl (by rw [upd_ne nlq]; exact h); exact .inr ⟨o, by rw [upd_ne nlq]; exact h⟩)) fun h => .inr h
  intro m
  induction m with
  | zero =>
    intro i s hm hi I fi hit
    obtain ⟨its, rl, pl, hsz⟩ := I.list (sqk _)
    have hlen := rl.length
    refine codeAny_builtin PySem.F.entry_extend_loop ?_
    rw [Around.under_plainId PySem.F.plain_extend_loop _]
    show wpAny _ A1.in1 (pyNext (.ref it) >>= _) _ _ s
    refine wpAny_bind (wpAny_pyNext_list_end hh hit pl.isList (by rw [List.getElem?_toArray, List.getElem?_eq_none (by omega)]) fun h' he => ?_)
    have I' := turn_fp (t' := s.toks) I fi he
    rw [List.take_of_length_le (by omega)] at I'
    exact wpAny_pure (hdone _ I')
  | succ m ih =>
    intro i s hm hi I fi hit
    obtain ⟨its, rl, pl, hsz⟩ := I.list (sqk _)
    have hlt : i < xs.length := by omega
    obtain ⟨u2, hu2, rx⟩ := rl.get (i := i) (List.getElem?_eq_getElem hlt)
    refine codeAny_builtin PySem.F.entry_extend_loop ?_
    rw [Around.under_plainId PySem.F.plain_extend_loop _]
    show wpAny _ A1.in1 (pyNext (.ref it) >>= _) _ _ s
    refine wpAny_bind (wpAny_pyNext_list_item hit pl.isList (x := u2) (by rw [List.getElem?_toArray]; exact hu2) fun h' hit' hs => ?_)
    have I' := turn_fp (t' := s.toks) I fi hs.extBut
    show wpAny _ A1.in1 (updateSeq q (·.push u2) >>= _) _ _ _
    obtain ⟨zz, its2, kk, r2, hl2, e⟩ := I'.lstM upd_same
    have hl' : its2.length = i := by rw [← hl2, List.length_take]; omega
    have sl : sizeLine = 16777216 := by decide
    have I2 := I'.lset (f := (·.push u2)) (its' := its2 ++ [u2]) (ys := xs.take i ++ [xs[i]]) (t' := s.toks) upd_same e (by simp) (r2.append (.cons rx .nil)) (by rw [List.length_append, List.length_take]; show _ + 1 ≤ _; omega)
    rw [upd_upd, ← List.take_succ_eq_append_getElem hlt] at I2
    refine wpAny_bind (wpAny_updateSeq e rfl (wpAny_pure ⟨plainId_quiet PySem.F.plain_extend_loop _, ?_⟩) (by rw [List.size_toArray]; omega) (by show (its2.toArray.push u2).size ≤ sizeLine + 1; rw [Array.size_push, List.size_toArray]; omega))
    refine ih (i + 1) _ (by omega) (by omega) I2 (FpOk.other fi (by rw [upd_ne nit]; exact h0)) ?_
    exact hit'.at fun o e' => (Heap.get?_update_other _ _ (Ne.symm nit)).trans e'
def LQ (K : PySem.W.Frag) (q l : Addr) (ys : List V) (Q : VK) : VK := fun v H' => ∃ m : Nat, v = .int m ∧ m ≤ 10000 ∧ H' q = some (.lst []) ∧ l ≠ q ∧ SqL K H' l ys ∧ Q (.ref q) (upd H' q (.lst ys))
def rListOwn (K : PySem.W.Frag) (C : Addr) (fld : Str) (sp : Sp) : List V → Hp → VK → Prop := fun xs H Q => ∃ (a dx : Addr) (fs : List (Str × V)) (l : Addr) (ys : List V), xs = [.ref a] ∧ H a = some (.ins C dx fs) ∧ fs.lookup fld = some (.ref l) ∧ SqL K H l ys ∧ ys.length ≤ 10000 ∧
  ∀ q, H q = none → sp [.ref a] (upd H q (.lst [])) (fun v H' => ∃ n : Nat, v = .int n ∧ n < 2 ^ 62 ∧ LQ K q l ys Q (.int n) H') (fun _ _ _ => False)
theorem call_listOwn {K : PySem.W.Frag} {sp : Sp} (hK : X.K = K) (hcalm : X.calm = true) (hs : PySem.W.findIn K (.ref C) "__iter__" = some (some (.ref g))) (hf : PySem.W.isFn K (.ref g) = true) (F : FnS X.prog X.w K X.mg X.base k g fd ["self"] (sp_it K C fld)) (hb : Binds K fd ["self"] [])
    (hsl : PySem.W.findIn K (.ref C) "__len__" = some (some (.ref gl))) (hfl : PySem.W.isFn K (.ref gl) = true) (FL : FnR X.prog X.w K X.mg X.base CX0 k gl sp) (hr : Room (k + 4) X.A) : CallR X (.type "list") (rListOwn K C fld sp) := by
  subst hK
  intro pins s σ H vs us Q I rv h
  obtain ⟨a, dx, fs, l, ys, rfl, ha, hl, hS, hz, hq⟩ := h
  obtain ⟨u, rfl, ru⟩ := rv.one
  cases ru
  refine callType_codes (Q₁ := fun obj s₁ => obj = .ref s.heap.objs.size ∧ s₁ = { s with heap := s.heap.push { cls := .type "list", data := .seq #[] } }) PySem.F.called_list (PySem.F.typeCall_list_1 _) PySem.F.entry_list_init
    (code_list_new _ ⟨rfl, rfl⟩) fun obj s₁ h₁ => ?_
  obtain ⟨rfl, rfl⟩ := h₁
  have hS0 : (s.heap.push { cls := .type "list", data := .seq #[] }).get? s.heap.objs.size = some { cls := .type "list", data := .seq #[] } := Heap.get?_push_size _ rfl
  refine ⟨⟨_, hS0, rfl⟩, PySem.F.args_list_init_2 _ _, ?_⟩
  have fr : H s.heap.objs.size = none := I.hok.fresh (Nat.le_refl _)
  have hsp := hq _ fr
  have I1 : Inv X pins σ (upd H s.heap.objs.size (.lst [])) { s with heap := s.heap.push { cls := .type "list", data := .seq #[] } } := I.lnew (its := []) (t' := s.toks) .nil (Nat.zero_le _)
  generalize hqq : s.heap.objs.size = q at *
  show wpAny _ _ (do let old ← Builtin.List.listItems (.ref q); Builtin.List.listUpdate (.ref q) (fun _ => #[]); letGo old.toList.reverse; Builtin.List.listExtendWith (.ref q) (.ref a) .none) _ _ _
  refine wpAny_bind ?_
  unfold Builtin.List.listItems
  refine wpAny_bind (wpAny_seqItems hS0 rfl (wpAny_pure ?_))
  show wpAny _ _ (updateSeq q (fun _ => #[]) >>= fun _ => letGo (#[] : Array Value).toList.reverse >>= fun _ => Builtin.List.listExtendWith (.ref q) (.ref a) .none) _ _ _
  refine wpAny_bind (wpAny_updateSeq hS0 rfl ?_)
  have I2 := I1.lset (f := fun _ => #[]) (its := []) (its' := []) (ys := []) (t' := s.toks) upd_same hS0 rfl .nil (Nat.zero_le _)
  rw [upd_upd] at I2
  refine wpAny_bind (wpAny_letGo ?_)
  have S0 : L2.Same H (upd H q (.lst [])) := Lb.Same.upd fr
  have ha2 := S0 _ _ ha
  have hS2 : SqL X.K (upd H q (.lst [])) l ys := sqL_same S0 hS
  have hne : q ≠ a := (ne_of_none ha fr).symm
  generalize hH0 : upd H q (.lst []) = H0 at *
  have hq0 : H0 q = some (.lst []) := by rw [← hH0]; exact upd_same
  obtain ⟨od, J⟩ := inst_at I2 ha2
  unfold Builtin.List.listExtendWith
  refine wpAny_bind (J.type.here ?_)
  have h1 : Builtin.List.listSameRef (.ref q) (.ref a) = false := by simp [Builtin.List.listSameRef, hne]
  have h2 : (Value.ref C == Value.type "list") = false := rfl
  have h3 : (Value.ref C == Value.type "tuple") = false := rfl
  simp only [h1, h2, h3, Bool.or_false, Bool.false_eq_true, if_false]
  have sb : Sub X (k + 1) X.A.in1.in1 := (⟨hr.in1.in1.mono (by omega), rfl⟩)
  refine wpAny_bind (it_run hs hf F hb (⟨sb.room.mono (by omega), sb.fr⟩) I2 ha2 hl hS2 fun it s' hn it0 hit I3 fi => ?_)
  have nit : it ≠ q := fun z => by rw [z, hq0] at it0; cases it0
  obtain ⟨od', J'⟩ := inst_at I3 ha2
  obtain ⟨oi, hoi, hci, hdi⟩ := id hit
  have IP := I3.pinned (fp := [it]) (by
    intro b hb
    exact (List.mem_singleton.mp hb) ▸ fi) (by
    intro b hb
    exact ⟨oi, by rw [List.mem_singleton.mp hb]; exact hoi, fun v z => by rw [hdi] at z; cases z⟩)
  -- behind the hint
  have rest : ∀ (s4 : Shared) (H4 : Hp), Inv X (pins ++ pinsAt [it] s'.heap) σ H4 s4 → H4 q = some (.lst []) → l ≠ q → SqL X.K H4 l ys → Q (.ref q) (upd H4 q (.lst ys)) →
      codeAny (model X.prog X.w) X.A.in1 (.builtin "list.extend.loop" ⟨[.ref q, .ref it, .none], []⟩) (wants (fun r s₂ => r = .none ∧ EP X pins σ Q (.ref q) s₂) X.xe) s4 := by
    intro s4 H4 I4 e4 nl hS4 q4
    have p1 := I4.pin (it, oi) (List.mem_append_right _ (List.mem_append_right _ (mem_pinsAt (by simp) hoi)))
    have J4 := I4.unpinned
    have e : upd H4 q (.lst (ys.take 0)) = H4 := by
      funext b
      by_cases hb : b = q
      · rw [hb, upd_same, e4]; rfl
      · rw [upd_ne hb]
    exact ext_list (A1 := X.A.in1) (H0 := H4) (Rs := wants (fun r s₂ => r = .none ∧ EP X pins σ Q (.ref q) s₂) X.xe) (I.ok.hd hcalm) hz nl nit (fun s5 I5 => ⟨rfl, .ref q, _, I5, rfl, q4⟩) hS4 p1.2.1 _ 0 s4 rfl (Nat.zero_le _) (by rw [e]; exact J4) (by rw [e]; exact ⟨p1.2.1, fi.2⟩) ⟨oi, p1.1, hci, hdi⟩
  refine wpAny_bind (wpAny_holding ?_)
  unfold Builtin.List.listLengthHint
  refine wpAny_bind (wpAny_bind (J'.type.here ((PySem.W.looks_findIn I3.kIn hsl).here ?_)))
  refine PySem.W.KFB.if_not rfl ?_
  refine wpAny_ite_split (fun _ => ?_) (fun hab => absurd rfl hab)
  refine wpAny_bind (wpAny_rule ?_)
  refine wpAny_bind (wpAny_attempt (wpAny_mono (len_run (R := fun v s4 => ∃ (m : Nat) (t : Nat) (H4 : Hp), v = .int m t ∧ m ≤ 10000 ∧ Inv X (pins ++ pinsAt [it] s'.heap) σ H4 s4 ∧ H4 q = some (.lst []) ∧ l ≠ q ∧ SqL X.K H4 l ys ∧ Q (.ref q) (upd H4 q (.lst ys)))
    (Q := LQ X.K q l ys Q) (Ex := fun _ _ => False) hsl hfl FL (A := X.A.in1.in1) ⟨hr.in1.in1.in1.mono (by omega), rfl⟩ IP ha2 ?_ ?_) (fun v s4 hv => ?_) (fun _ _ z => z.elim)))
  · exact hsp
  · rintro m t s4 H4 hm J4 ⟨m', e', h5, q4⟩
    obtain rfl : m = m' := by
      have : (m : Int) = (m' : Int) := by injection e'
      omega
    exact ⟨m, t, H4, rfl, h5, J4, q4⟩
  · obtain ⟨m, t, H4, rfl, h5, J4, e4, nl, hS4, q4⟩ := hv
    refine wpAny_bind (wpAny_pure ?_)
    have sl : sizeLine = 16777216 := by decide
    have hlong : Builtin.List.listTooLong (Int.toNat m) = false := notLongL (by rw [Int.toNat_natCast]; omega)
    show wpAny _ _ (if Builtin.List.listTooLong (Int.toNat m) then _ else _) _ _ _
    rw [hlong]
    refine wpAny_pure ?_
    have fin : ∀ (s5 : Shared), Inv X (pins ++ pinsAt [it] s'.heap) σ H4 s5 → wpAny (model X.prog X.w) X.A.in1.in1 (again (.builtin "list.extend.loop" ⟨[.ref q, .ref it, .none], []⟩)) (fun fin s' => match fin with | .done f => wants (fun r s₂ => r = .none ∧ EP X pins σ Q (.ref q) s₂) X.xe (.ok f) s' | .again c' => c'.quiet = true ∧ codeAny (model X.prog X.w) X.A.in1 c' (wants (fun r s₂ => r = .none ∧ EP X pins σ Q (.ref q) s₂) X.xe) s') (fun e s' => wants (fun r s₂ => r = .none ∧ EP X pins σ Q (.ref q) s₂) X.xe (.error e) s') s5 :=
      fun s5 J5 => wpAny_pure ⟨plainId_quiet PySem.F.plain_extend_loop _, rest s5 H4 J5 e4 nl hS4 q4⟩
    refine wpAny_ite_split (fun _ => ?_) (fun _ => fin _ J4)
    obtain ⟨z, its, kk, r3, hl3, e3⟩ := J4.lstM e4
    cases r3
    refine wpAny_bind (wpAny_rule ?_)
    refine wpAny_bind ?_
    show wpAny _ _ (updateSeq q (·.push .none) >>= fun _ => updateSeq q (·.pop)) _ _ _
    refine wpAny_bind (wpAny_updateSeq e3 rfl ?_)
    have K2 := J4.lset (f := (·.push Value.none)) (its' := [Value.none]) (ys := [.non]) (t' := s4.toks) e4 e3 (by simp) (.cons rfl .nil) (by decide)
    obtain ⟨z4, its4, k4, r4, hl4, e44⟩ := K2.lstM upd_same
    obtain ⟨u4, rfl, ru4⟩ := r4.one
    refine wpAny_updateSeq e44 rfl ?_ (by show 1 ≤ sizeLine; decide) (by show 0 ≤ sizeLine + 1; exact Nat.zero_le _)
    have K3 := K2.lset (f := (·.pop)) (its := [u4]) (its' := []) (ys := []) (t' := s4.toks) upd_same e44 (by rfl) .nil (Nat.zero_le _)
    rw [upd_upd] at K3
    have hH : upd H4 q (.lst []) = H4 := by
      funext b
      by_cases hb : b = q
      · rw [hb, upd_same, e4]
      · rw [upd_ne hb]
    rw [hH] at K3
    exact fin _ K3
end
end Lb

set_option Elab.async false
set_option linter.all false
set_option maxRecDepth 100000
set_option maxHeartbeats 4000000
/-! extend with a tuple -/
namespace Lb
open PySem PySem.Spec PyProof.Rows L2
theorem list_extend_tup (l : Addr) (items : Array Value) (n : Nat) (b : Addr) (items2 : Array Value) (hs0 : ¬(!items.isEmpty && Builtin.List.listTooLong (items.size + items2.size)) = true) (hs1 : items.size ≤ sizeLine) (hs2 : items.size + items2.size ≤ sizeLine + 1) :
    Meets (Builtin.«list.extend» ⟨[.ref l, .ref b], []⟩) (fun _ R s => s.heap.get? l = some { cls := .type "list", dict := none, data := .seq items n, slots := #[] } ∧ IsTup s.heap b items2 ∧ R (.ok (.ret Value.none)) { s with heap := s.heap.update l (Obj.mapSeq fun x => x ++ items2), toks := s.toks }) :=
  .of_wp fun prog w A R s h => by
    obtain ⟨hp, g, d, tk, os⟩ := s; obtain ⟨hl, ⟨o, hb, hc, kk, hd⟩, h⟩ := h
    obtain ⟨oc, od, odd, os'⟩ := o
    dsimp only at hc hd
    subst hc
    subst hd
    have g1 := AutoSeq1.idx_int; have g2 := AutoSeq1.sub_tuple_tuple; have g3 := AutoSeq1.sub_list_list; have g4 := AutoSeq1.sub_tuple_list; have g5 := AutoSeq1.sub_list_tuple
    have fits : (items ++ items2).size ≤ sizeLine + 1 := Array.size_append ▸ hs2
    wp_walk using (wpAny_updateSeq hl rfl (hz := hs1) (_hz' := fits)), AutoSeq1.wpAny_loadPart' hl, AutoSeq1.wpAny_loadPart' hb; exact ⟨_, rfl, h⟩
section
variable {X : Cx}
def rExtendB : V → List V → Hp → VK → Prop := fun x vs H Q => ∃ l b xs zs, x = .ref l ∧ vs = [.ref b] ∧ H l = some (.lst xs) ∧ (H b = some (.lst zs) ∨ H b = some (.tup zs)) ∧ xs.length + zs.length ≤ sizeLine ∧ Q .non (upd H l (.lst (xs ++ zs)))
theorem mt_extendB : MtM X "list.extend" rExtendB := by
  intro pins s σ H x vs v us Q I rx rv h
  obtain ⟨l, b, xs, zs, rfl, rfl, hH, hB, hz, q⟩ := h
  rcases hB with hB | hB
  · exact mt_extend pins s σ H _ _ v us Q I rx rv ⟨l, b, xs, zs, rfl, rfl, hH, hB, hz, q⟩
  cases rx
  obtain ⟨u, rfl, ru⟩ := rv.one
  cases ru
  obtain ⟨z, its, n, r, hl, e⟩ := I.lstM hH
  obtain ⟨its2, r2, e2, hl2⟩ := I.tuple (SqT.of hB)
  have hl3 := r2.length
  have hsz : its.toArray.size + its2.toArray.size ≤ sizeLine := by rw [List.size_toArray, List.size_toArray]; omega
  have hlong : ¬ (!its.toArray.isEmpty && Builtin.List.listTooLong (its.toArray.size + its2.toArray.size)) = true := by
    rw [notLongL hsz, Bool.and_false]
    exact Bool.false_ne_true
  refine call_meets F.slot_list_extend ⟨_, e, rfl⟩ F.entry_list_extend (F.args_list_extend_2 _ _)
    (list_extend_tup l its.toArray n b its2.toArray hlong (by rw [List.size_toArray]; omega) (by omega)) ⟨e, e2, ?_⟩
  refine ⟨.non, _, I.lset (its' := its ++ its2) hH e (by simp) (r.append r2) ?_, rfl, q⟩
  rw [List.length_append]
  omega
end
end Lb

set_option Elab.async false
set_option linter.all false
set_option maxRecDepth 100000
set_option maxHeartbeats 4000000
namespace K60
open PySem L2 Lb
open C8 (pss_cut)
theorem kb_Order_init_ {K : PySem.W.Frag} {mg : Str → Option Value} {a : Ad} (T : Txt K mg a) : KBn K a.d_Order_init_ ["self", "levels"] 1 ["levels"] (fun us ws => us ++ ws) (fun vs zs => vs ++ zs) :=
  kbn_of T.F_Order_init_ fun _ _ _ _ _ _ us ws h1 h2 => match us, ws, h1, h2 with | [_], [_], _, _ => rfl
/-- rows of names: lists or tuples, in a list -/
def RowsB (H : Hp) (r : Addr) (M : List (Bool × List Str)) : Prop := ∃ xs, H r = some (.lst xs) ∧ Ats H (RD M) xs
theorem RowsB.same {H H' : Hp} {r : Addr} {M : List (Bool × List Str)} (h : RowsB H r M) (s : Same H H') : RowsB H' r M := let ⟨xs, a, b⟩ := h; ⟨xs, s _ _ a, Ats.same s _ _ b⟩
def rowO (b : Bool) (x : List Str) : HO := if b then .tup (x.map V.str) else .lst (x.map V.str)
theorem rowB {H : Hp} {b : Bool} {x : List Str} {v : V} (h : At H (rowD b x) v) : ∃ a, v = .ref a ∧ H a = some (rowO b x) := by
  cases b
  · have h : At H (.ls (x.map .str)) v := h
    simp only [At] at h
    obtain ⟨a, xs, e, h1, h2⟩ := h
    rw [ats_strs.mp h2] at h1
    exact ⟨a, e, h1⟩
  · have h : At H (.tp (x.map .str)) v := h
    simp only [At] at h
    obtain ⟨a, xs, e, h1, h2⟩ := h
    rw [ats_strs.mp h2] at h1
    exact ⟨a, e, h1⟩
theorem at_row {H : Hp} {b : Bool} {x : List Str} {a : Addr} (h : H a = some (rowO b x)) : At H (rowD b x) (.ref a) := by
  cases b
  · show At H (.ls (x.map .str)) _
    simp only [At]
    exact ⟨a, _, rfl, h, ats_strs.mpr rfl⟩
  · show At H (.tp (x.map .str)) _
    simp only [At]
    exact ⟨a, _, rfl, h, ats_strs.mpr rfl⟩
theorem rowsB_at {H : Hp} {M : List (Bool × List Str)} {xs : List V} {i : Nat} {v : V} (h : Ats H (RD M) xs) (e : xs[i]? = some v) : ∃ b x a, M[i]? = some (b, x) ∧ v = .ref a ∧ H a = some (rowO b x) := by
  obtain ⟨d, h1, h2⟩ := h.at_ e
  unfold RD at h1
  rw [List.getElem?_map] at h1
  cases hm : M[i]? with
  | none => rw [hm] at h1; cases h1
  | some q =>
    rw [hm] at h1
    cases h1
    obtain ⟨a, e1, e2⟩ := rowB h2
    exact ⟨q.1, q.2, a, rfl, e1, e2⟩
theorem rowsB_len {H : Hp} {M : List (Bool × List Str)} {xs : List V} (h : Ats H (RD M) xs) : xs.length = M.length := by
  rw [h.len]
  unfold RD
  rw [List.length_map]
def sp_flat : Sp := fun vs H Q _ => ∃ (r : Addr) (M : List (Bool × List Str)), vs = [.ref r] ∧ RowsB H r M ∧ (M.map (·.2)).flatten.length ≤ 200 ∧
  ∀ H' l, Same H H' → H l = none → H' l = some (.lst ((M.map (·.2)).flatten.map V.str)) → Q (.ref l) H'
def sp_ofl (C : Addr) : Sp := fun vs H Q _ => ∃ (r : Addr) (M : List (Bool × List Str)), vs = [.ref r] ∧ RowsB H r M ∧ Good (M.map (·.2)) ∧
  ∀ H' q, Same H H' → OrdAt C H' q ((M.map (·.2)).map srt) (plR 0 (M.map (·.2))) → FreshL C H H' q → Q (.ref q) H'
theorem of_go {C CI : Addr} {H : Hp} {Q : VK} {E : XK} {M : List (Bool × List Str)} {xs : List V} (h : Ats H (RD M) xs) (g : Good (M.map (·.2))) (k : ∀ H' q, Same H H' → OrdAt C H' q ((M.map (·.2)).map srt) (plR 0 (M.map (·.2))) → FreshL C H H' q → Q (.ref q) H') : sp_of C CI xs H Q E := by
  have hl := rowsB_len h
  have hm := g.rlen.1
  rw [List.length_map] at hm
  refine ⟨[], xs, rfl, rfl, szle (by omega), fun p hp => ?_⟩
  have s1 : Same H (upd H p (.tup xs)) := Lb.Same.upd hp
  obtain ⟨e1, e2, e3⟩ := good_RD g (d := .tp (RD M)) rfl
  refine ⟨_, .tp (RD M), rfl, ?_, e3, ?_⟩
  · simp only [At]
    exact ⟨p, xs, rfl, upd_same, Ats.same s1 _ _ h⟩
  · rw [e1]
    intro H' q s o fr
    rw [e2] at o
    exact k H' q (s1.trans s) o fun dx D l e => Lb.Same.free s1 (fr dx D l e)
section
variable {P : Program} {w : World} {K : PySem.W.Frag} {mg : Str → Option Value} {base : Heap} {a : Ad}
theorem ok_flat (T : Txt K mg a) : FnOk P w K mg base CX0 1 a.f_flat a.d_flat ["_law_rows"] sp_flat := by
  refine T.F_flat.ok sc_flat (fun vs H Q E h => ?_) (fun cdv A outer s H vs Q E hr h => ?_)
  · obtain ⟨r, M, rfl, _⟩ := h
    rfl
  · obtain ⟨r, M, rfl, ⟨xs, hr0, hx⟩, hz, k⟩ := h
    refine ⟨_, (pss_cons (ps_set (i := 1) sc_flat.nd rfl (by first | exact Or.inl rfl | exact Or.inr rfl) (pe_lst pa_nil))
 (pss_cons (ps_for PassesOwn.never rfl (pi_listK (K := K) rfl (pv 0)) (pg_name (i := 2) sc_flat.nd rfl (by first | exact Or.inl rfl | exact Or.inr rfl)) (pss_one (ps_expr (pe_bm PySem.F.plainAttrs_list PySem.F.slot_list_extend PySem.F.type_list_extend mt_extendB (pv 1) (pa_cons (pv 2) pa_nil)))))
 (pss_one (ps_ret (pv 1))))), ?_⟩
    refine ⟨sz, fun fl hfl => ?_⟩
    have hl := rowsB_len hx
    refine ⟨_, rfl, r, rfl, ⟨_, SqL.of (Lb.Same.upd hfl _ _ hr0)⟩, ?_⟩
    refine for_list (K := K) (a := r) (xs := xs) (fun i σ H' => ∃ u2, σ = [some (.ref r), some (.ref fl), u2] ∧ Same H H' ∧ H' fl = some (.lst (((M.take i).map (·.2)).flatten.map V.str)))
      ⟨_, rfl, Lb.Same.upd hfl, upd_same⟩ (fun i σ H' _ ⟨u2, _, s', _⟩ => SqL.of (s' _ _ hr0)) ?_ ?_
    · rintro i v σ H1 hv ⟨u2, rfl, s1, e1⟩
      obtain ⟨b, x, c, hm, rfl, hc⟩ := rowsB_at hx hv
      have hc1 := s1 _ _ hc
      refine ⟨_, rfl, .inl ⟨rfl, _, SqL.of e1⟩, _, rfl, fl, c, _, x.map V.str, rfl, rfl, e1, ?_, ?_, _, rfl, Lb.Same.updl s1 hfl, ?_⟩
      · cases b
        · exact .inl hc1
        · exact .inr hc1
      · have h1 : ((M.take (i + 1)).map (·.2)).flatten.length ≤ (M.map (·.2)).flatten.length := by
          rw [List.map_take]
          have := List.take_append_drop (i + 1) (M.map (·.2))
          conv => rhs; rw [← this]
          rw [List.flatten_append, List.length_append]
          omega
        rw [← take_snoc hm, List.map_append, List.flatten_append, List.length_append] at h1
        simp only [List.map_cons, List.map_nil, List.flatten_cons, List.flatten_nil, List.append_nil] at h1
        rw [List.length_map, List.length_map]
        exact szle (by omega)
      · rw [upd_same, ← take_snoc hm, List.map_append, List.flatten_append, List.map_append]
        simp
    · rintro σ H1 ⟨u2, rfl, s1, e1⟩
      rw [hl, List.take_length] at e1
      exact ⟨_, rfl, k H1 fl s1 hfl e1⟩
theorem ok_of (T : Txt K mg a) : FnOk P w K mg base CX0 8 a.f_of a.d_of ["_law_rows"] (sp_ofl a.c_Order) := by
  refine T.F_of.ok sc_of (fun vs H Q E h => ?_) (fun cdv A outer s H vs Q E hr h => ?_)
  · obtain ⟨r, M, rfl, _⟩ := h
    rfl
  · obtain ⟨r, M, rfl, ⟨xs, hr0, hx⟩, g, k⟩ := h
    refine ⟨_, (pss_cons (ps_if (pt_cmpR op_eq (pe_callB (call_lenK (K := K) rfl) (by rfl) T.b_len (by decide +kernel) (pa_cons (pv 0) pa_nil)) pe_int (nomark _)) (pss_one (ps_ret (pe_smethR (pe_glob (v := .ref a.c_Order) rfl T.mO rfl) T.sOf (ok_Orderof T) (hr.mono (by decide)) passX0 (pa_cons (pe_ix (ix_listK (K := K) rfl) (pv 0) pe_int (fun _ _ => rfl)) pa_nil)))) pss_nil)
 (pss_cons (ps_if (pt_cmpR op_eq (pe_callB (call_lenK (K := K) rfl) (by rfl) T.b_len (by decide +kernel) (pa_cons (pv 0) pa_nil)) pe_int (nomark _)) (pss_one (ps_ret (pe_smethR (pe_glob (v := .ref a.c_Order) rfl T.mO rfl) T.sOf (ok_Orderof T) (hr.mono (by decide)) passX0 (pa_cons (pe_ix (ix_listK (K := K) rfl) (pv 0) pe_int (fun _ _ => rfl)) (pa_cons (pe_ix (ix_listK (K := K) rfl) (pv 0) pe_int (fun _ _ => rfl)) pa_nil))))) pss_nil)
 (pss_cons (ps_if (pt_cmpR op_eq (pe_callB (call_lenK (K := K) rfl) (by rfl) T.b_len (by decide +kernel) (pa_cons (pv 0) pa_nil)) pe_int (nomark _)) (pss_one (ps_ret (pe_smethR (pe_glob (v := .ref a.c_Order) rfl T.mO rfl) T.sOf (ok_Orderof T) (hr.mono (by decide)) passX0 (pa_cons (pe_ix (ix_listK (K := K) rfl) (pv 0) pe_int (fun _ _ => rfl)) (pa_cons (pe_ix (ix_listK (K := K) rfl) (pv 0) pe_int (fun _ _ => rfl)) (pa_cons (pe_ix (ix_listK (K := K) rfl) (pv 0) pe_int (fun _ _ => rfl)) pa_nil)))))) pss_nil)
 (pss_one (ps_ret (pe_makeK0 T.mkO (ok_Order_init_ T) (hr.mono (by decide)) (by rfl) T.mO (kb_Order_init_ T) passX0 (pk_cons (pe_callTy (call_tuple_ofK (K := K) rfl) (by rfl) T.b_tuple (by decide +kernel) (pa_cons (pv 0) pa_nil)) pk_nil))))))), ?_⟩
    have go := fun E => of_go (C := a.c_Order) (CI := a.c_InvalidLevels) (Q := Q) (E := E) hx g k
    have hl : xs.length ≤ 40 := by
      have := g.rlen.1
      rw [List.length_map, ← rowsB_len hx] at this
      exact this
    have le := rowsB_len hx
    have i1 : ∀ {n m : Nat} {t1 t2 : Prop}, n = m → t1 → (if decide (V.int (n : Nat) = V.int (m : Nat)) = true then t1 else t2) := fun e h => by rw [e, decide_eq_true rfl]; exact iteT h
    have i2 : ∀ {n m : Nat} {t1 t2 : Prop}, n ≠ m → t2 → (if decide (V.int (n : Nat) = V.int (m : Nat)) = true then t1 else t2) := fun e h => by
      rw [decide_eq_false (fun z => e (by have := V.int.inj z; omega))]; exact iteF h
    have ix : ∀ {ys : List V} {i : Nat} {v : V}, H r = some (.lst ys) → ys[i]? = some v → ∃ (p : Addr) (xs : List V) (k : Int) (y : V), V.ref r = .ref p ∧ V.int (i : Nat) = .int k ∧ SqL K H p xs ∧ atI xs k = some y ∧ v = y := fun e h => ⟨_, _, _, _, rfl, rfl, SqL.of e, atI_nat h, rfl⟩
    match xs, hl, hx, hr0, go, le with
    | [], _, hx, _, _, le =>
      have := g.ne
      cases M
      · exact absurd rfl this
      · cases le
    | [v1], _, hx, hr0, go, _ => 
      refine ⟨_, rfl, _, _, rfl, .inl (SqL.of hr0), rfl, _, rfl, i1 (m := 1) rfl ?_⟩
      exact ⟨rfl, _, rfl, _, _, 0, v1, rfl, rfl, SqL.of hr0, atI_nat (j := 0) rfl, go _⟩
    | [v1, v2], _, hx, hr0, go, _ =>
      refine ⟨_, rfl, _, _, rfl, .inl (SqL.of hr0), rfl, _, rfl, i2 (m := 1) (by simp) ?_⟩
      refine ⟨_, rfl, _, _, rfl, .inl (SqL.of hr0), rfl, _, rfl, i1 (m := 2) rfl ?_⟩
      exact ⟨rfl, _, rfl, _, _, 0, v1, rfl, rfl, SqL.of hr0, atI_nat (j := 0) rfl, _, rfl, _, _, 1, v2, rfl, rfl, SqL.of hr0, atI_nat (j := 1) rfl, go _⟩
    | [v1, v2, v3], _, hx, hr0, go, _ =>
      refine ⟨_, rfl, _, _, rfl, .inl (SqL.of hr0), rfl, _, rfl, i2 (m := 1) (by simp) ?_⟩
      refine ⟨_, rfl, _, _, rfl, .inl (SqL.of hr0), rfl, _, rfl, i2 (m := 2) (by simp) ?_⟩
      refine ⟨_, rfl, _, _, rfl, .inl (SqL.of hr0), rfl, _, rfl, i1 (m := 3) rfl ?_⟩
      exact ⟨rfl, _, rfl, _, _, 0, v1, rfl, rfl, SqL.of hr0, atI_nat (j := 0) rfl, _, rfl, _, _, 1, v2, rfl, rfl, SqL.of hr0, atI_nat (j := 1) rfl, _, rfl, _, _, 2, v3, rfl, rfl, SqL.of hr0, atI_nat (j := 2) rfl, go _⟩
    | v1 :: v2 :: v3 :: v4 :: rest, hl, hx, hr0, go, _ =>
      have h4 : 4 ≤ (v1 :: v2 :: v3 :: v4 :: rest).length := by simp
      generalize v1 :: v2 :: v3 :: v4 :: rest = ys at *
      refine ⟨_, rfl, _, _, rfl, .inl (SqL.of hr0), rfl, _, rfl, i2 (m := 1) (by omega) ?_⟩
      refine ⟨_, rfl, _, _, rfl, .inl (SqL.of hr0), rfl, _, rfl, i2 (m := 2) (by omega) ?_⟩
      refine ⟨_, rfl, _, _, rfl, .inl (SqL.of hr0), rfl, _, rfl, i2 (m := 3) (by omega) ?_⟩
      refine ⟨_, rfl, r, _, rfl, .inl ⟨SqL.of hr0, fun t ht => ⟨rfl, rfl, ?_⟩⟩⟩
      have s1 : Same H (upd H t (.tup ys)) := Lb.Same.upd ht
      obtain ⟨e1, e2, e3⟩ := good_RD g (d := .tp (RD M)) rfl
      refine make_okN (d := .tp (RD M)) ?_ e3 e1 fun H' q s o fr => k H' q (s1.trans s) (by rw [e2] at o; exact o) fun dx D l e => Lb.Same.free s1 (fr dx D l e)
      simp only [At]
      exact ⟨t, ys, rfl, upd_same, Ats.same s1 _ _ hx⟩
end
end K60

set_option Elab.async false
set_option linter.all false
set_option maxRecDepth 100000
set_option maxHeartbeats 4000000
namespace K60
open PySem L2 Lb
open C8 (pss_cut)
/-! pairs of levels -/
def prL (A B : List (List Str)) : List (List Str × List Str) := A.flatMap fun x => B.map fun y => (x, y)
def PairR (H : Hp) (t : Addr) (q : List Str × List Str) : Prop := ∃ a b, H t = some (.tup [.ref a, .ref b]) ∧ RowT H a q.1 ∧ RowT H b q.2
theorem PairR.same {H H' : Hp} {t : Addr} {q : List Str × List Str} (h : PairR H t q) (s : Same H H') : PairR H' t q := let ⟨a, b, h1, h2, h3⟩ := h; ⟨a, b, s _ _ h1, s _ _ h2, s _ _ h3⟩
theorem RowT.updl {H : Hp} {t l : Addr} {x : List Str} {xs : List V} {o : HO} (h : RowT H t x) (e : H l = some (.lst xs)) : RowT (upd H l o) t x := by
  unfold RowT at h ⊢
  rw [upd_ne (ne_of h e (fun z => nomatch z))]
  exact h
theorem PairR.updl {H : Hp} {t l : Addr} {q : List Str × List Str} {xs : List V} {o : HO} (h : PairR H t q) (e : H l = some (.lst xs)) : PairR (upd H l o) t q :=
  let ⟨a, b, h1, h2, h3⟩ := h
  ⟨a, b, by rw [upd_ne (ne_of h1 e (fun z => nomatch z))]; exact h1, h2.updl e, h3.updl e⟩
def TrQ (q : List Str × List Str) : Tr := .tp [TrT q.1, TrT q.2]
def TrW (L : List (List Str)) : Tr := .ls [.ls ((prL L L).map TrQ), TrL L, TrL L]
section
variable {K : PySem.W.Frag} {O : Addr → Hp → Str → Prop} {H : Hp}
theorem sh_pair {t : Addr} {q : List Str × List Str} (h : PairR H t q) : Sh K O H (TrQ q) (.ref t) := by
  obtain ⟨a, b, h1, h2, h3⟩ := h
  unfold TrQ
  simp only [Sh, Shs]
  exact ⟨t, _, rfl, SqT.of h1, _, _, rfl, sh_row h2, _, _, rfl, sh_row h3, rfl⟩
theorem shs_pairs : ∀ {ts : List Addr} {qs : List (List Str × List Str)}, Paired (PairR H) ts qs → Shs K O H (qs.map TrQ) (ts.map V.ref)
  | _, _, .nil => by simp only [List.map_nil, Shs]
  | _, _, .cons h r => by
    simp only [List.map_cons, Shs]
    exact ⟨_, _, rfl, sh_pair h, shs_pairs r⟩
theorem sh_w {l pa d e : Addr} {ps : List Addr} {L : List (List Str)} (hl : H l = some (.lst [.ref pa, .ref d, .ref e])) (hp : H pa = some (.lst (ps.map V.ref))) (pr : Paired (PairR H) ps (prL L L)) (hd : LevA H d L) (he : LevA H e L) : Sh K O H (TrW L) (.ref l) := by
  unfold TrW
  simp only [Sh, Shs]
  exact ⟨l, _, rfl, SqL.of hl, _, _, rfl, ⟨pa, _, rfl, SqL.of hp, shs_pairs pr⟩, _, _, rfl, sh_lev hd, _, _, rfl, sh_lev he, rfl⟩
end
theorem prL_len (A B : List (List Str)) : (prL A B).length = A.length * B.length := by
  induction A with
  | nil => simp [prL]
  | cons x r ih =>
    unfold prL at ih ⊢
    rw [List.flatMap_cons, List.length_append, ih, List.length_map, List.length_cons, Nat.succ_mul, Nat.add_comm]
theorem prL_mem {A B : List (List Str)} {q : List Str × List Str} (h : q ∈ prL A B) : q.1 ∈ A ∧ q.2 ∈ B := by
  unfold prL at h
  obtain ⟨x, hx, h⟩ := List.mem_flatMap.mp h
  obtain ⟨y, hy, rfl⟩ := List.mem_map.mp h
  exact ⟨hx, hy⟩
theorem TrQ_len {q : List Str × List Str} (h1 : ∀ z ∈ q.1, nmS z = true) (h2 : ∀ z ∈ q.2, nmS z = true) (l1 : q.1.length ≤ 40) (l2 : q.2.length ≤ 40) : (TrQ q).text.length ≤ 6733 := by
  unfold TrQ
  simp only [Tr.text, Tr.texts]
  have a := TrT_len h1
  have b := TrT_len h2
  have := tup_le [(TrT q.1).text, (TrT q.2).text]
  rw [piled_cons, piled_cons] at this
  simp only [piled, List.map_nil, List.sum_nil] at this
  omega
theorem TrW_len {L : List (List Str)} (h : Sz L) : (TrW L).text.length ≤ sizeLine := by
  unfold TrW
  simp only [Tr.text, Tr.texts]
  have e := list_le [listText (Tr.texts ((prL L L).map TrQ)), (TrL L).text, (TrL L).text]
  rw [piled_cons, piled_cons, piled_cons] at e
  simp only [piled, List.map_nil, List.sum_nil] at e
  have a := TrL_len h.nm h.each
  have hl := h.l
  have b : (listText (Tr.texts ((prL L L).map TrQ))).length ≤ 2 + 6735 * 1600 := by
    rw [texts_map, List.map_map]
    refine Nat.le_trans (list_le _) (Nat.add_le_add_left ?_ _)
    refine Nat.le_trans (piled_le (n := 6733) fun t ht => ?_) ?_
    · obtain ⟨q, hq, rfl⟩ := List.mem_map.mp ht
      obtain ⟨m1, m2⟩ := prL_mem hq
      exact TrQ_len (h.nm _ m1) (h.nm _ m2) (h.each _ m1) (h.each _ m2)
    · rw [List.length_map, prL_len]
      exact Nat.mul_le_mul_left _ (Nat.mul_le_mul hl hl)
  rw [sizeLine_eq]
  omega
theorem TrW_dep (L : List (List Str)) : (TrW L).dep + 1 ≤ 8 := by
  have a := TrL_dep L
  have b : ∀ qs : List (List Str × List Str), Tr.deps (qs.map TrQ) ≤ 2 := by
    intro qs
    induction qs with
    | nil => simp [Tr.deps]
    | cons q r ih =>
      simp only [List.map_cons, Tr.deps, TrQ, Tr.dep, TrT, TrS_dep]
      omega
  have := b (prL L L)
  unfold TrW
  simp only [Tr.dep, Tr.deps, TrL]
  omega
theorem lev_at {H : Hp} {ts : List Addr} {L : List (List Str)} {i : Nat} {v : V} (h : Paired (RowT H) ts L) (e : (ts.map V.ref)[i]? = some v) : ∃ c x, v = .ref c ∧ L[i]? = some x ∧ RowT H c x := by
  rw [List.getElem?_map] at e
  cases h0 : ts[i]? with
  | none => rw [h0] at e; cases e
  | some c =>
    rw [h0] at e
    obtain ⟨x, hx, hr⟩ := Paired.at_ h h0
    exact ⟨c, x, by simpa using e.symm, hx, hr⟩
theorem paired_app {α β : Type} {F : α → β → Prop} {xs as : List α} : ∀ {ys bs : List β}, Paired F xs ys → Paired F as bs → Paired F (xs ++ as) (ys ++ bs)
  | _, _, .nil, k => k
  | _, _, .cons h r, k => .cons h (paired_app r k)
def sp_walked (C : Addr) : Sp := fun vs H Q _ => ∃ q d L p, vs = [.ref q, .ref d] ∧ OrdAt C H q L p ∧ LevA H d L ∧ Sz L ∧ p.length ≤ 60 ∧ ∀ H', Same H H' → Q (.bl true) H'
section
variable {P : Program} {w : World} {K : PySem.W.Frag} {mg : Str → Option Value} {base : Heap} {a : Ad}
theorem ok_walked_right (T : Txt K mg a) : FnG P w K mg base CX0 6 a.f_walked_right a.d_walked_right ["_law_line", "_law_due"] (sp_walked a.c_Order) := by
  refine okG T.F_walked_right sc_walked_right (fun vs H Q E h => ?_) (fun cdv A outer s H vs Q E gu hr h => ?_)
  · obtain ⟨q, d, L, p, rfl, _⟩ := h
    rfl
  · obtain ⟨q, d, L, p, rfl, ⟨dx, D, l, ts, hq, hD, hl, pr⟩, ⟨ds, hd, dr⟩, hz, hp, k⟩ := h
    refine ⟨_, (pss_cons (ps_par (i := 2) (j := 3) rfl sc_walked_right.nd rfl rfl (by decide) rfl rfl (pa_cons (pe_lst pa_nil) (pa_cons (pe_lst pa_nil) pa_nil)) (by rfl))
 (pss_cons (ps_for PassesOwn.never rfl (pi_listK (K := K) rfl (pv 1)) (pg_name (i := 4) sc_walked_right.nd rfl (by first | exact Or.inl rfl | exact Or.inr rfl)) (pss_one (ps_expr (pe_bm PySem.F.plainAttrs_list PySem.F.slot_list_extend PySem.F.type_list_extend mt_extend (pv 2) (pa_cons (pe_lc (own := [("_law_other_here", 5)]) (by rfl) sc_walked_right.nd (pi_listK (K := K) rfl (pv 1)) (blkOk_by (own := [("_law_other_here", 5)]) (N := ["_law_line", "_law_due", "_law_pairs", "_law_walked", "_law_row", "_law_other_here"]) (sc := defScope s_walked_right) (by decide +kernel)) (fun _ _ _ _ _ => (pg_name (i := 5) sc_walked_right.nd rfl (by first | exact Or.inl rfl | exact Or.inr rfl))) (fun _ _ _ _ _ => pts_nil) (fun _ _ _ _ _ => (pe_tup (pa_cons (pv 4) (pa_cons (pv 5) pa_nil))))) pa_nil)))))
 (pss_cons (ps_for PassesOwn.never rfl (pi_own (K := K) rfl T.cIt.at_ T.cIt.fn (ok_Order_iter_ T) (b_Order_iter_ T) (hr.mono (by decide)) (pv 0)) (pg_name (i := 4) sc_walked_right.nd rfl (by first | exact Or.inl rfl | exact Or.inr rfl)) (pss_one (ps_expr (pe_bm PySem.F.plainAttrs_list PySem.F.slot_list_extend PySem.F.type_list_extend mt_extend (pv 3) (pa_cons (pe_lc (own := [("_law_other_here", 5)]) (by rfl) sc_walked_right.nd (pi_own (K := K) rfl T.cIt.at_ T.cIt.fn (ok_Order_iter_ T) (b_Order_iter_ T) (hr.mono (by decide)) (pv 0)) (blkOk_by (own := [("_law_other_here", 5)]) (N := ["_law_line", "_law_due", "_law_pairs", "_law_walked", "_law_row", "_law_other_here"]) (sc := defScope s_walked_right) (by decide +kernel)) (fun _ _ _ _ _ => (pg_name (i := 5) sc_walked_right.nd rfl (by first | exact Or.inl rfl | exact Or.inr rfl))) (fun _ _ _ _ _ => pts_nil) (fun _ _ _ _ _ => (pe_tup (pa_cons (pv 4) (pa_cons (pv 5) pa_nil))))) pa_nil)))))
 (pss_one (ps_ret (pe_cmpR op_eq (pe_callB (call_show (K := K) (O := OEmpty) (D := 8) rfl gu (room8 hr) own_empty (ow_empty (room8 hr))) (by rfl) T.b_repr (by decide +kernel) (pa_cons (pe_lst (pa_cons (pv 3) (pa_cons (pe_callTy (Lb.call_listOwn (K := K) rfl rfl T.cIt.at_ T.cIt.fn (ok_Order_iter_ T) (b_Order_iter_ T) T.cLen.at_ T.cLen.fn ((ok_Order_len_ T).raw (b_Order_len_ T) .nil) (hr.mono (by decide))) (by rfl) T.b_list (by decide +kernel) (pa_cons (pv 0) pa_nil)) (pa_cons (pe_lc (own := [("_law_row", 4)]) (by rfl) sc_walked_right.nd (pi_own (K := K) rfl T.cIt.at_ T.cIt.fn (ok_Order_iter_ T) (b_Order_iter_ T) (hr.mono (by decide)) (pv 0)) (blkOk_by (own := [("_law_row", 4)]) (N := ["_law_line", "_law_due", "_law_pairs", "_law_walked", "_law_row", "_law_other_here"]) (sc := defScope s_walked_right) (by decide +kernel)) (fun _ _ _ _ _ => (pg_name (i := 4) sc_walked_right.nd rfl (by first | exact Or.inl rfl | exact Or.inr rfl))) (fun _ _ _ _ _ => pts_nil) (fun _ _ _ _ _ => (pv 4))) pa_nil)))) pa_nil)) (pe_callB (call_show (K := K) (O := OEmpty) (D := 8) rfl gu (room8 hr) own_empty (ow_empty (room8 hr))) (by rfl) T.b_repr (by decide +kernel) (pa_cons (pe_lst (pa_cons (pv 2) (pa_cons (pv 1) (pa_cons (pv 1) pa_nil)))) pa_nil)) (nomark _))))))), ?_⟩
    refine ⟨sz, fun pa hpa => ⟨sz, fun wa hwa => ⟨_, _, rfl, ?_⟩⟩⟩
    have npw : pa ≠ wa := fun z => by rw [← z, upd_same] at hwa; cases hwa
    have hwa0 : H wa = none := by rw [← hwa, upd_ne npw.symm]
    have s0 : Same H (upd (upd H pa (.lst [])) wa (.lst [])) := (Lb.Same.upd hpa).trans (Lb.Same.upd hwa)
    have ld : ds.length = L.length := Paired.len dr
    have ll : ts.length = L.length := Paired.len pr
    have hzl := hz.l
    have pl : ∀ i, (prL (L.take i) L).length ≤ 1600 := fun i => by rw [prL_len, List.length_take]; exact Nat.le_trans (Nat.mul_le_mul (Nat.le_trans (Nat.min_le_right _ _) hzl) hzl) (by decide)
    have pst : ∀ {i : Nat} {x : List Str}, L[i]? = some x → prL (L.take (i + 1)) L = prL (L.take i) L ++ L.map fun y => (x, y) := fun h => by
      rw [← take_snoc h]; unfold prL; rw [List.flatMap_append]; simp
    refine ⟨_, rfl, d, rfl, ⟨_, SqL.of (s0 _ _ hd)⟩, ?_⟩
    refine for_list (K := K) (a := d) (xs := ds.map V.ref) (fun i σ H' => ∃ u4, σ = [some (.ref q), some (.ref d), some (.ref pa), some (.ref wa), u4, none] ∧ Same H H' ∧ H' wa = some (.lst []) ∧ ∃ ps : List Addr, H' pa = some (.lst (ps.map V.ref)) ∧ Paired (PairR H') ps (prL (L.take i) L))
      ⟨_, rfl, s0, upd_same, [], by rw [upd_ne npw]; exact upd_same, .nil⟩ (fun i σ H' _ ⟨u4, _, s', _⟩ => SqL.of (s' _ _ hd)) ?_ ?_
    · rintro i v σ H1 hv ⟨u4, rfl, s1, ew, ps, ep, pp⟩
      obtain ⟨c, x, rfl, hx, hc⟩ := lev_at dr hv
      have hc1 : RowT H1 c x := s1 _ _ hc
      have hd1 := s1 _ _ hd
      refine ⟨_, rfl, .inl ⟨rfl, _, SqL.of ep⟩, _, rfl, d, rfl, ⟨_, SqL.of hd1⟩, fun D1 hD1 => ?_⟩
      refine lc_list (K := K) (a := d) (xs := ds.map V.ref) (fun j H' => Same H1 H' ∧ ∃ qs : List Addr, H' D1 = some (.lst (qs.map V.ref)) ∧ Paired (PairR H') qs ((L.take j).map fun y => (x, y))) ⟨Lb.Same.upd hD1, [], upd_same, .nil⟩ (fun j H' _ b => SqL.of (b.1 _ _ hd1)) ?_ ?_
      · rintro j v H2 hv ⟨s2, qs, eD, pq⟩
        obtain ⟨e, y, rfl, hy, he⟩ := lev_at dr hv
        refine ⟨rfl, _, rfl, _, rfl, sz, fun t ht => ?_⟩
        generalize e_H3 : upd _ t _ = H3
        obtain ⟨s3, f3⟩ := al3 e_H3 ht
        clear e_H3
        (try dsimp only at f3)
        have eD3 := s3 _ _ eD
        refine ⟨_, eD3, ?_, Lb.Same.updl (s2.trans s3) hD1, qs ++ [t], by rw [upd_same, List.map_append]; rfl, ?_⟩
        · rw [List.length_map, Paired.len pq, List.length_map, List.length_take]
          exact szlt (by omega)
        · rw [← take_snoc hy, List.map_append]
          exact Paired.snoc (PairR.updl (q := (x, y)) ⟨c, e, f3, s3 _ _ (s2 _ _ hc1), s3 _ _ (s2 _ _ (s1 _ _ he))⟩ eD3) (Paired.imp pq fun _ _ h => (h.same s3).updl eD3)
      rintro H2 ⟨s2, qs, eD, pq⟩
      rw [List.length_map, ld, List.take_length] at pq
      have ep2 := s2 _ _ ep
      refine ⟨pa, D1, _, _, rfl, rfl, ep2, eD, ?_, _, rfl, Lb.Same.updl (s1.trans s2) hpa, by rw [upd_ne npw.symm]; exact s2 _ _ ew, ps ++ qs, by rw [upd_same, List.map_append], ?_⟩
      · rw [List.length_map, List.length_map, Paired.len pp, Paired.len pq, List.length_map]
        have := pl i
        exact szle (by omega)
      · rw [pst hx]
        exact paired_app (Paired.imp pp fun _ _ h => (h.same s2).updl ep2) (Paired.imp pq fun _ _ h => h.updl ep2)
    rintro σ H1 ⟨u4, rfl, s1, ew, ps, ep, pp⟩
    rw [List.length_map, ld, List.take_length] at pp
    refine ⟨_, rfl, q, dx, _, l, _, rfl, s1 _ _ hq, ord_lev D l, SqL.of (s1 _ _ hl), ?_⟩
    refine for_list (K := K) (a := l) (xs := ts.map V.ref) (fun i σ H' => ∃ u4, σ = [some (.ref q), some (.ref d), some (.ref pa), some (.ref wa), u4, none] ∧ Same H H' ∧ (∃ ps : List Addr, H' pa = some (.lst (ps.map V.ref)) ∧ Paired (PairR H') ps (prL L L)) ∧ ∃ ws : List Addr, H' wa = some (.lst (ws.map V.ref)) ∧ Paired (PairR H') ws (prL (L.take i) L))
      ⟨_, rfl, s1, ⟨ps, ep, pp⟩, [], ew, .nil⟩ (fun i σ H' _ ⟨u4, _, s', _⟩ => SqL.of (s' _ _ hl)) ?_ ?_
    · rintro i v σ H2 hv ⟨u5, rfl, s2, ⟨ps, ep, pp⟩, ws, ew, pw⟩
      obtain ⟨c, x, rfl, hx, hc⟩ := lev_at pr hv
      have hc1 : RowT H2 c x := s2 _ _ hc
      have hl2 := s2 _ _ hl
      refine ⟨_, rfl, .inl ⟨rfl, _, SqL.of ew⟩, _, rfl, q, dx, _, l, _, rfl, s2 _ _ hq, ord_lev D l, SqL.of hl2, fun D1 hD1 => ?_⟩
      refine lc_list (K := K) (a := l) (xs := ts.map V.ref) (fun j H' => Same H2 H' ∧ ∃ qs : List Addr, H' D1 = some (.lst (qs.map V.ref)) ∧ Paired (PairR H') qs ((L.take j).map fun y => (x, y))) ⟨Lb.Same.upd hD1, [], upd_same, .nil⟩ (fun j H' _ b => SqL.of (b.1 _ _ hl2)) ?_ ?_
      · rintro j v H3 hv ⟨s3, qs, eD, pq⟩
        obtain ⟨e, y, rfl, hy, he⟩ := lev_at pr hv
        refine ⟨rfl, _, rfl, _, rfl, sz, fun t ht => ?_⟩
        generalize e_H4 : upd _ t _ = H4
        obtain ⟨s4, f4⟩ := al3 e_H4 ht
        clear e_H4
        (try dsimp only at f4)
        have eD4 := s4 _ _ eD
        refine ⟨_, eD4, ?_, Lb.Same.updl (s3.trans s4) hD1, qs ++ [t], by rw [upd_same, List.map_append]; rfl, ?_⟩
        · rw [List.length_map, Paired.len pq, List.length_map, List.length_take]
          exact szlt (by omega)
        · rw [← take_snoc hy, List.map_append]
          exact Paired.snoc (PairR.updl (q := (x, y)) ⟨c, e, f4, s4 _ _ (s3 _ _ hc1), s4 _ _ (s3 _ _ (s2 _ _ he))⟩ eD4) (Paired.imp pq fun _ _ h => (h.same s4).updl eD4)
      rintro H3 ⟨s3, qs, eD, pq⟩
      rw [List.length_map, ll, List.take_length] at pq
      have ew3 := s3 _ _ ew
      have ep3 := s3 _ _ ep
      refine ⟨wa, D1, _, _, rfl, rfl, ew3, eD, ?_, _, rfl, Lb.Same.updl (s2.trans s3) hwa0, ⟨ps, by rw [upd_ne npw]; exact ep3, Paired.imp pp fun _ _ h => (h.same s3).updl ew3⟩, ws ++ qs, by rw [upd_same, List.map_append], ?_⟩
      · rw [List.length_map, List.length_map, Paired.len pw, Paired.len pq, List.length_map]
        have := pl i
        exact szle (by omega)
      · rw [pst hx]
        exact paired_app (Paired.imp pw fun _ _ h => (h.same s3).updl ew3) (Paired.imp pq fun _ _ h => h.updl ew3)
    rintro σ H2 ⟨u5, rfl, s2, ⟨ps, ep, pp⟩, ws, ew, pw⟩
    rw [List.length_map, ll, List.take_length] at pw
    have hl2 := s2 _ _ hl
    refine ⟨_, rfl, _, rfl, q, dx, _, l, _, rfl, s2 _ _ hq, ord_lev D l, SqL.of hl2, by rw [List.length_map]; omega, fun m hm => ?_⟩
    have sm : Same H2 (upd H2 m (.lst [])) := Lb.Same.upd hm
    have nlm : l ≠ m := ne_of_none' (a := m) hm hl2 |>.symm
    have od : OrdA a.c_Order (upd H2 m (.lst [])) q dx L p := OrdA.same (OrdA.same ⟨D, l, ts, hq, hD, hl, pr⟩ s2) sm
    refine ⟨q, L, p, rfl, ⟨dx, od⟩, by omega, fun x hx => by have := hz.each x hx; omega, hp, fun H3 v s3 hv => ⟨L.length, hv, by omega, L.length, rfl, by omega, s3 _ _ upd_same, nlm, SqL.of (s3 _ _ (sm _ _ hl2)), ?_⟩⟩
    have S3 : Same H2 (upd H3 m (.lst (ts.map V.ref))) := Lb.Same.updl (sm.trans s3) hm
    have em : upd H3 m (.lst (ts.map V.ref)) m = some (.lst (ts.map V.ref)) := upd_same
    generalize upd H3 m (.lst (ts.map V.ref)) = H4 at S3 em ⊢
    have S4 := s2.trans S3
    have hl4 := S4 _ _ hl
    refine ⟨_, rfl, q, dx, _, l, _, rfl, S4 _ _ hq, ord_lev D l, SqL.of hl4, fun D2 hD2 => ?_⟩
    refine lc_list (K := K) (a := l) (xs := ts.map V.ref) (fun j H' => Same H4 H' ∧ H' D2 = some (.lst ((ts.take j).map V.ref))) ⟨Lb.Same.upd hD2, upd_same⟩ (fun j H' _ b => SqL.of (b.1 _ _ hl4)) ?_ ?_
    · rintro j v H5 hv ⟨s5, e5⟩
      rw [List.getElem?_map] at hv
      obtain ⟨e, he, rfl⟩ : ∃ e, ts[j]? = some e ∧ V.ref e = v := by
        cases h : ts[j]? with
        | none => rw [h] at hv; cases hv
        | some e => rw [h] at hv; exact ⟨e, rfl, by simpa using hv⟩
      refine ⟨rfl, _, rfl, _, e5, szlt (by rw [List.length_map, List.length_take]; omega), Lb.Same.updl s5 hD2, ?_⟩
      rw [upd_same, ← take_snoc he, List.map_append]
      rfl
    rintro H5 ⟨s5, e5⟩
    rw [List.length_map, List.take_length] at e5
    have S5 := S4.trans s5
    have s25 := S3.trans s5
    refine ⟨sz, fun r1 hr1 => ?_⟩
    generalize e_H6 : upd _ r1 _ = H6
    obtain ⟨s6, f6⟩ := al3 e_H6 hr1
    clear e_H6
    (try dsimp only at f6)
    have s26 := s25.trans s6
    have S6 := S5.trans s6
    have rT : ∀ {H' : Hp}, Same H H' → Paired (RowT H') ts L := fun s => Paired.imp pr fun _ _ h => s _ _ h
    have sh1 : Sh K OEmpty H6 (TrW L) (.ref r1) := sh_w f6 (s26 _ _ ew) (Paired.imp pw fun _ _ h => h.same s26) ⟨ts, s6 _ _ (s5 _ _ em), rT S6⟩ ⟨ts, s6 _ _ e5, rT S6⟩
    refine ⟨_, _, rfl, sh1, ⟨_, .inl rfl⟩, TrW_len hz, TrW_dep L, fun H7 s7 => ?_⟩
    refine ⟨_, rfl, _, rfl, _, rfl, sz, fun r2 hr2 => ?_⟩
    generalize e_H8 : upd _ r2 _ = H8
    obtain ⟨s8, f8⟩ := al3 e_H8 hr2
    clear e_H8
    (try dsimp only at f8)
    have s28 := (s26.trans s7).trans s8
    have S8 := (S6.trans s7).trans s8
    have rD : LevA H8 d L := ⟨ds, S8 _ _ hd, Paired.imp dr fun _ _ h => S8 _ _ h⟩
    have sh2 : Sh K OEmpty H8 (TrW L) (.ref r2) := sh_w f8 (s28 _ _ ep) (Paired.imp pp fun _ _ h => h.same s28) rD rD
    refine ⟨_, _, rfl, sh2, ⟨_, .inl rfl⟩, TrW_len hz, TrW_dep L, fun H9 s9 => ⟨rfl, ?_⟩⟩
    have z := k H9 (S8.trans s9)
    have e : (decide (V.str (TrW L).text = V.str (TrW L).text)) = true := by simp
    rw [← e] at z
    exact z
end
end K60

set_option Elab.async false
set_option linter.all false
set_option maxRecDepth 100000
set_option maxHeartbeats 4000000
namespace K60
open PySem L2 Lb
open C8 (pss_cut)
/-! places that are right -/
def PlOk (R : List (List Str)) (p : Pl) : Prop := p.length = R.flatten.length ∧ (p.map (·.1)).Perm R.flatten ∧ ∀ i x, R[i]? = some x → ∀ z ∈ x, plAt p z = some i
theorem find_app {p q : Pl} {z : Str} (h : z ∉ p.map (·.1)) : plAt (p ++ q) z = plAt q z := by
  unfold plAt
  rw [List.find?_append]
  have : p.find? (fun e => decide (e.1 = z)) = none := by
    rw [List.find?_eq_none]
    intro e he
    simp only [decide_eq_true_eq]
    intro h2
    exact h (List.mem_map.mpr ⟨e, he, h2⟩)
  rw [this]
  rfl
theorem find_row {x : List Str} {i : Nat} {q : Pl} {z : Str} (h : z ∈ x) : plAt (x.map (·, i) ++ q) z = some i := by
  unfold plAt
  induction x with
  | nil => cases h
  | cons y r ih =>
    rw [List.map_cons, List.cons_append, List.find?_cons]
    by_cases e : y = z
    · simp [e]
    · rw [show decide (y = z) = false by simp [e]]
      rcases List.mem_cons.mp h with h | h
      · exact absurd h.symm e
      · exact ih h
theorem plR_at : ∀ {R : List (List Str)} {j : Nat}, R.flatten.Nodup → ∀ i x, R[i]? = some x → ∀ z ∈ x, plAt (plR j R) z = some (j + i)
  | [], _, _, _, _, h, _, _ => by simp at h
  | y :: r, j, nd, i, x, h, z, hz => by
    rw [List.flatten_cons, List.nodup_append] at nd
    rw [plR]
    cases i with
    | zero =>
      simp at h
      subst h
      exact find_row hz
    | succ i =>
      simp at h
      have hzr : z ∈ r.flatten := List.mem_flatten.mpr ⟨x, List.mem_of_getElem? h, hz⟩
      rw [find_app (by
        rw [List.map_map]
        intro m
        have m : z ∈ y := by simpa [Function.comp_def] using m
        exact nd.2.2 z m z hzr rfl), plR_at nd.2.1 i x h z hz]
      congr 1
      omega
theorem plOk_R {R : List (List Str)} (nd : R.flatten.Nodup) : PlOk R (plR 0 R) := by
  refine ⟨?_, by rw [plR_keys], fun i x h z hz => by rw [plR_at nd i x h z hz, Nat.zero_add]⟩
  rw [← plR_keys 0 R, List.length_map]
theorem flat_srt (R : List (List Str)) : (R.map srt).flatten.Perm R.flatten := by
  induction R with
  | nil => exact .refl _
  | cons x r ih => rw [List.map_cons, List.flatten_cons, List.flatten_cons]; exact (srt_perm x).append ih
theorem PlOk.srt {R : List (List Str)} {p : Pl} (h : PlOk R p) : PlOk (R.map K60.srt) p := by
  refine ⟨by rw [h.1, (flat_srt R).length_eq], h.2.1.trans (flat_srt R).symm, fun i x hx z hz => ?_⟩
  rw [List.getElem?_map] at hx
  cases e : R[i]? with
  | none => rw [e] at hx; cases hx
  | some y =>
    rw [e] at hx
    cases hx
    exact h.2.2 i y e z (srt_mem.mp hz)
theorem Good.srt {R : List (List Str)} (g : Good R) : Good (R.map K60.srt) where
  ne := fun z => g.ne (List.map_eq_nil_iff.mp z)
  each := fun x hx z => by
    obtain ⟨y, hy, rfl⟩ := List.mem_map.mp hx
    have := srt_len y
    rw [z] at this
    exact g.each y hy (List.length_eq_zero_iff.mp this.symm)
  nm := fun x hx z hz => by
    obtain ⟨y, hy, rfl⟩ := List.mem_map.mp hx
    exact g.nm y hy z (srt_mem.mp hz)
  nd := (flat_srt R).nodup_iff.mpr g.nd
  len := by rw [(flat_srt R).length_eq]; exact g.len
theorem Good.sz {R : List (List Str)} (g : Good R) : Sz R := ⟨g.nm, g.rlen.1, g.rlen.2⟩
theorem srt_all (R : List (List Str)) : (R.map srt).map srt = R.map srt := by rw [List.map_map]; exact List.map_congr_left fun x _ => srt_srt x
/-! repr of whole numbers in a list -/
def TrN (n : Nat) (i : Nat) : Tr := .ls (List.replicate n (.lf (toString (i : Int))))
theorem rows_row {H : Hp} {as : List Addr} {R : List (List Str)} {i : Nat} {v : V} (h : Paired (RowL H) as R) (e : (as.map V.ref)[i]? = some v) : ∃ c x, v = .ref c ∧ R[i]? = some x ∧ RowL H c x := by
  rw [List.getElem?_map] at e
  cases h0 : as[i]? with
  | none => rw [h0] at e; cases e
  | some c =>
    rw [h0] at e
    obtain ⟨x, hx, hr⟩ := Paired.at_ h h0
    exact ⟨c, x, by simpa using e.symm, hx, hr⟩
theorem trl_ok {L : List (List Str)} (h : Sz L) : (TrL L).text.length ≤ sizeLine ∧ (TrL L).dep + 1 ≤ 8 := by
  have a := TrL_len h.nm h.each
  have b := TrL_dep L
  have hl := h.l
  refine ⟨by rw [sizeLine_eq]; omega, ?_⟩
  unfold TrL
  simp only [Tr.dep]
  omega
theorem RowT.same' {H H' : Hp} {t : Addr} {x : List Str} (h : RowT H t x) (s : Same H H') : RowT H' t x := s _ _ h
theorem small_text {i : Nat} (h : i < 41) : ((toString (i : Int) : String) : Str).length ≤ 4 := by
  have : ∀ j : Fin 41, ((toString ((j.val : Nat) : Int) : String) : Str).length ≤ 4 := by decide +kernel
  exact this ⟨i, h⟩
theorem trn_ok {n i : Nat} (h : n ≤ 40) (hi : i < 41) : (TrN n i).text.length ≤ sizeLine ∧ (TrN n i).dep + 1 ≤ 8 := by
  have e : ∀ n : Nat, Tr.deps (List.replicate n (Tr.lf ((toString (i : Int) : String) : Str))) = 0 := by
    intro n
    induction n with
    | zero => simp [Tr.deps]
    | succ n ih => rw [List.replicate_succ]; simp only [Tr.deps, Tr.dep, ih]; rfl
  unfold TrN
  constructor
  · simp only [Tr.text, texts_map, List.map_replicate]
    have a := list_le (List.replicate n ((toString (i : Int) : String) : Str))
    have b := piled_le (ts := List.replicate n ((toString (i : Int) : String) : Str)) (n := 4) fun t ht => by rw [List.eq_of_mem_replicate ht]; exact small_text hi
    rw [List.length_replicate] at b
    rw [sizeLine_eq]
    omega
  · simp only [Tr.dep, e n]
    decide
theorem sh_n {K : PySem.W.Frag} {H : Hp} {l : Addr} {n i : Nat} (hi : i < 41) (h : H l = some (.lst (List.replicate n (.int (i : Nat))))) : Sh K OEmpty H (TrN n i) (.ref l) := by
  unfold TrN
  simp only [Sh]
  refine ⟨l, _, rfl, SqL.of h, ?_⟩
  clear h
  induction n with
  | zero => simp only [List.replicate_zero, Shs]
  | succ n ih =>
    simp only [List.replicate_succ, Shs]
    refine ⟨_, _, rfl, ⟨?_, rfl⟩, ih⟩
    have : ∀ j : Fin 41, ((j.val : Nat) : Int).natAbs.log2 < 1920 := by decide +kernel
    exact this ⟨i, hi⟩
theorem paired_rev {α β : Type} {F : α → β → Prop} : ∀ {xs : List α} {ys : List β}, Paired F xs ys → Paired F xs.reverse ys.reverse
  | _, _, .nil => .nil
  | _, _, .cons h r => by rw [List.reverse_cons, List.reverse_cons]; exact Paired.snoc h (paired_rev r)
theorem empty_app (x : Str) : Str.empty ++ x = x := str_ext (by show ((#[] : Array Nat) ++ x.cps).toList = _; simp)
def sp_shown (C : Addr) : Sp := fun vs H Q _ => ∃ q r R p, vs = [.ref q, .ref r] ∧ OrdAt C H q (R.map srt) p ∧ PlOk (R.map srt) p ∧ RowsL H r R ∧ Good R ∧ ∀ H', Same H H' → Q (.bl true) H'
section
variable {P : Program} {w : World} {K : PySem.W.Frag} {mg : Str → Option Value} {base : Heap} {a : Ad}
theorem ok_shown_right (T : Txt K mg a) : FnG P w K mg base CX0 9 a.f_shown_right a.d_shown_right ["_law_line", "_law_rows"] (sp_shown a.c_Order) := by
  refine okG T.F_shown_right sc_shown_right (fun vs H Q E h => ?_) (fun cdv A outer s H vs Q E gu hr h => ?_)
  · obtain ⟨q, r, R, p, rfl, _⟩ := h
    rfl
  · obtain ⟨q, r, R, p, rfl, oq, po, ⟨as, hr0, ar⟩, g0, k⟩ := h
    have g := g0.srt
    have hz := g.sz
    have la : as.length = R.length := Paired.len ar
    have lm : (R.map srt).length = R.length := List.length_map _
    have hR := g0.rlen
    refine ⟨_, (pss_cons (ps_setLc (i := 2) (own := [("_law_row", 3)]) rfl sc_shown_right.nd rfl rfl (sw_true rfl rfl rfl (by decide +kernel)) (pi_listK (K := K) rfl (pv 1)) (blkOk_by (own := [("_law_row", 3)]) (N := ["_law_line", "_law_rows", "_law_due", "_law_row", "_law_names_here", "_law_at", "_law_name"]) (sc := defScope s_shown_right) (by decide +kernel)) (fun _ _ _ _ _ => (pg_name (i := 3) sc_shown_right.nd rfl (by first | exact Or.inl rfl | exact Or.inr rfl))) (fun _ _ _ _ _ => pts_nil) (fun _ _ _ _ _ => (pe_callTy (call_tuple_ofK (K := K) rfl) (by rfl) T.b_tuple (by decide +kernel) (pa_cons (pe_callB (cr_sortedSK (K := K) rfl) (by rfl) T.b_sorted (by decide +kernel) (pa_cons (pv 3) pa_nil)) pa_nil))))
 (pss_cons (ps_set (i := 4) sc_shown_right.nd rfl (by first | exact Or.inl rfl | exact Or.inr rfl) (pe_call (ok_flat T) (hr.mono (by decide)) (by rfl) T.m_flat T.F_flat.kp (b_flat T) .nil pass0 (pa_cons (pv 2) pa_nil)))
 (pss_cons (ps_if (pt_not (pt_val (pe_callG (ok_walked_right T) gu (hr.mono (by decide)) (by rfl) T.m_walked_right T.F_walked_right.kp (b_walked_right T) .nil pass0 (pa_cons (pv 0) (pa_cons (pv 2) pa_nil))))) (pss_one (ps_ret pe_bl)) pss_nil)
 (pss_cons (ps_if (PW.pt (pw_or (pt_cmpR (op_neD hr.units) (pe_meth0 (pv 0) T.cl T.mLev (ok_Orderlevels T) (hr.mono (by decide)) (b_Orderlevels T) .nil pass0) (pv 2) (nomark _)) (pw_or (pt_cmpR op_ne (pe_callB (call_lenOwn (K := K) rfl T.cLen.at_ T.cLen.fn ((ok_Order_len_ T).raw (b_Order_len_ T) .nil) (hr.mono (by decide))) (by rfl) T.b_len (by decide +kernel) (pa_cons (pv 0) pa_nil)) (pe_callB (call_lenK (K := K) rfl) (by rfl) T.b_len (by decide +kernel) (pa_cons (pv 2) pa_nil)) (nomark _)) (pw_or1 (pt_cmpR (op_neD hr.units) (pe_prop (pv 0) T.cl T.pN (ok_Ordernodes T) (hr.mono (by decide)) (b_Ordernodes T) .nil pass0 rfl) (pe_callTy (call_tuple_ofK (K := K) rfl) (by rfl) T.b_tuple (by decide +kernel) (pa_cons (pe_callB (cr_sortedSK (K := K) rfl) (by rfl) T.b_sorted (by decide +kernel) (pa_cons (pv 4) pa_nil)) pa_nil)) (nomark _)))))) (pss_one (ps_ret pe_bl)) pss_nil)
 (pss_cons (ps_expr (pe_bm0 PySem.F.plainAttrs_list PySem.F.slot_list_clear PySem.F.type_list_clear mt_clear (pe_meth0 (pv 0) T.cl T.mLev (ok_Orderlevels T) (hr.mono (by decide)) (b_Orderlevels T) .nil pass0)))
 (pss_cons (ps_if (pt_cmpR op_ne (pe_callB (call_show (K := K) (O := OEmpty) (D := 8) rfl gu (room8 hr) own_empty (ow_empty (room8 hr))) (by rfl) T.b_repr (by decide +kernel) (pa_cons (pe_meth0 (pv 0) T.cl T.mLev (ok_Orderlevels T) (hr.mono (by decide)) (b_Orderlevels T) .nil pass0) pa_nil)) (pe_callB (call_show (K := K) (O := OEmpty) (D := 8) rfl gu (room8 hr) own_empty (ow_empty (room8 hr))) (by rfl) T.b_repr (by decide +kernel) (pa_cons (pv 2) pa_nil)) (nomark _)) (pss_one (ps_ret pe_bl)) pss_nil)
 (pss_cons (ps_for PassesOwn.never rfl (pi_enum (by rfl) T.b_enumerate (pa_cons (pv 2) pa_nil)) (pg_tupK (K := K) (n := 2) rfl rfl (pgs_cons (pg_name (i := 5) sc_shown_right.nd rfl (by first | exact Or.inl rfl | exact Or.inr rfl)) (pgs_cons (pg_name (i := 3) sc_shown_right.nd rfl (by first | exact Or.inl rfl | exact Or.inr rfl)) pgs_nil))) (pss_one (ps_if (pt_cmpR op_ne (pe_callB (call_show (K := K) (O := OEmpty) (D := 8) rfl gu (room8 hr) own_empty (ow_empty (room8 hr))) (by rfl) T.b_repr (by decide +kernel) (pa_cons (pe_lc (own := [("_law_name", 6)]) (by rfl) sc_shown_right.nd (pi_tupK (K := K) rfl (pv 3)) (blkOk_by (own := [("_law_name", 6)]) (N := ["_law_line", "_law_rows", "_law_due", "_law_row", "_law_names_here", "_law_at", "_law_name"]) (sc := defScope s_shown_right) (by decide +kernel)) (fun _ _ _ _ _ => (pg_name (i := 6) sc_shown_right.nd rfl (by first | exact Or.inl rfl | exact Or.inr rfl))) (fun _ _ _ _ _ => pts_nil) (fun _ _ _ _ _ => (pe_getOwn (K := K) (E := fun _ _ _ => False) rfl T.noSeq T.cGet.at_ T.fGet T.cGet.fn ((ok_Order_getitem_ T).raw (b_Order_getitem_ T) .nil) (hr.mono (by decide)) passX0 (pv 0) (pv 6) (fun _ _ => rfl)))) pa_nil)) (pe_callB (call_show (K := K) (O := OEmpty) (D := 8) rfl gu (room8 hr) own_empty (ow_empty (room8 hr))) (by rfl) T.b_repr (by decide +kernel) (pa_cons (pe_op op_rep (pe_lst (pa_cons (pv 5) pa_nil)) (pe_callB (call_lenK (K := K) rfl) (by rfl) T.b_len (by decide +kernel) (pa_cons (pv 3) pa_nil))) pa_nil)) (nomark _)) (pss_one (ps_ret pe_bl)) pss_nil)))
 (pss_cons (ps_if (PW.pt (pw_or (pt_cmpR op_ne (pe_callTy (call_strOwn T.cSt.at_ T.cSt.fn ((ok_Order_str_ T).raw (b_Order_str_ T) .nil) (hr.mono (by decide)) pass0) (by rfl) T.b_str (by decide +kernel) (pa_cons (pv 0) pa_nil)) (pe_join pe_str (pe_lc (own := [("_law_row", 3)]) (by rfl) sc_shown_right.nd (pi_listK (K := K) rfl (pv 2)) (blkOk_by (own := [("_law_row", 3)]) (N := ["_law_line", "_law_rows", "_law_due", "_law_row", "_law_names_here", "_law_at", "_law_name"]) (sc := defScope s_shown_right) (by decide +kernel)) (fun _ _ _ _ _ => (pg_name (i := 3) sc_shown_right.nd rfl (by first | exact Or.inl rfl | exact Or.inr rfl))) (fun _ _ _ _ _ => pts_nil) (fun _ _ _ _ _ => (pe_joinK (K := K) rfl pe_str (pv 3))))) (nomark _)) (pw_or1 (pt_cmpR op_ne (pe_callB (call_reprOwnG T.cRe.at_ T.cRe.fn (ok_Order_repr_ T) (b_Order_repr_ T) gu (hr.mono (by decide))) (by rfl) T.b_repr (by decide +kernel) (pa_cons (pv 0) pa_nil)) (pe_op op_add_str (pe_op op_add_str pe_str (pe_callB (call_show (K := K) (O := OEmpty) (D := 8) rfl gu (room8 hr) own_empty (ow_empty (room8 hr))) (by rfl) T.b_repr (by decide +kernel) (pa_cons (pv 2) pa_nil))) pe_str) (nomark _))))) (pss_one (ps_ret pe_bl)) pss_nil)
 (pss_one (ps_ret (pe_and (pe_cmpR (op_eqD hr.units) (pe_meth0 (pe_meth0 (pv 0) T.cl T.mTu (ok_Orderturned T) (hr.mono (by decide)) (b_Orderturned T) .nil pass0) T.cl T.mLev (ok_Orderlevels T) (hr.mono (by decide)) (b_Orderlevels T) .nil pass0) (pe_revL (pv 2)) (nomark _)) (pe_one (pe_cmpR (op_ownCmp (n := 1) (C := a.c_Order) (K := K) rfl (fun _ _ => rfl) T.cEq.at_ T.cEq.fn ((ok_Order_eq_ T).raw (b_Order_eq_ T) .nil) (hr.mono (by decide)) pass0) (pe_meth0 (pe_meth0 (pv 0) T.cl T.mTu (ok_Orderturned T) (hr.mono (by decide)) (b_Orderturned T) .nil pass0) T.cl T.mTu (ok_Orderturned T) (hr.mono (by decide)) (b_Orderturned T) .nil pass0) (pv 0) (nomark _)))))))))))))), ?_⟩
    refine ⟨_, rfl, r, rfl, ⟨_, SqL.of hr0⟩, fun d hd => ?_⟩
    refine lc_list (K := K) (a := r) (xs := as.map V.ref) (fun i H' => Same H H' ∧ ∃ ts : List Addr, H' d = some (.lst (ts.map V.ref)) ∧ Paired (RowT H') ts ((R.take i).map srt)) ⟨Lb.Same.upd hd, [], upd_same, .nil⟩ (fun i H' _ b => SqL.of (b.1 _ _ hr0)) ?_ ?_
    · rintro i v H1 hv ⟨s1, ts, e1, pr⟩
      obtain ⟨c, x, rfl, hx, hc⟩ := rows_row ar hv
      have hxl := hR.2 x (List.mem_of_getElem? hx)
      refine ⟨rfl, _, rfl, c, x, rfl, SqL.of (s1 _ _ hc), by omega, fun ys m perm hs hm => ?_⟩
      generalize e_H2 : upd _ m _ = H2
      obtain ⟨s2, f2⟩ := al3 e_H2 hm
      clear e_H2
      (try dsimp only at f2)
      refine ⟨m, _, rfl, .inl ⟨SqL.of f2, fun t ht => ?_⟩⟩
      generalize e_H3 : upd _ t _ = H3
      obtain ⟨s3, f3⟩ := al3 e_H3 ht
      clear e_H3
      (try dsimp only at f3)
      have s23 := s2.trans s3
      have e3 := s23 _ _ e1
      refine ⟨_, e3, szlt (by rw [List.length_map, Paired.len pr, List.length_map, List.length_take]; omega), Lb.Same.updl (s1.trans s23) hd, ts ++ [t], by rw [upd_same, List.map_append]; rfl, ?_⟩
      rw [← take_snoc hx, List.map_append]
      refine Paired.snoc (RowT.updl (x := srt x) ?_ e3) (Paired.imp pr fun _ _ h => RowT.updl (s23 _ _ h) e3)
      rw [← srt_of perm hs]
      exact f3
    rintro H1 ⟨s1, ds, ed, dr⟩
    rw [List.length_map, la, List.take_length] at dr
    generalize hL : R.map srt = L at *
    have hd1 : LevA H1 d L := ⟨ds, ed, dr⟩
    have ld : ds.length = L.length := Paired.len dr
    have hLl := hz.l
    have plen : p.length ≤ 60 := by rw [po.1]; have := g.len; omega
    refine ⟨_, rfl, d, L.map (fun x => (true, x)), rfl, ⟨_, ed, ats_tups dr⟩, by rw [snd_true]; have := g.len; omega, fun H2 fl s2 hfl efl => ?_⟩
    rw [snd_true] at efl
    have S2 := s1.trans s2
    refine ⟨_, rfl, _, rfl, q, d, L, p, rfl, oq.same S2, hd1.same s2, hz, plen, fun H3 s3 => ?_⟩
    have S3 := S2.trans s3
    refine ⟨_, rfl, iteF ?_⟩
    obtain ⟨dx, D, l, ts, hq, hD, hl, pr⟩ := id oq
    have noL : (ordF D l).lookup ("levels" : Str) = none := ord_no D l (by decide +kernel) (by decide +kernel)
    have noT : (ordF D l).lookup ("turned" : Str) = none := ord_no D l (by decide +kernel) (by decide +kernel)
    have ed3 : LevA H3 d L := (hd1.same s2).same s3
    -- levels, len, nodes
    refine ⟨_, rfl, q, dx, _, rfl, S3 _ _ hq, noL, q, L, p, rfl, oq.same S3, fun H4 m4 s4 hm4 em4 => ?_⟩
    refine ⟨_, rfl, _, _, dp_lev em4, dp_lev (ed3.same s4), shaped_Lt hz.nm, shaped_Lt hz.nm, ?_⟩
    rw [eqv_Lt, decide_eq_true rfl]
    refine ⟨_, rfl, iteF ?_⟩
    have S4 := S3.trans s4
    refine ⟨_, rfl, q, dx, _, rfl, S4 _ _ hq, q, L, p, rfl, oq.same S4, by omega, fun x hx => by have := hz.each x hx; omega, plen, fun H5 v5 s5 hv5 => ⟨L.length, hv5, by omega, ?_⟩⟩
    have S5 := S4.trans s5
    have ed5 : LevA H5 d L := (ed3.same s4).same s5
    obtain ⟨ds5, eD5, dr5⟩ := id ed5
    have ld5 : ds5.length = L.length := Paired.len dr5
    refine ⟨_, rfl, d, _, rfl, .inl (SqL.of eD5), rfl, ?_⟩
    rw [List.length_map, ld5, decide_eq_true rfl]
    refine ⟨_, rfl, iteF ?_⟩
    refine ⟨_, rfl, q, dx, _, rfl, S5 _ _ hq, q, L, p, rfl, oq.same S5, by omega, fun x hx => by have := hz.each x hx; omega, plen, fun H6 v6 s6 hv6 => ?_⟩
    obtain ⟨t6, rfl, et6⟩ := hv6
    have S6 := S5.trans s6
    have ef6 := s6 _ _ (s5 _ _ (s4 _ _ (s3 _ _ efl)))
    refine ⟨_, rfl, fl, L.flatten, rfl, SqL.of ef6, by have := g.len; omega, fun ys m7 perm hs hm7 => ?_⟩
    generalize e_H7 : upd _ m7 _ = H7
    obtain ⟨s7, f7⟩ := al3 e_H7 hm7
    clear e_H7
    (try dsimp only at f7)
    refine ⟨m7, _, rfl, .inl ⟨SqL.of f7, fun t8 ht8 => ?_⟩⟩
    generalize e_H8 : upd _ t8 _ = H8
    obtain ⟨s8, f8⟩ := al3 e_H8 ht8
    clear e_H8
    (try dsimp only at f8)
    have hys := srt_of perm hs
    subst hys
    have kn : srt (p.map (·.1)) = srt L.flatten := srt_congr po.2.1
    have nms : ∀ z ∈ srt L.flatten, nmS z = true := fun z hz' => by
      obtain ⟨x, hx, hzx⟩ := List.mem_flatten.mp (srt_mem.mp hz')
      exact hz.nm x hx z hzx
    rw [kn] at et6
    refine ⟨_, _, dp_row (RowT.same' (RowT.same' et6 s7) s8), dp_row (x := srt L.flatten) f8, shaped_dT nms, shaped_dT nms, ?_⟩
    rw [eqv_dT, decide_eq_true rfl]
    refine ⟨_, rfl, iteF ?_⟩
    have S8 := (S6.trans s7).trans s8
    have ed8 : LevA H8 d L := ((ed5.same s6).same s7).same s8
    -- levels().clear()
    refine ⟨_, rfl, q, dx, _, rfl, S8 _ _ hq, noL, q, L, p, rfl, oq.same S8, fun H9 m9 s9 hm9 em9 => ?_⟩
    obtain ⟨ts9, e9, pr9⟩ := em9
    refine ⟨.inl ⟨rfl, _, SqL.of e9⟩, m9, _, rfl, rfl, e9, ?_⟩
    have s9' : Same H8 (upd H9 m9 (.lst [])) := Lb.Same.updl s9 hm9
    generalize upd H9 m9 (.lst []) = G9 at s9' ⊢
    have S9 := S8.trans s9'
    have ed9 := ed8.same s9'
    obtain ⟨tl1, tl2⟩ := trl_ok hz
    refine ⟨_, rfl, q, dx, _, rfl, S9 _ _ hq, noL, q, L, p, rfl, oq.same S9, fun H10 m10 s10 hm10 em10 => ?_⟩
    refine ⟨_, _, rfl, sh_lev em10, ⟨_, .inl rfl⟩, tl1, tl2, fun H11 s11 => ?_⟩
    have ed11 := (ed9.same s10).same s11
    refine ⟨_, rfl, _, _, rfl, sh_lev ed11, ⟨_, .inl rfl⟩, tl1, tl2, fun H12 s12 => ⟨rfl, ?_⟩⟩
    rw [decide_eq_true rfl]
    refine ⟨_, rfl, iteF ?_⟩
    have S12 := ((S9.trans s10).trans s11).trans s12
    have ed12 := ed11.same s12
    obtain ⟨ds12, eD12, dr12⟩ := id ed12
    have ld12 : ds12.length = L.length := Paired.len dr12
    refine ⟨_, rfl, d, _, rfl, SqL.of eD12, ?_⟩
    refine for_enum (K := K) (a := d) (xs := ds12.map V.ref) (fun i σ H' => ∃ u3 u5, σ = [some (.ref q), some (.ref r), some (.ref d), u3, some (.ref fl), u5, none] ∧ Same H12 H') ⟨_, _, rfl, Same.refl _⟩ (fun i σ H' ⟨_, _, _, s'⟩ => SqL.of (s' _ _ eD12)) ?_ ?_
    · rintro i v T0 σ G hv ⟨u3, u5, rfl, sG⟩ hT0
      obtain ⟨e, x, rfl, hx, he⟩ := lev_at dr12 hv
      have hxm := List.mem_of_getElem? hx
      have hi : i < 41 := by have := (List.getElem?_eq_some_iff.mp hx).1; omega
      have hxl := hz.each x hxm
      generalize e_G1 : upd _ T0 _ = G1
      obtain ⟨t1, f1⟩ := al3 e_G1 hT0
      clear e_G1
      (try dsimp only at f1)
      have SG := (S12.trans sG).trans t1
      have he1 : RowT G1 e x := t1 _ _ (sG _ _ he)
      refine ⟨T0, _, rfl, SqT.of f1, rfl, _, _, rfl, _, _, rfl, rfl, ?_⟩
      refine ⟨_, rfl, e, rfl, ⟨_, SqT.of he1⟩, fun D3 hD3 => ?_⟩
      refine lc_tup (K := K) (a := e) (xs := x.map V.str) (fun j H' => Same G1 H' ∧ H' D3 = some (.lst (List.replicate j (V.int (i : Nat))))) ⟨Lb.Same.upd hD3, upd_same⟩ (fun j H' _ b => SqT.of (b.1 _ _ he1)) ?_ ?_
      · rintro j v H2 hv ⟨s2, e2⟩
        rw [List.getElem?_map] at hv
        obtain ⟨z, hzj, rfl⟩ : ∃ z, x[j]? = some z ∧ V.str z = v := by
          cases h : x[j]? with
          | none => rw [h] at hv; cases hv
          | some z => rw [h] at hv; exact ⟨z, rfl, by simpa using hv⟩
        have hjl := (List.getElem?_eq_some_iff.mp hzj).1
        have S2 := SG.trans s2
        refine ⟨rfl, _, rfl, _, rfl, q, dx, _, rfl, S2 _ _ hq, q, L, p, .str z, .str z, rfl, oq.same S2, by simp only [At], ?_⟩
        rw [show pd p (.str z) = some i from po.2.2 i x hx z (List.mem_of_getElem? hzj)]
        exact ⟨_, e2, szlt (by rw [List.length_replicate]; omega), Lb.Same.updl s2 hD3, by rw [upd_same, List.replicate_succ']⟩
      rintro H2 ⟨s2, e2⟩
      rw [List.length_map] at e2
      obtain ⟨n1, n2⟩ := trn_ok hxl hi
      refine ⟨_, _, rfl, sh_n hi e2, ⟨_, .inl rfl⟩, n1, n2, fun H3 s3 => ?_⟩
      refine ⟨_, rfl, sz, fun l1 hl1 => ?_⟩
      generalize e_H4 : upd _ l1 _ = H4
      obtain ⟨s4, f4⟩ := al3 e_H4 hl1
      clear e_H4
      (try dsimp only at f4)
      have s14 := (s2.trans s3).trans s4
      refine ⟨_, rfl, e, _, rfl, .inr (SqT.of (s14 _ _ he1)), l1, _, _, rfl, rfl, f4, by omega, by rw [List.length_map]; omega, ?_, fun l2 hl2 => ?_⟩
      · rw [List.length_map, Int.toNat_natCast]
        exact szle (by show 1 * x.length ≤ 10000; omega)
      rw [List.length_map, Int.toNat_natCast, show (List.replicate x.length [V.int (i : Nat)]).flatten = List.replicate x.length (V.int (i : Nat)) by simp]
      generalize e_H5 : upd _ l2 _ = H5
      obtain ⟨s5, f5⟩ := al3 e_H5 hl2
      clear e_H5
      (try dsimp only at f5)
      refine ⟨_, _, rfl, sh_n hi f5, ⟨_, .inl rfl⟩, n1, n2, fun H6 s6 => ⟨rfl, ?_⟩⟩
      rw [decide_eq_true rfl]
      exact ⟨_, rfl, iteF ⟨_, _, rfl, ((((sG.trans t1).trans s14).trans s5).trans s6)⟩⟩
    rintro σ H13 ⟨u3, u5, rfl, s13⟩
    have S13 := S12.trans s13
    refine ⟨_, rfl, q, dx, _, rfl, S13 _ _ hq, q, L, p, rfl, oq.same S13, hz, fun H14 s14 => ⟨_, rfl, ?_⟩⟩
    have S14 := S13.trans s14
    obtain ⟨ds14, eD14, dr14⟩ := (ed12.same s13).same s14
    have ld14 : ds14.length = L.length := Paired.len dr14
    refine ⟨⟨_, rfl⟩, _, rfl, d, rfl, ⟨_, SqL.of eD14⟩, fun D2 hD2 => ?_⟩
    refine lc_list (K := K) (a := d) (xs := ds14.map V.ref) (fun i H' => Same H14 H' ∧ H' D2 = some (.lst (((L.take i).map (Txt.join ",")).map V.str))) ⟨Lb.Same.upd hD2, upd_same⟩ (fun i H' _ b => SqL.of (b.1 _ _ eD14)) ?_ ?_
    · rintro i v H' hv ⟨s', e2⟩
      obtain ⟨t0, x, rfl, hx, ht0⟩ := lev_at dr14 hv
      have hxm := List.mem_of_getElem? hx
      have h1 := hz.each x hxm
      refine ⟨rfl, ⟨_, rfl⟩, _, rfl, _, t0, x, rfl, rfl, .inr (SqT.of (s' _ _ ht0)), ?_, _, e2, szlt (by rw [List.length_map, List.length_map, List.length_take]; omega), Lb.Same.updl s' hD2, ?_⟩
      · have h4 := sum_le (ts := x) (n := 8) fun z hz' => nm_len (hz.nm x hxm z hz')
        have h5 : ("," : Str).length = 1 := by decide +kernel
        rw [h5]
        omega
      · rw [upd_same, ← take_snoc hx, List.map_append, List.map_append]
        rfl
    rintro H15 ⟨s15, e15⟩
    rw [List.length_map, ld14, List.take_length] at e15
    have S15 := S14.trans s15
    refine ⟨_, D2, _, rfl, rfl, .inl (SqL.of e15), ?_, ?_⟩
    · have h4 := sum_le (ts := L.map (Txt.join ",")) (n := 360) fun z hz' => by
        obtain ⟨x, hx, rfl⟩ := List.mem_map.mp hz'
        have h1 := hz.each x hx
        have h2 := comma_le (hz.nm x hx)
        omega
      have h5 : (" > " : Str).length = 3 := by decide +kernel
      rw [h5]
      rw [List.length_map] at h4 ⊢
      omega
    refine ⟨rfl, ?_⟩
    rw [decide_eq_true (show V.str (txL L) = V.str (Txt.join " > " (L.map (Txt.join ","))) from rfl)]
    refine ⟨_, rfl, iteF ?_⟩
    refine ⟨_, rfl, q, dx, _, rfl, S15 _ _ hq, q, L, p, rfl, oq.same S15, hz, fun H16 s16 => ⟨_, rfl, ?_⟩⟩
    have S16 := S15.trans s16
    have ed16 : LevA H16 d L := LevA.same (LevA.same ⟨ds14, eD14, dr14⟩ s15) s16
    refine ⟨_, rfl, _, _, rfl, sh_lev ed16, ⟨_, .inl rfl⟩, tl1, tl2, fun H17 s17 => ?_⟩
    have l1 : ("Order(" : Str).length = 6 := by decide +kernel
    have l2 : (")" : Str).length = 1 := by decide +kernel
    have tl3 := TrL_len hz.nm hz.each
    have hsz : sizeLine = 16777216 := sizeLine_eq
    refine ⟨_, _, rfl, rfl, by rw [l1]; omega, _, _, rfl, rfl, by rw [strLen_append, l1, l2]; omega, rfl, ?_⟩
    rw [decide_eq_true (show V.str (rpL L) = V.str ("Order(" ++ (TrL L).text ++ ")") by unfold rpL; rw [empty_app])]
    refine ⟨_, rfl, iteF ?_⟩
    have S17 := S16.trans s17
    have ed17 := ed16.same s17
    have hs : ∀ x ∈ L, srt x = x := fun x hx => by
      rw [← hL] at hx
      obtain ⟨y, _, rfl⟩ := List.mem_map.mp hx
      exact srt_srt y
    have gr : Good L.reverse := g.perm (List.reverse_perm L)
    have noT' : ∀ D l, (ordF D l).lookup ("turned" : Str) = none := fun D l => ord_no D l (by decide +kernel) (by decide +kernel)
    have noL' : ∀ D l, (ordF D l).lookup ("levels" : Str) = none := fun D l => ord_no D l (by decide +kernel) (by decide +kernel)
    refine ⟨_, rfl, q, dx, _, rfl, S17 _ _ hq, noT, q, L, p, rfl, oq.same S17, g, hs, fun H18 q1 s18 o1 => ?_⟩
    obtain ⟨dx1, D1, ll1, ts1, hq1, hD1, hl1, pr1⟩ := id o1
    refine ⟨q1, dx1, _, rfl, hq1, noL' _ _, q1, L.reverse, _, rfl, o1, fun H19 m19 s19 hm19 em19 => ?_⟩
    obtain ⟨ds19, eD19, dr19⟩ := (ed17.same s18).same s19
    refine ⟨_, rfl, d, _, rfl, SqL.of eD19, fun r20 hr20 => ?_⟩
    rw [← List.map_reverse]
    generalize e_H20 : upd _ r20 _ = H20
    obtain ⟨s20, f20⟩ := al3 e_H20 hr20
    clear e_H20
    (try dsimp only at f20)
    refine ⟨_, _, dp_lev (em19.same s20), dp_lev (L := L.reverse) ⟨ds19.reverse, f20, Paired.imp (paired_rev dr19) fun _ _ h => RowT.same' h s20⟩, shaped_Lt gr.nm, shaped_Lt gr.nm, ?_⟩
    rw [eqv_Lt, decide_eq_true rfl]
    refine ⟨_, rfl, iteT ?_⟩
    have S20 := ((S17.trans s18).trans s19).trans s20
    refine ⟨_, rfl, q, dx, _, rfl, S20 _ _ hq, noT, q, L, p, rfl, oq.same S20, g, hs, fun H21 q2 s21 o2 => ?_⟩
    obtain ⟨dx2, D2', ll2, ts2, hq2, hD2', hl2, pr2⟩ := id o2
    refine ⟨q2, dx2, _, rfl, hq2, noT' _ _, q2, L.reverse, _, rfl, o2, gr, fun x hx => hs x (List.mem_reverse.mp hx), fun H22 q3 s22 o3 => ?_⟩
    obtain ⟨dx3, D3', ll3, ts3, hq3, hD3', hl3, pr3⟩ := id o3
    have S22 := (S20.trans s21).trans s22
    refine ⟨_, rfl, q3, dx3, _, _, rfl, hq3, T.I.ty T.cl (S22 _ _ hq), Inst.nSelf, q3, L.reverse.reverse, _, .ref q, rfl, o3, by rw [List.reverse_reverse]; exact hz.nm, .inl ⟨q, L, p, rfl, oq.same S22, hz.nm, ?_⟩⟩
    rw [List.reverse_reverse, decide_eq_true rfl]
    exact k _ S22
end
end K60

set_option Elab.async false
set_option linter.all false
set_option maxRecDepth 100000
set_option maxHeartbeats 4000000
namespace K60
open PySem L2 Lb
open C8 (pss_cut)
theorem op_neDK {X : Cx} {K : PySem.W.Frag} (hK : X.K = K) (hu : X.A.units + 64 < cLine) : OpR X (compareOp .NotEq) (rNeD K) := by subst hK; exact op_neD hu
/-! rows of one's own, changed -/
structure OwnX (p : Addr) (H H' : Hp) (sl : Addr) (as : List Addr) (X : List (List Str)) : Prop where
  mov : Mov p H H'
  top : H' sl = some (.lst (as.map V.ref))
  rows : Paired (RowL H') as X
  nd : as.Nodup
  fr : ∀ b ∈ as, H b = none
  out : sl ∉ as
  frs : H sl = none
theorem OwnX.len {p : Addr} {H H' : Hp} {sl : Addr} {as : List Addr} {X : List (List Str)} (o : OwnX p H H' sl as X) : as.length = X.length := Paired.len o.rows
theorem OwnX.same {p : Addr} {H H' H2 : Hp} {sl : Addr} {as : List Addr} {X : List (List Str)} (o : OwnX p H H' sl as X) (s : Same H' H2) : OwnX p H H2 sl as X :=
  ⟨o.mov.same s, s _ _ o.top, Paired.imp o.rows fun _ _ h => s _ _ h, o.nd, o.fr, o.out, o.frs⟩
theorem OwnX.mv {p : Addr} {H H' H2 : Hp} {sl : Addr} {as : List Addr} {X : List (List Str)} (o : OwnX p H H' sl as X) (hp : PotAt H p) (m : Mov p H' H2) : OwnX p H H2 sl as X :=
  have np : ∀ b, H b = none → b ≠ p := fun b h z => by obtain ⟨_, _, e, _⟩ := hp; rw [z, e] at h; cases h
  ⟨o.mov.trans m, m.keep _ _ (np _ o.frs) o.top, paired_mem o.rows fun b x hb h => m.keep _ _ (np _ (o.fr b hb)) h, o.nd, o.fr, o.out, o.frs⟩
theorem OwnX.at_ {p : Addr} {H H' : Hp} {sl : Addr} {as : List Addr} {X : List (List Str)} (o : OwnX p H H' sl as X) {i : Nat} (h : i < X.length) : ∃ c, as[i]? = some c ∧ RowL H' c X[i] := by
  obtain ⟨c, e, r⟩ := Paired.at_r o.rows (List.getElem?_eq_getElem h)
  exact ⟨c, e, r⟩
theorem paired_set {F G : Addr → List Str → Prop} {c : Addr} {y : List Str} : ∀ {as : List Addr} {X : List (List Str)} {i : Nat}, Paired F as X → as.Nodup → as[i]? = some c → (∀ b x, b ≠ c → F b x → G b x) → G c y → Paired G as (X.set i y)
  | _, _, _, .nil, _, h, _, _ => by simp at h
  | b :: r, x :: X, 0, .cons h hr, nd, hc, k, g => by
    simp at hc
    subst hc
    rw [List.set_cons_zero]
    rw [List.nodup_cons] at nd
    exact .cons g (paired_mem hr fun d z hd hz => k d z (fun e => nd.1 (e ▸ hd)) hz)
  | b :: r, x :: X, i + 1, .cons h hr, nd, hc, k, g => by
    rw [List.set_cons_succ]
    rw [List.nodup_cons] at nd
    have hc : r[i]? = some c := by simpa using hc
    exact .cons (k _ _ (fun e => nd.1 (e ▸ List.mem_of_getElem? hc)) h) (paired_set hr nd.2 hc k g)
theorem OwnX.row {p : Addr} {H H' : Hp} {sl : Addr} {as : List Addr} {X : List (List Str)} (o : OwnX p H H' sl as X) (hp : PotAt H p) {i : Nat} {c : Addr} (hc : as[i]? = some c) (y : List Str) : OwnX p H (upd H' c (.lst (y.map V.str))) sl as (X.set i y) := by
  have hm := List.mem_of_getElem? hc
  have np : c ≠ p := fun z => by have := o.fr c hm; obtain ⟨_, _, e, _⟩ := hp; rw [z, e] at this; cases this
  have nsl : sl ≠ c := fun z => o.out (z ▸ hm)
  refine ⟨⟨fun b u n e => ?_, ?_⟩, by rw [upd_ne nsl]; exact o.top, paired_set o.rows o.nd hc (fun b x n h => ?_) upd_same, o.nd, o.fr, o.out, o.frs⟩
  · rw [upd_ne (fun z => by rw [z, o.fr c hm] at e; cases e)]
    exact o.mov.keep b u n e
  · obtain ⟨x, y, e, r⟩ := o.mov.pot
    exact ⟨x, y, by rw [upd_ne np.symm]; exact e, r⟩
  · unfold RowL at h ⊢
    rw [upd_ne n]
    exact h
theorem paired_set2 {F : Addr → List Str → Prop} {c : Addr} {y : List Str} : ∀ {as : List Addr} {X : List (List Str)} {i : Nat}, Paired F as X → F c y → Paired F (as.set i c) (X.set i y)
  | _, _, _, .nil, _ => .nil
  | b :: r, x :: X, 0, .cons h hr, g => .cons g hr
  | b :: r, x :: X, i + 1, .cons h hr, g => .cons h (paired_set2 hr g)
theorem ixN_of {n j : Nat} (h : j < n) : ixN n (j : Int) = some j := by
  unfold ixN
  rw [if_pos (Int.natCast_nonneg j), if_pos (Int.ofNat_lt.mpr h)]
  rfl
theorem cut_front {xs : List V} {k : Nat} (h : k ≤ xs.length) : cutV xs none (some (k : Int)) = xs.take k := by
  unfold cutV
  rw [HT.sIx_nat, HT.sIx_none, Nat.min_eq_left h]
  rfl
theorem cut_back {xs : List V} {k : Nat} (h : k ≤ xs.length) : cutV xs (some (k : Int)) none = xs.drop k := by
  unfold cutV
  rw [HT.sIx_nat, HT.sIx_none, Nat.min_eq_left h]
  exact List.take_of_length_le (by rw [List.length_drop]; exact Nat.le_refl _)
theorem fresh_out {H : Hp} {m : Addr} {as : List Addr} {X : List (List Str)} (h : H m = none) (r : Paired (RowL H) as X) : m ∉ as := fun hm => by
  obtain ⟨j, hj⟩ := List.getElem?_of_mem hm
  obtain ⟨y, _, hy⟩ := Paired.at_ r hj
  have hy : H m = _ := hy
  rw [h] at hy
  cases hy
theorem paired_take {α β : Type} {F : α → β → Prop} : ∀ {xs : List α} {ys : List β} (n : Nat), Paired F xs ys → Paired F (xs.take n) (ys.take n)
  | _, _, 0, _ => .nil
  | _, _, _ + 1, .nil => .nil
  | _, _, n + 1, .cons h r => .cons h (paired_take n r)
theorem paired_drop {α β : Type} {F : α → β → Prop} : ∀ {xs : List α} {ys : List β} (n : Nat), Paired F xs ys → Paired F (xs.drop n) (ys.drop n)
  | _, _, 0, h => h
  | _, _, _ + 1, .nil => .nil
  | _, _, n + 1, .cons h r => paired_drop n r
theorem set_perm {α : Type} (l : List α) (i : Nat) (y : α) (h : i < l.length) : (l.set i y).Perm (y :: l.eraseIdx i) := by
  have e := erase_perm (l.set i y) i (by rw [List.length_set]; exact h)
  rw [List.getElem_set_self, List.eraseIdx_set_eq] at e
  exact e.symm
theorem swap_perm {α : Type} (l : List α) (i j : Nat) (hi : i < l.length) (hj : j < l.length) : ((l.set i l[j]).set j l[i]).Perm l := by
  by_cases h : i = j
  · subst h
    rw [List.set_getElem_self, List.set_getElem_self]
  · have lA : (l.set i l[j]).length = l.length := List.length_set
    have a1 := set_perm l i l[j] hi
    have a2 := erase_perm (l.set i l[j]) j (by rw [lA]; exact hj)
    have a3 := set_perm (l.set i l[j]) j l[i] (by rw [lA]; exact hj)
    rw [List.getElem_set_ne h] at a2
    have a4 := (a2.trans a1).cons_inv
    exact a3.trans ((a4.cons _).trans (erase_perm l i hi))
theorem flat_set (X : List (List Str)) (i : Nat) (y : List Str) (h : i < X.length) : (X.set i y).flatten.Perm (y ++ (X.eraseIdx i).flatten) := by
  have := (set_perm X i y h).flatten
  rwa [List.flatten_cons] at this
theorem flat_at (X : List (List Str)) (i : Nat) (h : i < X.length) : X.flatten.Perm (X[i] ++ (X.eraseIdx i).flatten) := by
  have := (erase_perm X i h).symm.flatten
  rwa [List.flatten_cons] at this
theorem flat_pop {X : List (List Str)} {i : Nat} {x : List Str} {z : Str} (h : i < X.length) (e : X[i] = x ++ [z]) : X.flatten.Perm (z :: (X.set i x).flatten) := by
  refine (flat_at X i h).trans ?_
  rw [e, List.append_assoc]
  refine List.perm_middle.trans ?_
  exact (List.Perm.cons _ (flat_set X i x h).symm)
theorem flat_push {X : List (List Str)} {i : Nat} {z : Str} (h : i < X.length) : (X.set i (X[i] ++ [z])).flatten.Perm (z :: X.flatten) := by
  refine (flat_set X i _ h).trans ?_
  rw [List.append_assoc]
  refine List.perm_middle.trans ?_
  exact (List.Perm.cons _ (flat_at X i h).symm)
theorem good_perm {R S : List (List Str)} (p : S.flatten.Perm R.flatten) (ne : ∀ x ∈ S, x ≠ []) (g : Good R) : Good S where
  ne := fun z => by
    rw [z] at p
    have := p.symm.eq_nil
    cases R with
    | nil => exact g.ne rfl
    | cons x r =>
      rw [List.flatten_cons] at this
      exact g.each x List.mem_cons_self (List.append_eq_nil_iff.mp this).1
  each := ne
  nm := fun x hx z hz => by
    have : z ∈ R.flatten := p.mem_iff.mp (List.mem_flatten.mpr ⟨x, hx, hz⟩)
    obtain ⟨y, hy, hzy⟩ := List.mem_flatten.mp this
    exact g.nm y hy z hzy
  nd := p.nodup_iff.mpr g.nd
  len := by rw [p.length_eq]; exact g.len
theorem flat_filter (X : List (List Str)) : (X.filter fun x => decide (x ≠ [])).flatten = X.flatten := by
  induction X with
  | nil => rfl
  | cons x r ih =>
    rw [List.filter_cons]
    by_cases h : x = []
    · subst h; simpa using ih
    · rw [if_pos (by simp [h]), List.flatten_cons, List.flatten_cons, ih]
theorem dp_rowL {K : PySem.W.Frag} {H : Hp} {c : Addr} {x : List Str} (h : RowL H c x) : Dp K H (.ref c) (dL x) := .lst (SqL.of h) (dp_strs x)
theorem dp_nilL {K : PySem.W.Frag} {H : Hp} {c : Addr} (h : H c = some (.lst [])) : Dp K H (.ref c) (dL []) := .lst (SqL.of h) .nil
theorem shaped_dL {x : List Str} (h : ∀ z ∈ x, nmS z = true) : SeqAt.shaped (dL x) = true := by
  unfold SeqAt.shaped dL
  rw [PyData.canLay0, can_strs h, PyData.depth, dep_strs]
  rfl
def sp_other : Sp := fun vs H Q _ => ∃ p r R, vs = [.ref p, .ref r] ∧ PotAt H p ∧ RowsL H r R ∧ Good R ∧ ∀ H' l S, Mov p H H' → H l = none → RowsL H' l S → Good S → Q (.ref l) H'
section
variable {P : Program} {w : World} {K : PySem.W.Frag} {mg : Str → Option Value} {base : Heap} {a : Ad}
theorem ok_other (T : Txt K mg a) : FnOk P w K mg base CX0 3 a.f_other a.d_other ["_law_pot_here", "_law_rows"] sp_other := by
  refine T.F_other.ok sc_other (fun vs H Q E h => ?_) (fun cdv A outer s H vs Q E hr h => ?_)
  · obtain ⟨p, r, R, rfl, _⟩ := h
    rfl
  · obtain ⟨p, r, R, rfl, hp, ⟨rs, hr0, rr⟩, g, k⟩ := h
    refine ⟨_, (pss_cons (ps_par (i := 2) (j := 3) rfl sc_other.nd rfl rfl (by decide) rfl rfl (pa_cons (pe_lc (own := [("_law_row", 4)]) (by rfl) sc_other.nd (pi_listK (K := K) rfl (pv 1)) (blkOk_by (own := [("_law_row", 4)]) (N := ["_law_pot_here", "_law_rows", "_law_some", "_law_way", "_law_row", "_law_here", "_law_there", "_law_name"]) (sc := defScope s_other) (by decide +kernel)) (fun _ _ _ _ _ => (pg_name (i := 4) sc_other.nd rfl (by first | exact Or.inl rfl | exact Or.inr rfl))) (fun _ _ _ _ _ => pts_nil) (fun _ _ _ _ _ => (pe_call (ok_shuffled T) (hr.mono (by decide)) (by rfl) T.m_shuffled T.F_shuffled.kp (b_shuffled T) .nil pass0 (pa_cons (pv 0) (pa_cons (pv 4) pa_nil))))) (pa_cons (pe_call (ok_draw T) (hr.mono (by decide)) (by rfl) T.m_draw T.F_draw.kp (b_draw T) .nil pass0 (pa_cons (pv 0) (pa_cons pe_int pa_nil))) pa_nil)) (by rfl))
 (pss_cons (ps_par (i := 5) (j := 6) rfl sc_other.nd rfl rfl (by decide) rfl rfl (pa_cons (pe_call (ok_draw T) (hr.mono (by decide)) (by rfl) T.m_draw T.F_draw.kp (b_draw T) .nil pass0 (pa_cons (pv 0) (pa_cons (pe_callB (call_lenK (K := K) rfl) (by rfl) T.b_len (by decide +kernel) (pa_cons (pv 2) pa_nil)) pa_nil))) (pa_cons (pe_call (ok_draw T) (hr.mono (by decide)) (by rfl) T.m_draw T.F_draw.kp (b_draw T) .nil pass0 (pa_cons (pv 0) (pa_cons (pe_callB (call_lenK (K := K) rfl) (by rfl) T.b_len (by decide +kernel) (pa_cons (pv 2) pa_nil)) pa_nil))) pa_nil)) (by rfl))
 (pss_cut (ps_if (pt_cmpR op_eq (pv 3) pe_int (nomark _)) (pss_one (ps_asg (pe_tup (pa_cons (pe_ix (ix_listK (K := K) rfl) (pv 2) (pv 6) (fun _ _ => rfl)) (pa_cons (pe_ix (ix_listK (K := K) rfl) (pv 2) (pv 5) (fun _ _ => rfl)) pa_nil))) (pg_tupK (K := K) (n := 2) rfl rfl (pgs_cons (pg_sub (pv 2) (pv 5) set_list) (pgs_cons (pg_sub (pv 2) (pv 6) set_list) pgs_nil))))) pss_nil)
 (pss_cut (ps_if (pt_cmpR op_eq (pv 3) pe_int (nomark _)) (pss_cons (ps_set (i := 7) sc_other.nd rfl (by first | exact Or.inl rfl | exact Or.inr rfl) (pe_bm0 PySem.F.plainAttrs_list PySem.F.slot_list_pop PySem.F.type_list_pop mt_pop (pe_ix (ix_listK (K := K) rfl) (pv 2) (pv 5) (fun _ _ => rfl))))
 (pss_one (ps_expr (pe_bm PySem.F.plainAttrs_list PySem.F.slot_list_append PySem.F.type_list_append mt_append (pe_ix (ix_listK (K := K) rfl) (pv 2) (pv 6) (fun _ _ => rfl)) (pa_cons (pv 7) pa_nil))))) pss_nil)
 (pss_cut (ps_if (pt_cmpR op_eq (pv 3) pe_int (nomark _)) (pss_cons (ps_set (i := 7) sc_other.nd rfl (by first | exact Or.inl rfl | exact Or.inr rfl) (pe_bm0 PySem.F.plainAttrs_list PySem.F.slot_list_pop PySem.F.type_list_pop mt_pop (pe_ix (ix_listK (K := K) rfl) (pv 2) (pv 5) (fun _ _ => rfl))))
 (pss_one (ps_set (i := 2) sc_other.nd rfl (by first | exact Or.inl rfl | exact Or.inr rfl) (pe_op op_cat (pe_op op_cat (pe_slice (sl_listK (K := K) rfl) (pv 2) po_none (po_some (pv 6))) (pe_lst (pa_cons (pe_lst (pa_cons (pv 7) pa_nil)) pa_nil))) (pe_slice (sl_listK (K := K) rfl) (pv 2) (po_some (pv 6)) po_none))))) pss_nil)
 (pss_one (ps_ret (pe_lc (own := [("_law_row", 4)]) (by rfl) sc_other.nd (pi_listK (K := K) rfl (pv 2)) (blkOk_by (own := [("_law_row", 4)]) (N := ["_law_pot_here", "_law_rows", "_law_some", "_law_way", "_law_row", "_law_here", "_law_there", "_law_name"]) (sc := defScope s_other) (by decide +kernel)) (fun _ _ _ _ _ => (pg_name (i := 4) sc_other.nd rfl (by first | exact Or.inl rfl | exact Or.inr rfl))) (fun _ _ _ _ _ => pts_one (pt_cmpR (op_neDK (K := K) rfl hr.units) (pv 4) (pe_lst pa_nil) (nomark _))) (fun _ _ _ _ _ => (pv 4)))))))))), ?_⟩
    have lr : rs.length = R.length := Paired.len rr
    have hR := g.rlen
    have npr := refs_pot hp hr0
    refine ⟨_, rfl, r, rfl, ⟨_, SqL.of hr0⟩, fun sl hsl => ?_⟩
    have nsp : sl ≠ p := fun z => by obtain ⟨_, _, e, _⟩ := hp; rw [z, e] at hsl; cases hsl
    refine lc_list (K := K) (a := r) (xs := rs.map V.ref) (fun i H' => ∃ as X, OwnX p H H' sl as X ∧ X.flatten.Perm (R.take i).flatten ∧ (∀ x ∈ X, x ≠ []) ∧ X.length = i) ⟨[], [], ⟨mov_upd (Mov.refl hp) hp hsl, upd_same, .nil, .nil, (fun _ h => nomatch h), (fun h => nomatch h), hsl⟩, .refl _, (fun _ h => nomatch h), rfl⟩
      (fun i H' _ ⟨_, _, o, _⟩ => SqL.of (o.mov.keep _ _ npr hr0)) ?_ ?_
    · rintro i v H1 hv ⟨as, X, o, pf, ne, lx⟩
      obtain ⟨c, x, rfl, hx, hc⟩ := rows_row rr hv
      have hcp := row_pot hp hc
      have hc1 : RowL H1 c x := RowL.mov hc o.mov hp
      have hxl := hR.2 x (List.mem_of_getElem? hx)
      have hil := (List.getElem?_eq_some_iff.mp hx).1
      refine ⟨rfl, _, rfl, _, rfl, p, c, _, rfl, o.mov.pot, hc1, hcp, by rw [List.length_map]; omega, fun H2 m ys M2 perm hm em => ?_⟩
      obtain ⟨ws, rfl, pw⟩ := perm_strs perm
      have o2 := o.mv hp M2
      have nm : m ∉ as := fun h => by
        obtain ⟨j, hj⟩ := List.getElem?_of_mem h
        obtain ⟨y, _, hy⟩ := Paired.at_ o.rows hj
        have hy : H1 m = _ := hy
        rw [hm] at hy
        cases hy
      have nms : m ≠ sl := ne_of_none' hm o.top
      refine ⟨_, o2.top, szlt (by rw [List.length_map, o2.len, lx]; omega), as ++ [m], X ++ [ws], ⟨?_, by rw [upd_same, List.map_append]; rfl, ?_, ?_, ?_, ?_, hsl⟩, ?_, ?_, ?_⟩
      · exact Mov.updl o2.mov hsl nsp
      · have up : ∀ {b : Addr} {x : List Str}, b ≠ sl → RowL H2 b x → RowL (upd H2 sl (.lst (as.map V.ref ++ [V.ref m]))) b x := fun {b x} n h => by
          unfold RowL at h ⊢
          rw [upd_ne n]
          exact h
        exact Paired.snoc (up nms em) (paired_mem o2.rows fun b x hb h => up (fun e => o.out (e ▸ hb)) h)
      · rw [List.nodup_append]
        exact ⟨o.nd, by simp, fun b hb d hd e => nm (by rw [List.mem_singleton.mp hd] at e; exact e ▸ hb)⟩
      · intro b hb
        rcases List.mem_append.mp hb with hb | hb
        · exact o.fr b hb
        · rw [List.mem_singleton.mp hb]
          exact o.mov.free hp hm
      · intro h
        rcases List.mem_append.mp h with h | h
        · exact o.out h
        · exact nms (List.mem_singleton.mp h).symm
      · rw [← take_snoc hx, List.flatten_append, List.flatten_append]
        refine List.Perm.append pf ?_
        simpa using pw
      · intro y hy
        rcases List.mem_append.mp hy with hy | hy
        · exact ne y hy
        · rw [List.mem_singleton.mp hy]
          intro e
          have := pw.length_eq
          rw [e] at this
          exact g.each x (List.mem_of_getElem? hx) (List.length_eq_zero_iff.mp this.symm)
      · rw [List.length_append, lx]; rfl
    rintro H1 ⟨as, X, o1, pf, ne, lx⟩
    rw [List.length_map, lr] at lx
    rw [List.length_map, lr, List.take_length] at pf
    have lR : 0 < X.length := by rw [lx]; exact List.length_pos_iff.mpr g.ne
    have lX40 : X.length ≤ 40 := by omega
    refine ⟨_, rfl, p, _, rfl, o1.mov.pot, by decide, by unfold Bd; decide, fun H2 d M2 d0 d1 => ⟨_, _, rfl, ?_⟩⟩
    have o2 := o1.mv hp M2
    have l2 := o2.len
    refine ⟨_, rfl, _, rfl, sl, _, rfl, .inl (SqL.of o2.top), p, _, rfl, o2.mov.pot, by rw [List.length_map]; omega, by rw [List.length_map]; exact bd_small (by omega), fun H3 hn M3 hn0 hn1 => ?_⟩
    have o3 := o2.mv hp M3
    refine ⟨_, rfl, _, rfl, sl, _, rfl, .inl (SqL.of o3.top), p, _, rfl, o3.mov.pot, by rw [List.length_map]; omega, by rw [List.length_map]; exact bd_small (by omega), fun H4 tn M4 tn0 tn1 => ⟨_, _, rfl, ?_⟩⟩
    have o4 := o3.mv hp M4
    rw [List.length_map, l2] at hn1 tn1
    obtain ⟨hn, rfl⟩ := Int.eq_ofNat_of_zero_le hn0
    obtain ⟨tn, rfl⟩ := Int.eq_ofNat_of_zero_le tn0
    have hh : hn < R.length := by omega
    have ht : tn < R.length := by omega
    clear hn0 hn1 tn0 tn1
    refine ⟨fun σ H' => ∃ (as : List Addr) (X : List (List Str)), σ = [some (.ref p), some (.ref r), some (.ref sl), some (.int d), none, some (.int (hn : Nat)), some (.int (tn : Nat)), none] ∧ OwnX p H H' sl as X ∧ X.flatten.Perm R.flatten ∧ (∀ x ∈ X, x ≠ []) ∧ X.length = R.length, ?_, ?_⟩
    · refine ⟨_, rfl, rfl, _, rfl, ite2 (fun _ => ?_) (fun _ => ⟨as, X, rfl, o4, pf, ne, lx⟩)⟩
      obtain ⟨c1, ec1, r1⟩ := o4.at_ (i := hn) (by omega)
      obtain ⟨c2, ec2, r2⟩ := o4.at_ (i := tn) (by omega)
      refine ⟨_, rfl, _, rfl, sl, _, _, .ref c2, rfl, rfl, SqL.of o4.top, atI_nat (j := tn) (by rw [List.getElem?_map, ec2]; rfl), _, rfl, _, rfl, sl, _, _, .ref c1, rfl, rfl, SqL.of o4.top, atI_nat (j := hn) (by rw [List.getElem?_map, ec1]; rfl), sz, fun t htt => ?_⟩
      generalize e_H5 : upd _ t _ = H5
      obtain ⟨s5, f5⟩ := al3 e_H5 htt
      clear e_H5
      (try dsimp only at f5)
      have o5 := o4.same s5
      refine ⟨t, _, rfl, SqT.of f5, rfl, _, _, rfl, _, rfl, _, rfl, sl, _, _, hn, rfl, rfl, o5.top, ixN_of (by rw [List.length_map, o5.len]; omega), _, _, rfl, _, rfl, _, rfl, sl, _, _, tn, rfl, rfl, upd_same, ixN_of (by rw [List.length_set, List.length_map, o5.len]; omega), rfl, ?_⟩
      rw [upd_upd]
      have hla : hn < as.length := by rw [o5.len]; omega
      have hlt : tn < as.length := by rw [o5.len]; omega
      have e1 : as[hn] = c1 := by rw [List.getElem?_eq_getElem hla] at ec1; exact Option.some.inj ec1
      have e2 : as[tn] = c2 := by rw [List.getElem?_eq_getElem hlt] at ec2; exact Option.some.inj ec2
      have pa : ((as.set hn c2).set tn c1).Perm as := by rw [← e1, ← e2]; exact swap_perm as hn tn hla hlt
      have px : ((X.set hn X[tn]).set tn X[hn]).Perm X := swap_perm X hn tn (by omega) (by omega)
      have np : sl ≠ p := nsp
      have up : ∀ {b : Addr} {x : List Str} {o : HO}, b ≠ sl → RowL H5 b x → RowL (upd H5 sl o) b x := fun {b x o} n h => by
        unfold RowL at h ⊢
        rw [upd_ne n]
        exact h
      have n1 : c1 ≠ sl := fun e => o5.out (e ▸ List.mem_of_getElem? ec1)
      have n2 : c2 ≠ sl := fun e => o5.out (e ▸ List.mem_of_getElem? ec2)
      refine ⟨(as.set hn c2).set tn c1, (X.set hn X[tn]).set tn X[hn], rfl, ⟨Mov.updl o5.mov hsl nsp, by rw [upd_same, List.map_set, List.map_set], ?_, pa.nodup_iff.mpr o5.nd, fun b hb => o5.fr b (pa.mem_iff.mp hb), fun h => o5.out (pa.mem_iff.mp h), hsl⟩, px.flatten.trans pf, fun x hx => ne x (px.mem_iff.mp hx), by rw [List.length_set, List.length_set, lx]⟩
      refine paired_set2 (paired_set2 (paired_mem o5.rows fun b x hb h => up (fun e => o5.out (e ▸ hb)) h) (up n2 (s5 _ _ r2))) (up n1 (s5 _ _ r1))
    clear o1 o2 o3 o4 pf ne lx l2 lR lX40
    rintro σ H5 ⟨as, X, rfl, o5, pf, ne, lx⟩
    have pop : ∀ {H' : Hp} {as : List Addr} {X : List (List Str)}, OwnX p H H' sl as X → (∀ x ∈ X, x ≠ []) → X.length = R.length → ∃ (c : Addr) (x : List Str) (z : Str), as[hn]? = some c ∧ H' c = some (.lst ((x ++ [z]).map V.str)) ∧ OwnX p H (upd H' c (.lst (x.map V.str))) sl as (X.set hn x) ∧ X.flatten.Perm (z :: (X.set hn x).flatten) := fun {H' as X} o ne lx => by
      obtain ⟨c, ec, hc⟩ := o.at_ (i := hn) (by omega)
      have hne := ne X[hn] (List.getElem_mem _)
      have e := (List.dropLast_concat_getLast hne).symm
      refine ⟨c, X[hn].dropLast, X[hn].getLast hne, ec, by rw [← e]; exact hc, o.row hp ec _, flat_pop (by omega) e⟩
    have last : ∀ (x : List Str) (z : Str), ((x ++ [z]).map V.str)[((x ++ [z]).map V.str).length - 1]? = some (V.str z) := fun x z => by simp
    have drp : ∀ (x : List Str) (z : Str), ((x ++ [z]).map V.str).dropLast = x.map V.str := fun x z => by simp
    refine ⟨fun σ H' => ∃ (as : List Addr) (X : List (List Str)) (u7 : Option V), σ = [some (.ref p), some (.ref r), some (.ref sl), some (.int d), none, some (.int (hn : Nat)), some (.int (tn : Nat)), u7] ∧ OwnX p H H' sl as X ∧ X.flatten.Perm R.flatten ∧ (d = 3 → ∀ x ∈ X, x ≠ []) ∧ X.length = R.length, ?_, ?_⟩
    · refine ⟨_, rfl, rfl, _, rfl, ite2 (fun hd => ?_) (fun _ => ⟨as, X, _, rfl, o5, pf, fun _ => ne, lx⟩)⟩
      have hd : d = 2 := by simpa using hd
      obtain ⟨c, x, z, ec, hc, o6, pz⟩ := pop o5 ne lx
      refine ⟨_, rfl, _, rfl, sl, _, _, .ref c, rfl, rfl, SqL.of o5.top, atI_nat (j := hn) (by rw [List.getElem?_map, ec]; rfl), .inl ⟨rfl, _, SqL.of hc⟩, c, _, .str z, rfl, rfl, hc, last x z, ?_⟩
      rw [drp]
      have lY : (X.set hn x).length = R.length := by rw [List.length_set, lx]
      generalize X.set hn x = Y at o6 pz lY
      have hty : tn < Y.length := by omega
      obtain ⟨c2, ec2, r2⟩ := o6.at_ hty
      refine ⟨_, rfl, _, rfl, sl, _, _, .ref c2, rfl, rfl, SqL.of o6.top, atI_nat (j := tn) (by rw [List.getElem?_map, ec2]; rfl), .inl ⟨rfl, _, SqL.of r2⟩, _, rfl, c2, _, .str z, rfl, rfl, r2, ?_, ?_⟩
      · have h1 : Y[tn].length ≤ Y.flatten.length := by
          have := (flat_at Y tn hty).length_eq
          rw [List.length_append] at this
          omega
        have h2 := pz.length_eq
        have h3 := pf.length_eq
        have h4 := g.len
        rw [List.length_cons] at h2
        rw [List.length_map]
        exact szlt (by omega)
      · rw [show Y[tn].map V.str ++ [V.str z] = (Y[tn] ++ [z]).map V.str by rw [List.map_append]; rfl]
        refine ⟨as, Y.set tn (Y[tn] ++ [z]), _, rfl, o6.row hp ec2 _, ?_, fun h => by omega, by rw [List.length_set, lY]⟩
        exact (flat_push hty).trans (pz.symm.trans pf)
    clear o5 pf ne lx
    rintro σ H6 ⟨as, X, u7, rfl, o6, pf, ne, lx⟩
    refine ⟨fun σ H' => ∃ (sl : Addr) (as : List Addr) (X : List (List Str)) (u7 : Option V), σ = [some (.ref p), some (.ref r), some (.ref sl), some (.int d), none, some (.int (hn : Nat)), some (.int (tn : Nat)), u7] ∧ OwnX p H H' sl as X ∧ X.flatten.Perm R.flatten ∧ X.length ≤ 100, ?_, ?_⟩
    · refine ⟨_, rfl, rfl, _, rfl, ite2 (fun hd => ?_) (fun _ => ⟨sl, as, X, _, rfl, o6, pf, by omega⟩)⟩
      have hd : d = 3 := by simpa using hd
      obtain ⟨c, x, z, ec, hc, o7, pz⟩ := pop o6 (ne hd) lx
      refine ⟨_, rfl, _, rfl, sl, _, _, .ref c, rfl, rfl, SqL.of o6.top, atI_nat (j := hn) (by rw [List.getElem?_map, ec]; rfl), .inl ⟨rfl, _, SqL.of hc⟩, c, _, .str z, rfl, rfl, hc, last x z, ?_⟩
      rw [drp]
      have lY : (X.set hn x).length = R.length := by rw [List.length_set, lx]
      generalize X.set hn x = Y at o7 pz lY
      have l7 := o7.len
      generalize upd H6 c (.lst (x.map V.str)) = H7 at o7 ⊢
      refine ⟨_, rfl, _, rfl, _, rfl, sl, _, rfl, SqL.of o7.top, fun p1 hp1 => ?_⟩
      rw [cut_front (by rw [List.length_map]; omega), ← List.map_take]
      generalize e_H8 : upd _ p1 _ = H8
      obtain ⟨s8, f8⟩ := al3 e_H8 hp1
      clear e_H8
      (try dsimp only at f8)
      refine ⟨_, rfl, sz, fun q1 hq1 => ?_⟩
      have o8 := o7.same s8
      have nq1 := fresh_out hq1 o8.rows
      have fq1 := o8.mov.free hp hq1
      generalize e_H9 : upd _ q1 _ = H9
      obtain ⟨s9, f9⟩ := al3 e_H9 hq1
      clear e_H9
      (try dsimp only at f9)
      refine ⟨sz, fun q2 hq2 => ?_⟩
      generalize e_H10 : upd _ q2 _ = H10
      obtain ⟨s10, f10⟩ := al3 e_H10 hq2
      clear e_H10
      (try dsimp only at f10)
      have s810 := s9.trans s10
      refine ⟨p1, q2, _, _, rfl, rfl, s810 _ _ f8, f10, szle (by rw [List.length_map, List.length_take, l7]; show _ + 1 ≤ _; omega), fun c1 hc1 => ?_⟩
      generalize e_H11 : upd _ c1 _ = H11
      obtain ⟨s11, f11⟩ := al3 e_H11 hc1
      clear e_H11
      (try dsimp only at f11)
      have o11 := (o8.same s810).same s11
      refine ⟨_, rfl, _, rfl, _, rfl, sl, _, rfl, SqL.of o11.top, fun p2 hp2 => ?_⟩
      rw [cut_back (by rw [List.length_map]; omega), ← List.map_drop]
      generalize e_H12 : upd _ p2 _ = H12
      obtain ⟨s12, f12⟩ := al3 e_H12 hp2
      clear e_H12
      (try dsimp only at f12)
      have o12 := o11.same s12
      have f9' := s12 _ _ (s11 _ _ (s10 _ _ f9))
      refine ⟨c1, p2, _, _, rfl, rfl, s12 _ _ f11, f12, szle (by rw [List.length_append, List.length_map, List.length_map, List.length_take, List.length_drop, l7]; show _ + 1 + _ ≤ _; omega), fun c2 hc2 => ?_⟩
      have nc2 := fresh_out hc2 o12.rows
      have fc2 := o12.mov.free hp hc2
      have nc2q : c2 ≠ q1 := ne_of_none' hc2 f9'
      generalize e_H13 : upd _ c2 _ = H13
      obtain ⟨s13, f13⟩ := al3 e_H13 hc2
      clear e_H13
      (try dsimp only at f13)
      have o13 := o12.same s13
      have pm : (as.take tn ++ [q1] ++ as.drop tn).Perm (q1 :: as) := by
        rw [List.append_assoc]
        refine List.perm_middle.trans ?_
        show (q1 :: (as.take tn ++ as.drop tn)).Perm _
        rw [List.take_append_drop]
      refine ⟨c2, as.take tn ++ [q1] ++ as.drop tn, Y.take tn ++ [[z]] ++ Y.drop tn, _, rfl, ⟨o13.mov, ?_, ?_, pm.nodup_iff.mpr (List.nodup_cons.mpr ⟨nq1, o13.nd⟩), fun b hb => ?_, fun h => ?_, fc2⟩, ?_, ?_⟩
      · rw [f13, List.map_append, List.map_append]
        rfl
      · exact paired_app (paired_app (paired_take tn o13.rows) (.cons (s13 _ _ f9') .nil)) (paired_drop tn o13.rows)
      · rcases List.mem_cons.mp (pm.mem_iff.mp hb) with e | hb
        · rw [e]; exact fq1
        · exact o13.fr b hb
      · rcases List.mem_cons.mp (pm.mem_iff.mp h) with e | hb
        · exact nc2q e
        · exact nc2 hb
      · rw [List.flatten_append, List.flatten_append, List.append_assoc]
        show ((Y.take tn).flatten ++ (z :: (Y.drop tn).flatten)).Perm _
        refine List.perm_middle.trans ?_
        rw [← List.flatten_append, List.take_append_drop]
        exact pz.symm.trans pf
      · rw [List.length_append, List.length_append, List.length_take, List.length_drop]
        show _ + 1 + _ ≤ _
        omega
    clear o6 pf ne lx
    rintro σ H7 ⟨sl, as, X, u7, rfl, o7, pf, lx⟩
    have l7 := o7.len
    have nmX : ∀ x ∈ X, ∀ z ∈ x, nmS z = true := fun x hx z hz => by
      obtain ⟨y, hy, hzy⟩ := List.mem_flatten.mp (pf.mem_iff.mp (List.mem_flatten.mpr ⟨x, hx, hz⟩))
      exact g.nm y hy z hzy
    refine ⟨_, rfl, sl, rfl, ⟨_, SqL.of o7.top⟩, fun D hD => ?_⟩
    have fD := o7.mov.free hp hD
    refine lc_list (K := K) (a := sl) (xs := as.map V.ref) (fun i H' => Same H7 H' ∧ ∃ bs : List Addr, H' D = some (.lst (bs.map V.ref)) ∧ Paired (RowL H') bs ((X.take i).filter fun x => decide (x ≠ [])) ∧ D ∉ bs) ⟨Lb.Same.upd hD, [], upd_same, .nil, fun h => nomatch h⟩ (fun i H' _ b => SqL.of (b.1 _ _ o7.top)) ?_ ?_
    · rintro i v H8 hv ⟨s8, bs, e8, pb, nb⟩
      obtain ⟨c, x, rfl, hx, hc⟩ := rows_row o7.rows hv
      have hxm := List.mem_of_getElem? hx
      refine ⟨rfl, _, rfl, sz, fun e he => ?_⟩
      generalize e_H9 : upd _ e _ = H9
      obtain ⟨s9, f9⟩ := al3 e_H9 he
      clear e_H9
      (try dsimp only at f9)
      have hc9 : RowL H9 c x := s9 _ _ (s8 _ _ hc)
      refine ⟨_, _, dp_rowL hc9, dp_nilL f9, shaped_dL (nmX x hxm), shaped_dL (fun _ h => nomatch h), ?_⟩
      rw [eqv_dL]
      have e9 := s9 _ _ e8
      have ps : (X.take (i + 1)).filter (fun x => decide (x ≠ [])) = (X.take i).filter (fun x => decide (x ≠ [])) ++ [x].filter (fun x => decide (x ≠ [])) := by rw [← take_snoc hx, List.filter_append]
      by_cases h0 : x = []
      · rw [decide_eq_true h0]
        refine ⟨_, rfl, iteF ⟨s8.trans s9, bs, e9, ?_, nb⟩⟩
        rw [ps, List.filter_cons, if_neg (by simp [h0]), List.filter_nil, List.append_nil]
        exact Paired.imp pb fun _ _ h => s9 _ _ h
      · rw [decide_eq_false h0]
        have hcD : c ≠ D := ne_of_none' hD hc |>.symm
        refine ⟨_, rfl, iteT ⟨_, rfl, _, e9, szlt ?_, Lb.Same.updl (s8.trans s9) hD, bs ++ [c], by rw [upd_same, List.map_append]; rfl, ?_, fun h => ?_⟩⟩
        · rw [List.length_map, Paired.len pb]
          exact Nat.le_trans (List.length_filter_le _ _) (by rw [List.length_take]; omega)
        · have up : ∀ {b : Addr} {x : List Str}, b ≠ D → RowL H9 b x → RowL (upd H9 D (.lst (bs.map V.ref ++ [V.ref c]))) b x := fun {b x} n h => by
            unfold RowL at h ⊢
            rw [upd_ne n]
            exact h
          rw [ps, List.filter_cons, if_pos (by simp [h0]), List.filter_nil]
          exact Paired.snoc (up hcD hc9) (paired_mem pb fun b y hb h => up (fun e => nb (e ▸ hb)) (s9 _ _ h))
        · rcases List.mem_append.mp h with h | h
          · exact nb h
          · exact hcD (List.mem_singleton.mp h).symm
    rintro H8 ⟨s8, bs, e8, pb, nb⟩
    rw [List.length_map, l7, List.take_length] at pb
    refine k H8 D _ (o7.mov.same s8) fD ⟨bs, e8, pb⟩ (good_perm (by rw [flat_filter]; exact pf) (fun x hx => ?_) g)
    have := (List.mem_filter.mp hx).2
    simpa using this
end
end K60

set_option Elab.async false
set_option linter.all false
set_option maxRecDepth 100000
set_option maxHeartbeats 4000000
namespace K60
open PySem L2 Lb
open C8 (pss_cut)
theorem ats_lists {H : Hp} : ∀ {as : List Addr} {R : List (List Str)}, Paired (RowL H) as R → Ats H (RD (R.map fun x => (false, x))) (as.map V.ref)
  | _, _, .nil => ats_nil
  | t :: _, x :: _, .cons h r => ats_cons (by show At H (.ls (x.map .str)) _; simp only [At]; exact ⟨t, _, rfl, h, ats_strs.mpr rfl⟩) (ats_lists r)
theorem snd_false (L : List (List Str)) : (L.map fun x => (false, x)).map (·.2) = L := by rw [List.map_map]; exact List.map_id _
/-! what can not be the pot -/
def twoI : List Dt → Bool
  | [.int _, .int _] => true
  | _ => false
mutual
def noP : Dt → Bool
  | .ls l => !twoI l && noPs l
  | .tp l => noPs l
  | _ => true
def noPs : List Dt → Bool
  | [] => true
  | d :: r => noP d && noPs r
end
theorem ats_two {H : Hp} {l : List Dt} {a b : Int} (h : Ats H l [.int a, .int b]) : twoI l = true := by
  cases l with
  | nil => have := ats_inv0 h; cases this
  | cons d r =>
    obtain ⟨x, q, e, h1, h2⟩ := ats_inv h
    cases e
    cases r with
    | nil => have := ats_inv0 h2; cases this
    | cons d2 r2 =>
      obtain ⟨x, q, e, h3, h4⟩ := ats_inv h2
      cases e
      cases r2 with
      | cons d3 r3 => obtain ⟨x, q, e, _⟩ := ats_inv h4; cases e
      | nil =>
        cases d <;> simp only [At, reduceCtorEq, V.int.injEq, false_and, exists_false] at h1
        · cases d2 <;> simp only [At, reduceCtorEq, V.int.injEq, false_and, exists_false] at h3
          rfl
mutual
theorem At.mov {H H' : Hp} {p : Addr} (m : Mov p H H') (hp : PotAt H p) : ∀ (d : Dt) (v : V), noP d = true → At H d v → At H' d v
  | .non, _, _, h => by simp only [At] at h ⊢; exact h
  | .bl _, _, _, h => by simp only [At] at h ⊢; exact h
  | .int _, _, _, h => by simp only [At] at h ⊢; exact h
  | .str _, _, _, h => by simp only [At] at h ⊢; exact h
  | .ls l, _, n, h => by
    simp only [noP, Bool.and_eq_true, Bool.not_eq_true'] at n
    simp only [At] at h ⊢
    obtain ⟨a, xs, e, h1, h2⟩ := h
    refine ⟨a, xs, e, m.keep _ _ (fun z => ?_) h1, Ats.mov m hp l xs n.2 h2⟩
    obtain ⟨x, y, q, _⟩ := hp
    rw [z, q] at h1
    cases h1
    have := ats_two h2
    rw [n.1] at this
    cases this
  | .tp l, _, n, h => by
    simp only [noP] at n
    simp only [At] at h ⊢
    obtain ⟨a, xs, e, h1, h2⟩ := h
    exact ⟨a, xs, e, m.tup hp h1, Ats.mov m hp l xs n h2⟩
  | .dc, _, _, h => by
    simp only [At] at h ⊢
    obtain ⟨a, e, h1⟩ := h
    exact ⟨a, e, m.keep _ _ (fun z => by obtain ⟨x, y, q, _⟩ := hp; rw [z, q] at h1; cases h1) h1⟩
  | .dk _, _, _, h => by
    simp only [At] at h ⊢
    obtain ⟨a, e, h1⟩ := h
    exact ⟨a, e, m.keep _ _ (fun z => by obtain ⟨x, y, q, _⟩ := hp; rw [z, q] at h1; cases h1) h1⟩
theorem Ats.mov {H H' : Hp} {p : Addr} (m : Mov p H H') (hp : PotAt H p) : ∀ (l : List Dt) (xs : List V), noPs l = true → Ats H l xs → Ats H' l xs
  | [], _, _, h => by simp only [Ats] at h ⊢; exact h
  | t :: r, _, n, h => by
    simp only [noPs, Bool.and_eq_true] at n
    simp only [Ats] at h ⊢
    obtain ⟨x, q, e, h1, h2⟩ := h
    exact ⟨x, q, e, At.mov m hp t x n.1 h1, Ats.mov m hp r q n.2 h2⟩
end
/-- a list of new lists under way -/
def LcP (H1 : Hp) (D : Addr) (f : Str → List V) (zs : List Str) (H' : Hp) : Prop := Same H1 H' ∧ ∃ qs : List Addr, H' D = some (.lst (qs.map V.ref)) ∧ Paired (fun t z => H' t = some (.lst (f z))) qs zs ∧ D ∉ qs
theorem LcP.step {H1 H2 : Hp} {D t : Addr} {f : Str → List V} {zs : List Str} {z : Str} (h : LcP H1 D f zs H2) (hD : H1 D = none) (ht : H2 t = none) :
    ∃ acc, (upd H2 t (.lst (f z))) D = some (.lst acc) ∧ acc.length = zs.length ∧ LcP H1 D f (zs ++ [z]) (upd (upd H2 t (.lst (f z))) D (.lst (acc ++ [.ref t]))) := by
  obtain ⟨s, qs, e, pr, n⟩ := h
  have ntD : t ≠ D := ne_of_none' ht e
  have s2 : Same H2 (upd H2 t (.lst (f z))) := Lb.Same.upd ht
  refine ⟨qs.map V.ref, s2 _ _ e, by rw [List.length_map, Paired.len pr], Lb.Same.updl (s.trans s2) hD, qs ++ [t], by rw [upd_same, List.map_append]; rfl, ?_, fun m => ?_⟩
  · refine Paired.snoc (F := fun t z => (upd (upd H2 _ (.lst (f _))) D _) t = some (.lst (f z))) ?_ (paired_mem pr fun b x hb h => ?_)
    · rw [upd_ne ntD, upd_same]
    · rw [upd_ne (show b ≠ D from fun e => n (e ▸ hb))]
      exact s2 _ _ h
  · rcases List.mem_append.mp m with m | m
    · exact n m
    · exact ntD (List.mem_singleton.mp m).symm
theorem ats_news {H : Hp} {f : Str → List V} {g : Str → Dt} (hg : ∀ z v, (∃ a, v = .ref a ∧ H a = some (.lst (f z))) → At H (g z) v) : ∀ {qs : List Addr} {zs : List Str}, Paired (fun t z => H t = some (.lst (f z))) qs zs → Ats H (zs.map g) (qs.map V.ref)
  | _, _, .nil => ats_nil
  | t :: _, z :: _, .cons h r => ats_cons (hg z _ ⟨t, rfl, h⟩) (ats_news hg r)
/-! wrong levels -/
def cd1 : List Dt := [.non, (.int 5), (.str "a"), .ls [], .tp [], .dc, (.bl true), .ls [(.str "A")], .ls [(.str "")], .ls [(.str "a"), (.int 5)], .ls [(.str "abcdefghi")], .ls [.non], .ls [(.tp [(.str "a")])], .ls [(.str "a b")]]
def cd2 (fr : Str) : List Dt := [.ls [(.str fr), (.str fr)], .tp [(.str fr), (.str "x1")], .dk fr, .ls [(.ls [(.str "a")])], .ls [(.str fr), (.dc)], .tp [(.ls [])]]
def cands3 (fr : Str) (used : List Str) : List Dt := cd1 ++ cd2 fr ++ used.map (fun z => .ls [.str fr, .str z]) ++ used.map (fun z => .ls [.str z])
def WrongAt (i : Nat) (acc : Pl) (d : Dt) : Prop := lvD d = none ∨ ∃ x, lvD d = some x ∧ addN i x acc = none
theorem lv_strs {x : List Str} (h0 : x ≠ []) (h : ∀ z ∈ x, nmS z = true) : lvD (.ls (x.map .str)) = some x := lvD_row h0 h false
theorem wrong_mem {i : Nat} {z : Str} : ∀ {pre : List Str} {acc : Pl}, z ∈ acc.map (·.1) → addN i (pre ++ [z]) acc = none
  | [], acc, h => by rw [List.nil_append, addN, if_pos h]
  | y :: r, acc, h => by
    rw [List.cons_append, addN]
    by_cases hy : y ∈ acc.map (·.1)
    · rw [if_pos hy]
    · rw [if_neg hy]
      exact wrong_mem (by rw [List.map_append]; exact List.mem_append_left _ h)
theorem cands_wrong {fr : Str} {used : List Str} {i : Nat} {acc : Pl} (hf : fr = "qqqqqq" ∨ fr = "wwwwww") (hk : acc.map (·.1) = used) (hn : ∀ z ∈ used, nmS z = true) : ∀ d ∈ cands3 fr used, WrongAt i acc d ∧ noP d = true ∧ dsz d ≤ 60 := by
  intro d hd
  have nf : nmS fr = true := by rcases hf with rfl | rfl <;> decide +kernel
  have lf : fr.length ≤ 8 := nm_len nf
  unfold cands3 at hd
  rcases List.mem_append.mp hd with hd | hd
  · rcases List.mem_append.mp hd with hd | hd
    · rcases List.mem_append.mp hd with hd | hd
      · have : ∀ d ∈ cd1, (lvD d).isNone = true ∧ noP d = true ∧ dsz d ≤ 60 := by
          unfold cd1
          intro d hd
          simp only [List.mem_cons, List.not_mem_nil, or_false] at hd
          rcases hd with rfl | rfl | rfl | rfl | rfl | rfl | rfl | rfl | rfl | rfl | rfl | rfl | rfl | rfl <;> decide +kernel
        obtain ⟨h1, h2⟩ := this d hd
        exact ⟨.inl (Option.isNone_iff_eq_none.mp h1), h2⟩
      · unfold cd2 at hd
        rw [List.mem_cons] at hd
        rcases hd with rfl | hd
        · refine ⟨.inr ⟨[fr, fr], lv_strs (x := [fr, fr]) (by simp) (by simp [nf]), ?_⟩, rfl, by simp only [dsz, dszs]; show max 2 (max fr.length (max fr.length 0)) ≤ 60; omega⟩
          rw [addN]
          split
          · rfl
          · rw [addN, if_pos (by rw [List.map_append]; simp)]
        · have : (lvD d).isNone = true ∧ noP d = true ∧ dsz d ≤ 60 := by
            simp only [List.mem_cons, List.not_mem_nil, or_false] at hd
            rcases hf with rfl | rfl <;> rcases hd with rfl | rfl | rfl | rfl | rfl <;> decide +kernel
          exact ⟨.inl (Option.isNone_iff_eq_none.mp this.1), this.2⟩
    · obtain ⟨z, hz, rfl⟩ := List.mem_map.mp hd
      have nz := hn z hz
      have lz := nm_len nz
      refine ⟨.inr ⟨[fr, z], lv_strs (x := [fr, z]) (by simp) (by simp [nf, nz]), ?_⟩, rfl, by simp only [dsz, dszs]; show max 2 (max fr.length (max z.length 0)) ≤ 60; omega⟩
      exact wrong_mem (pre := [fr]) (by rw [hk]; exact hz)
  · obtain ⟨z, hz, rfl⟩ := List.mem_map.mp hd
    have nz := hn z hz
    have lz := nm_len nz
    refine ⟨.inr ⟨[z], lv_strs (x := [z]) (by simp) (by simp [nz]), ?_⟩, rfl, by simp only [dsz, dszs]; show max 1 (max z.length 0) ≤ 60; omega⟩
    rw [addN, if_pos (by rw [hk]; exact hz)]
theorem refs_ne {H : Hp} {p c : Addr} {xs : List V} (hp : PotAt H p) (h : H c = some (.lst xs)) (n : xs.length ≠ 2) : c ≠ p := fun z => by
  obtain ⟨_, _, e, _⟩ := hp
  rw [z, e] at h
  cases h
  exact n rfl
def sp_wrong : Sp := fun vs H Q _ => ∃ p r R i, vs = [.ref p, .ref r, .int (i : Nat)] ∧ PotAt H p ∧ RowsL H r R ∧ Good R ∧ i ≤ R.length ∧
  ∀ H' v d, Mov p H H' → At H' d v → WrongAt i (plR 0 (R.take i)) d → noP d = true → dsz d ≤ 60 → Q v H'
section
variable {P : Program} {w : World} {K : PySem.W.Frag} {mg : Str → Option Value} {base : Heap} {a : Ad}
theorem ok_wrong_level (T : Txt K mg a) : FnOk P w K mg base CX0 3 a.f_wrong_level a.d_wrong_level ["_law_pot_here", "_law_rows", "_law_at"] sp_wrong := by
  refine T.F_wrong_level.ok sc_wrong_level (fun vs H Q E h => ?_) (fun cdv A outer s H vs Q E hr h => ?_)
  · obtain ⟨p, r, R, i, rfl, _⟩ := h
    rfl
  · obtain ⟨p, r, R, i, rfl, hp, ⟨rs, hr0, rr⟩, g, hi, k⟩ := h
    refine ⟨_, (pss_cons (ps_set (i := 3) sc_wrong_level.nd rfl (by first | exact Or.inl rfl | exact Or.inr rfl) (pe_call (ok_flat T) (hr.mono (by decide)) (by rfl) T.m_flat T.F_flat.kp (b_flat T) .nil pass0 (pa_cons (pe_slice (sl_listK (K := K) rfl) (pv 1) po_none (po_some (pv 2))) pa_nil)))
 (pss_cons (ps_set (i := 4) sc_wrong_level.nd rfl (by first | exact Or.inl rfl | exact Or.inr rfl) (pe_lst (pa_cons pe_non (pa_cons pe_int (pa_cons pe_str (pa_cons (pe_lst pa_nil) (pa_cons (pe_tup pa_nil) (pa_cons pe_dnewK (pa_cons pe_bl (pa_cons (pe_lst (pa_cons pe_str pa_nil)) (pa_cons (pe_lst (pa_cons pe_str pa_nil)) (pa_cons (pe_lst (pa_cons pe_str (pa_cons pe_int pa_nil))) (pa_cons (pe_lst (pa_cons pe_str pa_nil)) (pa_cons (pe_lst (pa_cons pe_non pa_nil)) (pa_cons (pe_lst (pa_cons (pe_tup (pa_cons pe_str pa_nil)) pa_nil)) (pa_cons (pe_lst (pa_cons pe_str pa_nil)) pa_nil))))))))))))))))
 (pss_cut (ps_set (i := 5) sc_wrong_level.nd rfl (by first | exact Or.inl rfl | exact Or.inr rfl) (pe_ifExp (pt_cmpR (op_notInK (K := K) rfl) pe_str (pv 3) rfl) pe_str pe_str))
 (pss_cons (ps_set (i := 4) sc_wrong_level.nd rfl (by first | exact Or.inl rfl | exact Or.inr rfl) (pe_op op_cat (pv 4) (pe_lst (pa_cons (pe_lst (pa_cons (pv 5) (pa_cons (pv 5) pa_nil))) (pa_cons (pe_tup (pa_cons (pv 5) (pa_cons pe_str pa_nil))) (pa_cons (pe_callTy (call_dictP rfl) (by rfl) T.b_dict (by decide +kernel) (pa_cons (pe_lst (pa_cons (pe_tup (pa_cons (pv 5) (pa_cons pe_int pa_nil))) pa_nil)) pa_nil)) (pa_cons (pe_lst (pa_cons (pe_lst (pa_cons pe_str pa_nil)) pa_nil)) (pa_cons (pe_lst (pa_cons (pv 5) (pa_cons pe_dnewK pa_nil))) (pa_cons (pe_tup (pa_cons (pe_lst pa_nil) pa_nil)) pa_nil)))))))))
 (pss_one (ps_ret (pe_call (ok_choice T) (hr.mono (by decide)) (by rfl) T.m_choice T.F_choice.kp (b_choice T) .nil pass0 (pa_cons (pv 0) (pa_cons (pe_op op_cat (pe_op op_cat (pv 4) (pe_lc (own := [("_law_name", 6)]) (by rfl) sc_wrong_level.nd (pi_listK (K := K) rfl (pv 3)) (blkOk_by (own := [("_law_name", 6)]) (N := ["_law_pot_here", "_law_rows", "_law_at", "_law_used", "_law_some", "_law_fresh", "_law_name"]) (sc := defScope s_wrong_level) (by decide +kernel)) (fun _ _ _ _ _ => (pg_name (i := 6) sc_wrong_level.nd rfl (by first | exact Or.inl rfl | exact Or.inr rfl))) (fun _ _ _ _ _ => pts_nil) (fun _ _ _ _ _ => (pe_lst (pa_cons (pv 5) (pa_cons (pv 6) pa_nil)))))) (pe_lc (own := [("_law_name", 6)]) (by rfl) sc_wrong_level.nd (pi_listK (K := K) rfl (pv 3)) (blkOk_by (own := [("_law_name", 6)]) (N := ["_law_pot_here", "_law_rows", "_law_at", "_law_used", "_law_some", "_law_fresh", "_law_name"]) (sc := defScope s_wrong_level) (by decide +kernel)) (fun _ _ _ _ _ => (pg_name (i := 6) sc_wrong_level.nd rfl (by first | exact Or.inl rfl | exact Or.inr rfl))) (fun _ _ _ _ _ => pts_nil) (fun _ _ _ _ _ => (pe_lst (pa_cons (pv 6) pa_nil))))) pa_nil))))))))), ?_⟩
    have lr : rs.length = R.length := Paired.len rr
    have hR := g.rlen
    refine ⟨_, rfl, _, rfl, _, rfl, r, _, rfl, SqL.of hr0, fun p1 hp1 => ?_⟩
    rw [cut_front (by rw [List.length_map]; omega), ← List.map_take]
    generalize e_H1 : upd _ p1 _ = H1
    obtain ⟨s1, f1⟩ := al3 e_H1 hp1
    clear e_H1
    (try dsimp only at f1)
    have lfl : (R.take i).flatten.length ≤ 40 := by
      have h1 := congrArg (fun l => l.flatten.length) (List.take_append_drop i R)
      simp only [List.flatten_append, List.length_append] at h1
      have := g.len
      omega
    refine ⟨p1, (R.take i).map (fun x => (false, x)), rfl, ⟨_, f1, ats_lists (Paired.imp (paired_take i rr) fun _ _ h => s1 _ _ h)⟩, by rw [snd_false]; omega, fun H2 us s2 hus eus => ?_⟩
    rw [snd_false] at eus
    generalize hu : (R.take i).flatten = used at *
    refine ⟨sz, fun ua1 hua1 => ?_⟩
    generalize e_uH1 : upd _ ua1 _ = uH1
    obtain ⟨us1, uf1⟩ := al3 e_uH1 hua1
    clear e_uH1
    (try dsimp only at uf1)
    have ub1 : At uH1 (.ls []) (.ref ua1) := by
      simp only [At]
      exact ⟨ua1, _, rfl, uf1, ats_nil⟩
    refine ⟨sz, fun ua2 hua2 => ?_⟩
    generalize e_uH2 : upd _ ua2 _ = uH2
    obtain ⟨us2, uf2⟩ := al3 e_uH2 hua2
    clear e_uH2
    (try dsimp only at uf2)
    have ub1 := At.same us2 _ _ ub1
    have ub2 : At uH2 (.tp []) (.ref ua2) := by
      simp only [At]
      exact ⟨ua2, _, rfl, uf2, ats_nil⟩
    refine fun ua3 hua3 => ?_
    generalize e_uH3 : upd _ ua3 _ = uH3
    obtain ⟨us3, uf3⟩ := al3 e_uH3 hua3
    clear e_uH3
    (try dsimp only at uf3)
    have ub1 := At.same us3 _ _ ub1
    have ub2 := At.same us3 _ _ ub2
    have ub3 : At uH3 .dc (.ref ua3) := by simp only [At]; exact ⟨ua3, rfl, uf3⟩
    refine ⟨sz, fun ua4 hua4 => ?_⟩
    generalize e_uH4 : upd _ ua4 _ = uH4
    obtain ⟨us4, uf4⟩ := al3 e_uH4 hua4
    clear e_uH4
    (try dsimp only at uf4)
    have ub1 := At.same us4 _ _ ub1
    have ub2 := At.same us4 _ _ ub2
    have ub3 := At.same us4 _ _ ub3
    have ub4 : At uH4 (.ls [(.str "A")]) (.ref ua4) := by
      simp only [At]
      exact ⟨ua4, _, rfl, uf4, (ats_cons (by simp only [At]) ats_nil)⟩
    refine ⟨sz, fun ua5 hua5 => ?_⟩
    generalize e_uH5 : upd _ ua5 _ = uH5
    obtain ⟨us5, uf5⟩ := al3 e_uH5 hua5
    clear e_uH5
    (try dsimp only at uf5)
    have ub1 := At.same us5 _ _ ub1
    have ub2 := At.same us5 _ _ ub2
    have ub3 := At.same us5 _ _ ub3
    have ub4 := At.same us5 _ _ ub4
    have ub5 : At uH5 (.ls [(.str "")]) (.ref ua5) := by
      simp only [At]
      exact ⟨ua5, _, rfl, uf5, (ats_cons (by simp only [At]) ats_nil)⟩
    refine ⟨sz, fun ua6 hua6 => ?_⟩
    generalize e_uH6 : upd _ ua6 _ = uH6
    obtain ⟨us6, uf6⟩ := al3 e_uH6 hua6
    clear e_uH6
    (try dsimp only at uf6)
    have ub1 := At.same us6 _ _ ub1
    have ub2 := At.same us6 _ _ ub2
    have ub3 := At.same us6 _ _ ub3
    have ub4 := At.same us6 _ _ ub4
    have ub5 := At.same us6 _ _ ub5
    have ub6 : At uH6 (.ls [(.str "a"), (.int 5)]) (.ref ua6) := by
      simp only [At]
      exact ⟨ua6, _, rfl, uf6, (ats_cons (by simp only [At]) (ats_cons (by simp only [At]) ats_nil))⟩
    refine ⟨sz, fun ua7 hua7 => ?_⟩
    generalize e_uH7 : upd _ ua7 _ = uH7
    obtain ⟨us7, uf7⟩ := al3 e_uH7 hua7
    clear e_uH7
    (try dsimp only at uf7)
    have ub1 := At.same us7 _ _ ub1
    have ub2 := At.same us7 _ _ ub2
    have ub3 := At.same us7 _ _ ub3
    have ub4 := At.same us7 _ _ ub4
    have ub5 := At.same us7 _ _ ub5
    have ub6 := At.same us7 _ _ ub6
    have ub7 : At uH7 (.ls [(.str "abcdefghi")]) (.ref ua7) := by
      simp only [At]
      exact ⟨ua7, _, rfl, uf7, (ats_cons (by simp only [At]) ats_nil)⟩
    refine ⟨sz, fun ua8 hua8 => ?_⟩
    generalize e_uH8 : upd _ ua8 _ = uH8
    obtain ⟨us8, uf8⟩ := al3 e_uH8 hua8
    clear e_uH8
    (try dsimp only at uf8)
    have ub1 := At.same us8 _ _ ub1
    have ub2 := At.same us8 _ _ ub2
    have ub3 := At.same us8 _ _ ub3
    have ub4 := At.same us8 _ _ ub4
    have ub5 := At.same us8 _ _ ub5
    have ub6 := At.same us8 _ _ ub6
    have ub7 := At.same us8 _ _ ub7
    have ub8 : At uH8 (.ls [.non]) (.ref ua8) := by
      simp only [At]
      exact ⟨ua8, _, rfl, uf8, (ats_cons (by simp only [At]) ats_nil)⟩
    refine ⟨sz, fun ua9 hua9 => ?_⟩
    generalize e_uH9 : upd _ ua9 _ = uH9
    obtain ⟨us9, uf9⟩ := al3 e_uH9 hua9
    clear e_uH9
    (try dsimp only at uf9)
    have ub1 := At.same us9 _ _ ub1
    have ub2 := At.same us9 _ _ ub2
    have ub3 := At.same us9 _ _ ub3
    have ub4 := At.same us9 _ _ ub4
    have ub5 := At.same us9 _ _ ub5
    have ub6 := At.same us9 _ _ ub6
    have ub7 := At.same us9 _ _ ub7
    have ub8 := At.same us9 _ _ ub8
    have ub9 : At uH9 (.tp [(.str "a")]) (.ref ua9) := by
      simp only [At]
      exact ⟨ua9, _, rfl, uf9, (ats_cons (by simp only [At]) ats_nil)⟩
    refine ⟨sz, fun ua10 hua10 => ?_⟩
    generalize e_uH10 : upd _ ua10 _ = uH10
    obtain ⟨us10, uf10⟩ := al3 e_uH10 hua10
    clear e_uH10
    (try dsimp only at uf10)
    have ub1 := At.same us10 _ _ ub1
    have ub2 := At.same us10 _ _ ub2
    have ub3 := At.same us10 _ _ ub3
    have ub4 := At.same us10 _ _ ub4
    have ub5 := At.same us10 _ _ ub5
    have ub6 := At.same us10 _ _ ub6
    have ub7 := At.same us10 _ _ ub7
    have ub8 := At.same us10 _ _ ub8
    have ub9 := At.same us10 _ _ ub9
    have ub10 : At uH10 (.ls [(.tp [(.str "a")])]) (.ref ua10) := by
      simp only [At]
      exact ⟨ua10, _, rfl, uf10, (ats_cons ub9 ats_nil)⟩
    refine ⟨sz, fun ua11 hua11 => ?_⟩
    generalize e_uH11 : upd _ ua11 _ = uH11
    obtain ⟨us11, uf11⟩ := al3 e_uH11 hua11
    clear e_uH11
    (try dsimp only at uf11)
    have ub1 := At.same us11 _ _ ub1
    have ub2 := At.same us11 _ _ ub2
    have ub3 := At.same us11 _ _ ub3
    have ub4 := At.same us11 _ _ ub4
    have ub5 := At.same us11 _ _ ub5
    have ub6 := At.same us11 _ _ ub6
    have ub7 := At.same us11 _ _ ub7
    have ub8 := At.same us11 _ _ ub8
    have ub10 := At.same us11 _ _ ub10
    have ub11 : At uH11 (.ls [(.str "a b")]) (.ref ua11) := by
      simp only [At]
      exact ⟨ua11, _, rfl, uf11, (ats_cons (by simp only [At]) ats_nil)⟩
    have A1 : Ats uH11 [.non, (.int 5), (.str "a"), (.ls []), (.tp []), .dc, (.bl true), (.ls [(.str "A")]), (.ls [(.str "")]), (.ls [(.str "a"), (.int 5)]), (.ls [(.str "abcdefghi")]), (.ls [.non]), (.ls [(.tp [(.str "a")])]), (.ls [(.str "a b")])] [.non, .int 5, .str "a", .ref ua1, .ref ua2, .ref ua3, .bl true, .ref ua4, .ref ua5, .ref ua6, .ref ua7, .ref ua8, .ref ua10, .ref ua11] := (ats_cons (by simp only [At]) (ats_cons (by simp only [At]) (ats_cons (by simp only [At]) (ats_cons ub1 (ats_cons ub2 (ats_cons ub3 (ats_cons (by simp only [At]) (ats_cons ub4 (ats_cons ub5 (ats_cons ub6 (ats_cons ub7 (ats_cons ub8 (ats_cons ub10 (ats_cons ub11 ats_nil))))))))))))))
    have su := ((((((((((us1.trans us2).trans us3).trans us4).trans us5).trans us6).trans us7).trans us8).trans us9).trans us10).trans us11)
    refine ⟨sz, fun l1 hl1 => ?_⟩
    generalize e_H3 : upd _ l1 _ = H3
    obtain ⟨s3, f3⟩ := al3 e_H3 hl1
    clear e_H3
    (try dsimp only at f3)
    have A1 := Ats.same s3 _ _ A1
    have s23 := su.trans s3
    have eus3 := s23 _ _ eus
    refine ⟨fun σ H' => ∃ fr : Str, (fr = "qqqqqq" ∨ fr = "wwwwww") ∧ σ = [some (.ref p), some (.ref r), some (.int (i : Nat)), some (.ref us), some (.ref l1), some (.str fr), none] ∧ H3 = H', ?_, ?_⟩
    · exact ⟨_, rfl, us, _, rfl, .inl (SqL.of eus3), rfl, flat_strs _, _, rfl, ite2 (fun _ => ⟨"qqqqqq", .inl rfl, rfl, rfl⟩) (fun _ => ⟨"wwwwww", .inr rfl, rfl, rfl⟩)⟩
    rintro σ _ ⟨fr, hf, rfl, rfl⟩
    refine ⟨_, rfl, ?_⟩
    refine ⟨_, rfl, ?_⟩
    refine ⟨_, rfl, ?_⟩
    refine ⟨sz, fun wa1 hwa1 => ?_⟩
    generalize e_wH1 : upd _ wa1 _ = wH1
    obtain ⟨ws1, wf1⟩ := al3 e_wH1 hwa1
    clear e_wH1
    (try dsimp only at wf1)
    have wb1 : At wH1 (.ls [(.str fr), (.str fr)]) (.ref wa1) := by
      simp only [At]
      exact ⟨wa1, _, rfl, wf1, (ats_cons (by simp only [At]) (ats_cons (by simp only [At]) ats_nil))⟩
    refine ⟨_, rfl, ?_⟩
    refine ⟨sz, fun wa2 hwa2 => ?_⟩
    generalize e_wH2 : upd _ wa2 _ = wH2
    obtain ⟨ws2, wf2⟩ := al3 e_wH2 hwa2
    clear e_wH2
    (try dsimp only at wf2)
    have wb1 := At.same ws2 _ _ wb1
    have wb2 : At wH2 (.tp [(.str fr), (.str "x1")]) (.ref wa2) := by
      simp only [At]
      exact ⟨wa2, _, rfl, wf2, (ats_cons (by simp only [At]) (ats_cons (by simp only [At]) ats_nil))⟩
    refine ⟨_, rfl, ?_⟩
    refine ⟨sz, fun wa3 hwa3 => ?_⟩
    generalize e_wH3 : upd _ wa3 _ = wH3
    obtain ⟨ws3, wf3⟩ := al3 e_wH3 hwa3
    clear e_wH3
    (try dsimp only at wf3)
    have wb1 := At.same ws3 _ _ wb1
    have wb2 := At.same ws3 _ _ wb2
    refine ⟨sz, fun wa4 hwa4 => ?_⟩
    generalize e_wH4 : upd _ wa4 _ = wH4
    obtain ⟨ws4, wf4⟩ := al3 e_wH4 hwa4
    clear e_wH4
    (try dsimp only at wf4)
    have wb1 := At.same ws4 _ _ wb1
    have wb2 := At.same ws4 _ _ wb2
    refine ⟨wa4, [wa3], [(Sum.inr fr, .int 1)], rfl, SqL.of wf4, .cons (SqT.of (ws4 _ _ wf3)) .nil, fun wa5 hwa5 => ?_⟩
    rw [show mergeK [] [((Sum.inr fr : Key), V.int 1)] = dkO fr from rfl]
    generalize e_wH5 : upd _ wa5 _ = wH5
    obtain ⟨ws5, wf5⟩ := al3 e_wH5 hwa5
    clear e_wH5
    (try dsimp only at wf5)
    have wb1 := At.same ws5 _ _ wb1
    have wb2 := At.same ws5 _ _ wb2
    have wb5 : At wH5 (.dk fr) (.ref wa5) := by simp only [At]; exact ⟨wa5, rfl, wf5⟩
    refine ⟨sz, fun wa6 hwa6 => ?_⟩
    generalize e_wH6 : upd _ wa6 _ = wH6
    obtain ⟨ws6, wf6⟩ := al3 e_wH6 hwa6
    clear e_wH6
    (try dsimp only at wf6)
    have wb1 := At.same ws6 _ _ wb1
    have wb2 := At.same ws6 _ _ wb2
    have wb5 := At.same ws6 _ _ wb5
    have wb6 : At wH6 (.ls [(.str "a")]) (.ref wa6) := by
      simp only [At]
      exact ⟨wa6, _, rfl, wf6, (ats_cons (by simp only [At]) ats_nil)⟩
    refine ⟨sz, fun wa7 hwa7 => ?_⟩
    generalize e_wH7 : upd _ wa7 _ = wH7
    obtain ⟨ws7, wf7⟩ := al3 e_wH7 hwa7
    clear e_wH7
    (try dsimp only at wf7)
    have wb1 := At.same ws7 _ _ wb1
    have wb2 := At.same ws7 _ _ wb2
    have wb5 := At.same ws7 _ _ wb5
    have wb6 := At.same ws7 _ _ wb6
    have wb7 : At wH7 (.ls [(.ls [(.str "a")])]) (.ref wa7) := by
      simp only [At]
      exact ⟨wa7, _, rfl, wf7, (ats_cons wb6 ats_nil)⟩
    refine ⟨_, rfl, ?_⟩
    refine fun wa8 hwa8 => ?_
    generalize e_wH8 : upd _ wa8 _ = wH8
    obtain ⟨ws8, wf8⟩ := al3 e_wH8 hwa8
    clear e_wH8
    (try dsimp only at wf8)
    have wb1 := At.same ws8 _ _ wb1
    have wb2 := At.same ws8 _ _ wb2
    have wb5 := At.same ws8 _ _ wb5
    have wb7 := At.same ws8 _ _ wb7
    have wb8 : At wH8 .dc (.ref wa8) := by simp only [At]; exact ⟨wa8, rfl, wf8⟩
    refine ⟨sz, fun wa9 hwa9 => ?_⟩
    generalize e_wH9 : upd _ wa9 _ = wH9
    obtain ⟨ws9, wf9⟩ := al3 e_wH9 hwa9
    clear e_wH9
    (try dsimp only at wf9)
    have wb1 := At.same ws9 _ _ wb1
    have wb2 := At.same ws9 _ _ wb2
    have wb5 := At.same ws9 _ _ wb5
    have wb7 := At.same ws9 _ _ wb7
    have wb8 := At.same ws9 _ _ wb8
    have wb9 : At wH9 (.ls [(.str fr), .dc]) (.ref wa9) := by
      simp only [At]
      exact ⟨wa9, _, rfl, wf9, (ats_cons (by simp only [At]) (ats_cons wb8 ats_nil))⟩
    refine ⟨sz, fun wa10 hwa10 => ?_⟩
    generalize e_wH10 : upd _ wa10 _ = wH10
    obtain ⟨ws10, wf10⟩ := al3 e_wH10 hwa10
    clear e_wH10
    (try dsimp only at wf10)
    have wb1 := At.same ws10 _ _ wb1
    have wb2 := At.same ws10 _ _ wb2
    have wb5 := At.same ws10 _ _ wb5
    have wb7 := At.same ws10 _ _ wb7
    have wb9 := At.same ws10 _ _ wb9
    have wb10 : At wH10 (.ls []) (.ref wa10) := by
      simp only [At]
      exact ⟨wa10, _, rfl, wf10, ats_nil⟩
    refine ⟨sz, fun wa11 hwa11 => ?_⟩
    generalize e_wH11 : upd _ wa11 _ = wH11
    obtain ⟨ws11, wf11⟩ := al3 e_wH11 hwa11
    clear e_wH11
    (try dsimp only at wf11)
    have wb1 := At.same ws11 _ _ wb1
    have wb2 := At.same ws11 _ _ wb2
    have wb5 := At.same ws11 _ _ wb5
    have wb7 := At.same ws11 _ _ wb7
    have wb9 := At.same ws11 _ _ wb9
    have wb10 := At.same ws11 _ _ wb10
    have wb11 : At wH11 (.tp [(.ls [])]) (.ref wa11) := by
      simp only [At]
      exact ⟨wa11, _, rfl, wf11, (ats_cons wb10 ats_nil)⟩
    have A2 : Ats wH11 [(.ls [(.str fr), (.str fr)]), (.tp [(.str fr), (.str "x1")]), (.dk fr), (.ls [(.ls [(.str "a")])]), (.ls [(.str fr), .dc]), (.tp [(.ls [])])] [.ref wa1, .ref wa2, .ref wa5, .ref wa7, .ref wa9, .ref wa11] := (ats_cons wb1 (ats_cons wb2 (ats_cons wb5 (ats_cons wb7 (ats_cons wb9 (ats_cons wb11 ats_nil))))))
    have sw := ((((((((((ws1.trans ws2).trans ws3).trans ws4).trans ws5).trans ws6).trans ws7).trans ws8).trans ws9).trans ws10).trans ws11)
    refine ⟨sz, fun l2 hl2 => ?_⟩
    generalize e_H4 : upd _ l2 _ = H4
    obtain ⟨s4, f4⟩ := al3 e_H4 hl2
    clear e_H4
    (try dsimp only at f4)
    have s34 := sw.trans s4
    have A2 := Ats.same s4 _ _ A2
    have A1 := Ats.same s34 _ _ A1
    refine ⟨l1, l2, _, _, rfl, rfl, s34 _ _ f3, f4, szle (by simp), fun c1 hc1 => ?_⟩
    generalize e_H5 : upd _ c1 _ = H5
    obtain ⟨s5, f5⟩ := al3 e_H5 hc1
    clear e_H5
    (try dsimp only at f5)
    have A2 := Ats.same s5 _ _ A2
    have A1 := Ats.same s5 _ _ A1
    have S5 := (s1.trans s2).trans ((s23.trans s34).trans s5)
    have eus5 := s5 _ _ (s34 _ _ eus3)
    obtain ⟨vs, ec1, AA⟩ : ∃ vs, H5 c1 = some (.lst vs) ∧ Ats H5 (cd1 ++ cd2 fr) vs := ⟨_, f5, A1.append A2⟩
    have lvs : vs.length = 20 := AA.len
    have lus : used.length ≤ 40 := lfl
    clear A1 A2 f5
    refine ⟨_, rfl, _, rfl, _, rfl, us, rfl, ⟨_, SqL.of eus5⟩, fun D1 hD1 => ?_⟩
    refine lc_list (K := K) (a := us) (xs := used.map V.str) (fun j H' => LcP H5 D1 (fun z => [.str fr, .str z]) (used.take j) H') ⟨Lb.Same.upd hD1, [], upd_same, .nil, fun h => nomatch h⟩ (fun j H' _ b => SqL.of (b.1 _ _ eus5)) ?_ ?_
    · rintro j v H6 hv b
      rw [List.getElem?_map] at hv
      obtain ⟨z, hz, rfl⟩ : ∃ z, used[j]? = some z ∧ V.str z = v := by
        cases h : used[j]? with
        | none => rw [h] at hv; cases hv
        | some z => rw [h] at hv; exact ⟨z, rfl, by simpa using hv⟩
      refine ⟨rfl, _, rfl, _, rfl, sz, fun t ht => ?_⟩
      obtain ⟨acc, e, la, b'⟩ := LcP.step (z := z) b hD1 ht
      refine ⟨acc, e, szlt (by rw [la, List.length_take]; omega), ?_⟩
      rw [← take_snoc hz]
      exact b'
    rintro H6 b
    rw [List.length_map, List.take_length] at b
    obtain ⟨s6, qs, e6, p6, _⟩ := b
    have N1 : Ats H6 (used.map fun z => .ls [.str fr, .str z]) (qs.map V.ref) := ats_news (fun z v ⟨a, e, h⟩ => by simp only [At]; exact ⟨a, _, e, h, ats_cons (by simp only [At]) (ats_cons (by simp only [At]) ats_nil)⟩) p6
    have lq := Paired.len p6
    refine ⟨c1, D1, vs, _, rfl, rfl, s6 _ _ ec1, e6, szle (by rw [List.length_map]; omega), fun c2 hc2 => ?_⟩
    generalize e_H7 : upd _ c2 _ = H7
    obtain ⟨s7, f7⟩ := al3 e_H7 hc2
    clear e_H7
    (try dsimp only at f7)
    have s57 := s6.trans s7
    have B1 := (Ats.same s57 _ _ AA).append (Ats.same s7 _ _ N1)
    have eus7 := s57 _ _ eus5
    refine ⟨_, rfl, us, rfl, ⟨_, SqL.of eus7⟩, fun D2 hD2 => ?_⟩
    refine lc_list (K := K) (a := us) (xs := used.map V.str) (fun j H' => LcP H7 D2 (fun z => [.str z]) (used.take j) H') ⟨Lb.Same.upd hD2, [], upd_same, .nil, fun h => nomatch h⟩ (fun j H' _ b => SqL.of (b.1 _ _ eus7)) ?_ ?_
    · rintro j v H8 hv b
      rw [List.getElem?_map] at hv
      obtain ⟨z, hz, rfl⟩ : ∃ z, used[j]? = some z ∧ V.str z = v := by
        cases h : used[j]? with
        | none => rw [h] at hv; cases hv
        | some z => rw [h] at hv; exact ⟨z, rfl, by simpa using hv⟩
      refine ⟨rfl, _, rfl, sz, fun t ht => ?_⟩
      obtain ⟨acc, e, la, b'⟩ := LcP.step (z := z) b hD2 ht
      refine ⟨acc, e, szlt (by rw [la, List.length_take]; omega), ?_⟩
      rw [← take_snoc hz]
      exact b'
    rintro H8 b
    rw [List.length_map, List.take_length] at b
    obtain ⟨s8, q2, e8, p8, _⟩ := b
    have N2 : Ats H8 (used.map fun z => .ls [.str z]) (q2.map V.ref) := ats_news (fun z v ⟨a, e, h⟩ => by simp only [At]; exact ⟨a, _, e, h, ats_cons (by simp only [At]) ats_nil⟩) p8
    have lq2 := Paired.len p8
    refine ⟨c2, D2, _, _, rfl, rfl, s8 _ _ f7, e8, szle (by rw [List.length_append, List.length_map, List.length_map]; omega), fun c3 hc3 => ?_⟩
    generalize e_H9 : upd _ c3 _ = H9
    obtain ⟨s9, f9⟩ := al3 e_H9 hc3
    clear e_H9
    (try dsimp only at f9)
    have B2 : Ats H9 (cands3 fr used) _ := (Ats.same (s8.trans s9) _ _ B1).append (Ats.same s9 _ _ N2)
    have S9 : Same H H9 := S5.trans ((s57.trans s8).trans s9)
    have MV : Mov p H H9 := (Mov.refl hp).same S9
    have hp9 := MV.pot
    refine ⟨p, c3, _, rfl, hp9, SqL.of f9, refs_ne hp9 f9 (by rw [List.length_append, List.length_append, lvs]; omega), by rw [List.length_append, List.length_append, lvs]; omega, by rw [List.length_append, List.length_append, List.length_map, List.length_map]; omega, fun H' ix v M hv => ?_⟩
    obtain ⟨d, hd, ad⟩ := B2.at_ hv
    obtain ⟨w1, w2, w3⟩ := cands_wrong (i := i) (acc := plR 0 (R.take i)) hf (by rw [plR_keys, hu]) (fun z hz => by
      rw [← hu] at hz
      obtain ⟨x, hx, hzx⟩ := List.mem_flatten.mp hz
      exact g.nm x (List.mem_of_mem_take hx) z hzx) d (List.mem_of_getElem? hd)
    exact k H' v d (MV.trans M) (At.mov M hp9 d v w2 ad) w1 w2 w3
end
end K60

set_option Elab.async false
set_option linter.all false
set_option maxRecDepth 100000
set_option maxHeartbeats 4000000
/-! v not in x, x an instance whose class has `__contains__` -/
namespace Lb
open PySem PySem.Spec PyProof.Rows L2
section
variable {X : Cx} {CX : CXT} {C g : Addr} {n : Nat} {sp : Sp} {E : XK}
def rNotInOwn (C : Addr) (sp : Sp) (E : XK) : R2 := fun v x H Q => ∃ a dx fs, x = .ref a ∧ H a = some (.ins C dx fs) ∧ sp [x, v] H (fun z H' => ∃ b, z = .bl b ∧ Q (.bl (!b)) H') E
theorem op_notInOwn {K : PySem.W.Frag} (hK : X.K = K) (hs : PySem.W.findIn K (.ref C) "__contains__" = some (some (.ref g))) (hf : PySem.W.isFn K (.ref g) = true) (F : FnR X.prog X.w X.K X.mg X.base CX n g sp) (hr : Room n X.A) (hx : Passes CX X E) :
    OpR X (compareOp .NotIn) (rNotInOwn C sp E) := by
  subst hK
  intro pins s σ H x y v u Q I rx ry h
  obtain ⟨a, dx, fs, rfl, ha, q⟩ := h
  cases (show u = Value.ref a from ry)
  obtain ⟨od, J⟩ := inst_at I ha
  obtain ⟨m, hF⟩ := I.fr
  refine PySem.W.notIn_K hF I.ok.mod.kin J hs hf ?_
  refine wpAny_mono (wpAny_call (SlX.run_at (us := [.ref a, v]) (ws := [.ref a, x]) F hr I.env0 hx I (.cons rfl (.cons rx .nil)) q)) (fun w s' z => ?_) fun _ _ x => x
  obtain ⟨z', H', I', rz, b, ez, qz⟩ := z
  subst ez
  cases (show w = Value.bool b from rz)
  exact wpAny_truthy_bool ⟨.bl (!b), H', I', rfl, qz⟩
theorem call_list_ofK {K : PySem.W.Frag} (hK : X.K = K) : CallR X (.type "list") (fun xs H Q => ∃ p ys, xs = [.ref p] ∧ (SqL K H p ys ∨ SqT K H p ys) ∧ ∀ l, H l = none → Q (.ref l) (upd H l (.lst ys))) := by subst hK; exact call_list_of
end
end Lb

set_option Elab.async false
set_option linter.all false
set_option maxRecDepth 100000
set_option maxHeartbeats 4000000
namespace K60
open PySem L2 Lb
open C8 (pss_cut)
open LamX (ExtN CodeO Tabs TabB pe_lamcall lamS_by)
open PySem.Spec PyProof.Rows
/-! tables -/
def TL1 (a : Ad) : List (Addr × Str) := [(a.PP_refused_right, ((PySem.Str.ofString "_law_refused_right") ++ ".<locals>.") ++ "<lambda>")]
theorem hu_refused_right {K : PySem.W.Frag} {mg : Str → Option Value} {a : Ad} (T : Txt K mg a) : ∀ p ∈ TL1 a, p.1 = a.PP_refused_right → p.2 = ((PySem.Str.ofString "_law_refused_right") ++ ".<locals>.") ++ "<lambda>" := by
  intro p hp e
  rw [List.mem_singleton.mp hp]
theorem pot_not {p b : Addr} {H : Hp} {o : HO} (hp : PotAt H p) (e : H b = some o) (n : ∀ xs, o ≠ .lst xs) : b ≠ p := fun z => by
  obtain ⟨x, y, q, _⟩ := hp
  rw [z, q] at e
  exact n _ (Option.some.inj e).symm
theorem tabs_mov {T : List (Addr × Str)} {p : Addr} {H H' : Hp} (t : Tabs T H) (M : Mov p H H') (hp : PotAt H p) : Tabs T H' := by
  intro q hq
  obtain ⟨ps, h1, h2, h3⟩ := t q hq
  refine ⟨ps, M.keep _ _ (pot_not hp h1 fun _ z => nomatch z) h1, h2, fun pos cv hc => ?_⟩
  obtain ⟨c, e1, e2⟩ := h3 pos cv hc
  exact ⟨c, e1, M.keep _ _ (pot_not hp e2 fun xs z => by unfold CodeO at z; cases z) e2⟩
/-- all but the pot and the tables stays -/
structure MovN (p : Addr) (H H' : Hp) : Prop where
  keep : ∀ b o, b ≠ p → H b = some o → (∀ ps, o ≠ .tbl ps) → H' b = some o
  pot : PotAt H' p
theorem PotAt.ext {p : Addr} {H H' : Hp} (h : PotAt H p) (s : ExtN H H') : PotAt H' p := let ⟨x, y, e, r⟩ := h; ⟨x, y, s _ _ e (fun _ z => nomatch z), r⟩
theorem MovN.of {p : Addr} {H H' : Hp} (M : Mov p H H') : MovN p H H' := ⟨fun b o n e _ => M.keep b o n e, M.pot⟩
theorem MovN.ext {p : Addr} {H H1 H2 : Hp} (M : MovN p H H1) (s : ExtN H1 H2) : MovN p H H2 := ⟨fun b o n e t => s _ _ (M.keep b o n e t) t, PotAt.ext M.pot s⟩
theorem MovN.mov {p : Addr} {H H1 H2 : Hp} (M : MovN p H H1) (s : Mov p H1 H2) : MovN p H H2 := ⟨fun b o n e t => s.keep _ _ n (M.keep b o n e t), s.pot⟩
theorem MovN.trans {p : Addr} {H H1 H2 : Hp} (M : MovN p H H1) (s : MovN p H1 H2) : MovN p H H2 := ⟨fun b o n e t => s.keep _ _ n (M.keep b o n e t) t, s.pot⟩
theorem MovN.same {p : Addr} {H H1 H2 : Hp} (M : MovN p H H1) (s : Same H1 H2) : MovN p H H2 := M.ext (.of s)
mutual
theorem At.ext {H H' : Hp} (s : ExtN H H') : ∀ (d : Dt) (v : V), At H d v → At H' d v
  | .non, _, h => by simp only [At] at h ⊢; exact h
  | .bl _, _, h => by simp only [At] at h ⊢; exact h
  | .int _, _, h => by simp only [At] at h ⊢; exact h
  | .str _, _, h => by simp only [At] at h ⊢; exact h
  | .ls l, _, h => by simp only [At] at h ⊢; obtain ⟨a, xs, e, h1, h2⟩ := h; exact ⟨a, xs, e, s _ _ h1 (fun _ z => nomatch z), Ats.ext s l xs h2⟩
  | .tp l, _, h => by simp only [At] at h ⊢; obtain ⟨a, xs, e, h1, h2⟩ := h; exact ⟨a, xs, e, s _ _ h1 (fun _ z => nomatch z), Ats.ext s l xs h2⟩
  | .dc, _, h => by simp only [At] at h ⊢; obtain ⟨a, e, h1⟩ := h; exact ⟨a, e, s _ _ h1 (fun _ z => nomatch z)⟩
  | .dk _, _, h => by simp only [At] at h ⊢; obtain ⟨a, e, h1⟩ := h; exact ⟨a, e, s _ _ h1 (fun _ z => nomatch z)⟩
theorem Ats.ext {H H' : Hp} (s : ExtN H H') : ∀ (l : List Dt) (xs : List V), Ats H l xs → Ats H' l xs
  | [], _, h => by simp only [Ats] at h ⊢; exact h
  | t :: r, _, h => by simp only [Ats] at h ⊢; obtain ⟨x, q, e, h1, h2⟩ := h; exact ⟨x, q, e, At.ext s t x h1, Ats.ext s r q h2⟩
end
theorem RowL.ext {H H' : Hp} {a : Addr} {x : List Str} (h : RowL H a x) (s : ExtN H H') : RowL H' a x := s _ _ h (fun _ z => nomatch z)
theorem RowsL.ext {H H' : Hp} {r : Addr} {R : List (List Str)} (h : RowsL H r R) (s : ExtN H H') : RowsL H' r R := let ⟨as, a, b⟩ := h; ⟨as, s _ _ a (fun _ z => nomatch z), Paired.imp b fun _ _ h => RowL.ext h s⟩
theorem OrdAt.ext {C : Addr} {H H' : Hp} {q : Addr} {L : List (List Str)} {p : Pl} (h : OrdAt C H q L p) (s : ExtN H H') : OrdAt C H' q L p :=
  let ⟨dx, D, l, ts, a, b, c, d⟩ := h
  ⟨dx, D, l, ts, s _ _ a (fun _ z => nomatch z), s _ _ b (fun _ z => nomatch z), s _ _ c (fun _ z => nomatch z), Paired.imp d fun _ _ h => s _ _ h (fun _ z => nomatch z)⟩
theorem OrdAt.mov {C : Addr} {H H' : Hp} {q pp : Addr} {L : List (List Str)} {p : Pl} (h : OrdAt C H q L p) (m : Mov pp H H') (hp : PotAt H pp) : OrdAt C H' q L p :=
  let ⟨dx, D, l, ts, a, b, c, d⟩ := h
  ⟨dx, D, l, ts, m.keep _ _ (pot_not hp a fun _ z => nomatch z) a, m.keep _ _ (pot_not hp b fun _ z => nomatch z) b, m.keep _ _ (refs_pot hp c) c, Paired.imp d fun _ _ h => m.tup hp h⟩
theorem RowsL.movN {H H' : Hp} {p r : Addr} {R : List (List Str)} (h : RowsL H r R) (m : MovN p H H') (hp : PotAt H p) : RowsL H' r R :=
  let ⟨as, a, b⟩ := h
  ⟨as, m.keep _ _ (refs_pot hp a) a (fun _ z => nomatch z), Paired.imp b fun _ _ h => m.keep _ _ (row_pot hp h) h (fun _ z => nomatch z)⟩
theorem OrdAt.movN {C : Addr} {H H' : Hp} {q pp : Addr} {L : List (List Str)} {p : Pl} (h : OrdAt C H q L p) (m : MovN pp H H') (hp : PotAt H pp) : OrdAt C H' q L p :=
  let ⟨dx, D, l, ts, a, b, c, d⟩ := h
  ⟨dx, D, l, ts, m.keep _ _ (pot_not hp a fun _ z => nomatch z) a (fun _ z => nomatch z), m.keep _ _ (pot_not hp b fun _ z => nomatch z) b (fun _ z => nomatch z), m.keep _ _ (refs_pot hp c) c (fun _ z => nomatch z), Paired.imp d fun _ _ h => m.keep _ _ (pot_not hp h fun _ z => nomatch z) h (fun _ z => nomatch z)⟩
/-! how odd values are shown -/
mutual
def trD : Dt → Tr
  | .non => .lf "None"
  | .bl true => .lf "True"
  | .bl false => .lf "False"
  | .int i => .lf ((toString i : String) : Str)
  | .str z => .lf (reprText z)
  | .ls l => .ls (trDs l)
  | .tp l => .tp (trDs l)
  | .dc => .ow "{}"
  | .dk _ => .lf ""
def trDs : List Dt → List Tr
  | [] => []
  | d :: r => trD d :: trDs r
end
mutual
def shO : Dt → Bool
  | .int i => decide (i.natAbs.log2 < 1920)
  | .ls l => shOs l
  | .tp l => shOs l
  | .dk _ => false
  | _ => true
def shOs : List Dt → Bool
  | [] => true
  | d :: r => shO d && shOs r
end
section
variable {K : PySem.W.Frag} {H : Hp}
mutual
theorem sh_at : ∀ (d : Dt) (v : V), shO d = true → At H d v → Sh K OEmpty H (trD d) v
  | .non, _, _, h => by simp only [At] at h; subst h; simp only [trD, Sh]; rfl
  | .bl true, _, _, h => by simp only [At] at h; subst h; simp only [trD, Sh]; rfl
  | .bl false, _, _, h => by simp only [At] at h; subst h; simp only [trD, Sh]; rfl
  | .int i, _, n, h => by simp only [At] at h; subst h; simp only [trD, Sh]; simp only [shO, decide_eq_true_eq] at n; exact ⟨n, rfl⟩
  | .str z, _, _, h => by simp only [At] at h; subst h; simp only [trD, Sh]; rfl
  | .ls l, _, n, h => by simp only [At] at h; obtain ⟨a, xs, e, h1, h2⟩ := h; simp only [trD, Sh]; exact ⟨a, xs, e, SqL.of h1, shs_at l xs (by simpa only [shO] using n) h2⟩
  | .tp l, _, n, h => by simp only [At] at h; obtain ⟨a, xs, e, h1, h2⟩ := h; simp only [trD, Sh]; exact ⟨a, xs, e, SqT.of h1, shs_at l xs (by simpa only [shO] using n) h2⟩
  | .dc, _, _, h => by simp only [At] at h; obtain ⟨a, e, h1⟩ := h; simp only [trD, Sh]; exact ⟨a, e, h1, rfl⟩
  | .dk _, _, n, _ => by simp only [shO, Bool.false_eq_true] at n
theorem shs_at : ∀ (l : List Dt) (xs : List V), shOs l = true → Ats H l xs → Shs K OEmpty H (trDs l) xs
  | [], _, _, h => by simp only [Ats] at h; subst h; simp only [trDs, Shs]
  | d :: r, _, n, h => by
    simp only [shOs, Bool.and_eq_true] at n
    simp only [Ats] at h
    obtain ⟨x, q, e, h1, h2⟩ := h
    simp only [trDs, Shs]
    exact ⟨x, q, e, sh_at d x n.1 h1, shs_at r q n.2 h2⟩
end
end
/-- shown well -/
def shD (d : Dt) : Prop := shO d = true ∧ (trD d).text.length ≤ 6000 ∧ (trD d).dep ≤ 2
theorem shv_at {K : PySem.W.Frag} {H : Hp} {d : Dt} {v : V} (n : shD d) (h : At H d v) : ShV K H v (trD d) := ⟨sh_at d v n.1 h, n.2⟩
theorem strs_tr : ∀ x : List Str, trDs (x.map .str) = TrS x
  | [] => by simp only [List.map_nil, trDs, TrS]
  | z :: r => by
    have := strs_tr r
    unfold TrS at this ⊢
    simp only [List.map_cons, trDs, trD, this]
theorem strs_sh : ∀ x : List Str, shOs (x.map .str) = true
  | [] => by simp only [List.map_nil, shOs]
  | z :: r => by simp only [List.map_cons, shOs, shO, strs_sh r, Bool.and_true]
theorem shD_row {x : List Str} (h : ∀ z ∈ x, nmS z = true) (hl : x.length ≤ 40) : shD (.ls (x.map .str)) := by
  refine ⟨by simp only [shO]; exact strs_sh x, ?_, ?_⟩
  · simp only [trD, strs_tr, Tr.text, TrS, texts_map, List.map_map]
    refine Nat.le_trans (list_le _) ?_
    have := piled_le (ts := x.map (Tr.text ∘ fun z => Tr.lf (reprText z))) (n := 82) fun t ht => by
      obtain ⟨z, hz, rfl⟩ := List.mem_map.mp ht
      exact nm_repr (h z hz)
    rw [List.length_map] at this
    omega
  · simp only [trD, strs_tr, Tr.dep, TrS_dep]
    decide
/-! wrong levels among right ones -/
theorem plc_app : ∀ {R : List (List Str)} {l m : List Dt} {i : Nat} {acc : Pl}, l.map lvD = R.map some → (acc.map (·.1) ++ R.flatten).Nodup → plc i (l ++ m) acc = plc (i + R.length) m (acc ++ plR i R)
  | [], l, m, i, acc, e, _ => by
    have : l = [] := by cases l; rfl; cases e
    subst this
    simp [plR]
  | x :: r, l, m, i, acc, e, h => by
    cases l with
    | nil => cases e
    | cons d l' =>
      rw [List.map_cons, List.map_cons, List.cons.injEq] at e
      rw [List.flatten_cons, ← List.append_assoc] at h
      have h1 := addN_ok (i := i) (acc := acc) (x := x) (List.nodup_append.mp h).1
      rw [List.cons_append, plc_go e.1 h1, plc_app e.2 (by rw [List.map_append, List.map_map]; simpa [Function.comp_def] using h)]
      rw [List.length_cons, show i + 1 + r.length = i + (r.length + 1) by omega, plR, List.append_assoc]
theorem plc_wrong {i : Nat} {d : Dt} {r : List Dt} {acc : Pl} (h : WrongAt i acc d) : plc i (d :: r) acc = .error i := by
  rw [plc]
  rcases h with h | ⟨x, h, e⟩
  · rw [h]
  · rw [h]
    show (match addN i x acc with | none => _ | some acc' => _) = _
    rw [e]
theorem places_wrong {R : List (List Str)} {i : Nat} {dw : Dt} {rest : List Dt} (g : Good R) (hi : i ≤ R.length) (w : WrongAt i (plR 0 (R.take i)) dw) : places (.ls (RD ((R.take i).map fun x => (false, x)) ++ dw :: rest)) = .error (some i) := by
  have sub : ∀ x ∈ R.take i, x ∈ R := fun x hx => List.mem_of_mem_take hx
  have e := RD_lv (M := (R.take i).map fun x => (false, x)) (fun q hq => by
    obtain ⟨x, hx, rfl⟩ := List.mem_map.mp hq
    exact ⟨g.each x (sub x hx), g.nm x (sub x hx)⟩)
  rw [snd_false] at e
  have nd : (R.take i).flatten.Nodup := by
    have h1 := g.nd
    rw [← List.take_append_drop i R, List.flatten_append] at h1
    exact (List.nodup_append.mp h1).1
  rw [places_seq (l := RD ((R.take i).map fun x => (false, x)) ++ dw :: rest) rfl (by rw [List.length_append, List.length_cons]; omega), plc_app (acc := []) e (by simpa using nd), List.nil_append, Nat.zero_add, List.length_take, Nat.min_eq_left hi, plc_wrong w]
end K60

set_option Elab.async false
set_option linter.all false
set_option maxRecDepth 100000
set_option maxHeartbeats 4000000
namespace K60
open PySem L2 Lb
open C8 (pss_cut)
open LamX (ExtN CodeO Tabs TabB pe_lamcall lamS_by)
def oddL : List Dt := [.non, .ls [], .tp [], .dc, .int 0, .str "a > b", .bl true, .dk "a"]
theorem oddL_ok : ∀ d ∈ oddL, places d = .error none ∧ noP d = true ∧ dsz d ≤ 60 := by
  intro d hd
  unfold oddL at hd
  simp only [List.mem_cons, List.not_mem_nil, or_false] at hd
  rcases hd with rfl | rfl | rfl | rfl | rfl | rfl | rfl | rfl <;> exact ⟨rfl, by decide +kernel, by decide +kernel⟩
def noneL (x0 : List Str) : List Dt := [.non, .int 0, .bl true, .str "", .str "A", .tp [], .ls [], .dc, .ls (x0.map .str), .tp [.str "a"]]
theorem plAt_no {p : Pl} {z : Str} (h : z ∉ p.map (·.1)) : plAt p z = none := by
  have := find_app (q := []) h
  rw [List.append_nil] at this
  rw [this]
  rfl
theorem noPs_strs : ∀ x : List Str, noPs (x.map .str) = true
  | [] => rfl
  | z :: r => by rw [List.map_cons]; simp only [noPs, noP, noPs_strs r, Bool.and_true]
theorem noP_row (x : List Str) : noP (.ls (x.map .str)) = true := by
  simp only [noP, noPs_strs, Bool.and_true]
  cases x with
  | nil => rfl
  | cons a r => cases r <;> rfl
theorem noPs_rd : ∀ R : List (List Str), noPs (RD (R.map fun x => (false, x))) = true
  | [] => rfl
  | x :: r => by
    have ih := noPs_rd r
    unfold RD at ih ⊢
    rw [List.map_cons, List.map_cons, noPs, ih, Bool.and_true]
    exact noP_row x
theorem dszs_rd {R : List (List Str)} (g : Nms R) (h : ∀ x ∈ R, x.length ≤ 40) : dszs (RD (R.map fun x => (false, x))) ≤ 60 := dszs_le fun t ht => by
  unfold RD at ht
  rw [List.map_map] at ht
  obtain ⟨x, hx, rfl⟩ := List.mem_map.mp ht
  exact dsz_row (b := false) (g x hx) (h x hx)
theorem dszs_app : ∀ (l m : List Dt), dszs (l ++ m) = max (dszs l) (dszs m)
  | [], m => by simp [dszs]
  | d :: r, m => by rw [List.cons_append, dszs, dszs, dszs_app r m]; omega
theorem noneL_ok {x0 : List Str} {p : Pl} {R : List (List Str)} (g : Good R) (hx : x0 ∈ R) (hp : p.map (·.1) = R.flatten) : ∀ d ∈ noneL x0, pd p d = none ∧ noP d = true ∧ shD d := by
  have no : ∀ z : Str, nmS z = false → plAt p z = none := fun z hz => plAt_no (by
    rw [hp]
    intro m
    obtain ⟨x, hx, hzx⟩ := List.mem_flatten.mp m
    rw [g.nm x hx z hzx] at hz
    cases hz)
  intro d hd
  unfold noneL at hd
  simp only [List.mem_cons, List.not_mem_nil, or_false] at hd
  rcases hd with rfl | rfl | rfl | rfl | rfl | rfl | rfl | rfl | rfl | rfl
  · exact ⟨rfl, rfl, by decide +kernel, by decide +kernel, by decide +kernel⟩
  · exact ⟨rfl, rfl, by decide +kernel, by decide +kernel, by decide +kernel⟩
  · exact ⟨rfl, rfl, by decide +kernel, by decide +kernel, by decide +kernel⟩
  · exact ⟨no _ (by decide +kernel), rfl, by decide +kernel, by decide +kernel, by decide +kernel⟩
  · exact ⟨no _ (by decide +kernel), rfl, by decide +kernel, by decide +kernel, by decide +kernel⟩
  · exact ⟨rfl, rfl, by decide +kernel, by decide +kernel, by decide +kernel⟩
  · exact ⟨rfl, rfl, by decide +kernel, by decide +kernel, by decide +kernel⟩
  · exact ⟨rfl, rfl, by decide +kernel, by decide +kernel, by decide +kernel⟩
  · exact ⟨rfl, noP_row x0, shD_row (g.nm x0 hx) (g.rlen.2 x0 hx)⟩
  · exact ⟨rfl, rfl, by decide +kernel, by decide +kernel, by decide +kernel⟩
theorem shv_pos {K : PySem.W.Frag} {H : Hp} {i : Nat} (h : i < 41) : ShV K H (.int (i : Nat)) (.lf ((toString (i : Int) : String) : Str)) := by
  refine ⟨?_, ?_, ?_⟩
  · simp only [Sh]
    have : ∀ j : Fin 41, ((j.val : Nat) : Int).natAbs.log2 < 1920 := by decide +kernel
    exact ⟨this ⟨i, h⟩, rfl⟩
  · have := small_text h
    show ((toString (i : Int) : String) : Str).length ≤ 6000
    omega
  · simp only [Tr.dep]
    omega
theorem shv_non {K : PySem.W.Frag} {H : Hp} : ShV K H .non (.lf "None") := ⟨by simp only [Sh]; rfl, by decide +kernel, by decide +kernel⟩
def sp_refused (a : Ad) : Sp := fun vs H Q _ => ∃ p r R, vs = [.ref p, .ref r] ∧ PotAt H p ∧ RowsL H r R ∧ Good R ∧ Tabs (TL1 a) H ∧ ∀ H', MovN p H H' → Tabs (TL1 a) H' → Q (.bl true) H'
section
variable {P : Program} {w : World} {K : PySem.W.Frag} {mg : Str → Option Value} {base : Heap} {a : Ad}
theorem ok_refused_right (T : Txt K mg a) (TB : TabB base mg a.cc_refused_right a.PP_refused_right) : FnG P w K mg base CX0 10 a.f_refused_right a.d_refused_right ["_law_pot_here", "_law_rows"] (sp_refused a) := by
  obtain ⟨oc0, od0, kV0, doc0, pm0, an0, cdv0, ct0, osl0, hfd, lk0, hcd0⟩ := T.F_told.ex
  have bt0 := b_told T
  rw [hfd] at lk0 bt0
  refine okGL T.F_refused_right T.C_refused_right sc_refused_right (fun vs H Q E h => ?_) (fun A outer s H vs Q E gu hr h => ?_)
  · obtain ⟨p, r, R, rfl, _⟩ := h
    rfl
  · obtain ⟨p, r, R, rfl, hp, rw0, g, tb, k⟩ := h
    refine ⟨_, (pss_cons (ps_set (i := 2) sc_refused_right.nd rfl (by first | exact Or.inl rfl | exact Or.inr rfl) (pe_call (ok_draw T) (hr.mono (by decide)) (by rfl) T.m_draw T.F_draw.kp (b_draw T) .nil pass0 (pa_cons (pv 0) (pa_cons (pe_op op_add (pe_callB (call_lenK (K := K) rfl) (by rfl) T.b_len (by decide +kernel) (pa_cons (pv 1) pa_nil)) pe_int) pa_nil))))
 (pss_cons (ps_set (i := 3) sc_refused_right.nd rfl (by first | exact Or.inl rfl | exact Or.inr rfl) (pe_op op_cat (pe_op op_cat (pe_slice (sl_listK (K := K) rfl) (pv 1) po_none (po_some (pv 2))) (pe_lst (pa_cons (pe_call (ok_wrong_level T) (hr.mono (by decide)) (by rfl) T.m_wrong_level T.F_wrong_level.kp (b_wrong_level T) .nil pass0 (pa_cons (pv 0) (pa_cons (pv 1) (pa_cons (pv 2) pa_nil)))) pa_nil))) (pe_call (ok_choice T) (hr.mono (by decide)) (by rfl) T.m_choice T.F_choice.kp (b_choice T) .nil pass0 (pa_cons (pv 0) (pa_cons (pe_lst (pa_cons (pe_slice (sl_listK (K := K) rfl) (pv 1) (po_some (pv 2)) po_none) (pa_cons (pe_lst (pa_cons pe_non pa_nil)) (pa_cons (pe_lst pa_nil) pa_nil)))) pa_nil)))))
 (pss_cons (ps_if (pt_cmpR op_ne (pe_lamcall (T := TL1 a) (TT := TTold K a) (k := 7) (by rfl) T.m_told T.F_told.kp lk0 hcd0 bt0 sc_told rfl (.inl rfl) (told_gives T gu (hr.mono (by decide)) _ _) TB rfl List.mem_cons_self (hu_refused_right T) (hr.mono (by decide)) (lamS_by (sc := defScope s_refused_right) (by decide +kernel)) rfl (fun _ _ _ _ _ => rfl) (fun A2 o2 s2 H2 E f2 c2 hr2 => (pe_make (E := E) T.mkO (ok_Order_init_ T) (hr2.mono (by decide)) (by rfl) T.mO (b_Order_init_ T) .nil (passes_call (takes_of rfl rfl rfl rfl) fun _ _ _ _ h => h) (pa_cons (pv 3) pa_nil)))) (pe_callB (call_show (K := K) (O := OEmpty) (D := 8) rfl gu (room8 hr) own_empty (ow_empty (room8 hr))) (by rfl) T.b_repr (by decide +kernel) (pa_cons (pe_lst (pa_cons pe_str (pa_cons (pv 2) (pa_cons pe_bl (pa_cons pe_bl pa_nil))))) pa_nil)) (nomark _)) (pss_one (ps_ret pe_bl)) pss_nil)
 (pss_cons (ps_set (i := 4) sc_refused_right.nd rfl (by first | exact Or.inl rfl | exact Or.inr rfl) (pe_call (ok_choice T) (hr.mono (by decide)) (by rfl) T.m_choice T.F_choice.kp (b_choice T) .nil pass0 (pa_cons (pv 0) (pa_cons (pe_lst (pa_cons pe_non (pa_cons (pe_lst pa_nil) (pa_cons (pe_tup pa_nil) (pa_cons pe_dnewK (pa_cons pe_int (pa_cons pe_str (pa_cons pe_bl (pa_cons (pe_callTy (call_dictP rfl) (by rfl) T.b_dict (by decide +kernel) (pa_cons (pe_lst (pa_cons (pe_tup (pa_cons pe_str (pa_cons pe_int pa_nil))) pa_nil)) pa_nil)) pa_nil))))))))) pa_nil))))
 (pss_cons (ps_if (pt_cmpR op_ne (pe_lamcall (T := TL1 a) (TT := TTold K a) (k := 7) (by rfl) T.m_told T.F_told.kp lk0 hcd0 bt0 sc_told rfl (.inl rfl) (told_gives T gu (hr.mono (by decide)) _ _) TB rfl List.mem_cons_self (hu_refused_right T) (hr.mono (by decide)) (lamS_by (sc := defScope s_refused_right) (by decide +kernel)) rfl (fun _ _ _ _ _ => rfl) (fun A2 o2 s2 H2 E f2 c2 hr2 => (pe_make (E := E) T.mkO (ok_Order_init_ T) (hr2.mono (by decide)) (by rfl) T.mO (b_Order_init_ T) .nil (passes_call (takes_of rfl rfl rfl rfl) fun _ _ _ _ h => h) (pa_cons (pv 4) pa_nil)))) (pe_callB (call_show (K := K) (O := OEmpty) (D := 8) rfl gu (room8 hr) own_empty (ow_empty (room8 hr))) (by rfl) T.b_repr (by decide +kernel) (pa_cons (pe_lst (pa_cons pe_str (pa_cons pe_non (pa_cons pe_bl (pa_cons pe_bl pa_nil))))) pa_nil)) (nomark _)) (pss_one (ps_ret pe_bl)) pss_nil)
 (pss_cons (ps_if (pt_cmpR op_ne (pe_lamcall (T := TL1 a) (TT := TTold K a) (k := 7) (by rfl) T.m_told T.F_told.kp lk0 hcd0 bt0 sc_told rfl (.inl rfl) (told_gives T gu (hr.mono (by decide)) _ _) TB rfl List.mem_cons_self (hu_refused_right T) (hr.mono (by decide)) (lamS_by (sc := defScope s_refused_right) (by decide +kernel)) rfl (fun _ _ _ _ _ => rfl) (fun A2 o2 s2 H2 E f2 c2 hr2 => (pe_smethR0 (pe_glob (v := .ref a.c_Order) rfl T.mO rfl) T.sOf (ok_Orderof T) (hr2.mono (by decide)) (passes_call (takes_of rfl rfl rfl rfl) fun _ _ _ _ h => h)))) (pe_callB (call_show (K := K) (O := OEmpty) (D := 8) rfl gu (room8 hr) own_empty (ow_empty (room8 hr))) (by rfl) T.b_repr (by decide +kernel) (pa_cons (pe_lst (pa_cons pe_str (pa_cons pe_non (pa_cons pe_bl (pa_cons pe_bl pa_nil))))) pa_nil)) (nomark _)) (pss_one (ps_ret pe_bl)) pss_nil)
 (pss_cons (ps_set (i := 5) sc_refused_right.nd rfl (by first | exact Or.inl rfl | exact Or.inr rfl) (pe_make T.mkO (ok_Order_init_ T) (hr.mono (by decide)) (by rfl) T.mO (b_Order_init_ T) .nil passX0 (pa_cons (pv 1) pa_nil)))
 (pss_cons (ps_set (i := 6) sc_refused_right.nd rfl (by first | exact Or.inl rfl | exact Or.inr rfl) (pe_call (ok_choice T) (hr.mono (by decide)) (by rfl) T.m_choice T.F_choice.kp (b_choice T) .nil pass0 (pa_cons (pv 0) (pa_cons (pe_lst (pa_cons pe_non (pa_cons pe_int (pa_cons pe_bl (pa_cons pe_str (pa_cons pe_str (pa_cons (pe_tup pa_nil) (pa_cons (pe_lst pa_nil) (pa_cons pe_dnewK (pa_cons (pe_ix (ix_listK (K := K) rfl) (pv 1) pe_int (fun _ _ => rfl)) (pa_cons (pe_tup (pa_cons pe_str pa_nil)) pa_nil))))))))))) pa_nil))))
 (pss_one (ps_ret (pe_and (pe_cmpR op_eq (pe_lamcall (T := TL1 a) (TT := TTold K a) (k := 7) (by rfl) T.m_told T.F_told.kp lk0 hcd0 bt0 sc_told rfl (.inl rfl) (told_gives T gu (hr.mono (by decide)) _ _) TB rfl List.mem_cons_self (hu_refused_right T) (hr.mono (by decide)) (lamS_by (sc := defScope s_refused_right) (by decide +kernel)) rfl (fun _ _ _ _ _ => rfl) (fun A2 o2 s2 H2 E f2 c2 hr2 => (pe_getOwn (K := K) (E := E) rfl T.noSeq T.cGet.at_ T.fGet T.cGet.fn ((ok_Order_getitem_ T).raw (b_Order_getitem_ T) .nil) (hr2.mono (by decide)) (passes_call (takes_of rfl rfl rfl rfl) fun _ _ _ _ h => h) (pv 5) (pv 6) (fun _ _ => rfl)))) (pe_callB (call_show (K := K) (O := OEmpty) (D := 8) rfl gu (room8 hr) own_empty (ow_empty (room8 hr))) (by rfl) T.b_repr (by decide +kernel) (pa_cons (pe_lst (pa_cons pe_str (pa_cons (pv 6) (pa_cons pe_bl (pa_cons pe_bl pa_nil))))) pa_nil)) (nomark _)) (pe_one (pe_cmpR (op_notInOwn (C := a.c_Order) (K := K) rfl T.cCon.at_ T.cCon.fn ((ok_Order_contains_ T).raw (b_Order_contains_ T) .nil) (hr.mono (by decide)) pass0) (pv 6) (pv 5) rfl))))))))))))), ?_⟩
    have hR := g.rlen
    have lR : 0 < R.length := List.length_pos_iff.mpr g.ne
    obtain ⟨rs, hr0, rr⟩ := id rw0
    have lr : rs.length = R.length := Paired.len rr
    refine ⟨_, rfl, _, rfl, r, _, rfl, .inl (SqL.of hr0), _, _, rfl, rfl, p, _, rfl, hp, by omega, by rw [List.length_map]; exact bd_small (by omega), fun H1 d M1 d0 d1 => ?_⟩
    obtain ⟨i, rfl⟩ := Int.eq_ofNat_of_zero_le d0
    have hi : i ≤ R.length := by rw [List.length_map] at d1; omega
    clear d0 d1
    have rw1 := rw0.mov M1 hp
    obtain ⟨rs1, hr1, rr1⟩ := id rw1
    have lr1 : rs1.length = R.length := Paired.len rr1
    refine ⟨_, rfl, _, rfl, _, rfl, r, _, rfl, SqL.of hr1, fun p1 hp1 => ?_⟩
    rw [cut_front (by rw [List.length_map]; omega), ← List.map_take]
    have np1 := M1.ne hp1
    generalize e_H2 : upd _ p1 _ = H2
    obtain ⟨s2, f2⟩ := al3 e_H2 hp1
    clear e_H2
    (try dsimp only at f2)
    have M2 := M1.same s2
    have rw2 := rw1.same s2
    refine ⟨_, rfl, _, rfl, _, rfl, p, r, R, i, rfl, M2.pot, rw2, g, hi, fun H3 v dw M3 av wr np hz => ?_⟩
    have rw3 := rw2.mov M3 M2.pot
    have f3 := M3.keep _ _ np1 f2
    have A3 : Ats H3 (RD ((R.take i).map fun x => (false, x))) ((rs1.take i).map V.ref) := ats_lists (Paired.imp (paired_take i rr1) fun _ _ h => RowL.mov (s2 _ _ h) M3 M2.pot)
    have N3 := M2.trans M3
    refine ⟨sz, fun q1 hq1 => ?_⟩
    generalize e_H4 : upd _ q1 _ = H4
    obtain ⟨s4, f4⟩ := al3 e_H4 hq1
    clear e_H4
    (try dsimp only at f4)
    refine ⟨p1, q1, _, _, rfl, rfl, s4 _ _ f3, f4, szle (by rw [List.length_map, List.length_take]; show _ + 1 ≤ _; omega), fun c1 hc1 => ?_⟩
    have N4 := N3.same s4
    have nc1 := N4.ne hc1
    generalize e_H5 : upd _ c1 _ = H5
    obtain ⟨s5, f5⟩ := al3 e_H5 hc1
    clear e_H5
    (try dsimp only at f5)
    have s35 := s4.trans s5
    have A5 := (Ats.same s35 _ _ A3).append (ats_cons (At.same s35 _ _ av) ats_nil)
    have N5 := N4.same s5
    have rw5 := rw3.same s35
    obtain ⟨rs5, hr5, rr5⟩ := id rw5
    have lr5 : rs5.length = R.length := Paired.len rr5
    clear A3 f4 f3 s4
    refine ⟨_, rfl, _, rfl, _, rfl, _, rfl, r, _, rfl, SqL.of hr5, fun p2 hp2 => ?_⟩
    rw [cut_back (by rw [List.length_map]; omega), ← List.map_drop]
    have np2 := N5.ne hp2
    generalize e_H6 : upd _ p2 _ = H6
    obtain ⟨s6, f6⟩ := al3 e_H6 hp2
    clear e_H6
    (try dsimp only at f6)
    have N6 := N5.same s6
    refine ⟨sz, fun l1 hl1 => ?_⟩
    have nl1 := N6.ne hl1
    generalize e_H7 : upd _ l1 _ = H7
    obtain ⟨s7, f7⟩ := al3 e_H7 hl1
    clear e_H7
    (try dsimp only at f7)
    have N7 := N6.same s7
    refine ⟨sz, fun l2 hl2 => ?_⟩
    have nl2 := N7.ne hl2
    generalize e_H8 : upd _ l2 _ = H8
    obtain ⟨s8, f8⟩ := al3 e_H8 hl2
    clear e_H8
    (try dsimp only at f8)
    refine ⟨sz, fun l3 hl3 => ?_⟩
    generalize e_H9 : upd _ l3 _ = H9
    obtain ⟨s9, f9⟩ := al3 e_H9 hl3
    clear e_H9
    (try dsimp only at f9)
    have s59 := (s6.trans s7).trans (s8.trans s9)
    have N9 := N5.same s59
    refine ⟨p, l3, _, rfl, N9.pot, SqL.of f9, refs_ne N9.pot f9 (by simp), by simp, by simp, fun H10 j v10 M10 hv10 => ?_⟩
    obtain ⟨c, xs, rest, rfl, hc, ac, lrest, zrest⟩ : ∃ c xs rest, v10 = .ref c ∧ H10 c = some (.lst xs) ∧ Ats H10 rest xs ∧ rest.length + i ≤ 41 ∧ dszs rest ≤ 60 := by
      match j, hv10 with
      | 0, h =>
        obtain rfl : V.ref p2 = v10 := by simpa using h
        refine ⟨p2, _, RD ((R.drop i).map fun x => (false, x)), rfl, M10.keep _ _ np2 (((s7.trans (s8.trans s9))) _ _ f6), ats_lists (Paired.imp (paired_drop i rr5) fun _ _ h => RowL.mov (s59 _ _ h) M10 N9.pot), ?_, dszs_rd (fun x hx => g.nm x (List.mem_of_mem_drop hx)) fun x hx => hR.2 x (List.mem_of_mem_drop hx)⟩
        unfold RD
        rw [List.length_map, List.length_map, List.length_drop]
        omega
      | 1, h =>
        obtain rfl : V.ref l1 = v10 := by simpa using h
        exact ⟨l1, _, [.non], rfl, M10.keep _ _ nl1 ((s8.trans s9) _ _ f7), ats_cons (by simp only [At]) ats_nil, by show 1 + i ≤ 41; omega, by decide⟩
      | 2, h =>
        obtain rfl : V.ref l2 = v10 := by simpa using h
        exact ⟨l2, _, [], rfl, M10.keep _ _ nl2 (s9 _ _ f8), ats_nil, by show 0 + i ≤ 41; omega, by decide⟩
      | n + 3, h => simp at h
    have hc1 := M10.keep _ _ nc1 (s59 _ _ f5)
    have A10 := Ats.mov M10 N9.pot _ _ (by
      have e : ∀ l m : List Dt, noPs (l ++ m) = (noPs l && noPs m) := fun l m => by
        induction l with
        | nil => simp [noPs]
        | cons d r ih => rw [List.cons_append, noPs, noPs, ih, Bool.and_assoc]
      rw [e, noPs_rd, Bool.true_and]
      simp only [noPs, np, Bool.and_true]) (Ats.same s59 _ _ A5)
    have lA := A10.len
    have lA2 : (RD ((R.take i).map fun x => (false, x)) ++ [dw]).length ≤ 41 := by
      unfold RD
      rw [List.length_append, List.length_map, List.length_map, List.length_take]
      show _ + 1 ≤ _
      omega
    have lac := ac.len
    refine ⟨c1, c, _, xs, rfl, rfl, hc1, hc, szle (by omega), fun c2 hc2 => ?_⟩
    generalize e_H11 : upd _ c2 _ = H11
    obtain ⟨s11, f11⟩ := al3 e_H11 hc2
    clear e_H11
    (try dsimp only at f11)
    have N11 := (N9.trans M10).same s11
    have AW : At H11 (.ls (RD ((R.take i).map fun x => (false, x)) ++ dw :: rest)) (.ref c2) := by
      simp only [At]
      refine ⟨c2, _, rfl, f11, ?_⟩
      have := Ats.same s11 _ _ (A10.append ac)
      rw [List.append_assoc] at this
      exact this
    have zW : dsz (.ls (RD ((R.take i).map fun x => (false, x)) ++ dw :: rest)) ≤ 60 := by
      have z1 := dszs_rd (R := R.take i) (fun x hx => g.nm x (List.mem_of_mem_take hx)) fun x hx => hR.2 x (List.mem_of_mem_take hx)
      simp only [dsz]
      rw [dszs_app, List.length_append, List.length_cons]
      simp only [dszs]
      have z2 : (RD ((R.take i).map fun x => (false, x))).length = i := by
        unfold RD
        rw [List.length_map, List.length_map, List.length_take]
        omega
      rw [z2]
      omega
    have pW := places_wrong (rest := rest) g hi wr
    have MN : MovN p H H11 := MovN.of N11
    have tb := tabs_mov tb N11 hp
    have rwN := rw0.mov N11 hp
    have hi41 : i < 41 := by omega
    clear A10 ac hc hc1 f5 f6 f7 f8 f9 s59 s6 s7 s8 s9 M10 N9 N7 N6 N5 N4 N3 rw5 rw3 rw2 rw1 hr5 rr5 rr1 hr1 A5
    -- Order(wrong)
    refine ⟨tb, fun H12 x12 tb12 H13 Q13 s13 => ?_⟩
    refine ⟨_, rfl, make_bad (At.same s13 _ _ (At.ext x12 _ _ AW)) zW pW fun H14 d14 s14 n14 e14 => ?_⟩
    refine ⟨d14, .int (i : Nat), _, "levels", rfl, .inl ⟨rfl, e14, rfl⟩, shv_pos hi41, fun H15 s15 => ?_⟩
    refine ⟨_, rfl, sz, fun l16 hl16 => ?_⟩
    generalize e_H16 : upd _ l16 _ = H16
    obtain ⟨s16, f16⟩ := al3 e_H16 hl16
    clear e_H16
    (try dsimp only at f16)
    refine ⟨_, _, rfl, sh_td (shv_pos hi41) f16, ⟨_, .inl rfl⟩, td_len (.inl rfl) (shv_pos (K := K) (H := H16) hi41), td_dep (shv_pos (K := K) (H := H16) hi41), fun H17 s17 => ⟨rfl, ?_⟩⟩
    rw [decide_eq_true rfl]
    refine ⟨_, rfl, iteF ?_⟩
    have S17 : Same H12 H17 := ((s13.trans s14).trans s15).trans (s16.trans s17)
    have X17 : ExtN H11 H17 := x12.trans (.of S17)
    have tb17 := tb12.ext S17
    have MN17 := MN.ext X17
    have rw17 := rwN.ext X17
    clear x12 s13 s14 n14 e14 s15 hl16 f16 s16 s17 S17 X17 tb12 AW MN tb rwN
    have MV : ∀ {H1 H2 : Hp}, MovN p H H1 → Same H1 H2 → MovN p H H2 := fun m s => m.same s
    -- odd
    refine ⟨_, rfl, ?_⟩
    refine ⟨sz, fun oa1 hoa1 => ?_⟩
    generalize e_oH1 : upd _ oa1 _ = oH1
    obtain ⟨os1, of1⟩ := al3 e_oH1 hoa1
    clear e_oH1
    (try dsimp only at of1)
    have ob1 : At oH1 (.ls []) (.ref oa1) := by
      simp only [At]
      exact ⟨oa1, _, rfl, of1, ats_nil⟩
    refine ⟨sz, fun oa2 hoa2 => ?_⟩
    generalize e_oH2 : upd _ oa2 _ = oH2
    obtain ⟨os2, of2⟩ := al3 e_oH2 hoa2
    clear e_oH2
    (try dsimp only at of2)
    have ob1 := At.same os2 _ _ ob1
    have ob2 : At oH2 (.tp []) (.ref oa2) := by
      simp only [At]
      exact ⟨oa2, _, rfl, of2, ats_nil⟩
    refine fun oa3 hoa3 => ?_
    generalize e_oH3 : upd _ oa3 _ = oH3
    obtain ⟨os3, of3⟩ := al3 e_oH3 hoa3
    clear e_oH3
    (try dsimp only at of3)
    have ob1 := At.same os3 _ _ ob1
    have ob2 := At.same os3 _ _ ob2
    have ob3 : At oH3 .dc (.ref oa3) := by simp only [At]; exact ⟨oa3, rfl, of3⟩
    refine ⟨sz, fun oa4 hoa4 => ?_⟩
    generalize e_oH4 : upd _ oa4 _ = oH4
    obtain ⟨os4, of4⟩ := al3 e_oH4 hoa4
    clear e_oH4
    (try dsimp only at of4)
    have ob1 := At.same os4 _ _ ob1
    have ob2 := At.same os4 _ _ ob2
    have ob3 := At.same os4 _ _ ob3
    refine ⟨sz, fun oa5 hoa5 => ?_⟩
    generalize e_oH5 : upd _ oa5 _ = oH5
    obtain ⟨os5, of5⟩ := al3 e_oH5 hoa5
    clear e_oH5
    (try dsimp only at of5)
    have ob1 := At.same os5 _ _ ob1
    have ob2 := At.same os5 _ _ ob2
    have ob3 := At.same os5 _ _ ob3
    refine ⟨oa5, [oa4], [(Sum.inr "a", .int 1)], rfl, SqL.of of5, .cons (SqT.of (os5 _ _ of4)) .nil, fun oa6 hoa6 => ?_⟩
    rw [show mergeK [] [((Sum.inr "a" : Key), V.int 1)] = dkO "a" from rfl]
    generalize e_oH6 : upd _ oa6 _ = oH6
    obtain ⟨os6, of6⟩ := al3 e_oH6 hoa6
    clear e_oH6
    (try dsimp only at of6)
    have ob1 := At.same os6 _ _ ob1
    have ob2 := At.same os6 _ _ ob2
    have ob3 := At.same os6 _ _ ob3
    have ob6 : At oH6 (.dk "a") (.ref oa6) := by simp only [At]; exact ⟨oa6, rfl, of6⟩
    have AO : Ats oH6 [.non, (.ls []), (.tp []), .dc, (.int 0), (.str "a > b"), (.bl true), (.dk "a")] [.non, .ref oa1, .ref oa2, .ref oa3, .int 0, .str "a > b", .bl true, .ref oa6] := (ats_cons (by simp only [At]) (ats_cons ob1 (ats_cons ob2 (ats_cons ob3 (ats_cons (by simp only [At]) (ats_cons (by simp only [At]) (ats_cons (by simp only [At]) (ats_cons ob6 ats_nil))))))))
    refine ⟨sz, fun l18 hl18 => ?_⟩
    generalize e_H18 : upd _ l18 _ = H18
    obtain ⟨s18, f18⟩ := al3 e_H18 hl18
    clear e_H18
    (try dsimp only at f18)
    have AO : Ats H18 oddL _ := Ats.same s18 _ _ AO
    have S18 : Same H17 H18 := (((((os1.trans os2).trans os3).trans os4).trans os5).trans os6).trans s18
    have MN18 := MN17.same S18
    have tb18 := tb17.ext S18
    have rw18 := rw17.same S18
    refine ⟨p, l18, _, rfl, MN18.pot, SqL.of f18, refs_ne MN18.pot f18 (by simp), by simp, by simp, fun H19 j v19 M19 hv19 => ?_⟩
    obtain ⟨dO, hdO, aO⟩ := AO.at_ hv19
    obtain ⟨o1, o2, o3⟩ := oddL_ok dO (List.mem_of_getElem? hdO)
    have aO := At.mov M19 MN18.pot _ _ o2 aO
    have tb19 := tabs_mov tb18 M19 MN18.pot
    have rw19 := rw18.mov M19 MN18.pot
    have MN19 := MN18.mov M19
    clear AO hv19 f18 s18 hl18 S18 tb18 rw18 MN18 M19 tb17 rw17 MN17
    refine ⟨tb19, fun H20 x20 tb20 H21 Q21 s21 => ?_⟩
    refine ⟨_, rfl, make_bad (At.same s21 _ _ (At.ext x20 _ _ aO)) o3 o1 fun H22 d22 s22 n22 e22 => ?_⟩
    refine ⟨d22, .non, _, "levels", rfl, .inl ⟨rfl, e22, rfl⟩, shv_non, fun H23 s23 => ?_⟩
    refine ⟨sz, fun l24 hl24 => ?_⟩
    generalize e_H24 : upd _ l24 _ = H24
    obtain ⟨s24, f24⟩ := al3 e_H24 hl24
    clear e_H24
    (try dsimp only at f24)
    refine ⟨_, _, rfl, sh_td shv_non f24, ⟨_, .inl rfl⟩, td_len (.inl rfl) (shv_non (K := K) (H := H24)), td_dep (shv_non (K := K) (H := H24)), fun G1 t1 => ⟨rfl, ?_⟩⟩
    rw [decide_eq_true rfl]
    refine ⟨_, rfl, iteF ?_⟩
    have SG1 : Same H20 G1 := ((s21.trans s22).trans s23).trans (s24.trans t1)
    have XG1 : ExtN H19 G1 := x20.trans (.of SG1)
    have tbG1 := tb20.ext SG1
    have MNG1 := MN19.ext XG1
    have rwG1 := rw19.ext XG1
    clear x20 s21 s22 n22 e22 s23 hl24 f24 s24 t1 SG1 XG1 tb20 aO MN19 tb19 rw19
    -- Order.of()
    refine ⟨tbG1, fun G2 x2 tb2 G3 Q3 s3 => ?_⟩
    refine ⟨rfl, [], [], rfl, rfl, Nat.zero_le _, fun pp hpp => ⟨_, .tp [], rfl, by simp only [At]; exact ⟨pp, [], rfl, upd_same, ats_nil⟩, by decide, fun G4 d4 s4 n4 e4 => ?_⟩⟩
    have s34 : Same G3 G4 := (Lb.Same.upd hpp).trans s4
    refine ⟨d4, .non, _, "levels", rfl, .inl ⟨rfl, e4, rfl⟩, shv_non, fun G5 s5 => ?_⟩
    refine ⟨sz, fun l6 hl6 => ?_⟩
    generalize e_G6 : upd _ l6 _ = G6
    obtain ⟨s6, f6⟩ := al3 e_G6 hl6
    clear e_G6
    (try dsimp only at f6)
    refine ⟨_, _, rfl, sh_td shv_non f6, ⟨_, .inl rfl⟩, td_len (.inl rfl) (shv_non (K := K) (H := G6)), td_dep (shv_non (K := K) (H := G6)), fun G7 t7 => ⟨rfl, ?_⟩⟩
    rw [decide_eq_true rfl]
    refine ⟨_, rfl, iteF ?_⟩
    have SG7 : Same G2 G7 := ((s3.trans s34).trans s5).trans (s6.trans t7)
    have XG7 : ExtN G1 G7 := x2.trans (.of SG7)
    have tbG7 := tb2.ext SG7
    have MNG7 := MNG1.ext XG7
    have rwG7 := rwG1.ext XG7
    clear x2 s3 s34 hpp s4 n4 e4 s5 hl6 f6 s6 t7 SG7 XG7 tb2 MNG1 tbG1 rwG1
    -- the order
    obtain ⟨rsG, hrG, rrG⟩ := id rwG7
    obtain ⟨e1, e2, e3⟩ := good_RD (M := R.map fun x => (false, x)) (d := .ls (RD (R.map fun x => (false, x)))) (by rw [snd_false]; exact g) rfl
    rw [snd_false] at e1 e2
    have hro : At G7 (.ls (RD (R.map fun x => (false, x)))) (.ref r) := by simp only [At]; exact ⟨r, _, rfl, hrG, ats_lists rrG⟩
    refine ⟨_, rfl, make_okN hro e3 e1 fun H26 q s26 o26 _ => ?_⟩
    have tb26 := tbG7.ext s26
    have MN26 := MNG7.same s26
    have rw26 := rwG7.same s26
    clear tbG7 MNG7 rwG7 hro hrG rrG s26
    obtain ⟨rs26, hr26, rr26⟩ := id rw26
    have hx0 : R[0]? = some R[0] := List.getElem?_eq_getElem lR
    obtain ⟨c0, ec0, hc0⟩ := Paired.at_r rr26 hx0
    generalize R[0] = x0 at hx0 hc0
    have hx0m := List.mem_of_getElem? hx0
    refine ⟨_, rfl, ?_⟩
    refine ⟨sz, fun na1 hna1 => ?_⟩
    generalize e_nH1 : upd _ na1 _ = nH1
    obtain ⟨ns1, nf1⟩ := al3 e_nH1 hna1
    clear e_nH1
    (try dsimp only at nf1)
    have nb1 : At nH1 (.tp []) (.ref na1) := by
      simp only [At]
      exact ⟨na1, _, rfl, nf1, ats_nil⟩
    refine ⟨sz, fun na2 hna2 => ?_⟩
    generalize e_nH2 : upd _ na2 _ = nH2
    obtain ⟨ns2, nf2⟩ := al3 e_nH2 hna2
    clear e_nH2
    (try dsimp only at nf2)
    have nb1 := At.same ns2 _ _ nb1
    have nb2 : At nH2 (.ls []) (.ref na2) := by
      simp only [At]
      exact ⟨na2, _, rfl, nf2, ats_nil⟩
    refine fun na3 hna3 => ?_
    generalize e_nH3 : upd _ na3 _ = nH3
    obtain ⟨ns3, nf3⟩ := al3 e_nH3 hna3
    clear e_nH3
    (try dsimp only at nf3)
    have nb1 := At.same ns3 _ _ nb1
    have nb2 := At.same ns3 _ _ nb2
    have nb3 : At nH3 .dc (.ref na3) := by simp only [At]; exact ⟨na3, rfl, nf3⟩
    refine ⟨_, rfl, r, _, _, _, rfl, rfl, SqL.of (((ns1.trans ns2).trans ns3) _ _ hr26), atI_nat (j := 0) (by rw [List.getElem?_map, ec0]; rfl), ?_⟩
    have nr3 : At nH3 (.ls (x0.map .str)) (.ref c0) := by simp only [At]; exact ⟨c0, _, rfl, ((ns1.trans ns2).trans ns3) _ _ hc0, ats_strs.mpr rfl⟩
    refine ⟨sz, fun na4 hna4 => ?_⟩
    generalize e_nH4 : upd _ na4 _ = nH4
    obtain ⟨ns4, nf4⟩ := al3 e_nH4 hna4
    clear e_nH4
    (try dsimp only at nf4)
    have nb1 := At.same ns4 _ _ nb1
    have nb2 := At.same ns4 _ _ nb2
    have nb3 := At.same ns4 _ _ nb3
    have nr3 := At.same ns4 _ _ nr3
    have nb4 : At nH4 (.tp [(.str "a")]) (.ref na4) := by
      simp only [At]
      exact ⟨na4, _, rfl, nf4, (ats_cons (by simp only [At]) ats_nil)⟩
    have AN : Ats nH4 [.non, (.int 0), (.bl true), (.str ""), (.str "A"), (.tp []), (.ls []), .dc, (.ls (x0.map .str)), (.tp [(.str "a")])] [.non, .int 0, .bl true, .str "", .str "A", .ref na1, .ref na2, .ref na3, .ref c0, .ref na4] := (ats_cons (by simp only [At]) (ats_cons (by simp only [At]) (ats_cons (by simp only [At]) (ats_cons (by simp only [At]) (ats_cons (by simp only [At]) (ats_cons nb1 (ats_cons nb2 (ats_cons nb3 (ats_cons nr3 (ats_cons nb4 ats_nil))))))))))
    refine ⟨sz, fun l27 hl27 => ?_⟩
    generalize e_H27 : upd _ l27 _ = H27
    obtain ⟨s27, f27⟩ := al3 e_H27 hl27
    clear e_H27
    (try dsimp only at f27)
    have AN : Ats H27 (noneL x0) _ := Ats.same s27 _ _ AN
    have S27 : Same H26 H27 := (((ns1.trans ns2).trans ns3).trans ns4).trans s27
    have MN27 := MN26.same S27
    have tb27 := tb26.ext S27
    refine ⟨p, l27, _, rfl, MN27.pot, SqL.of f27, refs_ne MN27.pot f27 (by simp), by simp, by simp, fun H28 j v28 M28 hv28 => ?_⟩
    obtain ⟨dN, hdN, aN⟩ := AN.at_ hv28
    obtain ⟨n1, n2, n3⟩ := noneL_ok (p := plR 0 R) g hx0m (plR_keys 0 R) dN (List.mem_of_getElem? hdN)
    have aN := At.mov M28 MN27.pot _ _ n2 aN
    have tb28 := tabs_mov tb27 M28 MN27.pot
    have MN28 := MN27.mov M28
    have o28 := (o26.same S27).mov M28 MN27.pot
    clear AN hv28 f27 s27 hl27 S27 tb27 MN27 M28 tb26 rw26 MN26 o26 hr26 rr26 hc0
    refine ⟨tb28, fun H29 x29 tb29 H30 Q30 s30 => ?_⟩
    have o30 := (o28.ext x29).same s30
    obtain ⟨dx, hq⟩ : ∃ dx, ∃ D l, H30 q = some (.ins a.c_Order dx (ordF D l)) := by
      obtain ⟨dx, D, l, ts, hq, _⟩ := id o30
      exact ⟨dx, D, l, hq⟩
    obtain ⟨D, l, hq⟩ := hq
    have aN30 := At.same s30 _ _ (At.ext x29 _ _ aN)
    refine ⟨_, rfl, _, rfl, q, dx, _, rfl, hq, q, _, _, v28, dN, rfl, o30, aN30, ?_⟩
    rw [n1]
    intro H31 d31 s31 n31 e31
    refine ⟨d31, v28, trD dN, "node", rfl, .inr ⟨rfl, e31, rfl⟩, shv_at n3 (At.same s31 _ _ aN30), fun H32 s32 => ?_⟩
    refine ⟨_, rfl, sz, fun l33 hl33 => ?_⟩
    generalize e_H33 : upd _ l33 _ = H33
    obtain ⟨s33, f33⟩ := al3 e_H33 hl33
    clear e_H33
    (try dsimp only at f33)
    have s3133 := s32.trans s33
    have aN33 := At.same s3133 _ _ (At.same s31 _ _ aN30)
    refine ⟨_, _, rfl, sh_td (shv_at n3 aN33) f33, ⟨_, .inl rfl⟩, td_len (.inr rfl) (shv_at (K := K) n3 aN33), td_dep (shv_at (K := K) n3 aN33), fun H34 s34 => ⟨rfl, ?_⟩⟩
    rw [decide_eq_true rfl]
    refine ⟨_, rfl, iteT ?_⟩
    have S34 : Same H30 H34 := (s31.trans s3133).trans s34
    have X34 : ExtN H28 H34 := x29.trans (.of (s30.trans S34))
    refine ⟨_, rfl, _, rfl, q, dx, _, rfl, S34 _ _ hq, q, _, _, v28, dN, rfl, o30.same S34, At.same s34 _ _ aN33, ?_⟩
    refine ⟨_, rfl, ?_⟩
    rw [n1]
    exact k H34 (MN28.ext X34) (tb29.ext (s30.trans S34))
end
end K60

set_option Elab.async false
set_option linter.all false
set_option maxRecDepth 100000
set_option maxHeartbeats 4000000
namespace K60
open PySem L2 Lb
open C8 (pss_cut)
open LamX (ExtN CodeO Tabs TabB)
theorem ats_rows {H : Hp} : ∀ {bs : List Addr} {M : List (Bool × List Str)}, Paired (fun b q => H b = some (rowO q.1 q.2)) bs M → Ats H (RD M) (bs.map V.ref)
  | _, _, .nil => ats_nil
  | b :: _, q :: _, .cons h r => ats_cons (at_row (b := q.1) (x := q.2) h) (ats_rows r)
theorem paired_snd {α β : Type} {F G : α → β → Prop} : ∀ {xs : List α} {ys : List β}, Paired F xs ys → (∀ x y, y ∈ ys → F x y → G x y) → Paired G xs ys
  | _, _, .nil, _ => .nil
  | _, _, .cons h r, k => .cons (k _ _ List.mem_cons_self h) (paired_snd r fun x y hy => k x y (List.mem_cons_of_mem _ hy))
theorem dp_levL {K : PySem.W.Frag} {H : Hp} {l : Addr} {R : List (List Str)} (h : RowsL H l R) : Dp K H (.ref l) (.list (R.map dL)) := by
  obtain ⟨as, e, pr⟩ := h
  refine .lst (SqL.of e) ?_
  clear e
  induction pr with
  | nil => exact .nil
  | cons h _ ih => exact .cons (dp_rowL h) ih
theorem At.first {K : PySem.W.Frag} {C : Addr} (I : Inst K C) {H : Hp} {d : Dt} {v : V} (h : At H d v) : ∃ t, TyOf K H v t ∧ PySem.W.notFirst K C t = true := by
  cases d with
  | non => simp only [At] at h; subst h; exact ⟨_, .non, I.nNone⟩
  | bl b => simp only [At] at h; subst h; exact ⟨_, .bl _, I.nBool⟩
  | int i => simp only [At] at h; subst h; exact ⟨_, .int _, I.nInt⟩
  | str z => simp only [At] at h; subst h; exact ⟨_, .str _, I.nStr⟩
  | ls l => simp only [At] at h; obtain ⟨q, xs, rfl, e, _⟩ := h; exact ⟨_, .lst e, I.nList⟩
  | tp l => simp only [At] at h; obtain ⟨q, xs, rfl, e, _⟩ := h; exact ⟨_, .tup e, I.nTup⟩
  | dc => simp only [At] at h; obtain ⟨q, rfl, e⟩ := h; exact ⟨_, .dK e, I.nDict⟩
  | dk k => simp only [At] at h; obtain ⟨q, rfl, e⟩ := h; exact ⟨_, .dK e, I.nDict⟩
theorem plAt_some {p : Pl} {z : Str} (h : z ∈ p.map (·.1)) : (plAt p z).isSome = true := by
  unfold plAt
  rw [Option.isSome_map, List.find?_isSome]
  obtain ⟨q, hq, e⟩ := List.mem_map.mp h
  exact ⟨q, hq, by simpa using e⟩
def sp_right (a : Ad) : Sp := fun vs H Q _ => ∃ p, vs = [.ref p] ∧ PotAt H p ∧ Tabs (TL1 a) H ∧ ∀ H', MovN p H H' → Tabs (TL1 a) H' → Q (.bl true) H'
section
variable {P : Program} {w : World} {K : PySem.W.Frag} {mg : Str → Option Value} {base : Heap} {a : Ad}
theorem ok_right (T : Txt K mg a) (TB : TabB base mg a.cc_refused_right a.PP_refused_right) : FnG P w K mg base CX0 11 a.f_right a.d_right ["_law_pot_here"] (sp_right a) := by
  refine okG T.F_right sc_right (fun vs H Q E h => ?_) (fun cdv A outer s H vs Q E gu hr h => ?_)
  · obtain ⟨p, rfl, _⟩ := h
    rfl
  · obtain ⟨p, rfl, hp, tb, k⟩ := h
    refine ⟨_, (pss_cons (ps_set (i := 1) sc_right.nd rfl (by first | exact Or.inl rfl | exact Or.inr rfl) (pe_call (ok_levels T) (hr.mono (by decide)) (by rfl) T.m_levels T.F_levels.kp (b_levels T) .nil pass0 (pa_cons (pv 0) (pa_cons (pe_call (ok_names T) (hr.mono (by decide)) (by rfl) T.m_names T.F_names.kp (b_names T) .nil pass0 (pa_cons (pv 0) (pa_cons (pe_op op_add pe_int (pe_call (ok_draw T) (hr.mono (by decide)) (by rfl) T.m_draw T.F_draw.kp (b_draw T) .nil pass0 (pa_cons (pv 0) (pa_cons pe_int pa_nil)))) pa_nil))) pa_nil))))
 (pss_cons (ps_setLc (i := 1) (own := [("_law_row", 2)]) rfl sc_right.nd rfl rfl (sw_true rfl rfl rfl (by decide +kernel)) (pi_listK (K := K) rfl (pv 1)) (blkOk_by (own := [("_law_row", 2)]) (N := ["_law_pot_here", "_law_rows", "_law_row", "_law_passed", "_law_line", "_law_again", "_law_other_here", "_law_is_same", "_law_thing", "_law_name"]) (sc := defScope s_right) (by decide +kernel)) (fun _ _ _ _ _ => (pg_name (i := 2) sc_right.nd rfl (by first | exact Or.inl rfl | exact Or.inr rfl))) (fun _ _ _ _ _ => pts_nil) (fun _ _ _ _ _ => (pe_call (ok_shuffled T) (hr.mono (by decide)) (by rfl) T.m_shuffled T.F_shuffled.kp (b_shuffled T) .nil pass0 (pa_cons (pv 0) (pa_cons (pv 2) pa_nil)))))
 (pss_cons (ps_setLc (i := 3) (own := [("_law_row", 2)]) rfl sc_right.nd rfl rfl (sw_true rfl rfl rfl (by decide +kernel)) (pi_listK (K := K) rfl (pv 1)) (blkOk_by (own := [("_law_row", 2)]) (N := ["_law_pot_here", "_law_rows", "_law_row", "_law_passed", "_law_line", "_law_again", "_law_other_here", "_law_is_same", "_law_thing", "_law_name"]) (sc := defScope s_right) (by decide +kernel)) (fun _ _ _ _ _ => (pg_name (i := 2) sc_right.nd rfl (by first | exact Or.inl rfl | exact Or.inr rfl))) (fun _ _ _ _ _ => pts_nil) (fun _ _ _ _ _ => (pe_ifExp (pt_cmpR op_eq (pe_call (ok_draw T) (hr.mono (by decide)) (by rfl) T.m_draw T.F_draw.kp (b_draw T) .nil pass0 (pa_cons (pv 0) (pa_cons pe_int pa_nil))) pe_int (nomark _)) (pe_callTy (call_list_ofK (K := K) rfl) (by rfl) T.b_list (by decide +kernel) (pa_cons (pv 2) pa_nil)) (pe_callTy (call_tuple_ofK (K := K) rfl) (by rfl) T.b_tuple (by decide +kernel) (pa_cons (pv 2) pa_nil)))))
 (pss_cons (ps_asg (pe_tup (pa_cons (pe_make T.mkO (ok_Order_init_ T) (hr.mono (by decide)) (by rfl) T.mO (b_Order_init_ T) .nil passX0 (pa_cons (pv 3) pa_nil)) (pa_cons (pe_call (ok_of T) (hr.mono (by decide)) (by rfl) T.m_of T.F_of.kp (b_of T) .nil pass0 (pa_cons (pe_lc (own := [("_law_row", 2)]) (by rfl) sc_right.nd (pi_listK (K := K) rfl (pv 1)) (blkOk_by (own := [("_law_row", 2)]) (N := ["_law_pot_here", "_law_rows", "_law_row", "_law_passed", "_law_line", "_law_again", "_law_other_here", "_law_is_same", "_law_thing", "_law_name"]) (sc := defScope s_right) (by decide +kernel)) (fun _ _ _ _ _ => (pg_name (i := 2) sc_right.nd rfl (by first | exact Or.inl rfl | exact Or.inr rfl))) (fun _ _ _ _ _ => pts_nil) (fun _ _ _ _ _ => (pe_callTy (call_list_ofK (K := K) rfl) (by rfl) T.b_list (by decide +kernel) (pa_cons (pv 2) pa_nil)))) pa_nil)) pa_nil))) (pg_tupK (K := K) (n := 2) rfl rfl (pgs_cons (pg_name (i := 4) sc_right.nd rfl (by first | exact Or.inl rfl | exact Or.inr rfl)) (pgs_cons (pg_name (i := 5) sc_right.nd rfl (by first | exact Or.inl rfl | exact Or.inr rfl)) pgs_nil))))
 (pss_cons (ps_for PassesOwn.never rfl (pi_listK (K := K) rfl (pv 3)) (pg_name (i := 2) sc_right.nd rfl (by first | exact Or.inl rfl | exact Or.inr rfl)) (pss_one (ps_if (pt_val (pe_callB (call_isiK' (K := K) rfl) (by rfl) T.b_isinstance (by decide +kernel) (pa_cons (pv 2) (pa_cons (pe_bltn (v := .ty "list") (by rfl) T.b_list (by decide +kernel) rfl) pa_nil)))) (pss_one (ps_expr (pe_bm PySem.F.plainAttrs_list PySem.F.slot_list_append PySem.F.type_list_append mt_append (pv 2) (pa_cons pe_str pa_nil)))) pss_nil)))
 (pss_cons (ps_expr (pe_bm PySem.F.plainAttrs_list PySem.F.slot_list_append PySem.F.type_list_append mt_append (pv 3) (pa_cons pe_non pa_nil)))
 (pss_cons (ps_if (PW.pt (pw_or (pt_not (pt_val (pe_callG (ok_shown_right T) gu (hr.mono (by decide)) (by rfl) T.m_shown_right T.F_shown_right.kp (b_shown_right T) .nil pass0 (pa_cons (pv 4) (pa_cons (pv 1) pa_nil))))) (pw_or (pt_not (pt_cmpR (op_ownCmp (n := 1) (C := a.c_Order) (K := K) rfl (fun _ _ => rfl) T.cEq.at_ T.cEq.fn ((ok_Order_eq_ T).raw (b_Order_eq_ T) .nil) (hr.mono (by decide)) pass0) (pv 4) (pv 5) (nomark _))) (pw_or1 (pt_cmpR (op_ownNe (n := 1) (C := a.c_Order) (K := K) rfl T.cNe T.I.cm T.cEq.at_ T.cEq.fn ((ok_Order_eq_ T).raw (b_Order_eq_ T) .nil) (hr.mono (by decide)) pass0) (pv 4) (pv 5) (nomark _)))))) (pss_one (ps_ret pe_bl)) pss_nil)
 (pss_cons (ps_set (i := 6) sc_right.nd rfl (by first | exact Or.inl rfl | exact Or.inr rfl) (pe_call (ok_other T) (hr.mono (by decide)) (by rfl) T.m_other T.F_other.kp (b_other T) .nil pass0 (pa_cons (pv 0) (pa_cons (pv 1) pa_nil))))
 (pss_cons (ps_set (i := 7) sc_right.nd rfl (by first | exact Or.inl rfl | exact Or.inr rfl) (pe_cmpR (op_eqD hr.units) (pe_lc (own := [("_law_row", 2)]) (by rfl) sc_right.nd (pi_listK (K := K) rfl (pv 6)) (blkOk_by (own := [("_law_row", 2)]) (N := ["_law_pot_here", "_law_rows", "_law_row", "_law_passed", "_law_line", "_law_again", "_law_other_here", "_law_is_same", "_law_thing", "_law_name"]) (sc := defScope s_right) (by decide +kernel)) (fun _ _ _ _ _ => (pg_name (i := 2) sc_right.nd rfl (by first | exact Or.inl rfl | exact Or.inr rfl))) (fun _ _ _ _ _ => pts_nil) (fun _ _ _ _ _ => (pe_callB (cr_sortedSK (K := K) rfl) (by rfl) T.b_sorted (by decide +kernel) (pa_cons (pv 2) pa_nil)))) (pe_lc (own := [("_law_row", 2)]) (by rfl) sc_right.nd (pi_listK (K := K) rfl (pv 1)) (blkOk_by (own := [("_law_row", 2)]) (N := ["_law_pot_here", "_law_rows", "_law_row", "_law_passed", "_law_line", "_law_again", "_law_other_here", "_law_is_same", "_law_thing", "_law_name"]) (sc := defScope s_right) (by decide +kernel)) (fun _ _ _ _ _ => (pg_name (i := 2) sc_right.nd rfl (by first | exact Or.inl rfl | exact Or.inr rfl))) (fun _ _ _ _ _ => pts_nil) (fun _ _ _ _ _ => (pe_callB (cr_sortedSK (K := K) rfl) (by rfl) T.b_sorted (by decide +kernel) (pa_cons (pv 2) pa_nil)))) (nomark _)))
 (pss_cons (ps_if (PW.pt (pw_or (pt_cmpR op_ne (pe_cmpR (op_ownCmp (n := 1) (C := a.c_Order) (K := K) rfl (fun _ _ => rfl) T.cEq.at_ T.cEq.fn ((ok_Order_eq_ T).raw (b_Order_eq_ T) .nil) (hr.mono (by decide)) pass0) (pv 4) (pe_make T.mkO (ok_Order_init_ T) (hr.mono (by decide)) (by rfl) T.mO (b_Order_init_ T) .nil passX0 (pa_cons (pv 6) pa_nil)) (nomark _)) (pv 7) (nomark _)) (pw_or1 (pt_cmpR op_eq (pe_cmpR (op_ownNe (n := 1) (C := a.c_Order) (K := K) rfl T.cNe T.I.cm T.cEq.at_ T.cEq.fn ((ok_Order_eq_ T).raw (b_Order_eq_ T) .nil) (hr.mono (by decide)) pass0) (pe_make T.mkO (ok_Order_init_ T) (hr.mono (by decide)) (by rfl) T.mO (b_Order_init_ T) .nil passX0 (pa_cons (pv 6) pa_nil)) (pv 4) (nomark _)) (pv 7) (nomark _))))) (pss_one (ps_ret pe_bl)) pss_nil)
 (pss_cons (ps_if (pt_val (pe_callB (cr_anyK (K := K) rfl rfl) (by rfl) T.b_any (by decide +kernel) (pa_cons (pe_lc (own := [("_law_thing", 8)]) (by rfl) sc_right.nd (pi_listK (K := K) rfl (pe_lst (pa_cons pe_non (pa_cons (pe_meth0 (pv 4) T.cl T.mLev (ok_Orderlevels T) (hr.mono (by decide)) (b_Orderlevels T) .nil pass0) (pa_cons (pe_callTy (call_strOwn T.cSt.at_ T.cSt.fn ((ok_Order_str_ T).raw (b_Order_str_ T) .nil) (hr.mono (by decide)) pass0) (by rfl) T.b_str (by decide +kernel) (pa_cons (pv 4) pa_nil)) (pa_cons (pe_callB (call_lenOwn (K := K) rfl T.cLen.at_ T.cLen.fn ((ok_Order_len_ T).raw (b_Order_len_ T) .nil) (hr.mono (by decide))) (by rfl) T.b_len (by decide +kernel) (pa_cons (pv 4) pa_nil)) (pa_cons (pe_tup pa_nil) (pa_cons (pv 1) pa_nil)))))))) (blkOk_by (own := [("_law_thing", 8)]) (N := ["_law_pot_here", "_law_rows", "_law_row", "_law_passed", "_law_line", "_law_again", "_law_other_here", "_law_is_same", "_law_thing", "_law_name"]) (sc := defScope s_right) (by decide +kernel)) (fun _ _ _ _ _ => (pg_name (i := 8) sc_right.nd rfl (by first | exact Or.inl rfl | exact Or.inr rfl))) (fun _ _ _ _ _ => pts_nil) (fun _ _ _ _ _ => (pe_cmpR (op_ownCmp (n := 1) (C := a.c_Order) (K := K) rfl (fun _ _ => rfl) T.cEq.at_ T.cEq.fn ((ok_Order_eq_ T).raw (b_Order_eq_ T) .nil) (hr.mono (by decide)) pass0) (pv 4) (pv 8) (nomark _)))) pa_nil))) (pss_one (ps_ret pe_bl)) pss_nil)
 (pss_cons (ps_if (PW.pt (pw_or (pt_not (pt_val (pe_callB (cr_allK (K := K) rfl rfl) (by rfl) T.b_all (by decide +kernel) (pa_cons (pe_lc (own := [("_law_name", 9)]) (by rfl) sc_right.nd (pi_listK (K := K) rfl (pe_call (ok_flat T) (hr.mono (by decide)) (by rfl) T.m_flat T.F_flat.kp (b_flat T) .nil pass0 (pa_cons (pv 1) pa_nil))) (blkOk_by (own := [("_law_name", 9)]) (N := ["_law_pot_here", "_law_rows", "_law_row", "_law_passed", "_law_line", "_law_again", "_law_other_here", "_law_is_same", "_law_thing", "_law_name"]) (sc := defScope s_right) (by decide +kernel)) (fun _ _ _ _ _ => (pg_name (i := 9) sc_right.nd rfl (by first | exact Or.inl rfl | exact Or.inr rfl))) (fun _ _ _ _ _ => pts_nil) (fun _ _ _ _ _ => (pe_cmpR (op_inOwn (C := a.c_Order) (K := K) rfl T.cCon.at_ T.cCon.fn ((ok_Order_contains_ T).raw (b_Order_contains_ T) .nil) (hr.mono (by decide)) pass0) (pv 9) (pv 4) rfl))) pa_nil)))) (pw_or1 (pt_cmpR (op_inOwn (C := a.c_Order) (K := K) rfl T.cCon.at_ T.cCon.fn ((ok_Order_contains_ T).raw (b_Order_contains_ T) .nil) (hr.mono (by decide)) pass0) pe_str (pv 4) rfl)))) (pss_one (ps_ret pe_bl)) pss_nil)
 (pss_one (ps_ret (pe_callG (ok_refused_right T TB) gu (hr.mono (by decide)) (by rfl) T.m_refused_right T.F_refused_right.kp (b_refused_right T) .nil pass0 (pa_cons (pv 0) (pa_cons (pv 1) pa_nil))))))))))))))))), ?_⟩
    refine ⟨_, rfl, _, rfl, _, rfl, p, _, rfl, hp, by decide, by unfold Bd; decide, fun H1 d M1 d0 d1 => ?_⟩
    obtain ⟨n, rfl⟩ := Int.eq_ofNat_of_zero_le d0
    have hn : n < 8 := by omega
    refine ⟨_, _, rfl, rfl, p, 1 + n, rfl, M1.pot, by omega, fun H2 l zs M2 hl el ln nd nm => ?_⟩
    refine ⟨p, l, zs, rfl, M2.pot, el, nd, by omega, by omega, fun H3 r R M3 hr3 rw3 perm ne => ?_⟩
    have N3 := (M1.trans M2).trans M3
    have g : Good R := by
      have hz : ∀ z ∈ R.flatten, z ∈ zs := fun z hz => perm.mem_iff.mp hz
      refine ⟨fun e => ?_, ne, fun x hx z hzx => (nm z (hz z (List.mem_flatten.mpr ⟨x, hx, hzx⟩))).1, perm.nodup_iff.mpr nd, by rw [perm.length_eq]; omega⟩
      rw [e] at perm
      have h0 : ([] : List Str).length = zs.length := perm.length_eq
      rw [ln] at h0
      exact absurd h0 (by show ¬ 0 = 1 + n; omega)
    have short : ∀ z ∈ R.flatten, z.length ≤ 4 := fun z hz => (nm z (perm.mem_iff.mp hz)).2
    obtain ⟨rs, hr0, rr⟩ := id rw3
    have lr : rs.length = R.length := Paired.len rr
    have hR := g.rlen
    have npr := refs_pot M3.pot hr0
    refine ⟨_, rfl, r, rfl, ⟨_, SqL.of hr0⟩, fun sl hsl => ?_⟩
    have hp3 := M3.pot
    have nsp : sl ≠ p := fun z => by obtain ⟨_, _, e, _⟩ := hp3; rw [z, e] at hsl; cases hsl
    refine lc_list (K := K) (a := r) (xs := rs.map V.ref) (fun i H' => ∃ as X, OwnX p H3 H' sl as X ∧ X.flatten.Perm (R.take i).flatten ∧ (∀ x ∈ X, x ≠ []) ∧ X.length = i) ⟨[], [], ⟨mov_upd (Mov.refl hp3) hp3 hsl, upd_same, .nil, .nil, (fun _ h => nomatch h), (fun h => nomatch h), hsl⟩, .refl _, (fun _ h => nomatch h), rfl⟩
      (fun i H' _ ⟨_, _, o, _⟩ => SqL.of (o.mov.keep _ _ npr hr0)) ?_ ?_
    · rintro i v G1 hv ⟨as, X, o, pf, ne', lx⟩
      obtain ⟨c, x, rfl, hx, hc⟩ := rows_row rr hv
      have hcp := row_pot hp3 hc
      have hc1 : RowL G1 c x := RowL.mov hc o.mov hp3
      have hxl := hR.2 x (List.mem_of_getElem? hx)
      have hil := (List.getElem?_eq_some_iff.mp hx).1
      refine ⟨rfl, _, rfl, _, rfl, p, c, _, rfl, o.mov.pot, hc1, hcp, by rw [List.length_map]; omega, fun G2 m ys M2 perm hm em => ?_⟩
      obtain ⟨ws, rfl, pw⟩ := perm_strs perm
      have o2 := o.mv hp3 M2
      have nm : m ∉ as := fun h => by
        obtain ⟨j, hj⟩ := List.getElem?_of_mem h
        obtain ⟨y, _, hy⟩ := Paired.at_ o.rows hj
        have hy : G1 m = _ := hy
        rw [hm] at hy
        cases hy
      have nms : m ≠ sl := ne_of_none' hm o.top
      refine ⟨_, o2.top, szlt (by rw [List.length_map, o2.len, lx]; omega), as ++ [m], X ++ [ws], ⟨?_, by rw [upd_same, List.map_append]; rfl, ?_, ?_, ?_, ?_, hsl⟩, ?_, ?_, ?_⟩
      · exact Mov.updl o2.mov hsl nsp
      · have up : ∀ {b : Addr} {x : List Str}, b ≠ sl → RowL G2 b x → RowL (upd G2 sl (.lst (as.map V.ref ++ [V.ref m]))) b x := fun {b x} n h => by
          unfold RowL at h ⊢
          rw [upd_ne n]
          exact h
        exact Paired.snoc (up nms em) (paired_mem o2.rows fun b x hb h => up (fun e => o.out (e ▸ hb)) h)
      · rw [List.nodup_append]
        exact ⟨o.nd, by simp, fun b hb d hd e => nm (by rw [List.mem_singleton.mp hd] at e; exact e ▸ hb)⟩
      · intro b hb
        rcases List.mem_append.mp hb with hb | hb
        · exact o.fr b hb
        · rw [List.mem_singleton.mp hb]
          exact o.mov.free hp3 hm
      · intro h
        rcases List.mem_append.mp h with h | h
        · exact o.out h
        · exact nms (List.mem_singleton.mp h).symm
      · rw [← take_snoc hx, List.flatten_append, List.flatten_append]
        refine List.Perm.append pf ?_
        simpa using pw
      · intro y hy
        rcases List.mem_append.mp hy with hy | hy
        · exact ne' y hy
        · rw [List.mem_singleton.mp hy]
          intro e
          have := pw.length_eq
          rw [e] at this
          exact g.each x (List.mem_of_getElem? hx) (List.length_eq_zero_iff.mp this.symm)
      · rw [List.length_append, lx]; rfl

    rintro H4 ⟨as, X, o4, pf, neX, lx⟩
    rw [List.length_map, lr] at lx
    rw [List.length_map, lr, List.take_length] at pf
    have gX : Good X := good_perm pf neX g
    have shX : ∀ z ∈ X.flatten, z.length ≤ 4 := fun z hz => short z (pf.mem_iff.mp hz)
    have N4 := N3.trans o4.mov
    have top4 := o4.top
    have rows4 := o4.rows
    have la : as.length = X.length := o4.len
    have hX := gX.rlen
    clear o4 pf neX lx g short rr hr0 rw3 perm ne nm nd el hl hR lr npr
    -- what is passed
    refine ⟨_, rfl, sl, rfl, ⟨_, SqL.of top4⟩, fun pl hpl => ?_⟩
    have npl : pl ≠ p := N4.ne hpl
    refine lc_list (K := K) (a := sl) (xs := as.map V.ref) (fun j H' => Mov p H4 H' ∧ ∃ (bs : List Addr) (M : List (Bool × List Str)), H' pl = some (.lst (bs.map V.ref)) ∧ Paired (fun b q => H' b = some (rowO q.1 q.2)) bs M ∧ M.map (·.2) = X.take j ∧ pl ∉ bs ∧ ∀ b ∈ bs, H4 b = none)
      ⟨mov_upd (Mov.refl N4.pot) N4.pot hpl, [], [], upd_same, .nil, rfl, (fun h => nomatch h), (fun _ h => nomatch h)⟩ (fun j H' _ b => SqL.of (b.1.keep _ _ (refs_pot N4.pot top4) top4)) ?_ ?_
    · rintro j v G1 hv ⟨m1, bs, M, e1, pb, hM, nb, fb⟩
      obtain ⟨c, x, rfl, hx, hc⟩ := rows_row rows4 hv
      have hxl := hX.2 x (List.mem_of_getElem? hx)
      refine ⟨rfl, _, rfl, p, _, rfl, m1.pot, by decide, by unfold Bd; decide, fun G2 dd m2 dd0 dd1 => ?_⟩
      have m02 := m1.trans m2
      have hc2 : RowL G2 c x := RowL.mov hc m02 N4.pot
      have e2 := m2.keep _ _ npl e1
      have pb2 : Paired (fun b q => G2 b = some (rowO q.1 q.2)) bs M := paired_mem pb fun b q hb h => m2.keep _ _ (fun z => by have := fb b hb; rw [z] at this; obtain ⟨_, _, e, _⟩ := N4.pot; rw [e] at this; cases this) h
      have lb : bs.length ≤ 40 := by
        rw [Paired.len pb]
        have := congrArg List.length hM
        rw [List.length_map, List.length_take] at this
        omega
      have add : ∀ (f : Bool) (t : Addr), G2 t = none → ∃ acc, (upd G2 t (rowO f x)) pl = some (.lst acc) ∧ acc.length < sizeLine ∧ (Mov p H4 (upd (upd G2 t (rowO f x)) pl (.lst (acc ++ [.ref t]))) ∧ ∃ (bs : List Addr) (M : List (Bool × List Str)), (upd (upd G2 t (rowO f x)) pl (.lst (acc ++ [.ref t]))) pl = some (.lst (bs.map V.ref)) ∧ Paired (fun b q => (upd (upd G2 t (rowO f x)) pl (.lst (acc ++ [.ref t]))) b = some (rowO q.1 q.2)) bs M ∧ M.map (·.2) = X.take (j + 1) ∧ pl ∉ bs ∧ ∀ b ∈ bs, H4 b = none) := fun f t ht => by
        have ntp : t ≠ pl := ne_of_none' ht e2
        have s2 : Same G2 (upd G2 t (rowO f x)) := Lb.Same.upd ht
        refine ⟨_, s2 _ _ e2, szlt (by rw [List.length_map]; omega), Mov.updl (m02.same s2) hpl npl, bs ++ [t], M ++ [(f, x)], by rw [upd_same, List.map_append]; rfl, ?_, by rw [List.map_append, hM]; exact take_snoc hx, fun h => ?_, fun b hb => ?_⟩
        · refine Paired.snoc (F := fun b q => (upd (upd G2 t (rowO f x)) pl (.lst (bs.map V.ref ++ [V.ref t]))) b = some (rowO q.1 q.2)) ?_ (paired_mem pb2 fun b q hb h => ?_)
          · rw [upd_ne ntp]
            exact upd_same
          · rw [upd_ne (show b ≠ pl from fun e => nb (e ▸ hb))]
            exact s2 _ _ h
        · rcases List.mem_append.mp h with h | h
          · exact nb h
          · exact ntp (List.mem_singleton.mp h).symm
        · rcases List.mem_append.mp hb with hb | hb
          · exact fb b hb
          · rw [List.mem_singleton.mp hb]
            exact m02.free N4.pot ht
      refine ⟨rfl, _, rfl, ite2 (fun _ => ?_) (fun _ => ?_)⟩
      · exact ⟨_, rfl, c, _, rfl, .inl (SqL.of hc2), fun t ht => add false t ht⟩
      · exact ⟨_, rfl, c, _, rfl, .inl ⟨SqL.of hc2, fun t ht => add true t ht⟩⟩
    rintro H5 ⟨m5, bs, M, ep, pb, hM, nb, fb⟩
    rw [List.length_map, la, List.take_length] at hM
    have N5 := N4.trans m5
    have top5 := m5.keep _ _ (refs_pot N4.pot top4) top4
    have rows5 : Paired (RowL H5) as X := Paired.imp rows4 fun _ _ h => RowL.mov h m5 N4.pot
    have aP : At H5 (.ls (RD M)) (.ref pl) := by simp only [At]; exact ⟨pl, _, rfl, ep, ats_rows pb⟩
    obtain ⟨e1, e2, e3⟩ := good_RD (M := M) (d := .ls (RD M)) (by rw [hM]; exact gX) rfl
    rw [hM] at e1 e2
    refine ⟨_, rfl, make_okN aP e3 e1 fun H6 q s6 o6 f6 => ?_⟩
    rw [e2] at o6
    have top6 := s6 _ _ top5
    refine ⟨_, rfl, sl, rfl, ⟨_, SqL.of top6⟩, fun nl hnl => ?_⟩
    refine lc_list (K := K) (a := sl) (xs := as.map V.ref) (fun j H' => Same H6 H' ∧ ∃ qs : List Addr, H' nl = some (.lst (qs.map V.ref)) ∧ Paired (RowL H') qs (X.take j) ∧ nl ∉ qs) ⟨Lb.Same.upd hnl, [], upd_same, .nil, fun h => nomatch h⟩ (fun j H' _ b => SqL.of (b.1 _ _ top6)) ?_ ?_
    · rintro j v G1 hv ⟨t1, qs, eq, pq, nq⟩
      obtain ⟨c, x, rfl, hx, hc⟩ := rows_row rows5 hv
      have hc1 : RowL G1 c x := t1 _ _ (s6 _ _ hc)
      have hjl := (List.getElem?_eq_some_iff.mp hx).1
      refine ⟨rfl, _, rfl, c, _, rfl, .inl (SqL.of hc1), fun t ht => ?_⟩
      have ntn : t ≠ nl := ne_of_none' ht eq
      have t2 : Same G1 (upd G1 t (.lst (x.map V.str))) := Lb.Same.upd ht
      refine ⟨_, t2 _ _ eq, szlt (by rw [List.length_map, Paired.len pq, List.length_take]; omega), Lb.Same.updl (t1.trans t2) hnl, qs ++ [t], by rw [upd_same, List.map_append]; rfl, ?_, fun h => ?_⟩
      · have up : ∀ {b : Addr} {y : List Str}, b ≠ nl → RowL (upd G1 t (.lst (x.map V.str))) b y → RowL (upd (upd G1 t (.lst (x.map V.str))) nl (.lst (qs.map V.ref ++ [V.ref t]))) b y := fun {b y} n h => by
          unfold RowL at h ⊢
          rw [upd_ne n]
          exact h
        rw [← take_snoc hx]
        exact Paired.snoc (up ntn (show (upd G1 t _) t = _ from upd_same)) (paired_mem pq fun b y hb h => up (fun e => nq (e ▸ hb)) (t2 _ _ h))
      · rcases List.mem_append.mp h with h | h
        · exact nq h
        · exact ntn (List.mem_singleton.mp h).symm
    rintro H7 ⟨s7, qs, en, pq, _⟩
    rw [List.length_map, la, List.take_length] at pq
    refine ⟨nl, X.map (fun x => (false, x)), rfl, ⟨_, en, ats_lists pq⟩, by rw [snd_false]; exact gX, fun K8 q2 t8 p8 g8 => ⟨sz, fun tp htp => ?_⟩⟩
    rw [snd_false] at p8
    generalize e_H8 : upd _ tp _ = H8
    obtain ⟨u8, v8⟩ := al3 e_H8 htp
    clear e_H8
    (try dsimp only at v8)
    refine ⟨tp, _, rfl, SqT.of v8, rfl, _, _, rfl, _, _, rfl, rfl, ?_⟩
    have s8 := t8.trans u8
    have o8 := p8.same u8
    -- line and again at H8
    obtain ⟨dx, D, ll, ts, hq, hD, hll, pt⟩ := id o6
    have fl := f6 dx D ll hq
    obtain ⟨dx2, D2, ll2, ts2, hq2, hD2, hll2, pt2⟩ := id p8
    have fl2 : H5 ll2 = none := Lb.Same.free s6 (Lb.Same.free s7 (g8 dx2 D2 ll2 hq2))
    have s68 := s7.trans s8
    have s58 := s6.trans s68
    have o68 : OrdAt a.c_Order H8 q (X.map srt) (plR 0 X) := o6.same s68
    have ep8 := s58 _ _ ep
    have lbs : bs.length = X.length := by
      rw [Paired.len pb]
      have := congrArg List.length hM
      rw [List.length_map] at this
      exact this
    refine ⟨_, rfl, pl, rfl, ⟨_, SqL.of ep8⟩, ?_⟩
    refine for_list (K := K) (a := pl) (xs := bs.map V.ref) (fun i σ H' => ∃ u2, σ = [some (.ref p), some (.ref sl), u2, some (.ref pl), some (.ref q), some (.ref q2), none, none, none, none] ∧ (∀ b o, H8 b = some o → (H5 b = none ∨ H4 b ≠ none ∨ b = pl ∨ ∀ ys, o ≠ .lst ys) → H' b = some o) ∧ Paired (fun (b : Addr) (q : Bool × List Str) => ∃ ys : List V, ys.length ≤ 100 + i ∧ H' b = some (if q.1 = true then .tup ys else .lst ys)) bs M)
      ⟨_, rfl, fun _ _ e _ => e, paired_snd pb fun b q hq h => ⟨q.2.map V.str, by rw [List.length_map]; have := hX.2 q.2 (by rw [← hM]; exact List.mem_map.mpr ⟨q, hq, rfl⟩); omega, by rw [s58 _ _ h]; unfold rowO; cases q.1 <;> rfl⟩⟩ (fun i σ H' _ ⟨_, _, kp, _⟩ => SqL.of (kp _ _ ep8 (.inr (.inr (.inl rfl))))) ?_ ?_
    · rintro i v σ G1 hv ⟨u2, rfl, kp, pp⟩
      rw [List.getElem?_map] at hv
      obtain ⟨b, hb, rfl⟩ : ∃ b, bs[i]? = some b ∧ V.ref b = v := by
        cases h : bs[i]? with
        | none => rw [h] at hv; cases hv
        | some b => rw [h] at hv; exact ⟨b, rfl, by simpa using hv⟩
      have hbm := List.mem_of_getElem? hb
      have hil := (List.getElem?_eq_some_iff.mp hb).1
      obtain ⟨⟨f, x⟩, hm, h5⟩ := Paired.at_ pb hb
      obtain ⟨q', hm', ys, ly, hg⟩ := Paired.at_ pp hb
      rw [hm] at hm'
      obtain rfl : (f, x) = q' := Option.some.inj hm'
      cases f with
      | true =>
        have hg : G1 b = some (.tup ys) := hg
        refine ⟨_, rfl, _, _, _, _, false, rfl, .ty _, .base (.tup hg), kit_ty (r := false) (by decide +kernel), false, rfl, iteF ⟨_, rfl, kp, Paired.imp pp fun _ _ ⟨ys, l, e⟩ => ⟨ys, by omega, e⟩⟩⟩
      | false =>
        have hg : G1 b = some (.lst ys) := hg
        have h5 : H5 b = some (.lst (x.map V.str)) := h5
        have h8 := s58 _ _ h5
        refine ⟨_, rfl, _, _, _, _, true, rfl, .ty _, .base (.lst hg), kit_ty (r := true) (by decide +kernel), true, rfl, iteT ⟨_, rfl, .inl ⟨rfl, _, SqL.of hg⟩, b, _, _, rfl, rfl, hg, szlt (by omega), _, rfl, fun b0 o e h => ?_, paired_mem pp fun b' q' hb' ⟨zs, l, e⟩ => ?_⟩⟩
        · have n : b0 ≠ b := fun z => by
            subst z
            rcases h with h | h | h | h
            · rw [h5] at h; cases h
            · exact h (fb _ hbm)
            · exact nb (h ▸ hbm)
            · rw [h8] at e; exact h _ (Option.some.inj e).symm
          rw [upd_ne n]
          exact kp _ _ e h
        · by_cases hbb : b' = b
          · subst hbb
            rw [hg] at e
            cases h1 : q'.1 with
            | true => rw [h1] at e; cases e
            | false =>
              refine ⟨ys ++ [V.str "qqqqqqqq"], by rw [List.length_append]; show _ + 1 ≤ _; omega, ?_⟩
              rw [upd_same]
              rfl
          · exact ⟨zs, by omega, by rw [upd_ne hbb]; exact e⟩
    rintro σ G ⟨u2, rfl, kp, _⟩
    have epG := kp _ _ ep8 (.inr (.inr (.inl rfl)))
    refine ⟨_, rfl, .inl ⟨rfl, _, SqL.of epG⟩, pl, _, .non, rfl, rfl, epG, szlt (by rw [List.length_map]; omega), ?_⟩
    have KQ : ∀ b o, H8 b = some o → (H5 b = none ∨ H4 b ≠ none ∨ ∀ ys, o ≠ .lst ys) → (upd G pl (.lst (bs.map V.ref ++ [.non]))) b = some o := fun b o e h => by
      have n : b ≠ pl := fun z => by
        subst z
        rcases h with h | h | h
        · rw [ep] at h; cases h
        · exact h hpl
        · rw [ep8] at e; exact h _ (Option.some.inj e).symm
      rw [upd_ne n]
      exact kp _ _ e (h.imp id (Or.imp id fun h => .inr h))
    generalize upd G pl (.lst (bs.map V.ref ++ [.non])) = H10 at KQ ⊢
    have o10 : OrdAt a.c_Order H10 q (X.map srt) (plR 0 X) := ⟨dx, D, ll, ts, KQ _ _ (s68 _ _ hq) (.inr (.inr fun _ z => nomatch z)), KQ _ _ (s68 _ _ hD) (.inr (.inr fun _ z => nomatch z)), KQ _ _ (s68 _ _ hll) (.inl fl), Paired.imp pt fun _ _ h => KQ _ _ (s68 _ _ h) (.inr (.inr fun _ z => nomatch z))⟩
    have o10' : OrdAt a.c_Order H10 q2 (X.map srt) (plR 0 X) := ⟨dx2, D2, ll2, ts2, KQ _ _ (u8 _ _ hq2) (.inr (.inr fun _ z => nomatch z)), KQ _ _ (u8 _ _ hD2) (.inr (.inr fun _ z => nomatch z)), KQ _ _ (u8 _ _ hll2) (.inl fl2), Paired.imp pt2 fun _ _ h => KQ _ _ (u8 _ _ h) (.inr (.inr fun _ z => nomatch z))⟩
    have ke : ∀ {b : Addr} {o : HO}, b ≠ p → H4 b = some o → H10 b = some o := fun {b o} n e => KQ _ _ (s58 _ _ (m5.keep _ _ n e)) (.inr (.inl (by rw [e]; exact fun z => nomatch z)))
    have hp4 := N4.pot
    have rw10 : RowsL H10 sl X := ⟨as, ke (refs_pot hp4 top4) top4, Paired.imp rows4 fun b x h => ke (row_pot hp4 h) h⟩
    have M10 : Mov p H H10 := by
      refine ⟨fun b o n e => ke n (N4.keep _ _ n e), ?_⟩
      obtain ⟨x, y, e, rr⟩ := (N5.same s58).pot
      refine ⟨x, y, KQ _ _ e (.inr (.inl ?_)), rr⟩
      obtain ⟨x', y', e', _⟩ := hp4
      rw [e']
      exact fun z => nomatch z
    have tb10 := tabs_mov tb M10 hp
    clear KQ ke kp
    clear rows4 top4 rows5 top5 top6 ep ep8 epG pb hM aP e1 e2 e3 pq en o6 o8 o68 p8 pt pt2 hq hD hll hq2 hD2 hll2
    generalize hL : X.map srt = L at *
    have gL : Good L := hL ▸ gX.srt
    have zL := gL.sz
    have pk := (plOk_R gX.nd).srt
    rw [hL] at pk
    refine ⟨_, rfl, _, rfl, q, sl, X, plR 0 X, rfl, by rw [hL]; exact o10, by rw [hL]; exact pk, rw10, gX, fun H11 s11 => ?_⟩
    have o11 := o10.same s11
    have o11' := o10'.same s11
    obtain ⟨dx, hq⟩ : ∃ dx, ∃ D l, H11 q = some (.ins a.c_Order dx (ordF D l)) := by
      obtain ⟨dx, D, l, ts, hq, _⟩ := id o11
      exact ⟨dx, D, l, hq⟩
    obtain ⟨D, ll, hq⟩ := hq
    have hq2 : ∃ dx D l, H11 q2 = some (.ins a.c_Order dx (ordF D l)) := by
      obtain ⟨dx, D, l, ts, hq, _⟩ := id o11'
      exact ⟨dx, D, l, hq⟩
    obtain ⟨dx2, D2, ll2, hq2⟩ := hq2
    refine ⟨_, rfl, iteF ?_⟩
    refine ⟨_, rfl, _, rfl, q, dx, _, _, rfl, hq, T.I.ty T.cl hq2, Inst.nSelf, q, L, _, .ref q2, rfl, o11, zL.nm, .inl ⟨q2, L, _, rfl, o11', zL.nm, ?_⟩⟩
    rw [decide_eq_true rfl]
    refine ⟨_, rfl, iteF ?_⟩
    refine ⟨_, rfl, _, rfl, q, dx, _, _, rfl, hq, T.I.ty T.cl hq2, Inst.nSelf, q, L, _, .ref q2, rfl, o11, zL.nm, .inl ⟨q2, L, _, rfl, o11', zL.nm, ?_⟩⟩
    rw [decide_eq_true rfl]
    refine ⟨_, rfl, _, rfl, iteF ?_⟩
    -- others
    have M11 := M10.same s11
    have rw11 := rw10.same s11
    have tb11 := tb10.ext s11
    refine ⟨_, rfl, _, rfl, p, sl, X, rfl, M11.pot, rw11, gX, fun H12 ol S M12 hol rS gS => ?_⟩
    have N12 := M11.trans M12
    have tb12 := tabs_mov tb11 M12 M11.pot
    have rw12 := rw11.mov M12 M11.pot
    have o12 := o11.mov M12 M11.pot
    obtain ⟨os, hos, po⟩ := id rS
    obtain ⟨as2, ha2, pa2⟩ := id rw12
    have los : os.length = S.length := Paired.len po
    have las : as2.length = X.length := Paired.len pa2
    have hS := gS.rlen
    refine ⟨_, rfl, ol, rfl, ⟨_, SqL.of hos⟩, fun D1 hD1 => ?_⟩
    refine lc_list (K := K) (a := ol) (xs := os.map V.ref) (fun i H' => Same H12 H' ∧ ∃ ts : List Addr, H' D1 = some (.lst (ts.map V.ref)) ∧ Paired (RowL H') ts ((S.take i).map srt) ∧ D1 ∉ ts) ⟨Lb.Same.upd hD1, [], upd_same, .nil, fun h => nomatch h⟩ (fun i H' _ b => SqL.of (b.1 _ _ hos)) ?_ ?_
    · rintro i v G1 hv ⟨t1, ts, e1, pr, nt⟩
      obtain ⟨c, x, rfl, hx, hc⟩ := rows_row po hv
      have hxl := hS.2 x (List.mem_of_getElem? hx)
      have hil := (List.getElem?_eq_some_iff.mp hx).1
      refine ⟨rfl, _, rfl, c, x, rfl, SqL.of (t1 _ _ hc), by omega, fun ys m pm hs hm => ?_⟩
      have nm : m ≠ D1 := ne_of_none' hm e1
      have t2 : Same G1 (upd G1 m (.lst (ys.map V.str))) := Lb.Same.upd hm
      refine ⟨_, t2 _ _ e1, szlt (by rw [List.length_map, Paired.len pr, List.length_map, List.length_take]; omega), Lb.Same.updl (t1.trans t2) hD1, ts ++ [m], by rw [upd_same, List.map_append]; rfl, ?_, fun h => ?_⟩
      · have up : ∀ {b : Addr} {y : List Str}, b ≠ D1 → RowL (upd G1 m (.lst (ys.map V.str))) b y → RowL (upd (upd G1 m (.lst (ys.map V.str))) D1 (.lst (ts.map V.ref ++ [V.ref m]))) b y := fun {b y} n h => by
          unfold RowL at h ⊢
          rw [upd_ne n]
          exact h
        rw [← take_snoc hx, List.map_append]
        refine Paired.snoc (up nm ?_) (paired_mem pr fun b y hb h => up (fun e => nt (e ▸ hb)) (t2 _ _ h))
        rw [← srt_of pm hs]
        exact upd_same
      · rcases List.mem_append.mp h with h | h
        · exact nt h
        · exact nm (List.mem_singleton.mp h).symm
    rintro H13 ⟨s13, t13, e13, p13, _⟩
    rw [List.length_map, los, List.take_length] at p13
    have ha3 := s13 _ _ ha2
    refine ⟨_, rfl, sl, rfl, ⟨_, SqL.of ha3⟩, fun D2' hD2 => ?_⟩
    refine lc_list (K := K) (a := sl) (xs := as2.map V.ref) (fun i H' => Same H13 H' ∧ ∃ ts : List Addr, H' D2' = some (.lst (ts.map V.ref)) ∧ Paired (RowL H') ts ((X.take i).map srt) ∧ D2' ∉ ts) ⟨Lb.Same.upd hD2, [], upd_same, .nil, fun h => nomatch h⟩ (fun i H' _ b => SqL.of (b.1 _ _ ha3)) ?_ ?_
    · rintro i v G1 hv ⟨t1, ts, e1, pr, nt⟩
      obtain ⟨c, x, rfl, hx, hc⟩ := rows_row pa2 hv
      have hxl := hX.2 x (List.mem_of_getElem? hx)
      have hil := (List.getElem?_eq_some_iff.mp hx).1
      refine ⟨rfl, _, rfl, c, x, rfl, SqL.of (t1 _ _ (s13 _ _ hc)), by omega, fun ys m pm hs hm => ?_⟩
      have nm : m ≠ D2' := ne_of_none' hm e1
      have t2 : Same G1 (upd G1 m (.lst (ys.map V.str))) := Lb.Same.upd hm
      refine ⟨_, t2 _ _ e1, szlt (by rw [List.length_map, Paired.len pr, List.length_map, List.length_take]; omega), Lb.Same.updl (t1.trans t2) hD2, ts ++ [m], by rw [upd_same, List.map_append]; rfl, ?_, fun h => ?_⟩
      · have up : ∀ {b : Addr} {y : List Str}, b ≠ D2' → RowL (upd G1 m (.lst (ys.map V.str))) b y → RowL (upd (upd G1 m (.lst (ys.map V.str))) D2' (.lst (ts.map V.ref ++ [V.ref m]))) b y := fun {b y} n h => by
          unfold RowL at h ⊢
          rw [upd_ne n]
          exact h
        rw [← take_snoc hx, List.map_append]
        refine Paired.snoc (up nm ?_) (paired_mem pr fun b y hb h => up (fun e => nt (e ▸ hb)) (t2 _ _ h))
        rw [← srt_of pm hs]
        exact upd_same
      · rcases List.mem_append.mp h with h | h
        · exact nt h
        · exact nm (List.mem_singleton.mp h).symm
    rintro H14 ⟨s14, t14, e14, p14, _⟩
    rw [List.length_map, las, List.take_length, hL] at p14
    have gS' := gS.srt
    refine ⟨_, _, dp_levL ⟨t13, s14 _ _ e13, Paired.imp p13 fun _ _ h => s14 _ _ h⟩, dp_levL ⟨t14, e14, p14⟩, shaped_Ll gS'.nm, shaped_Ll zL.nm, ?_⟩
    rw [eqv_Ll]
    have s1214 := s13.trans s14
    have o14 := o12.same s1214
    have rw14 := rw12.same s1214
    have tb14 := tb12.ext s1214
    have N14 := N12.same s1214
    obtain ⟨os4, hos4, po4⟩ := rS.same s1214
    obtain ⟨e1, e2, e3⟩ := good_RD (M := S.map fun x => (false, x)) (d := .ls (RD (S.map fun x => (false, x)))) (by rw [snd_false]; exact gS) rfl
    rw [snd_false] at e1 e2
    have aS : At H14 (.ls (RD (S.map fun x => (false, x)))) (.ref ol) := by simp only [At]; exact ⟨ol, _, rfl, hos4, ats_lists po4⟩
    have insq : ∀ {H' : Hp} {q : Addr} {L : List (List Str)} {p : Pl}, OrdAt a.c_Order H' q L p → ∃ dx D l, H' q = some (.ins a.c_Order dx (ordF D l)) := fun o => by
      obtain ⟨dx, D, l, ts, hq, _⟩ := id o
      exact ⟨dx, D, l, hq⟩
    refine ⟨_, rfl, _, rfl, make_okN aS e3 e1 fun H15 q3 s15 o15 _ => ?_⟩
    rw [e2] at o15
    have o15q := o14.same s15
    obtain ⟨dxa, Da, la', hqa⟩ := insq o15q
    obtain ⟨dxb, Db, lb', hqb⟩ := insq o15
    refine ⟨q, dxa, _, _, rfl, hqa, T.I.ty T.cl hqb, Inst.nSelf, q, L, _, .ref q3, rfl, o15q, zL.nm, .inl ⟨q3, S.map srt, _, rfl, o15, gS'.nm, ?_⟩⟩
    refine ⟨_, rfl, rfl, ?_⟩
    rw [show decide (L = S.map srt) = decide (S.map srt = L) from by rw [Bool.eq_iff_iff]; simp [eq_comm], decide_eq_true rfl]
    refine ⟨_, rfl, iteF ?_⟩
    refine ⟨_, rfl, make_okN (At.same s15 _ _ aS) e3 e1 fun H16 q4 s16 o16 _ => ?_⟩
    rw [e2] at o16
    have o16q := o15q.same s16
    obtain ⟨dxc, Dc, lc', hqc⟩ := insq o16q
    obtain ⟨dxd, Dd, ld', hqd⟩ := insq o16
    refine ⟨_, rfl, q4, dxd, _, _, rfl, hqd, T.I.ty T.cl hqc, Inst.nSelf, q4, S.map srt, _, .ref q, rfl, o16, gS'.nm, .inl ⟨q, L, _, rfl, o16q, zL.nm, _, rfl, ?_⟩⟩
    refine ⟨_, rfl, rfl, ?_⟩
    rw [show decide (V.bl (!decide (S.map srt = L)) = V.bl (decide (S.map srt = L))) = false by cases decide (S.map srt = L) <;> rfl]
    refine ⟨_, rfl, iteF ?_⟩
    have s1416 := s15.trans s16
    have rw16 := rw14.same s1416
    have tb16 := tb14.ext s1416
    have N16 := N14.same s1416
    clear o16 o15 o15q o14 aS hqa hqb hqd hos4 po4 rS rw14 rw12 rw11 tb14 tb12 tb11 N14 N12 M11 o11 o11' o12 e13 p13 e14 p14 ha2 ha3 pa2 hos po
    -- other values
    have noL : ∀ D l, (ordF D l).lookup ("levels" : Str) = none := fun D l => ord_no D l (by decide +kernel) (by decide +kernel)
    refine ⟨_, rfl, q, dxc, _, rfl, hqc, noL _ _, q, L, _, rfl, o16q, fun H17 m17 s17 hm17 em17 => ?_⟩
    refine ⟨_, rfl, q, dxc, _, rfl, s17 _ _ hqc, q, L, _, rfl, o16q.same s17, zL, fun H18 s18 => ⟨_, rfl, ?_⟩⟩
    have s1618 := s17.trans s18
    have plen : (plR 0 X).length ≤ 60 := by rw [pk.1]; have := gL.len; omega
    have zl := zL.l
    refine ⟨_, rfl, q, dxc, _, rfl, s1618 _ _ hqc, q, L, _, rfl, o16q.same s1618, by omega, fun x hx => by have := zL.each x hx; omega, plen, fun H19 v19 s19 hv19 => ⟨L.length, hv19, by omega, ?_⟩⟩
    refine ⟨sz, fun t20 ht20 => ?_⟩
    generalize e_H20 : upd _ t20 _ = H20
    obtain ⟨s20, f20⟩ := al3 e_H20 ht20
    clear e_H20
    (try dsimp only at f20)
    refine ⟨_, rfl, sz, fun l21 hl21 => ?_⟩
    generalize e_H21 : upd _ l21 _ = H21
    obtain ⟨s21, f21⟩ := al3 e_H21 hl21
    clear e_H21
    (try dsimp only at f21)
    have s1721 := ((s18.trans s19).trans s20).trans s21
    have s1621 := s17.trans s1721
    have o21 := o16q.same s1621
    have hq21 := s1621 _ _ hqc
    have rw21 := rw16.same s1621
    have tb21 := tb16.ext s1621
    have N21 := N16.same s1621
    obtain ⟨tq, etq, ptq⟩ := em17.same s1721
    obtain ⟨as5, ha5, pa5⟩ := id rw21
    have AA : Ats H21 [.non, .ls (RD (L.map fun x => (true, x))), .str (txL L), .int (L.length : Nat), .tp [], .ls (RD (X.map fun x => (false, x)))] [.non, .ref m17, .str (txL L), .int (L.length : Nat), .ref t20, .ref sl] :=
      ats_cons (by simp only [At]) (ats_cons (by simp only [At]; exact ⟨m17, _, rfl, etq, ats_tups ptq⟩) (ats_cons (by simp only [At]) (ats_cons (by simp only [At]) (ats_cons (by simp only [At]; exact ⟨t20, _, rfl, s21 _ _ f20, ats_nil⟩) (ats_cons (by simp only [At]; exact ⟨sl, _, rfl, ha5, ats_lists pa5⟩) ats_nil)))))
    clear o16q rw16 tb16 N16 em17
    refine ⟨l21, rfl, ⟨_, SqL.of f21⟩, fun D22 hD22 => ?_⟩
    refine lc_list (K := K) (a := l21) (xs := [.non, .ref m17, .str (txL L), .int (L.length : Nat), .ref t20, .ref sl]) (fun j H' => Same H21 H' ∧ H' D22 = some (.lst ((List.replicate j false).map V.bl))) ⟨Lb.Same.upd hD22, upd_same⟩ (fun j H' _ b => SqL.of (b.1 _ _ f21)) ?_ ?_
    · rintro j v G1 hv ⟨t1, e1⟩
      obtain ⟨d, hd, ad⟩ := AA.at_ hv
      have ad := At.same t1 _ _ ad
      obtain ⟨t, ty, nf⟩ := At.first T.I ad
      have hj := (List.getElem?_eq_some_iff.mp hv).1
      refine ⟨rfl, _, rfl, _, rfl, q, dxc, _, t, rfl, t1 _ _ hq21, ty, nf, q, L, _, v, rfl, o21.same t1, zL.nm, .inr ⟨d, ad, ?_⟩⟩
      refine ⟨_, e1, szlt (by rw [List.length_map, List.length_replicate]; simp at hj; omega), Lb.Same.updl t1 hD22, ?_⟩
      rw [upd_same, List.replicate_succ', List.map_append]
      rfl
    rintro H23 ⟨s23, e23⟩
    refine ⟨D22, _, rfl, SqL.of e23, ?_⟩
    refine ⟨_, rfl, iteF ?_⟩
    have o23 := o21.same s23
    have hq23 := s23 _ _ hq21
    have rw23 := rw21.same s23
    obtain ⟨as6, ha6, pa6⟩ := id rw23
    refine ⟨_, rfl, sl, X.map (fun x => (false, x)), rfl, ⟨_, ha6, ats_lists pa6⟩, by rw [snd_false]; have := gX.len; omega, fun H24 fl s24 hfl efl => ?_⟩
    rw [snd_false] at efl
    refine ⟨fl, rfl, ⟨_, SqL.of efl⟩, fun D25 hD25 => ?_⟩
    have o24 := o23.same s24
    have hq24 := s24 _ _ hq23
    refine lc_list (K := K) (a := fl) (xs := X.flatten.map V.str) (fun j H' => Same H24 H' ∧ H' D25 = some (.lst ((List.replicate j true).map V.bl))) ⟨Lb.Same.upd hD25, upd_same⟩ (fun j H' _ b => SqL.of (b.1 _ _ efl)) ?_ ?_
    · rintro j v G1 hv ⟨t1, e1⟩
      rw [List.getElem?_map] at hv
      obtain ⟨z, hz, rfl⟩ : ∃ z, X.flatten[j]? = some z ∧ V.str z = v := by
        cases h : X.flatten[j]? with
        | none => rw [h] at hv; cases hv
        | some z => rw [h] at hv; exact ⟨z, rfl, by simpa using hv⟩
      have hj := (List.getElem?_eq_some_iff.mp hz).1
      have hlen := gX.len
      refine ⟨rfl, _, rfl, _, rfl, q, dxc, _, rfl, t1 _ _ hq24, q, L, _, .str z, .str z, rfl, o24.same t1, by simp only [At], _, rfl, ?_⟩
      rw [show (pd (plR 0 X) (.str z)).isSome = true from plAt_some (by rw [plR_keys]; exact List.mem_of_getElem? hz)]
      refine ⟨_, e1, szlt (by rw [List.length_map, List.length_replicate]; omega), Lb.Same.updl t1 hD25, ?_⟩
      rw [upd_same, List.replicate_succ', List.map_append]
      rfl
    rintro H26 ⟨s26, e26⟩
    refine ⟨D25, _, rfl, SqL.of e26, ?_⟩
    rw [show (List.replicate (X.flatten.map V.str).length true).all id = true by simp]
    refine ⟨_, rfl, iteF ?_⟩
    have o26 := o24.same s26
    have hq26 := s26 _ _ hq24
    refine ⟨_, rfl, q, dxc, _, rfl, hq26, q, L, _, .str "zzzzzzzz", .str "zzzzzzzz", rfl, o26, by simp only [At], _, rfl, ?_⟩
    rw [show (pd (plR 0 X) (.str "zzzzzzzz")).isSome = false from by
      rw [show pd (plR 0 X) (.str "zzzzzzzz") = none from plAt_no (by
        rw [plR_keys]
        intro m
        have := shX _ m
        exact absurd this (by decide +kernel))]
      rfl]
    refine ⟨_, rfl, iteF ?_⟩
    have s2126 := (s23.trans s24).trans s26
    have N26 := N21.same s2126
    exact ⟨_, rfl, _, rfl, p, sl, X, rfl, N26.pot, rw21.same s2126, gX, tb21.ext s2126, fun H' mn tb' => k H' ((MovN.of N26).trans mn) tb'⟩
end
end K60

set_option Elab.async false
set_option linter.all false
set_option maxRecDepth 100000
set_option maxHeartbeats 4000000
namespace K60
open PySem L2 Lb
open C8 (pss_cut)
open LamX (ExtN CodeO Tabs TabB)
/-! twenty names -/
def Lm : List Nat := (Str.ofString "tsrqponmlkjihgfedcba").cps.toList
def nmN : List Str := Lm.map fun c => "n" ++ s1 c
def rowsN : List (List Str) := (List.range 10).map fun i => (nmN.drop (2 * i)).take 2
theorem rowsN_good : Good rowsN := ⟨by decide +kernel, by decide +kernel, by unfold Nms; decide +kernel, by decide +kernel, by decide +kernel⟩
theorem nmN_len : nmN.length = 20 := by decide +kernel
theorem Lm_len : Lm.length = 20 := by decide +kernel
/-! five levels -/
def fiveM : List (Bool × List Str) := [(false, ["e"]), (false, ["d", "a"]), (true, ["c"]), (false, ["f"]), (false, ["b"])]
def fiveL : List (List Str) := [["e"], ["a", "d"], ["c"], ["f"], ["b"]]
theorem fiveM_good : Good (fiveM.map (·.2)) := ⟨by decide +kernel, by decide +kernel, by unfold Nms; decide +kernel, by decide +kernel, by decide +kernel⟩
theorem fiveL_good : Good fiveL := ⟨by decide +kernel, by decide +kernel, by unfold Nms; decide +kernel, by decide +kernel, by decide +kernel⟩
theorem srt_one (z : Str) : srt [z] = [z] := (srt_of (.refl _) rfl).symm
theorem five_srt : (fiveM.map (·.2)).map srt = fiveL := by
  have h : srt (["d", "a"] : List Str) = (["a", "d"] : List Str) := (srt_of (List.Perm.swap _ _ _) (by decide +kernel)).symm
  show [srt (["e"] : List Str), srt (["d", "a"] : List Str), srt (["c"] : List Str), srt (["f"] : List Str), srt (["b"] : List Str)] = _
  rw [h, srt_one, srt_one, srt_one, srt_one]
  rfl
theorem five_srt2 : fiveL.map srt = fiveL := by rw [← five_srt]; exact srt_all _
theorem five_tx : txL fiveL = "e > a,d > c > f > b" := by decide +kernel
theorem cut_nat {xs : List V} {b e : Nat} (h1 : b ≤ xs.length) (h2 : e ≤ xs.length) : cutV xs (some (b : Int)) (some (e : Int)) = (xs.drop b).take (e - b) := by
  unfold cutV
  rw [HT.sIx_nat, HT.sIx_nat, Nat.min_eq_left h1, Nat.min_eq_left h2]
theorem rows_rev {H : Hp} {as : List Addr} {R : List (List Str)} (h : Paired (RowL H) as R) : Paired (RowL H) as.reverse R.reverse := paired_rev h
def sp_many : Sp := fun vs H Q _ => vs = [] ∧ ∀ H', Same H H' → Q (.bl true) H'
section
variable {P : Program} {w : World} {K : PySem.W.Frag} {mg : Str → Option Value} {base : Heap} {a : Ad}
theorem ok_many_right (T : Txt K mg a) : FnG P w K mg base CX0 10 a.f_many_right a.d_many_right [] sp_many := by
  refine okG T.F_many_right sc_many_right (fun vs H Q E h => ?_) (fun cdv A outer s H vs Q E gu hr h => ?_)
  · obtain ⟨rfl, _⟩ := h
    rfl
  · obtain ⟨rfl, k⟩ := h
    refine ⟨_, (pss_cons (ps_set (i := 0) sc_many_right.nd rfl (by first | exact Or.inl rfl | exact Or.inr rfl) (pe_lc (own := [("_law_letter", 1)]) (by rfl) sc_many_right.nd (pi_str pe_str) (blkOk_by (own := [("_law_letter", 1)]) (N := ["_law_names_here", "_law_letter", "_law_rows", "_law_at", "_law_line", "_law_five"]) (sc := defScope s_many_right) (by decide +kernel)) (fun _ _ _ _ _ => (pg_name (i := 1) sc_many_right.nd rfl (by first | exact Or.inl rfl | exact Or.inr rfl))) (fun _ _ _ _ _ => pts_nil) (fun _ _ _ _ _ => (pe_op op_add_str pe_str (pv 1)))))
 (pss_cons (ps_setLc (i := 2) (own := [("_law_at", 3)]) rfl sc_many_right.nd rfl rfl (sw_true rfl rfl rfl (by decide +kernel)) (pi_range1 rfl T.b_range (pa_cons pe_int pa_nil)) (blkOk_by (own := [("_law_at", 3)]) (N := ["_law_names_here", "_law_letter", "_law_rows", "_law_at", "_law_line", "_law_five"]) (sc := defScope s_many_right) (by decide +kernel)) (fun _ _ _ _ _ => (pg_name (i := 3) sc_many_right.nd rfl (by first | exact Or.inl rfl | exact Or.inr rfl))) (fun _ _ _ _ _ => pts_nil) (fun _ _ _ _ _ => (pe_slice (sl_listK (K := K) rfl) (pv 0) (po_some (pe_op op_mulX pe_int (pv 3))) (po_some (pe_op op_add (pe_op op_mulX pe_int (pv 3)) pe_int)))))
 (pss_cons (ps_set (i := 4) sc_many_right.nd rfl (by first | exact Or.inl rfl | exact Or.inr rfl) (pe_make T.mkO (ok_Order_init_ T) (hr.mono (by decide)) (by rfl) T.mO (b_Order_init_ T) .nil passX0 (pa_cons (pv 2) pa_nil)))
 (pss_cons (ps_set (i := 5) sc_many_right.nd rfl (by first | exact Or.inl rfl | exact Or.inr rfl) (pe_smethR (pe_glob (v := .ref a.c_Order) rfl T.mO rfl) T.sOf (ok_Orderof T) (hr.mono (by decide)) passX0 (pa_cons (pe_lst (pa_cons pe_str pa_nil)) (pa_cons (pe_lst (pa_cons pe_str (pa_cons pe_str pa_nil))) (pa_cons (pe_tup (pa_cons pe_str pa_nil)) (pa_cons (pe_lst (pa_cons pe_str pa_nil)) (pa_cons (pe_lst (pa_cons pe_str pa_nil)) pa_nil)))))))
 (pss_cons (ps_if (PW.pt (pw_or (pt_cmpR op_ne (pe_callTy (call_strOwn T.cSt.at_ T.cSt.fn ((ok_Order_str_ T).raw (b_Order_str_ T) .nil) (hr.mono (by decide)) pass0) (by rfl) T.b_str (by decide +kernel) (pa_cons (pv 5) pa_nil)) pe_str (nomark _)) (pw_or1 (pt_cmpR (op_ownNe (n := 1) (C := a.c_Order) (K := K) rfl T.cNe T.I.cm T.cEq.at_ T.cEq.fn ((ok_Order_eq_ T).raw (b_Order_eq_ T) .nil) (hr.mono (by decide)) pass0) (pv 5) (pe_make T.mkO (ok_Order_init_ T) (hr.mono (by decide)) (by rfl) T.mO (b_Order_init_ T) .nil passX0 (pa_cons (pe_lst (pa_cons (pe_lst (pa_cons pe_str pa_nil)) (pa_cons (pe_lst (pa_cons pe_str (pa_cons pe_str pa_nil))) (pa_cons (pe_lst (pa_cons pe_str pa_nil)) (pa_cons (pe_lst (pa_cons pe_str pa_nil)) (pa_cons (pe_lst (pa_cons pe_str pa_nil)) pa_nil)))))) pa_nil)) (nomark _))))) (pss_one (ps_ret pe_bl)) pss_nil)
 (pss_one (ps_ret (pe_and (pe_callG (ok_shown_right T) gu (hr.mono (by decide)) (by rfl) T.m_shown_right T.F_shown_right.kp (b_shown_right T) .nil pass0 (pa_cons (pv 4) (pa_cons (pv 2) pa_nil))) (pe_one (pe_callG (ok_shown_right T) gu (hr.mono (by decide)) (by rfl) T.m_shown_right T.F_shown_right.kp (b_shown_right T) .nil pass0 (pa_cons (pe_meth0 (pv 4) T.cl T.mTu (ok_Orderturned T) (hr.mono (by decide)) (b_Orderturned T) .nil pass0) (pa_cons (pe_revL (pv 2)) pa_nil)))))))))))), ?_⟩
    refine ⟨_, rfl, fun nl hnl => ?_⟩
    refine lc_it (walk_str (z := "tsrqponmlkjihgfedcba")) (fun j H' => Same H H' ∧ H' nl = some (.lst (((Lm.take j).map fun c => "n" ++ s1 c).map V.str))) ⟨Lb.Same.upd hnl, upd_same⟩ (fun _ _ _ _ => trivial) ?_ ?_
    · rintro j v H4 H5 hj ⟨s4, e4⟩ ⟨rfl, c, hcj, rfl⟩
      have hcj' : Lm[j]? = some c := by
        rw [← Array.getElem?_toList] at hcj
        exact hcj
      have hjl := (List.getElem?_eq_some_iff.mp hcj').1
      rw [Lm_len] at hjl
      refine ⟨rfl, _, rfl, _, _, rfl, rfl, szle (by show ("n" : Str).length + 1 ≤ 10000; decide +kernel), _, e4, szlt (by rw [List.length_map, List.length_map, List.length_take]; omega), Lb.Same.updl s4 hnl, ?_⟩
      rw [upd_same, ← take_snoc hcj', List.map_append, List.map_append]
      rfl
    rintro H1 ⟨s1, e1⟩
    rw [show (Str.ofString "tsrqponmlkjihgfedcba").cps.size = Lm.length by decide +kernel, List.take_length] at e1
    have e1 : H1 nl = some (.lst (nmN.map V.str)) := e1
    -- rows
    refine ⟨_, rfl, by omega, by omega, fun rl hrl => ?_⟩
    refine lc_it walk_range (fun j H' => Same H1 H' ∧ ∃ ts : List Addr, H' rl = some (.lst (ts.map V.ref)) ∧ Paired (RowL H') ts (rowsN.take j) ∧ rl ∉ ts) ⟨Lb.Same.upd hrl, [], upd_same, .nil, fun h => nomatch h⟩ (fun _ _ _ _ => trivial) ?_ ?_
    · rintro j v G1 G2 hj ⟨t1, ts, et, pt, nt⟩ ⟨rfl, rfl⟩
      have e1' := t1 _ _ e1
      have hj : j < 10 := hj
      have cm : CMulX 2 (0 + (j : Int)) := by
        have : ∀ j : Fin 10, CMulX 2 (0 + ((j.val : Nat) : Int)) := by unfold CMulX; decide +kernel
        exact this ⟨j, hj⟩
      refine ⟨rfl, _, rfl, _, rfl, _, _, rfl, rfl, cm, _, rfl, _, rfl, _, _, rfl, rfl, cm, _, _, rfl, rfl, _, rfl, nl, _, rfl, SqL.of e1', fun t ht => ?_⟩
      have ln : (nmN.map V.str).length = 20 := by rw [List.length_map, nmN_len]
      rw [show (2 : Int) * (0 + (j : Int)) = ((2 * j : Nat) : Int) by omega, show ((2 * j : Nat) : Int) + 2 = ((2 * j + 2 : Nat) : Int) by omega, cut_nat (by omega) (by omega), show 2 * j + 2 - 2 * j = 2 by omega, ← List.map_drop, ← List.map_take]
      have ntr : t ≠ rl := ne_of_none' ht et
      have hx : rowsN[j]? = some ((nmN.drop (2 * j)).take 2) := by
        unfold rowsN
        rw [List.getElem?_map, List.getElem?_range hj]
        rfl
      generalize (nmN.drop (2 * j)).take 2 = x at hx ⊢
      have t2 : Same G2 (upd G2 t (.lst (x.map V.str))) := Lb.Same.upd ht
      have lt : ts.length = (rowsN.take j).length := Paired.len pt
      rw [List.length_take] at lt
      refine ⟨_, t2 _ _ et, szlt (by rw [List.length_map]; omega), Lb.Same.updl (t1.trans t2) hrl, ts ++ [t], by rw [upd_same, List.map_append]; rfl, ?_, fun h => ?_⟩
      · have up : ∀ {b : Addr} {y : List Str}, b ≠ rl → RowL (upd G2 t (.lst (x.map V.str))) b y → RowL (upd (upd G2 t (.lst (x.map V.str))) rl (.lst (ts.map V.ref ++ [V.ref t]))) b y := fun {b y} n h => by
          unfold RowL at h ⊢
          rw [upd_ne n]
          exact h
        rw [← take_snoc hx]
        exact Paired.snoc (up ntr (show (upd G2 t _) t = _ from upd_same)) (paired_mem pt fun b y hb h => up (fun e => nt (e ▸ hb)) (t2 _ _ h))
      · rcases List.mem_append.mp h with h | h
        · exact nt h
        · exact ntr (List.mem_singleton.mp h).symm
    rintro H2 ⟨s2, ts, et, pt, _⟩
    rw [show rowsN.take (Int.toNat 10) = rowsN from List.take_of_length_le (by unfold rowsN; rw [List.length_map, List.length_range]; exact Nat.le_refl _)] at pt
    have S2 := s1.trans s2
    have g := rowsN_good
    obtain ⟨n1, n2, n3⟩ := good_RD (M := rowsN.map fun x => (false, x)) (d := .ls (RD (rowsN.map fun x => (false, x)))) (by rw [snd_false]; exact g) rfl
    rw [snd_false] at n1 n2
    have aR : At H2 (.ls (RD (rowsN.map fun x => (false, x)))) (.ref rl) := by simp only [At]; exact ⟨rl, _, rfl, et, ats_lists pt⟩
    refine ⟨_, rfl, make_okN aR n3 n1 fun H3 q s3 o3 _ => ?_⟩
    rw [n2] at o3
    have rw3 : RowsL H3 rl rowsN := RowsL.same ⟨ts, et, pt⟩ s3
    have S3 := S2.trans s3
    clear aR pt et e1 S2 s2 s3
    refine ⟨rfl, ?_⟩
    refine ⟨sz, fun va1 hva1 => ?_⟩
    generalize e_vH1 : upd _ va1 _ = vH1
    obtain ⟨vs1, vf1⟩ := al3 e_vH1 hva1
    clear e_vH1
    (try dsimp only at vf1)
    have vb1 : At vH1 (.ls [(.str "e")]) (.ref va1) := by
      simp only [At]
      exact ⟨va1, _, rfl, vf1, (ats_cons (by simp only [At]) ats_nil)⟩
    refine ⟨sz, fun va2 hva2 => ?_⟩
    generalize e_vH2 : upd _ va2 _ = vH2
    obtain ⟨vs2, vf2⟩ := al3 e_vH2 hva2
    clear e_vH2
    (try dsimp only at vf2)
    have vb1 := At.same vs2 _ _ vb1
    have vb2 : At vH2 (.ls [(.str "d"), (.str "a")]) (.ref va2) := by
      simp only [At]
      exact ⟨va2, _, rfl, vf2, (ats_cons (by simp only [At]) (ats_cons (by simp only [At]) ats_nil))⟩
    refine ⟨sz, fun va3 hva3 => ?_⟩
    generalize e_vH3 : upd _ va3 _ = vH3
    obtain ⟨vs3, vf3⟩ := al3 e_vH3 hva3
    clear e_vH3
    (try dsimp only at vf3)
    have vb1 := At.same vs3 _ _ vb1
    have vb2 := At.same vs3 _ _ vb2
    have vb3 : At vH3 (.tp [(.str "c")]) (.ref va3) := by
      simp only [At]
      exact ⟨va3, _, rfl, vf3, (ats_cons (by simp only [At]) ats_nil)⟩
    refine ⟨sz, fun va4 hva4 => ?_⟩
    generalize e_vH4 : upd _ va4 _ = vH4
    obtain ⟨vs4, vf4⟩ := al3 e_vH4 hva4
    clear e_vH4
    (try dsimp only at vf4)
    have vb1 := At.same vs4 _ _ vb1
    have vb2 := At.same vs4 _ _ vb2
    have vb3 := At.same vs4 _ _ vb3
    have vb4 : At vH4 (.ls [(.str "f")]) (.ref va4) := by
      simp only [At]
      exact ⟨va4, _, rfl, vf4, (ats_cons (by simp only [At]) ats_nil)⟩
    refine ⟨sz, fun va5 hva5 => ?_⟩
    generalize e_vH5 : upd _ va5 _ = vH5
    obtain ⟨vs5, vf5⟩ := al3 e_vH5 hva5
    clear e_vH5
    (try dsimp only at vf5)
    have vb1 := At.same vs5 _ _ vb1
    have vb2 := At.same vs5 _ _ vb2
    have vb3 := At.same vs5 _ _ vb3
    have vb4 := At.same vs5 _ _ vb4
    have vb5 : At vH5 (.ls [(.str "b")]) (.ref va5) := by
      simp only [At]
      exact ⟨va5, _, rfl, vf5, (ats_cons (by simp only [At]) ats_nil)⟩
    have A5 : Ats vH5 [(.ls [(.str "e")]), (.ls [(.str "d"), (.str "a")]), (.tp [(.str "c")]), (.ls [(.str "f")]), (.ls [(.str "b")])] [.ref va1, .ref va2, .ref va3, .ref va4, .ref va5] := (ats_cons vb1 (ats_cons vb2 (ats_cons vb3 (ats_cons vb4 (ats_cons vb5 ats_nil)))))
    have sv := ((((vs1.trans vs2).trans vs3).trans vs4).trans vs5)
    refine of_go (M := fiveM) (C := a.c_Order) (CI := a.c_InvalidLevels) A5 fiveM_good fun H5 q5 s5 o5 _ => ?_
    rw [five_srt] at o5
    have insq : ∀ {H' : Hp} {q : Addr} {L : List (List Str)} {p : Pl}, OrdAt a.c_Order H' q L p → ∃ dx D l, H' q = some (.ins a.c_Order dx (ordF D l)) := fun o => by
      obtain ⟨dx, D, l, ts, hq, _⟩ := id o
      exact ⟨dx, D, l, hq⟩
    obtain ⟨dx5, D5, l5, hq5⟩ := insq o5
    have z5 := fiveL_good.sz
    refine ⟨_, rfl, q5, dx5, _, rfl, hq5, q5, fiveL, _, rfl, o5, z5, fun H6 s6 => ⟨_, rfl, rfl, ?_⟩⟩
    rw [decide_eq_true (show V.str (txL fiveL) = V.str "e > a,d > c > f > b" by rw [five_tx])]
    refine ⟨_, rfl, iteF ?_⟩
    refine ⟨_, rfl, ?_⟩
    refine ⟨sz, fun xa1 hxa1 => ?_⟩
    generalize e_xH1 : upd _ xa1 _ = xH1
    obtain ⟨xs1, xf1⟩ := al3 e_xH1 hxa1
    clear e_xH1
    (try dsimp only at xf1)
    have xb1 : At xH1 (.ls [(.str "e")]) (.ref xa1) := by
      simp only [At]
      exact ⟨xa1, _, rfl, xf1, (ats_cons (by simp only [At]) ats_nil)⟩
    refine ⟨sz, fun xa2 hxa2 => ?_⟩
    generalize e_xH2 : upd _ xa2 _ = xH2
    obtain ⟨xs2, xf2⟩ := al3 e_xH2 hxa2
    clear e_xH2
    (try dsimp only at xf2)
    have xb1 := At.same xs2 _ _ xb1
    have xb2 : At xH2 (.ls [(.str "a"), (.str "d")]) (.ref xa2) := by
      simp only [At]
      exact ⟨xa2, _, rfl, xf2, (ats_cons (by simp only [At]) (ats_cons (by simp only [At]) ats_nil))⟩
    refine ⟨sz, fun xa3 hxa3 => ?_⟩
    generalize e_xH3 : upd _ xa3 _ = xH3
    obtain ⟨xs3, xf3⟩ := al3 e_xH3 hxa3
    clear e_xH3
    (try dsimp only at xf3)
    have xb1 := At.same xs3 _ _ xb1
    have xb2 := At.same xs3 _ _ xb2
    have xb3 : At xH3 (.ls [(.str "c")]) (.ref xa3) := by
      simp only [At]
      exact ⟨xa3, _, rfl, xf3, (ats_cons (by simp only [At]) ats_nil)⟩
    refine ⟨sz, fun xa4 hxa4 => ?_⟩
    generalize e_xH4 : upd _ xa4 _ = xH4
    obtain ⟨xs4, xf4⟩ := al3 e_xH4 hxa4
    clear e_xH4
    (try dsimp only at xf4)
    have xb1 := At.same xs4 _ _ xb1
    have xb2 := At.same xs4 _ _ xb2
    have xb3 := At.same xs4 _ _ xb3
    have xb4 : At xH4 (.ls [(.str "f")]) (.ref xa4) := by
      simp only [At]
      exact ⟨xa4, _, rfl, xf4, (ats_cons (by simp only [At]) ats_nil)⟩
    refine ⟨sz, fun xa5 hxa5 => ?_⟩
    generalize e_xH5 : upd _ xa5 _ = xH5
    obtain ⟨xs5, xf5⟩ := al3 e_xH5 hxa5
    clear e_xH5
    (try dsimp only at xf5)
    have xb1 := At.same xs5 _ _ xb1
    have xb2 := At.same xs5 _ _ xb2
    have xb3 := At.same xs5 _ _ xb3
    have xb4 := At.same xs5 _ _ xb4
    have xb5 : At xH5 (.ls [(.str "b")]) (.ref xa5) := by
      simp only [At]
      exact ⟨xa5, _, rfl, xf5, (ats_cons (by simp only [At]) ats_nil)⟩
    have A6 : Ats xH5 [(.ls [(.str "e")]), (.ls [(.str "a"), (.str "d")]), (.ls [(.str "c")]), (.ls [(.str "f")]), (.ls [(.str "b")])] [.ref xa1, .ref xa2, .ref xa3, .ref xa4, .ref xa5] := (ats_cons xb1 (ats_cons xb2 (ats_cons xb3 (ats_cons xb4 (ats_cons xb5 ats_nil)))))
    have sx := ((((xs1.trans xs2).trans xs3).trans xs4).trans xs5)
    refine ⟨sz, fun l7 hl7 => ?_⟩
    generalize e_H7 : upd _ l7 _ = H7
    obtain ⟨s7, f7⟩ := al3 e_H7 hl7
    clear e_H7
    (try dsimp only at f7)
    have a7 : At H7 (.ls (RD (fiveL.map fun x => (false, x)))) (.ref l7) := by simp only [At]; exact ⟨l7, _, rfl, f7, Ats.same s7 _ _ A6⟩
    obtain ⟨m1, m2, m3⟩ := good_RD (M := fiveL.map fun x => (false, x)) (d := .ls (RD (fiveL.map fun x => (false, x)))) (by rw [snd_false]; exact fiveL_good) rfl
    rw [snd_false] at m1 m2
    refine make_okN a7 m3 m1 fun H8 q8 s8 o8 _ => ?_
    rw [m2, five_srt2] at o8
    have s58 := s6.trans ((sx.trans s7).trans s8)
    obtain ⟨dx8, D8, l8, hq8⟩ := insq o8
    refine ⟨q5, dx5, _, _, rfl, s58 _ _ hq5, T.I.ty T.cl hq8, Inst.nSelf, q5, fiveL, _, .ref q8, rfl, o5.same s58, z5.nm, .inl ⟨q8, fiveL, _, rfl, o8, z5.nm, ?_⟩⟩
    rw [decide_eq_true rfl]
    refine ⟨_, rfl, _, rfl, iteF ?_⟩
    have s38 := (sv.trans s5).trans s58
    have S8 := S3.trans s38
    have o38 := o3.same s38
    have rw8 := rw3.same s38
    have pk := (plOk_R g.nd).srt
    have gL := g.srt
    refine ⟨_, rfl, _, rfl, q, rl, rowsN, plR 0 rowsN, rfl, o38, pk, rw8, g, fun H9 s9 => ⟨_, rfl, iteT ?_⟩⟩
    have o9 := o38.same s9
    obtain ⟨dx9, D9, l9, hq9⟩ := insq o9
    have rw9 := rw8.same s9
    refine ⟨_, rfl, q, dx9, _, rfl, hq9, ord_no D9 l9 (by decide +kernel) (by decide +kernel), q, rowsN.map srt, _, rfl, o9, gL, fun x hx => ?_, fun H10 q1 s10 o10 => ?_⟩
    · obtain ⟨y, _, rfl⟩ := List.mem_map.mp hx
      exact srt_srt y
    obtain ⟨as, ha, pa⟩ := rw9.same s10
    refine ⟨_, rfl, rl, _, rfl, SqL.of ha, fun rr hrr => ?_⟩
    rw [← List.map_reverse]
    generalize e_H11 : upd _ rr _ = H11
    obtain ⟨s11, f11⟩ := al3 e_H11 hrr
    clear e_H11
    (try dsimp only at f11)
    have o11 := o10.same s11
    rw [← List.map_reverse] at o11
    have gr : Good rowsN.reverse := g.perm (List.reverse_perm _)
    refine ⟨q1, rr, rowsN.reverse, _, rfl, o11, ?_, ⟨as.reverse, f11, Paired.imp (paired_rev pa) fun _ _ h => s11 _ _ h⟩, gr, fun H12 s12 => k H12 ((S8.trans s9).trans ((s10.trans s11).trans s12))⟩
    exact plOk_R gr.srt.nd
end
end K60

set_option Elab.async false
set_option linter.all false
set_option maxRecDepth 100000
set_option maxHeartbeats 4000000
namespace K60
open PySem L2 Lb
open C8 (pss_cut)
open LamX (ExtN CodeO Tabs TabB)
theorem sql_extN {K : PySem.W.Frag} {a : Addr} {H H1 : Hp} {xs : List V} (m : ExtN H H1) (h : SqL K H a xs) : SqL K H1 a xs :=
  h.elim (fun h => .inl (h.elim (fun h => .inl (m _ _ h fun _ z => nomatch z)) fun ⟨o, h⟩ => .inr ⟨o, m _ _ h fun _ z => nomatch z⟩)) fun h => .inr h
def sp_law (K : PySem.W.Frag) (a : Ad) : Sp := fun vs H Q _ => ∃ (sc : Addr) (ns : List Int), vs = [.ref sc] ∧ SqL K H sc (ns.map V.int) ∧ ns.length ≤ 63 ∧ Tabs (TL1 a) H ∧ ∀ H', Q (.bl true) H'
section
variable {P : Program} {w : World} {K : PySem.W.Frag} {mg : Str → Option Value} {base : Heap} {a : Ad}
theorem ok_law (T : Txt K mg a) (TB : TabB base mg a.cc_refused_right a.PP_refused_right) : FnG P w K mg base CX0 12 a.f_law a.d_law ["_law_script"] (sp_law K a) := by
  refine okG T.F_law sc_law (fun vs H Q E h => ?_) (fun cdv A outer s H vs Q E gu hr h => ?_)
  · obtain ⟨sc, ns, rfl, _⟩ := h
    rfl
  · obtain ⟨sc, ns, rfl, hS, hlen, tb, k⟩ := h
    refine ⟨_, (pss_cons (ps_for PassesOwn.never rfl (pi_range1 rfl T.b_range (pa_cons (pe_callB (call_max2 rfl) (by rfl) T.b_max (by decide +kernel) (pa_cons pe_int (pa_cons (pe_callB (call_min2 rfl) (by rfl) T.b_min (by decide +kernel) (pa_cons pe_int (pa_cons (pe_callB (call_lenK (K := K) rfl) (by rfl) T.b_len (by decide +kernel) (pa_cons (pv 0) pa_nil)) pa_nil))) pa_nil))) pa_nil)) (pg_name (i := 1) sc_law.nd rfl (by first | exact Or.inl rfl | exact Or.inr rfl)) (pss_one (ps_if (pt_not (pt_val (pe_callG (ok_right T TB) gu (hr.mono (by decide)) (by rfl) T.m_right T.F_right.kp (b_right T) .nil pass0 (pa_cons (pe_call (ok_pot T) (hr.mono (by decide)) (by rfl) T.m_pot T.F_pot.kp (b_pot T) .nil pass0 (pa_cons (pv 0) (pa_cons (pv 1) pa_nil))) pa_nil)))) (pss_one (ps_ret pe_bl)) pss_nil)))
 (pss_one (ps_ret (pe_call0G (ok_many_right T) gu (hr.mono (by decide)) (by rfl) T.m_many_right T.F_many_right.kp (b_many_right T) .nil pass0 )))), ?_⟩
    refine ⟨_, rfl, _, _, rfl, .inl hS, _, _, rfl, _, _, rfl, ?_⟩
    have hn : ∃ n : Nat, n ≤ 6 ∧ (if (if (((ns.map V.int).length : Nat) : Int) < 6 then (((ns.map V.int).length : Nat) : Int) else 6) > 1 then (if (((ns.map V.int).length : Nat) : Int) < 6 then (((ns.map V.int).length : Nat) : Int) else 6) else 1) = (n : Int) := by
      rw [List.length_map]
      refine ⟨(if (if ns.length < 6 then ns.length else 6) > 1 then (if ns.length < 6 then ns.length else 6) else 1), ?_, ?_⟩
      · split <;> (try split) <;> omega
      · split <;> split <;> (try split) <;> (try split) <;> omega
    obtain ⟨n, hn4, en⟩ := hn
    rw [en]
    refine ⟨_, rfl, (by omega), (by omega), ?_⟩
    rw [Int.toNat_natCast]
    refine for_range (fun i σ H' => ∃ u1, σ = [some (.ref sc), u1] ∧ ExtN H H' ∧ Tabs (TL1 a) H') ⟨_, rfl, fun _ _ e _ => e, tb⟩ ?_ ?_
    · rintro i σ H' hi ⟨u1, rfl, x1, tb1⟩
      refine ⟨_, rfl, _, rfl, sc, ns, i, by simp, sql_extN x1 hS, hlen, by omega, fun H2 p s2 hp pot => ?_⟩
      refine ⟨p, rfl, pot, tb1.ext s2, fun H3 m3 tb3 => ?_⟩
      have x3 : ExtN H' H3 := fun b o e t => m3.keep b o (ne_of_none e hp) (s2 _ _ e) t
      exact ⟨_, rfl, iteF ⟨_, rfl, x1.trans x3, tb3⟩⟩
    · rintro σ H' ⟨u1, rfl, x1, tb1⟩
      exact ⟨rfl, fun H2 s2 => k _⟩
end
end K60
namespace Lb
open PySem L2
theorem FnG.weak {P : Program} {w : World} {K : PySem.W.Frag} {mg : Str → Option Value} {base : Heap} {CX : CXT} {k : Nat} {f : Addr} {fd : FuncData} {ps : List Str} {sp sq : Sp} (F : FnG P w K mg base CX k f fd ps sp) (h : ∀ vs H Q E, sq vs H Q E → sp vs H Q E) : FnG P w K mg base CX k f fd ps sq :=
  ⟨fun vs H Q E q => F.len vs H Q E (h _ _ _ _ q), fun A outer s H args us vs Q E g hr e0 hb r q => F.run A outer s H args us vs Q E g hr e0 hb r (h _ _ _ _ q)⟩
end Lb
namespace K60
open PySem L2 Lb
def spL (K : PySem.W.Frag) (cs : List (Addr × Addr)) : Sp := fun vs H Q _ => ∃ (sc : Addr) (ns : List Int), vs = [.ref sc] ∧ SqL K H sc (ns.map V.int) ∧ ns.length ≤ 63 ∧ (∀ p ∈ cs, H p.2 = some (.tbl #[])) ∧ ∀ H', Q (.bl true) H'
theorem law_imp {P : Program} {w : World} {K : PySem.W.Frag} {mg : Str → Option Value} {base : Heap} {a : Ad} {f : Addr} {fd : FuncData} {c1 : Addr} (F : FnG P w K mg base CX0 12 f fd ["_law_script"] (sp_law K a)) : FnG P w K mg base CX0 12 f fd ["_law_script"] (spL K [(c1, a.PP_refused_right)]) :=
  FnG.weak F fun vs H Q E ⟨sc, ns, e, hS, hl, hT, q⟩ => ⟨sc, ns, e, hS, hl, fun p hp => by
    rw [List.mem_singleton.mp hp]
    exact LamX.TabS.nil (hT _ List.mem_cons_self), q⟩
end K60

set_option Elab.async false
set_option linter.all false
set_option maxRecDepth 100000
namespace K60
open PySem L2 Lb
set_option maxHeartbeats 0 in
theorem all_mk {l : PySem.W.OpenLaw} {w : World} {K : PySem.W.Frag} {h : Heap} {mg : Str → Option Value} (X : K.In h) (G : h.Ns mainGlobals mg) {fa : Addr} (hfa : mg "law" = some (.ref fa))
    {c_Order : Addr}
    {c_InvalidLevels : Addr}
    {c_UnknownNode : Addr}
    {c_PipeError : Addr}
    {c_MissingError : Addr}
    {c_InvalidOrder : Addr}
    {cc_refused_right : Addr}
    {PP_refused_right : Addr}
    {p_nodes : Addr}
    {p_of : Addr}
    {f_InvalidLevels_init_ : Addr} {od_0 an_0 : Option Addr} {sl_0 : Array (Option Value)} {oc_0 kV_0 dc_0 pm_0 cd_0 ct_0 : Value}
    {f_UnknownNode_init_ : Addr} {od_1 an_1 : Option Addr} {sl_1 : Array (Option Value)} {oc_1 kV_1 dc_1 pm_1 cd_1 ct_1 : Value}
    {f_is_name : Addr} {od_2 an_2 : Option Addr} {sl_2 : Array (Option Value)} {oc_2 kV_2 dc_2 pm_2 cd_2 ct_2 : Value}
    {f_is_level : Addr} {od_3 an_3 : Option Addr} {sl_3 : Array (Option Value)} {oc_3 kV_3 dc_3 pm_3 cd_3 ct_3 : Value}
    {f_places_of : Addr} {od_4 an_4 : Option Addr} {sl_4 : Array (Option Value)} {oc_4 kV_4 dc_4 pm_4 cd_4 ct_4 : Value}
    {f_Order_init_ : Addr} {od_5 an_5 : Option Addr} {sl_5 : Array (Option Value)} {oc_5 kV_5 dc_5 pm_5 cd_5 ct_5 : Value}
    {f_Orderof : Addr} {od_6 an_6 : Option Addr} {sl_6 : Array (Option Value)} {oc_6 kV_6 dc_6 pm_6 cd_6 ct_6 : Value}
    {rest_6 : List Value}
    {f_Ordernodes : Addr} {od_7 an_7 : Option Addr} {sl_7 : Array (Option Value)} {oc_7 kV_7 dc_7 pm_7 cd_7 ct_7 : Value}
    {rest_7 : List Value}
    {f_Orderlevels : Addr} {od_8 an_8 : Option Addr} {sl_8 : Array (Option Value)} {oc_8 kV_8 dc_8 pm_8 cd_8 ct_8 : Value}
    {f_Order_iter_ : Addr} {od_9 an_9 : Option Addr} {sl_9 : Array (Option Value)} {oc_9 kV_9 dc_9 pm_9 cd_9 ct_9 : Value}
    {f_Order_len_ : Addr} {od_10 an_10 : Option Addr} {sl_10 : Array (Option Value)} {oc_10 kV_10 dc_10 pm_10 cd_10 ct_10 : Value}
    {f_Order_contains_ : Addr} {od_11 an_11 : Option Addr} {sl_11 : Array (Option Value)} {oc_11 kV_11 dc_11 pm_11 cd_11 ct_11 : Value}
    {f_Order_getitem_ : Addr} {od_12 an_12 : Option Addr} {sl_12 : Array (Option Value)} {oc_12 kV_12 dc_12 pm_12 cd_12 ct_12 : Value}
    {f_Order_eq_ : Addr} {od_13 an_13 : Option Addr} {sl_13 : Array (Option Value)} {oc_13 kV_13 dc_13 pm_13 cd_13 ct_13 : Value}
    {f_Order_str_ : Addr} {od_14 an_14 : Option Addr} {sl_14 : Array (Option Value)} {oc_14 kV_14 dc_14 pm_14 cd_14 ct_14 : Value}
    {f_Order_repr_ : Addr} {od_15 an_15 : Option Addr} {sl_15 : Array (Option Value)} {oc_15 kV_15 dc_15 pm_15 cd_15 ct_15 : Value}
    {f_Orderturned : Addr} {od_16 an_16 : Option Addr} {sl_16 : Array (Option Value)} {oc_16 kV_16 dc_16 pm_16 cd_16 ct_16 : Value}
    {f_pot : Addr} {od_17 an_17 : Option Addr} {sl_17 : Array (Option Value)} {oc_17 kV_17 dc_17 pm_17 cd_17 ct_17 : Value}
    {f_draw : Addr} {od_18 an_18 : Option Addr} {sl_18 : Array (Option Value)} {oc_18 kV_18 dc_18 pm_18 cd_18 ct_18 : Value}
    {f_choice : Addr} {od_19 an_19 : Option Addr} {sl_19 : Array (Option Value)} {oc_19 kV_19 dc_19 pm_19 cd_19 ct_19 : Value}
    {f_shuffled : Addr} {od_20 an_20 : Option Addr} {sl_20 : Array (Option Value)} {oc_20 kV_20 dc_20 pm_20 cd_20 ct_20 : Value}
    {f_names : Addr} {od_21 an_21 : Option Addr} {sl_21 : Array (Option Value)} {oc_21 kV_21 dc_21 pm_21 cd_21 ct_21 : Value}
    {f_levels : Addr} {od_22 an_22 : Option Addr} {sl_22 : Array (Option Value)} {oc_22 kV_22 dc_22 pm_22 cd_22 ct_22 : Value}
    {f_told : Addr} {od_23 an_23 : Option Addr} {sl_23 : Array (Option Value)} {oc_23 kV_23 dc_23 pm_23 cd_23 ct_23 : Value}
    {f_of : Addr} {od_24 an_24 : Option Addr} {sl_24 : Array (Option Value)} {oc_24 kV_24 dc_24 pm_24 cd_24 ct_24 : Value}
    {f_flat : Addr} {od_25 an_25 : Option Addr} {sl_25 : Array (Option Value)} {oc_25 kV_25 dc_25 pm_25 cd_25 ct_25 : Value}
    {f_walked_right : Addr} {od_26 an_26 : Option Addr} {sl_26 : Array (Option Value)} {oc_26 kV_26 dc_26 pm_26 cd_26 ct_26 : Value}
    {f_shown_right : Addr} {od_27 an_27 : Option Addr} {sl_27 : Array (Option Value)} {oc_27 kV_27 dc_27 pm_27 cd_27 ct_27 : Value}
    {f_other : Addr} {od_28 an_28 : Option Addr} {sl_28 : Array (Option Value)} {oc_28 kV_28 dc_28 pm_28 cd_28 ct_28 : Value}
    {f_wrong_level : Addr} {od_29 an_29 : Option Addr} {sl_29 : Array (Option Value)} {oc_29 kV_29 dc_29 pm_29 cd_29 ct_29 : Value}
    {f_refused_right : Addr} {od_30 an_30 : Option Addr} {sl_30 : Array (Option Value)} {oc_30 kV_30 dc_30 pm_30 ct_30 : Value}
    {f_right : Addr} {od_31 an_31 : Option Addr} {sl_31 : Array (Option Value)} {oc_31 kV_31 dc_31 pm_31 cd_31 ct_31 : Value}
    {f_many_right : Addr} {od_32 an_32 : Option Addr} {sl_32 : Array (Option Value)} {oc_32 kV_32 dc_32 pm_32 cd_32 ct_32 : Value}
    {f_law : Addr} {od_33 an_33 : Option Addr} {sl_33 : Array (Option Value)} {oc_33 kV_33 dc_33 pm_33 cd_33 ct_33 : Value}
    {tkLet : Tok}
    {tkLong : Tok}
    {nm_InvalidLevels qn_InvalidLevels : Str} {N_InvalidLevels : Addr} {bs_InvalidLevels : List Value} {sn_InvalidLevels : List Str} {su_InvalidLevels : List Value} {ab_InvalidLevels : Bool} {co_InvalidLevels : Option Bool} {dd_InvalidLevels : Option Addr} {m0_InvalidLevels m1_InvalidLevels m2_InvalidLevels m3_InvalidLevels m5_InvalidLevels : Option Value}
    {nm_UnknownNode qn_UnknownNode : Str} {N_UnknownNode : Addr} {bs_UnknownNode : List Value} {sn_UnknownNode : List Str} {su_UnknownNode : List Value} {ab_UnknownNode : Bool} {co_UnknownNode : Option Bool} {dd_UnknownNode : Option Addr} {m0_UnknownNode m1_UnknownNode m2_UnknownNode m3_UnknownNode m5_UnknownNode : Option Value}
    {qq : Program}
    {dd_refused_right : PySem.DefRec}
    (aC_Order : PySem.W.nsIn K mainGlobals "Order" = some (some (.ref c_Order)))
    (aC_InvalidLevels : PySem.W.nsIn K mainGlobals "InvalidLevels" = some (some (.ref c_InvalidLevels)))
    (aC_UnknownNode : PySem.W.nsIn K mainGlobals "UnknownNode" = some (some (.ref c_UnknownNode)))
    (aC_PipeError : PySem.W.nsIn K mainGlobals "PipeError" = some (some (.ref c_PipeError)))
    (aC_MissingError : PySem.W.nsIn K mainGlobals "MissingError" = some (some (.ref c_MissingError)))
    (aC_InvalidOrder : PySem.W.nsIn K mainGlobals "InvalidOrder" = some (some (.ref c_InvalidOrder)))
    (a_InvalidLevels_init_ : PySem.W.findIn K (.ref c_InvalidLevels) "__init__" = some (some (.ref f_InvalidLevels_init_)))
    (i_InvalidLevels_init_ : PySem.W.isFn K (.ref f_InvalidLevels_init_) = true)
    (l_InvalidLevels_init_ : K.lookup f_InvalidLevels_init_ = some ⟨oc_0, od_0, .func (PySem.W.fnOf "__init__" "InvalidLevels.__init__" (defArgs s_InvalidLevels_init_) (defBody s_InvalidLevels_init_) (defScope s_InvalidLevels_init_) .none kV_0 dc_0 pm_0 an_0 cd_0 ct_0), sl_0⟩)
    (k1_InvalidLevels_init_ : PySem.W.codeIn K cd_0 "InvalidLevels.__init__" = true)
    (k2_InvalidLevels_init_ : PySem.W.keepIn K (.ref f_InvalidLevels_init_) = true)
    (a_UnknownNode_init_ : PySem.W.findIn K (.ref c_UnknownNode) "__init__" = some (some (.ref f_UnknownNode_init_)))
    (i_UnknownNode_init_ : PySem.W.isFn K (.ref f_UnknownNode_init_) = true)
    (l_UnknownNode_init_ : K.lookup f_UnknownNode_init_ = some ⟨oc_1, od_1, .func (PySem.W.fnOf "__init__" "UnknownNode.__init__" (defArgs s_UnknownNode_init_) (defBody s_UnknownNode_init_) (defScope s_UnknownNode_init_) .none kV_1 dc_1 pm_1 an_1 cd_1 ct_1), sl_1⟩)
    (k1_UnknownNode_init_ : PySem.W.codeIn K cd_1 "UnknownNode.__init__" = true)
    (k2_UnknownNode_init_ : PySem.W.keepIn K (.ref f_UnknownNode_init_) = true)
    (a_is_name : PySem.W.nsIn K mainGlobals "is_name" = some (some (.ref f_is_name)))
    (l_is_name : K.lookup f_is_name = some ⟨oc_2, od_2, .func (PySem.W.fnOf "is_name" "is_name" (defArgs s_is_name) (defBody s_is_name) (defScope s_is_name) .none kV_2 dc_2 pm_2 an_2 cd_2 ct_2), sl_2⟩)
    (k1_is_name : PySem.W.codeIn K cd_2 "is_name" = true)
    (k2_is_name : PySem.W.keepIn K (.ref f_is_name) = true)
    (a_is_level : PySem.W.nsIn K mainGlobals "_is_level" = some (some (.ref f_is_level)))
    (l_is_level : K.lookup f_is_level = some ⟨oc_3, od_3, .func (PySem.W.fnOf "_is_level" "_is_level" (defArgs s_is_level) (defBody s_is_level) (defScope s_is_level) .none kV_3 dc_3 pm_3 an_3 cd_3 ct_3), sl_3⟩)
    (k1_is_level : PySem.W.codeIn K cd_3 "_is_level" = true)
    (k2_is_level : PySem.W.keepIn K (.ref f_is_level) = true)
    (a_places_of : PySem.W.nsIn K mainGlobals "_places_of" = some (some (.ref f_places_of)))
    (l_places_of : K.lookup f_places_of = some ⟨oc_4, od_4, .func (PySem.W.fnOf "_places_of" "_places_of" (defArgs s_places_of) (defBody s_places_of) (defScope s_places_of) .none kV_4 dc_4 pm_4 an_4 cd_4 ct_4), sl_4⟩)
    (k1_places_of : PySem.W.codeIn K cd_4 "_places_of" = true)
    (k2_places_of : PySem.W.keepIn K (.ref f_places_of) = true)
    (a_Order_init_ : PySem.W.findIn K (.ref c_Order) "__init__" = some (some (.ref f_Order_init_)))
    (i_Order_init_ : PySem.W.isFn K (.ref f_Order_init_) = true)
    (l_Order_init_ : K.lookup f_Order_init_ = some ⟨oc_5, od_5, .func (PySem.W.fnOf "__init__" "Order.__init__" (defArgs s_Order_init_) (defBody s_Order_init_) (defScope s_Order_init_) .none kV_5 dc_5 pm_5 an_5 cd_5 ct_5), sl_5⟩)
    (k1_Order_init_ : PySem.W.codeIn K cd_5 "Order.__init__" = true)
    (k2_Order_init_ : PySem.W.keepIn K (.ref f_Order_init_) = true)
    (pa_Orderof : PySem.W.findCls K (.ref c_Order) (.type "type") "of" = some (.get (.builtin "staticmethod.__get__") (.ref p_of) .none (.ref c_Order)))
    (pr_Orderof : PySem.W.recIn K p_of "staticmethod" = some (.ref f_Orderof :: rest_6))
    (l_Orderof : K.lookup f_Orderof = some ⟨oc_6, od_6, .func (PySem.W.fnOf "of" "Order.of" (defArgs s_Orderof) (defBody s_Orderof) (defScope s_Orderof) .none kV_6 dc_6 pm_6 an_6 cd_6 ct_6), sl_6⟩)
    (k1_Orderof : PySem.W.codeIn K cd_6 "Order.of" = true)
    (k2_Orderof : PySem.W.keepIn K (.ref f_Orderof) = true)
    (pa_Ordernodes : PySem.W.findIn K (.ref c_Order) "nodes" = some (some (.ref p_nodes)))
    (pg_Ordernodes : PySem.W.specialIn K (.ref p_nodes) "__get__" = some (some (.builtin "property.__get__")))
    (pt_Ordernodes : PySem.W.takesIn K (.ref p_nodes) = some true)
    (pr_Ordernodes : PySem.W.recIn K p_nodes "property" = some (.ref f_Ordernodes :: rest_7))
    (l_Ordernodes : K.lookup f_Ordernodes = some ⟨oc_7, od_7, .func (PySem.W.fnOf "nodes" "Order.nodes" (defArgs s_Ordernodes) (defBody s_Ordernodes) (defScope s_Ordernodes) .none kV_7 dc_7 pm_7 an_7 cd_7 ct_7), sl_7⟩)
    (k1_Ordernodes : PySem.W.codeIn K cd_7 "Order.nodes" = true)
    (k2_Ordernodes : PySem.W.keepIn K (.ref f_Ordernodes) = true)
    (a_Orderlevels : PySem.W.findIn K (.ref c_Order) "levels" = some (some (.ref f_Orderlevels)))
    (i_Orderlevels : PySem.W.isFn K (.ref f_Orderlevels) = true)
    (l_Orderlevels : K.lookup f_Orderlevels = some ⟨oc_8, od_8, .func (PySem.W.fnOf "levels" "Order.levels" (defArgs s_Orderlevels) (defBody s_Orderlevels) (defScope s_Orderlevels) .none kV_8 dc_8 pm_8 an_8 cd_8 ct_8), sl_8⟩)
    (k1_Orderlevels : PySem.W.codeIn K cd_8 "Order.levels" = true)
    (k2_Orderlevels : PySem.W.keepIn K (.ref f_Orderlevels) = true)
    (a_Order_iter_ : PySem.W.findIn K (.ref c_Order) "__iter__" = some (some (.ref f_Order_iter_)))
    (i_Order_iter_ : PySem.W.isFn K (.ref f_Order_iter_) = true)
    (l_Order_iter_ : K.lookup f_Order_iter_ = some ⟨oc_9, od_9, .func (PySem.W.fnOf "__iter__" "Order.__iter__" (defArgs s_Order_iter_) (defBody s_Order_iter_) (defScope s_Order_iter_) .none kV_9 dc_9 pm_9 an_9 cd_9 ct_9), sl_9⟩)
    (k1_Order_iter_ : PySem.W.codeIn K cd_9 "Order.__iter__" = true)
    (k2_Order_iter_ : PySem.W.keepIn K (.ref f_Order_iter_) = true)
    (a_Order_len_ : PySem.W.findIn K (.ref c_Order) "__len__" = some (some (.ref f_Order_len_)))
    (i_Order_len_ : PySem.W.isFn K (.ref f_Order_len_) = true)
    (l_Order_len_ : K.lookup f_Order_len_ = some ⟨oc_10, od_10, .func (PySem.W.fnOf "__len__" "Order.__len__" (defArgs s_Order_len_) (defBody s_Order_len_) (defScope s_Order_len_) .none kV_10 dc_10 pm_10 an_10 cd_10 ct_10), sl_10⟩)
    (k1_Order_len_ : PySem.W.codeIn K cd_10 "Order.__len__" = true)
    (k2_Order_len_ : PySem.W.keepIn K (.ref f_Order_len_) = true)
    (a_Order_contains_ : PySem.W.findIn K (.ref c_Order) "__contains__" = some (some (.ref f_Order_contains_)))
    (i_Order_contains_ : PySem.W.isFn K (.ref f_Order_contains_) = true)
    (l_Order_contains_ : K.lookup f_Order_contains_ = some ⟨oc_11, od_11, .func (PySem.W.fnOf "__contains__" "Order.__contains__" (defArgs s_Order_contains_) (defBody s_Order_contains_) (defScope s_Order_contains_) .none kV_11 dc_11 pm_11 an_11 cd_11 ct_11), sl_11⟩)
    (k1_Order_contains_ : PySem.W.codeIn K cd_11 "Order.__contains__" = true)
    (k2_Order_contains_ : PySem.W.keepIn K (.ref f_Order_contains_) = true)
    (a_Order_getitem_ : PySem.W.findIn K (.ref c_Order) "__getitem__" = some (some (.ref f_Order_getitem_)))
    (i_Order_getitem_ : PySem.W.isFn K (.ref f_Order_getitem_) = true)
    (l_Order_getitem_ : K.lookup f_Order_getitem_ = some ⟨oc_12, od_12, .func (PySem.W.fnOf "__getitem__" "Order.__getitem__" (defArgs s_Order_getitem_) (defBody s_Order_getitem_) (defScope s_Order_getitem_) .none kV_12 dc_12 pm_12 an_12 cd_12 ct_12), sl_12⟩)
    (k1_Order_getitem_ : PySem.W.codeIn K cd_12 "Order.__getitem__" = true)
    (k2_Order_getitem_ : PySem.W.keepIn K (.ref f_Order_getitem_) = true)
    (a_Order_eq_ : PySem.W.findIn K (.ref c_Order) "__eq__" = some (some (.ref f_Order_eq_)))
    (i_Order_eq_ : PySem.W.isFn K (.ref f_Order_eq_) = true)
    (l_Order_eq_ : K.lookup f_Order_eq_ = some ⟨oc_13, od_13, .func (PySem.W.fnOf "__eq__" "Order.__eq__" (defArgs s_Order_eq_) (defBody s_Order_eq_) (defScope s_Order_eq_) .none kV_13 dc_13 pm_13 an_13 cd_13 ct_13), sl_13⟩)
    (k1_Order_eq_ : PySem.W.codeIn K cd_13 "Order.__eq__" = true)
    (k2_Order_eq_ : PySem.W.keepIn K (.ref f_Order_eq_) = true)
    (a_Order_str_ : PySem.W.findIn K (.ref c_Order) "__str__" = some (some (.ref f_Order_str_)))
    (i_Order_str_ : PySem.W.isFn K (.ref f_Order_str_) = true)
    (l_Order_str_ : K.lookup f_Order_str_ = some ⟨oc_14, od_14, .func (PySem.W.fnOf "__str__" "Order.__str__" (defArgs s_Order_str_) (defBody s_Order_str_) (defScope s_Order_str_) .none kV_14 dc_14 pm_14 an_14 cd_14 ct_14), sl_14⟩)
    (k1_Order_str_ : PySem.W.codeIn K cd_14 "Order.__str__" = true)
    (k2_Order_str_ : PySem.W.keepIn K (.ref f_Order_str_) = true)
    (a_Order_repr_ : PySem.W.findIn K (.ref c_Order) "__repr__" = some (some (.ref f_Order_repr_)))
    (i_Order_repr_ : PySem.W.isFn K (.ref f_Order_repr_) = true)
    (l_Order_repr_ : K.lookup f_Order_repr_ = some ⟨oc_15, od_15, .func (PySem.W.fnOf "__repr__" "Order.__repr__" (defArgs s_Order_repr_) (defBody s_Order_repr_) (defScope s_Order_repr_) .none kV_15 dc_15 pm_15 an_15 cd_15 ct_15), sl_15⟩)
    (k1_Order_repr_ : PySem.W.codeIn K cd_15 "Order.__repr__" = true)
    (k2_Order_repr_ : PySem.W.keepIn K (.ref f_Order_repr_) = true)
    (a_Orderturned : PySem.W.findIn K (.ref c_Order) "turned" = some (some (.ref f_Orderturned)))
    (i_Orderturned : PySem.W.isFn K (.ref f_Orderturned) = true)
    (l_Orderturned : K.lookup f_Orderturned = some ⟨oc_16, od_16, .func (PySem.W.fnOf "turned" "Order.turned" (defArgs s_Orderturned) (defBody s_Orderturned) (defScope s_Orderturned) .none kV_16 dc_16 pm_16 an_16 cd_16 ct_16), sl_16⟩)
    (k1_Orderturned : PySem.W.codeIn K cd_16 "Order.turned" = true)
    (k2_Orderturned : PySem.W.keepIn K (.ref f_Orderturned) = true)
    (a_pot : PySem.W.nsIn K mainGlobals "_law_pot" = some (some (.ref f_pot)))
    (l_pot : K.lookup f_pot = some ⟨oc_17, od_17, .func (PySem.W.fnOf "_law_pot" "_law_pot" (defArgs s_pot) (defBody s_pot) (defScope s_pot) .none kV_17 dc_17 pm_17 an_17 cd_17 ct_17), sl_17⟩)
    (k1_pot : PySem.W.codeIn K cd_17 "_law_pot" = true)
    (k2_pot : PySem.W.keepIn K (.ref f_pot) = true)
    (a_draw : PySem.W.nsIn K mainGlobals "_law_draw" = some (some (.ref f_draw)))
    (l_draw : K.lookup f_draw = some ⟨oc_18, od_18, .func (PySem.W.fnOf "_law_draw" "_law_draw" (defArgs s_draw) (defBody s_draw) (defScope s_draw) .none kV_18 dc_18 pm_18 an_18 cd_18 ct_18), sl_18⟩)
    (k1_draw : PySem.W.codeIn K cd_18 "_law_draw" = true)
    (k2_draw : PySem.W.keepIn K (.ref f_draw) = true)
    (a_choice : PySem.W.nsIn K mainGlobals "_law_choice" = some (some (.ref f_choice)))
    (l_choice : K.lookup f_choice = some ⟨oc_19, od_19, .func (PySem.W.fnOf "_law_choice" "_law_choice" (defArgs s_choice) (defBody s_choice) (defScope s_choice) .none kV_19 dc_19 pm_19 an_19 cd_19 ct_19), sl_19⟩)
    (k1_choice : PySem.W.codeIn K cd_19 "_law_choice" = true)
    (k2_choice : PySem.W.keepIn K (.ref f_choice) = true)
    (a_shuffled : PySem.W.nsIn K mainGlobals "_law_shuffled" = some (some (.ref f_shuffled)))
    (l_shuffled : K.lookup f_shuffled = some ⟨oc_20, od_20, .func (PySem.W.fnOf "_law_shuffled" "_law_shuffled" (defArgs s_shuffled) (defBody s_shuffled) (defScope s_shuffled) .none kV_20 dc_20 pm_20 an_20 cd_20 ct_20), sl_20⟩)
    (k1_shuffled : PySem.W.codeIn K cd_20 "_law_shuffled" = true)
    (k2_shuffled : PySem.W.keepIn K (.ref f_shuffled) = true)
    (a_names : PySem.W.nsIn K mainGlobals "_law_names" = some (some (.ref f_names)))
    (l_names : K.lookup f_names = some ⟨oc_21, od_21, .func (PySem.W.fnOf "_law_names" "_law_names" (defArgs s_names) (defBody s_names) (defScope s_names) .none kV_21 dc_21 pm_21 an_21 cd_21 ct_21), sl_21⟩)
    (k1_names : PySem.W.codeIn K cd_21 "_law_names" = true)
    (k2_names : PySem.W.keepIn K (.ref f_names) = true)
    (a_levels : PySem.W.nsIn K mainGlobals "_law_levels" = some (some (.ref f_levels)))
    (l_levels : K.lookup f_levels = some ⟨oc_22, od_22, .func (PySem.W.fnOf "_law_levels" "_law_levels" (defArgs s_levels) (defBody s_levels) (defScope s_levels) .none kV_22 dc_22 pm_22 an_22 cd_22 ct_22), sl_22⟩)
    (k1_levels : PySem.W.codeIn K cd_22 "_law_levels" = true)
    (k2_levels : PySem.W.keepIn K (.ref f_levels) = true)
    (a_told : PySem.W.nsIn K mainGlobals "_law_told" = some (some (.ref f_told)))
    (l_told : K.lookup f_told = some ⟨oc_23, od_23, .func (PySem.W.fnOf "_law_told" "_law_told" (defArgs s_told) (defBody s_told) (defScope s_told) .none kV_23 dc_23 pm_23 an_23 cd_23 ct_23), sl_23⟩)
    (k1_told : PySem.W.codeIn K cd_23 "_law_told" = true)
    (k2_told : PySem.W.keepIn K (.ref f_told) = true)
    (a_of : PySem.W.nsIn K mainGlobals "_law_of" = some (some (.ref f_of)))
    (l_of : K.lookup f_of = some ⟨oc_24, od_24, .func (PySem.W.fnOf "_law_of" "_law_of" (defArgs s_of) (defBody s_of) (defScope s_of) .none kV_24 dc_24 pm_24 an_24 cd_24 ct_24), sl_24⟩)
    (k1_of : PySem.W.codeIn K cd_24 "_law_of" = true)
    (k2_of : PySem.W.keepIn K (.ref f_of) = true)
    (a_flat : PySem.W.nsIn K mainGlobals "_law_flat" = some (some (.ref f_flat)))
    (l_flat : K.lookup f_flat = some ⟨oc_25, od_25, .func (PySem.W.fnOf "_law_flat" "_law_flat" (defArgs s_flat) (defBody s_flat) (defScope s_flat) .none kV_25 dc_25 pm_25 an_25 cd_25 ct_25), sl_25⟩)
    (k1_flat : PySem.W.codeIn K cd_25 "_law_flat" = true)
    (k2_flat : PySem.W.keepIn K (.ref f_flat) = true)
    (a_walked_right : PySem.W.nsIn K mainGlobals "_law_walked_right" = some (some (.ref f_walked_right)))
    (l_walked_right : K.lookup f_walked_right = some ⟨oc_26, od_26, .func (PySem.W.fnOf "_law_walked_right" "_law_walked_right" (defArgs s_walked_right) (defBody s_walked_right) (defScope s_walked_right) .none kV_26 dc_26 pm_26 an_26 cd_26 ct_26), sl_26⟩)
    (k1_walked_right : PySem.W.codeIn K cd_26 "_law_walked_right" = true)
    (k2_walked_right : PySem.W.keepIn K (.ref f_walked_right) = true)
    (a_shown_right : PySem.W.nsIn K mainGlobals "_law_shown_right" = some (some (.ref f_shown_right)))
    (l_shown_right : K.lookup f_shown_right = some ⟨oc_27, od_27, .func (PySem.W.fnOf "_law_shown_right" "_law_shown_right" (defArgs s_shown_right) (defBody s_shown_right) (defScope s_shown_right) .none kV_27 dc_27 pm_27 an_27 cd_27 ct_27), sl_27⟩)
    (k1_shown_right : PySem.W.codeIn K cd_27 "_law_shown_right" = true)
    (k2_shown_right : PySem.W.keepIn K (.ref f_shown_right) = true)
    (a_other : PySem.W.nsIn K mainGlobals "_law_other" = some (some (.ref f_other)))
    (l_other : K.lookup f_other = some ⟨oc_28, od_28, .func (PySem.W.fnOf "_law_other" "_law_other" (defArgs s_other) (defBody s_other) (defScope s_other) .none kV_28 dc_28 pm_28 an_28 cd_28 ct_28), sl_28⟩)
    (k1_other : PySem.W.codeIn K cd_28 "_law_other" = true)
    (k2_other : PySem.W.keepIn K (.ref f_other) = true)
    (a_wrong_level : PySem.W.nsIn K mainGlobals "_law_wrong_level" = some (some (.ref f_wrong_level)))
    (l_wrong_level : K.lookup f_wrong_level = some ⟨oc_29, od_29, .func (PySem.W.fnOf "_law_wrong_level" "_law_wrong_level" (defArgs s_wrong_level) (defBody s_wrong_level) (defScope s_wrong_level) .none kV_29 dc_29 pm_29 an_29 cd_29 ct_29), sl_29⟩)
    (k1_wrong_level : PySem.W.codeIn K cd_29 "_law_wrong_level" = true)
    (k2_wrong_level : PySem.W.keepIn K (.ref f_wrong_level) = true)
    (a_refused_right : PySem.W.nsIn K mainGlobals "_law_refused_right" = some (some (.ref f_refused_right)))
    (l_refused_right : K.lookup f_refused_right = some ⟨oc_30, od_30, .func (PySem.W.fnOf "_law_refused_right" "_law_refused_right" (defArgs s_refused_right) (defBody s_refused_right) (defScope s_refused_right) .none kV_30 dc_30 pm_30 an_30 (.ref cc_refused_right) ct_30), sl_30⟩)
    (k1_refused_right : PySem.W.codeIn K (.ref cc_refused_right) "_law_refused_right" = true)
    (k2_refused_right : PySem.W.keepIn K (.ref f_refused_right) = true)
    (a_right : PySem.W.nsIn K mainGlobals "_law_right" = some (some (.ref f_right)))
    (l_right : K.lookup f_right = some ⟨oc_31, od_31, .func (PySem.W.fnOf "_law_right" "_law_right" (defArgs s_right) (defBody s_right) (defScope s_right) .none kV_31 dc_31 pm_31 an_31 cd_31 ct_31), sl_31⟩)
    (k1_right : PySem.W.codeIn K cd_31 "_law_right" = true)
    (k2_right : PySem.W.keepIn K (.ref f_right) = true)
    (a_many_right : PySem.W.nsIn K mainGlobals "_law_many_right" = some (some (.ref f_many_right)))
    (l_many_right : K.lookup f_many_right = some ⟨oc_32, od_32, .func (PySem.W.fnOf "_law_many_right" "_law_many_right" (defArgs s_many_right) (defBody s_many_right) (defScope s_many_right) .none kV_32 dc_32 pm_32 an_32 cd_32 ct_32), sl_32⟩)
    (k1_many_right : PySem.W.codeIn K cd_32 "_law_many_right" = true)
    (k2_many_right : PySem.W.keepIn K (.ref f_many_right) = true)
    (a_law : PySem.W.nsIn K mainGlobals "law" = some (some (.ref f_law)))
    (l_law : K.lookup f_law = some ⟨oc_33, od_33, .func (PySem.W.fnOf "law" "law" (defArgs s_law) (defBody s_law) (defScope s_law) .none kV_33 dc_33 pm_33 an_33 cd_33 ct_33), sl_33⟩)
    (k1_law : PySem.W.codeIn K cd_33 "law" = true)
    (k2_law : PySem.W.keepIn K (.ref f_law) = true)
    (pgA : PySem.W.plainGet K c_Order Str.empty = true)
    (hdA : PySem.W.hasDictIn K c_Order = true)
    (poA : PySem.W.plainOver K c_Order = true)
    (saA : PySem.W.findIn K (.ref c_Order) "__setattr__" = some (some (.builtin "object.__setattr__")))
    (nLA : PySem.W.findIn K (.ref c_Order) "_levels" = some none)
    (nPA : PySem.W.findIn K (.ref c_Order) "_places" = some none)
    (mkA_ : PySem.W.makesIn K c_Order = true)
    (kcA : PySem.W.keepIn K (.ref c_Order) = true)
    (ca_ : PySem.W.findIn K (.ref c_Order) "__class__" = some (some (.builtin "object.__class__")))
    (cn_ : PySem.W.specialIn K (.builtin "object.__class__") "__get__" = some (some (.builtin "getset_descriptor.__get__")))
    (ct_ : PySem.W.takesIn K (.builtin "object.__class__") = some true)
    (cm_ : PySem.W.mroIn K c_Order (.type "object") = some true)
    (ic_ : PySem.W.isClsIn K c_Order = true)
    (it_ : PySem.W.typeIn K (.ref c_Order) = some (.type "type"))
    (sb_NoneType : PySem.W.subIn K (.type "NoneType") (.ref c_Order) = some false)
    (sb_bool : PySem.W.subIn K (.type "bool") (.ref c_Order) = some false)
    (sb_int : PySem.W.subIn K (.type "int") (.ref c_Order) = some false)
    (sb_str : PySem.W.subIn K (.type "str") (.ref c_Order) = some false)
    (sb_list : PySem.W.subIn K (.type "list") (.ref c_Order) = some false)
    (sb_tuple : PySem.W.subIn K (.type "tuple") (.ref c_Order) = some false)
    (sb_dict : PySem.W.subIn K (.type "dict") (.ref c_Order) = some false)
    (let_ : PySem.W.nsIn K mainGlobals "LETTERS" = some (some (.str "abcdefghijklmnopqrstuvwxyz" tkLet)))
    (long_ : PySem.W.nsIn K mainGlobals "LONGEST_NAME" = some (some (.int 8 tkLong)))
    (nsq_ : PySem.W.noSeq K c_Order = true)
    (fg_ : PySem.W.fnIn K f_Order_getitem_ = true)
    (cr1_ : PySem.W.readsIn K c_Order (.type "type") = true)
    (cr2_ : PySem.W.specialIn K (.ref c_Order) "__getattribute__" = some (some (.builtin "type.__getattribute__")))
    (sS_ : PySem.W.subIn K (.ref c_Order) (.type "str") = some false)
    (cne_ : PySem.W.findIn K (.ref c_Order) "__ne__" = some (some (.builtin "object.__ne__")))
    (xL_InvalidLevels : K.lookup c_InvalidLevels = some (excClassObj nm_InvalidLevels qn_InvalidLevels c_InvalidLevels N_InvalidLevels bs_InvalidLevels [.ref c_PipeError, .type "ValueError", .type "Exception", .type "BaseException", .type "object"] true sn_InvalidLevels su_InvalidLevels ab_InvalidLevels co_InvalidLevels dd_InvalidLevels m0_InvalidLevels m1_InvalidLevels m2_InvalidLevels m3_InvalidLevels m5_InvalidLevels "ValueError.__new__"))
    (xsa_InvalidLevels : PySem.W.findIn K (.ref c_InvalidLevels) "__setattr__" = some (some (.builtin "object.__setattr__")))
    (xkC_InvalidLevels : PySem.W.keepIn K (.ref c_InvalidLevels) = true)
    (xga_InvalidLevels : PySem.W.findIn K (.ref c_InvalidLevels) "__getattribute__" = some (some (.builtin "BaseException.__getattribute__")))
    (xgg_InvalidLevels : PySem.W.findIn K (.ref c_InvalidLevels) "__getattr__" = some none)
    (xca_InvalidLevels : PySem.W.findIn K (.ref c_InvalidLevels) "__class__" = some (some (.builtin "object.__class__")))
    (xn_InvalidLevels : PySem.W.findIn K (.ref c_InvalidLevels) "position" = some none)
    (xL_UnknownNode : K.lookup c_UnknownNode = some (excClassObj nm_UnknownNode qn_UnknownNode c_UnknownNode N_UnknownNode bs_UnknownNode [.ref c_MissingError, .type "LookupError", .type "Exception", .type "BaseException", .type "object"] true sn_UnknownNode su_UnknownNode ab_UnknownNode co_UnknownNode dd_UnknownNode m0_UnknownNode m1_UnknownNode m2_UnknownNode m3_UnknownNode m5_UnknownNode "LookupError.__new__"))
    (xsa_UnknownNode : PySem.W.findIn K (.ref c_UnknownNode) "__setattr__" = some (some (.builtin "object.__setattr__")))
    (xkC_UnknownNode : PySem.W.keepIn K (.ref c_UnknownNode) = true)
    (xga_UnknownNode : PySem.W.findIn K (.ref c_UnknownNode) "__getattribute__" = some (some (.builtin "BaseException.__getattribute__")))
    (xgg_UnknownNode : PySem.W.findIn K (.ref c_UnknownNode) "__getattr__" = some none)
    (xca_UnknownNode : PySem.W.findIn K (.ref c_UnknownNode) "__class__" = some (some (.builtin "object.__class__")))
    (xn_UnknownNode : PySem.W.findIn K (.ref c_UnknownNode) "value" = some none)
    (qi_PipeError : PySem.W.isClsIn K c_PipeError = true)
    (qt_PipeError : PySem.W.typeIn K (.ref c_PipeError) = some (.type "type"))
    (qe_PipeError : PySem.W.subIn K (.ref c_PipeError) (.type "BaseException") = some true)
    (qi_MissingError : PySem.W.isClsIn K c_MissingError = true)
    (qt_MissingError : PySem.W.typeIn K (.ref c_MissingError) = some (.type "type"))
    (qe_MissingError : PySem.W.subIn K (.ref c_MissingError) (.type "BaseException") = some true)
    (qi_InvalidOrder : PySem.W.isClsIn K c_InvalidOrder = true)
    (qt_InvalidOrder : PySem.W.typeIn K (.ref c_InvalidOrder) = some (.type "type"))
    (qe_InvalidOrder : PySem.W.subIn K (.ref c_InvalidOrder) (.type "BaseException") = some true)
    (nd_ : List.Nodup [c_InvalidLevels, c_UnknownNode, c_PipeError, c_MissingError, c_InvalidOrder])
    (tb_refused_right : PySem.W.tabIn K "_law_refused_right" = some (cc_refused_right, PP_refused_right))
    (nk_refused_right : K.lookup PP_refused_right = none)
    (rc_refused_right : (PyProof.Rows.recsOf qq).find? (fun e => e.name == ("_law_refused_right" : Str)) = some dd_refused_right)
    (z_len : PySem.W.nsIn K mainGlobals "len" = some none)
    (z_abs : PySem.W.nsIn K mainGlobals "abs" = some none)
    (z_max : PySem.W.nsIn K mainGlobals "max" = some none)
    (z_min : PySem.W.nsIn K mainGlobals "min" = some none)
    (z_int : PySem.W.nsIn K mainGlobals "int" = some none)
    (z_divmod : PySem.W.nsIn K mainGlobals "divmod" = some none)
    (z_all : PySem.W.nsIn K mainGlobals "all" = some none)
    (z_any : PySem.W.nsIn K mainGlobals "any" = some none)
    (z_repr : PySem.W.nsIn K mainGlobals "repr" = some none)
    (z_isinstance : PySem.W.nsIn K mainGlobals "isinstance" = some none)
    (z_range : PySem.W.nsIn K mainGlobals "range" = some none)
    (z_enumerate : PySem.W.nsIn K mainGlobals "enumerate" = some none)
    (z_str : PySem.W.nsIn K mainGlobals "str" = some none)
    (z_list : PySem.W.nsIn K mainGlobals "list" = some none)
    (z_tuple : PySem.W.nsIn K mainGlobals "tuple" = some none)
    (z_dict : PySem.W.nsIn K mainGlobals "dict" = some none)
    (z_set : PySem.W.nsIn K mainGlobals "set" = some none)
    (z_sorted : PySem.W.nsIn K mainGlobals "sorted" = some none)
    (z_iter : PySem.W.nsIn K mainGlobals "iter" = some none) :
    ∃ (fd : FuncData) (cs : List (Addr × Addr)), (∀ p ∈ cs, ∃ (y : Str) (dd : PySem.DefRec), (PyProof.Rows.recsOf qq).find? (fun e => e.name == y) = some dd ∧ PySem.W.tabIn K y = some p) ∧ (∀ p ∈ cs, K.lookup p.2 = none) ∧
      (∀ (s : Shared) (u : Value), BindsTo s fd ⟨[u], []⟩ [("_law_script", u)]) ∧ ∀ base : Heap, K.In base → base.Ns mainGlobals mg → (∀ p ∈ cs, LamX.TabB base mg p.1 p.2) → FnG l.prog w K mg base CX0 12 fa fd ["_law_script"] (spL K cs) := by
  have e := (PySem.W.mg_of X G a_law).symm.trans hfa
  cases e
  have T : Txt K mg { f_InvalidLevels_init_ := f_InvalidLevels_init_, d_InvalidLevels_init_ := PySem.W.fnOf "__init__" "InvalidLevels.__init__" (defArgs s_InvalidLevels_init_) (defBody s_InvalidLevels_init_) (defScope s_InvalidLevels_init_) .none kV_0 dc_0 pm_0 an_0 cd_0 ct_0, f_UnknownNode_init_ := f_UnknownNode_init_, d_UnknownNode_init_ := PySem.W.fnOf "__init__" "UnknownNode.__init__" (defArgs s_UnknownNode_init_) (defBody s_UnknownNode_init_) (defScope s_UnknownNode_init_) .none kV_1 dc_1 pm_1 an_1 cd_1 ct_1, f_is_name := f_is_name, d_is_name := PySem.W.fnOf "is_name" "is_name" (defArgs s_is_name) (defBody s_is_name) (defScope s_is_name) .none kV_2 dc_2 pm_2 an_2 cd_2 ct_2, f_is_level := f_is_level, d_is_level := PySem.W.fnOf "_is_level" "_is_level" (defArgs s_is_level) (defBody s_is_level) (defScope s_is_level) .none kV_3 dc_3 pm_3 an_3 cd_3 ct_3, f_places_of := f_places_of, d_places_of := PySem.W.fnOf "_places_of" "_places_of" (defArgs s_places_of) (defBody s_places_of) (defScope s_places_of) .none kV_4 dc_4 pm_4 an_4 cd_4 ct_4, f_Order_init_ := f_Order_init_, d_Order_init_ := PySem.W.fnOf "__init__" "Order.__init__" (defArgs s_Order_init_) (defBody s_Order_init_) (defScope s_Order_init_) .none kV_5 dc_5 pm_5 an_5 cd_5 ct_5, f_Orderof := f_Orderof, d_Orderof := PySem.W.fnOf "of" "Order.of" (defArgs s_Orderof) (defBody s_Orderof) (defScope s_Orderof) .none kV_6 dc_6 pm_6 an_6 cd_6 ct_6, f_Ordernodes := f_Ordernodes, d_Ordernodes := PySem.W.fnOf "nodes" "Order.nodes" (defArgs s_Ordernodes) (defBody s_Ordernodes) (defScope s_Ordernodes) .none kV_7 dc_7 pm_7 an_7 cd_7 ct_7, f_Orderlevels := f_Orderlevels, d_Orderlevels := PySem.W.fnOf "levels" "Order.levels" (defArgs s_Orderlevels) (defBody s_Orderlevels) (defScope s_Orderlevels) .none kV_8 dc_8 pm_8 an_8 cd_8 ct_8, f_Order_iter_ := f_Order_iter_, d_Order_iter_ := PySem.W.fnOf "__iter__" "Order.__iter__" (defArgs s_Order_iter_) (defBody s_Order_iter_) (defScope s_Order_iter_) .none kV_9 dc_9 pm_9 an_9 cd_9 ct_9, f_Order_len_ := f_Order_len_, d_Order_len_ := PySem.W.fnOf "__len__" "Order.__len__" (defArgs s_Order_len_) (defBody s_Order_len_) (defScope s_Order_len_) .none kV_10 dc_10 pm_10 an_10 cd_10 ct_10, f_Order_contains_ := f_Order_contains_, d_Order_contains_ := PySem.W.fnOf "__contains__" "Order.__contains__" (defArgs s_Order_contains_) (defBody s_Order_contains_) (defScope s_Order_contains_) .none kV_11 dc_11 pm_11 an_11 cd_11 ct_11, f_Order_getitem_ := f_Order_getitem_, d_Order_getitem_ := PySem.W.fnOf "__getitem__" "Order.__getitem__" (defArgs s_Order_getitem_) (defBody s_Order_getitem_) (defScope s_Order_getitem_) .none kV_12 dc_12 pm_12 an_12 cd_12 ct_12, f_Order_eq_ := f_Order_eq_, d_Order_eq_ := PySem.W.fnOf "__eq__" "Order.__eq__" (defArgs s_Order_eq_) (defBody s_Order_eq_) (defScope s_Order_eq_) .none kV_13 dc_13 pm_13 an_13 cd_13 ct_13, f_Order_str_ := f_Order_str_, d_Order_str_ := PySem.W.fnOf "__str__" "Order.__str__" (defArgs s_Order_str_) (defBody s_Order_str_) (defScope s_Order_str_) .none kV_14 dc_14 pm_14 an_14 cd_14 ct_14, f_Order_repr_ := f_Order_repr_, d_Order_repr_ := PySem.W.fnOf "__repr__" "Order.__repr__" (defArgs s_Order_repr_) (defBody s_Order_repr_) (defScope s_Order_repr_) .none kV_15 dc_15 pm_15 an_15 cd_15 ct_15, f_Orderturned := f_Orderturned, d_Orderturned := PySem.W.fnOf "turned" "Order.turned" (defArgs s_Orderturned) (defBody s_Orderturned) (defScope s_Orderturned) .none kV_16 dc_16 pm_16 an_16 cd_16 ct_16, f_pot := f_pot, d_pot := PySem.W.fnOf "_law_pot" "_law_pot" (defArgs s_pot) (defBody s_pot) (defScope s_pot) .none kV_17 dc_17 pm_17 an_17 cd_17 ct_17, f_draw := f_draw, d_draw := PySem.W.fnOf "_law_draw" "_law_draw" (defArgs s_draw) (defBody s_draw) (defScope s_draw) .none kV_18 dc_18 pm_18 an_18 cd_18 ct_18, f_choice := f_choice, d_choice := PySem.W.fnOf "_law_choice" "_law_choice" (defArgs s_choice) (defBody s_choice) (defScope s_choice) .none kV_19 dc_19 pm_19 an_19 cd_19 ct_19, f_shuffled := f_shuffled, d_shuffled := PySem.W.fnOf "_law_shuffled" "_law_shuffled" (defArgs s_shuffled) (defBody s_shuffled) (defScope s_shuffled) .none kV_20 dc_20 pm_20 an_20 cd_20 ct_20, f_names := f_names, d_names := PySem.W.fnOf "_law_names" "_law_names" (defArgs s_names) (defBody s_names) (defScope s_names) .none kV_21 dc_21 pm_21 an_21 cd_21 ct_21, f_levels := f_levels, d_levels := PySem.W.fnOf "_law_levels" "_law_levels" (defArgs s_levels) (defBody s_levels) (defScope s_levels) .none kV_22 dc_22 pm_22 an_22 cd_22 ct_22, f_told := f_told, d_told := PySem.W.fnOf "_law_told" "_law_told" (defArgs s_told) (defBody s_told) (defScope s_told) .none kV_23 dc_23 pm_23 an_23 cd_23 ct_23, f_of := f_of, d_of := PySem.W.fnOf "_law_of" "_law_of" (defArgs s_of) (defBody s_of) (defScope s_of) .none kV_24 dc_24 pm_24 an_24 cd_24 ct_24, f_flat := f_flat, d_flat := PySem.W.fnOf "_law_flat" "_law_flat" (defArgs s_flat) (defBody s_flat) (defScope s_flat) .none kV_25 dc_25 pm_25 an_25 cd_25 ct_25, f_walked_right := f_walked_right, d_walked_right := PySem.W.fnOf "_law_walked_right" "_law_walked_right" (defArgs s_walked_right) (defBody s_walked_right) (defScope s_walked_right) .none kV_26 dc_26 pm_26 an_26 cd_26 ct_26, f_shown_right := f_shown_right, d_shown_right := PySem.W.fnOf "_law_shown_right" "_law_shown_right" (defArgs s_shown_right) (defBody s_shown_right) (defScope s_shown_right) .none kV_27 dc_27 pm_27 an_27 cd_27 ct_27, f_other := f_other, d_other := PySem.W.fnOf "_law_other" "_law_other" (defArgs s_other) (defBody s_other) (defScope s_other) .none kV_28 dc_28 pm_28 an_28 cd_28 ct_28, f_wrong_level := f_wrong_level, d_wrong_level := PySem.W.fnOf "_law_wrong_level" "_law_wrong_level" (defArgs s_wrong_level) (defBody s_wrong_level) (defScope s_wrong_level) .none kV_29 dc_29 pm_29 an_29 cd_29 ct_29, f_refused_right := f_refused_right, d_refused_right := PySem.W.fnOf "_law_refused_right" "_law_refused_right" (defArgs s_refused_right) (defBody s_refused_right) (defScope s_refused_right) .none kV_30 dc_30 pm_30 an_30 (.ref cc_refused_right) ct_30, f_right := f_right, d_right := PySem.W.fnOf "_law_right" "_law_right" (defArgs s_right) (defBody s_right) (defScope s_right) .none kV_31 dc_31 pm_31 an_31 cd_31 ct_31, f_many_right := f_many_right, d_many_right := PySem.W.fnOf "_law_many_right" "_law_many_right" (defArgs s_many_right) (defBody s_many_right) (defScope s_many_right) .none kV_32 dc_32 pm_32 an_32 cd_32 ct_32, f_law := fa, d_law := PySem.W.fnOf "law" "law" (defArgs s_law) (defBody s_law) (defScope s_law) .none kV_33 dc_33 pm_33 an_33 cd_33 ct_33, c_Order := c_Order, c_InvalidLevels := c_InvalidLevels, c_UnknownNode := c_UnknownNode, c_PipeError := c_PipeError, c_MissingError := c_MissingError, c_InvalidOrder := c_InvalidOrder, cc_refused_right := cc_refused_right, PP_refused_right := PP_refused_right, p_nodes := p_nodes, p_of := p_of } := {
    F_InvalidLevels_init_ := fun_mk (st := s_InvalidLevels_init_) l_InvalidLevels_init_ k1_InvalidLevels_init_ k2_InvalidLevels_init_,
    F_UnknownNode_init_ := fun_mk (st := s_UnknownNode_init_) l_UnknownNode_init_ k1_UnknownNode_init_ k2_UnknownNode_init_,
    F_is_name := fun_mk (st := s_is_name) l_is_name k1_is_name k2_is_name,
    m_is_name := PySem.W.mg_of X G a_is_name,
    F_is_level := fun_mk (st := s_is_level) l_is_level k1_is_level k2_is_level,
    m_is_level := PySem.W.mg_of X G a_is_level,
    F_places_of := fun_mk (st := s_places_of) l_places_of k1_places_of k2_places_of,
    m_places_of := PySem.W.mg_of X G a_places_of,
    F_Order_init_ := fun_mk (st := s_Order_init_) l_Order_init_ k1_Order_init_ k2_Order_init_,
    F_Orderof := fun_mk (st := s_Orderof) l_Orderof k1_Orderof k2_Orderof,
    F_Ordernodes := fun_mk (st := s_Ordernodes) l_Ordernodes k1_Ordernodes k2_Ordernodes,
    F_Orderlevels := fun_mk (st := s_Orderlevels) l_Orderlevels k1_Orderlevels k2_Orderlevels,
    F_Order_iter_ := fun_mk (st := s_Order_iter_) l_Order_iter_ k1_Order_iter_ k2_Order_iter_,
    F_Order_len_ := fun_mk (st := s_Order_len_) l_Order_len_ k1_Order_len_ k2_Order_len_,
    F_Order_contains_ := fun_mk (st := s_Order_contains_) l_Order_contains_ k1_Order_contains_ k2_Order_contains_,
    F_Order_getitem_ := fun_mk (st := s_Order_getitem_) l_Order_getitem_ k1_Order_getitem_ k2_Order_getitem_,
    F_Order_eq_ := fun_mk (st := s_Order_eq_) l_Order_eq_ k1_Order_eq_ k2_Order_eq_,
    F_Order_str_ := fun_mk (st := s_Order_str_) l_Order_str_ k1_Order_str_ k2_Order_str_,
    F_Order_repr_ := fun_mk (st := s_Order_repr_) l_Order_repr_ k1_Order_repr_ k2_Order_repr_,
    F_Orderturned := fun_mk (st := s_Orderturned) l_Orderturned k1_Orderturned k2_Orderturned,
    F_pot := fun_mk (st := s_pot) l_pot k1_pot k2_pot,
    m_pot := PySem.W.mg_of X G a_pot,
    F_draw := fun_mk (st := s_draw) l_draw k1_draw k2_draw,
    m_draw := PySem.W.mg_of X G a_draw,
    F_choice := fun_mk (st := s_choice) l_choice k1_choice k2_choice,
    m_choice := PySem.W.mg_of X G a_choice,
    F_shuffled := fun_mk (st := s_shuffled) l_shuffled k1_shuffled k2_shuffled,
    m_shuffled := PySem.W.mg_of X G a_shuffled,
    F_names := fun_mk (st := s_names) l_names k1_names k2_names,
    m_names := PySem.W.mg_of X G a_names,
    F_levels := fun_mk (st := s_levels) l_levels k1_levels k2_levels,
    m_levels := PySem.W.mg_of X G a_levels,
    F_told := fun_mk (st := s_told) l_told k1_told k2_told,
    m_told := PySem.W.mg_of X G a_told,
    F_of := fun_mk (st := s_of) l_of k1_of k2_of,
    m_of := PySem.W.mg_of X G a_of,
    F_flat := fun_mk (st := s_flat) l_flat k1_flat k2_flat,
    m_flat := PySem.W.mg_of X G a_flat,
    F_walked_right := fun_mk (st := s_walked_right) l_walked_right k1_walked_right k2_walked_right,
    m_walked_right := PySem.W.mg_of X G a_walked_right,
    F_shown_right := fun_mk (st := s_shown_right) l_shown_right k1_shown_right k2_shown_right,
    m_shown_right := PySem.W.mg_of X G a_shown_right,
    F_other := fun_mk (st := s_other) l_other k1_other k2_other,
    m_other := PySem.W.mg_of X G a_other,
    F_wrong_level := fun_mk (st := s_wrong_level) l_wrong_level k1_wrong_level k2_wrong_level,
    m_wrong_level := PySem.W.mg_of X G a_wrong_level,
    F_refused_right := fun_mk (st := s_refused_right) l_refused_right k1_refused_right k2_refused_right,
    m_refused_right := PySem.W.mg_of X G a_refused_right,
    F_right := fun_mk (st := s_right) l_right k1_right k2_right,
    m_right := PySem.W.mg_of X G a_right,
    F_many_right := fun_mk (st := s_many_right) l_many_right k1_many_right k2_many_right,
    m_many_right := PySem.W.mg_of X G a_many_right,
    F_law := fun_mk (st := s_law) l_law k1_law k2_law,
    m_law := PySem.W.mg_of X G a_law,
    cl := ⟨pgA, hdA, poA, saA⟩,
    nL := nLA,
    nP := nPA,
    mO := PySem.W.mg_of X G aC_Order,
    mkO := ⟨mkA_, a_Order_init_, i_Order_init_, kcA⟩,
    I := ⟨ca_, cn_, ct_, cm_, (kit_own ic_ it_ sb_NoneType).1, (kit_own ic_ it_ sb_bool).1, (kit_own ic_ it_ sb_int).1, (kit_own ic_ it_ sb_str).1, (kit_own ic_ it_ sb_list).1, (kit_own ic_ it_ sb_tuple).1, (kit_own ic_ it_ sb_dict).1, (kit_own ic_ it_ sb_NoneType).2, (kit_own ic_ it_ sb_bool).2, (kit_own ic_ it_ sb_int).2, (kit_own ic_ it_ sb_str).2, (kit_own ic_ it_ sb_list).2, (kit_own ic_ it_ sb_tuple).2, (kit_own ic_ it_ sb_dict).2⟩,
    gLet := ⟨tkLet, PySem.W.mg_of X G let_⟩,
    gLong := ⟨tkLong, PySem.W.mg_of X G long_⟩,
    pN := ⟨pa_Ordernodes, pg_Ordernodes, pt_Ordernodes, ⟨_, pr_Ordernodes⟩⟩,
    noSeq := nsq_,
    C_refused_right := rfl,
    cIt := ⟨a_Order_iter_, i_Order_iter_⟩,
    cLen := ⟨a_Order_len_, i_Order_len_⟩,
    cCon := ⟨a_Order_contains_, i_Order_contains_⟩,
    cGet := ⟨a_Order_getitem_, i_Order_getitem_⟩,
    cEq := ⟨a_Order_eq_, i_Order_eq_⟩,
    cSt := ⟨a_Order_str_, i_Order_str_⟩,
    cRe := ⟨a_Order_repr_, i_Order_repr_⟩,
    fGet := fg_,
    mLev := ⟨a_Orderlevels, i_Orderlevels, k2_Orderlevels⟩,
    mTu := ⟨a_Orderturned, i_Orderturned, k2_Orderturned⟩,
    cR := ⟨cr1_, cr2_⟩,
    sOf := ⟨it_, cr1_, cr2_, pa_Orderof, ⟨_, pr_Orderof⟩, k2_Orderof⟩,
    sS := sS_,
    cNe := cne_,
    bInvalidLevels := ⟨_, _, _, _, _, _, _, _, _, _, _, _, _, _, _, _, _, famVE, xL_InvalidLevels⟩,
    xInvalidLevels := ⟨PySem.W.mg_of X G aC_InvalidLevels, (show Lb.Abv K c_InvalidLevels c_PipeError Lb.veT from ⟨_, _, _, _, _, _, _, _, _, _, _, _, _, _, _, _, _, famVE, xL_InvalidLevels⟩).ox xsa_InvalidLevels xkC_InvalidLevels, ⟨xga_InvalidLevels, xgg_InvalidLevels, (show Lb.Abv K c_InvalidLevels c_PipeError Lb.veT from ⟨_, _, _, _, _, _, _, _, _, _, _, _, _, _, _, _, _, famVE, xL_InvalidLevels⟩).ex, (show Lb.Abv K c_InvalidLevels c_PipeError Lb.veT from ⟨_, _, _, _, _, _, _, _, _, _, _, _, _, _, _, _, _, famVE, xL_InvalidLevels⟩).hd, xca_InvalidLevels, cn_, ct_, (show Lb.Abv K c_InvalidLevels c_PipeError Lb.veT from ⟨_, _, _, _, _, _, _, _, _, _, _, _, _, _, _, _, _, famVE, xL_InvalidLevels⟩).mo⟩, a_InvalidLevels_init_, beq_iff_eq.mp i_InvalidLevels_init_⟩,
    nInvalidLevels := xn_InvalidLevels,
    bUnknownNode := ⟨_, _, _, _, _, _, _, _, _, _, _, _, _, _, _, _, _, famLE, xL_UnknownNode⟩,
    xUnknownNode := ⟨PySem.W.mg_of X G aC_UnknownNode, (show Lb.Abv K c_UnknownNode c_MissingError Lb.leT from ⟨_, _, _, _, _, _, _, _, _, _, _, _, _, _, _, _, _, famLE, xL_UnknownNode⟩).ox xsa_UnknownNode xkC_UnknownNode, ⟨xga_UnknownNode, xgg_UnknownNode, (show Lb.Abv K c_UnknownNode c_MissingError Lb.leT from ⟨_, _, _, _, _, _, _, _, _, _, _, _, _, _, _, _, _, famLE, xL_UnknownNode⟩).ex, (show Lb.Abv K c_UnknownNode c_MissingError Lb.leT from ⟨_, _, _, _, _, _, _, _, _, _, _, _, _, _, _, _, _, famLE, xL_UnknownNode⟩).hd, xca_UnknownNode, cn_, ct_, (show Lb.Abv K c_UnknownNode c_MissingError Lb.leT from ⟨_, _, _, _, _, _, _, _, _, _, _, _, _, _, _, _, _, famLE, xL_UnknownNode⟩).mo⟩, a_UnknownNode_init_, beq_iff_eq.mp i_UnknownNode_init_⟩,
    nUnknownNode := xn_UnknownNode,
    qPipeError := ⟨qi_PipeError, qt_PipeError, qe_PipeError⟩,
    mPipeError := PySem.W.mg_of X G aC_PipeError,
    qMissingError := ⟨qi_MissingError, qt_MissingError, qe_MissingError⟩,
    mMissingError := PySem.W.mg_of X G aC_MissingError,
    qInvalidOrder := ⟨qi_InvalidOrder, qt_InvalidOrder, qe_InvalidOrder⟩,
    mInvalidOrder := PySem.W.mg_of X G aC_InvalidOrder,
    nd := nd_,
    b_len := PySem.W.mg_none_of X G z_len,
    b_abs := PySem.W.mg_none_of X G z_abs,
    b_max := PySem.W.mg_none_of X G z_max,
    b_min := PySem.W.mg_none_of X G z_min,
    b_int := PySem.W.mg_none_of X G z_int,
    b_divmod := PySem.W.mg_none_of X G z_divmod,
    b_all := PySem.W.mg_none_of X G z_all,
    b_any := PySem.W.mg_none_of X G z_any,
    b_repr := PySem.W.mg_none_of X G z_repr,
    b_isinstance := PySem.W.mg_none_of X G z_isinstance,
    b_range := PySem.W.mg_none_of X G z_range,
    b_enumerate := PySem.W.mg_none_of X G z_enumerate,
    b_str := PySem.W.mg_none_of X G z_str,
    b_list := PySem.W.mg_none_of X G z_list,
    b_tuple := PySem.W.mg_none_of X G z_tuple,
    b_dict := PySem.W.mg_none_of X G z_dict,
    b_set := PySem.W.mg_none_of X G z_set,
    b_sorted := PySem.W.mg_none_of X G z_sorted,
    b_iter := PySem.W.mg_none_of X G z_iter }
  refine ⟨_, [(cc_refused_right, PP_refused_right)], (fun p hp => by
    simp only [List.mem_cons, List.not_mem_nil, or_false] at hp
    rcases hp with rfl
    · exact ⟨_, _, rc_refused_right, tb_refused_right⟩), (fun p hp => by
    simp only [List.mem_cons, List.not_mem_nil, or_false] at hp
    rcases hp with rfl
    · exact nk_refused_right), fun s v => (BindsTo.of_eq rfl : BindsTo s (PySem.W.fnOf "law" "law" (defArgs s_law) (defBody s_law) (defScope s_law) .none kV_33 dc_33 pm_33 an_33 cd_33 ct_33) ⟨[v], []⟩ [("_law_script", v)]), fun base _ _ TB => law_imp (ok_law T (TB _ List.mem_cons_self))⟩
theorem walk {l : PySem.W.OpenLaw} {q : Program} {loose : List Str} {XP : (Str → Option Value) → Heap → Prop} {YP : World → Heap → Prop} {d : PySem.DefRec} {K : Params → PySem.W.Frag} (hn : l.most = some 63) (hdf : d.params.defaults = [])
    (hY : ∀ (w : World) (h : Heap), YP w h → (K w.params).In h)
    (F : ∀ (w : World) (mg : Str → Option Value) (fa : Addr) (h : Heap), (K w.params).In h → h.Ns mainGlobals mg → mg d.name = some (.ref fa) →
      ∃ (fd : FuncData) (cs : List (Addr × Addr)), (∀ p ∈ cs, ∃ (y : Str) (dd : PySem.DefRec), (PyProof.Rows.recsOf q).find? (fun e => e.name == y) = some dd ∧ PySem.W.tabIn (K w.params) y = some p) ∧ (∀ p ∈ cs, (K w.params).lookup p.2 = none) ∧
        (∀ (s : Shared) (u : Value), BindsTo s fd ⟨[u], []⟩ [("_law_script", u)]) ∧
        ∀ base : Heap, (K w.params).In base → base.Ns mainGlobals mg → (∀ p ∈ cs, LamX.TabB base mg p.1 p.2) → FnG l.prog w (K w.params) mg base CX0 12 fa fd ["_law_script"] (spL (K w.params) cs)) :
    PySem.W.WalkO q loose XP YP l.row.toRowW d [] (fun f vs => PySem.call f vs) :=
  Lb.walkTG (n := 63) (k := 12) (x := "_law_script") (sp := fun K cs => spL K cs) hn (by decide) hdf ⟨rfl, by decide, by decide⟩ hY F (fun K cs H a ns hl hH hS => ⟨a, ns, rfl, hS, hl, hH, fun _ => rfl⟩)
end K60

open PySem PySem.W PyProof.Rows in
set_option maxRecDepth 100000 in
set_option maxHeartbeats 0 in
theorem PySem.Challenge.cw_surepipes_k60_orders_made_and_asked_holds : PySem.Challenge.rw_surepipes_k60_orders_made_and_asked.Holds := by
  w_on; o_law; k_head; (case hw => w_witness2)
  k_fill
  refine K60.walk (l := PySem.Challenge.rw_surepipes_k60_orders_made_and_asked) rfl rfl (fun w h Y => PySem.W.km_in_of Y) ?F
  case F =>
    intro w mg fa h KX G hmg
    refine' K60.all_mk KX G hmg ?aC_Order ?aC_InvalidLevels ?aC_UnknownNode ?aC_PipeError ?aC_MissingError ?aC_InvalidOrder ?a_InvalidLevels_init_ ?i_InvalidLevels_init_ ?l_InvalidLevels_init_ ?k1_InvalidLevels_init_ ?k2_InvalidLevels_init_ ?a_UnknownNode_init_ ?i_UnknownNode_init_ ?l_UnknownNode_init_ ?k1_UnknownNode_init_ ?k2_UnknownNode_init_ ?a_is_name ?l_is_name ?k1_is_name ?k2_is_name ?a_is_level ?l_is_level ?k1_is_level ?k2_is_level ?a_places_of ?l_places_of ?k1_places_of ?k2_places_of ?a_Order_init_ ?i_Order_init_ ?l_Order_init_ ?k1_Order_init_ ?k2_Order_init_ ?pa_Orderof ?pr_Orderof ?l_Orderof ?k1_Orderof ?k2_Orderof ?pa_Ordernodes ?pg_Ordernodes ?pt_Ordernodes ?pr_Ordernodes ?l_Ordernodes ?k1_Ordernodes ?k2_Ordernodes ?a_Orderlevels ?i_Orderlevels ?l_Orderlevels ?k1_Orderlevels ?k2_Orderlevels ?a_Order_iter_ ?i_Order_iter_ ?l_Order_iter_ ?k1_Order_iter_ ?k2_Order_iter_ ?a_Order_len_ ?i_Order_len_ ?l_Order_len_ ?k1_Order_len_ ?k2_Order_len_ ?a_Order_contains_ ?i_Order_contains_ ?l_Order_contains_ ?k1_Order_contains_ ?k2_Order_contains_ ?a_Order_getitem_ ?i_Order_getitem_ ?l_Order_getitem_ ?k1_Order_getitem_ ?k2_Order_getitem_ ?a_Order_eq_ ?i_Order_eq_ ?l_Order_eq_ ?k1_Order_eq_ ?k2_Order_eq_ ?a_Order_str_ ?i_Order_str_ ?l_Order_str_ ?k1_Order_str_ ?k2_Order_str_ ?a_Order_repr_ ?i_Order_repr_ ?l_Order_repr_ ?k1_Order_repr_ ?k2_Order_repr_ ?a_Orderturned ?i_Orderturned ?l_Orderturned ?k1_Orderturned ?k2_Orderturned ?a_pot ?l_pot ?k1_pot ?k2_pot ?a_draw ?l_draw ?k1_draw ?k2_draw ?a_choice ?l_choice ?k1_choice ?k2_choice ?a_shuffled ?l_shuffled ?k1_shuffled ?k2_shuffled ?a_names ?l_names ?k1_names ?k2_names ?a_levels ?l_levels ?k1_levels ?k2_levels ?a_told ?l_told ?k1_told ?k2_told ?a_of ?l_of ?k1_of ?k2_of ?a_flat ?l_flat ?k1_flat ?k2_flat ?a_walked_right ?l_walked_right ?k1_walked_right ?k2_walked_right ?a_shown_right ?l_shown_right ?k1_shown_right ?k2_shown_right ?a_other ?l_other ?k1_other ?k2_other ?a_wrong_level ?l_wrong_level ?k1_wrong_level ?k2_wrong_level ?a_refused_right ?l_refused_right ?k1_refused_right ?k2_refused_right ?a_right ?l_right ?k1_right ?k2_right ?a_many_right ?l_many_right ?k1_many_right ?k2_many_right ?a_law ?l_law ?k1_law ?k2_law ?pgA ?hdA ?poA ?saA ?nLA ?nPA ?mkA_ ?kcA ?ca_ ?cn_ ?ct_ ?cm_ ?ic_ ?it_ ?sb_NoneType ?sb_bool ?sb_int ?sb_str ?sb_list ?sb_tuple ?sb_dict ?let_ ?long_ ?nsq_ ?fg_ ?cr1_ ?cr2_ ?sS_ ?cne_ ?xL_InvalidLevels ?xsa_InvalidLevels ?xkC_InvalidLevels ?xga_InvalidLevels ?xgg_InvalidLevels ?xca_InvalidLevels ?xn_InvalidLevels ?xL_UnknownNode ?xsa_UnknownNode ?xkC_UnknownNode ?xga_UnknownNode ?xgg_UnknownNode ?xca_UnknownNode ?xn_UnknownNode ?qi_PipeError ?qt_PipeError ?qe_PipeError ?qi_MissingError ?qt_MissingError ?qe_MissingError ?qi_InvalidOrder ?qt_InvalidOrder ?qe_InvalidOrder ?nd_ ?tb_refused_right ?nk_refused_right ?rc_refused_right ?z_len ?z_abs ?z_max ?z_min ?z_int ?z_divmod ?z_all ?z_any ?z_repr ?z_isinstance ?z_range ?z_enumerate ?z_str ?z_list ?z_tuple ?z_dict ?z_set ?z_sorted ?z_iter
    (case aC_Order => k_is)
    (case aC_InvalidLevels => k_is)
    (case aC_UnknownNode => k_is)
    (case aC_PipeError => k_is)
    (case aC_MissingError => k_is)
    (case aC_InvalidOrder => k_is)
    (case a_InvalidLevels_init_ => k_is)
    (case i_InvalidLevels_init_ => k_is)
    (case l_InvalidLevels_init_ => k_is)
    (case k1_InvalidLevels_init_ => k_is)
    (case k2_InvalidLevels_init_ => k_is)
    (case a_UnknownNode_init_ => k_is)
    (case i_UnknownNode_init_ => k_is)
    (case l_UnknownNode_init_ => k_is)
    (case k1_UnknownNode_init_ => k_is)
    (case k2_UnknownNode_init_ => k_is)
    (case a_is_name => k_is)
    (case l_is_name => k_is)
    (case k1_is_name => k_is)
    (case k2_is_name => k_is)
    (case a_is_level => k_is)
    (case l_is_level => k_is)
    (case k1_is_level => k_is)
    (case k2_is_level => k_is)
    (case a_places_of => k_is)
    (case l_places_of => k_is)
    (case k1_places_of => k_is)
    (case k2_places_of => k_is)
    (case a_Order_init_ => k_is)
    (case i_Order_init_ => k_is)
    (case l_Order_init_ => k_is)
    (case k1_Order_init_ => k_is)
    (case k2_Order_init_ => k_is)
    (case pa_Orderof => k_is)
    (case pr_Orderof => k_is)
    (case l_Orderof => k_is)
    (case k1_Orderof => k_is)
    (case k2_Orderof => k_is)
    (case pa_Ordernodes => k_is)
    (case pg_Ordernodes => k_is)
    (case pt_Ordernodes => k_is)
    (case pr_Ordernodes => k_is)
    (case l_Ordernodes => k_is)
    (case k1_Ordernodes => k_is)
    (case k2_Ordernodes => k_is)
    (case a_Orderlevels => k_is)
    (case i_Orderlevels => k_is)
    (case l_Orderlevels => k_is)
    (case k1_Orderlevels => k_is)
    (case k2_Orderlevels => k_is)
    (case a_Order_iter_ => k_is)
    (case i_Order_iter_ => k_is)
    (case l_Order_iter_ => k_is)
    (case k1_Order_iter_ => k_is)
    (case k2_Order_iter_ => k_is)
    (case a_Order_len_ => k_is)
    (case i_Order_len_ => k_is)
    (case l_Order_len_ => k_is)
    (case k1_Order_len_ => k_is)
    (case k2_Order_len_ => k_is)
    (case a_Order_contains_ => k_is)
    (case i_Order_contains_ => k_is)
    (case l_Order_contains_ => k_is)
    (case k1_Order_contains_ => k_is)
    (case k2_Order_contains_ => k_is)
    (case a_Order_getitem_ => k_is)
    (case i_Order_getitem_ => k_is)
    (case l_Order_getitem_ => k_is)
    (case k1_Order_getitem_ => k_is)
    (case k2_Order_getitem_ => k_is)
    (case a_Order_eq_ => k_is)
    (case i_Order_eq_ => k_is)
    (case l_Order_eq_ => k_is)
    (case k1_Order_eq_ => k_is)
    (case k2_Order_eq_ => k_is)
    (case a_Order_str_ => k_is)
    (case i_Order_str_ => k_is)
    (case l_Order_str_ => k_is)
    (case k1_Order_str_ => k_is)
    (case k2_Order_str_ => k_is)
    (case a_Order_repr_ => k_is)
    (case i_Order_repr_ => k_is)
    (case l_Order_repr_ => k_is)
    (case k1_Order_repr_ => k_is)
    (case k2_Order_repr_ => k_is)
    (case a_Orderturned => k_is)
    (case i_Orderturned => k_is)
    (case l_Orderturned => k_is)
    (case k1_Orderturned => k_is)
    (case k2_Orderturned => k_is)
    (case a_pot => k_is)
    (case l_pot => k_is)
    (case k1_pot => k_is)
    (case k2_pot => k_is)
    (case a_draw => k_is)
    (case l_draw => k_is)
    (case k1_draw => k_is)
    (case k2_draw => k_is)
    (case a_choice => k_is)
    (case l_choice => k_is)
    (case k1_choice => k_is)
    (case k2_choice => k_is)
    (case a_shuffled => k_is)
    (case l_shuffled => k_is)
    (case k1_shuffled => k_is)
    (case k2_shuffled => k_is)
    (case a_names => k_is)
    (case l_names => k_is)
    (case k1_names => k_is)
    (case k2_names => k_is)
    (case a_levels => k_is)
    (case l_levels => k_is)
    (case k1_levels => k_is)
    (case k2_levels => k_is)
    (case a_told => k_is)
    (case l_told => k_is)
    (case k1_told => k_is)
    (case k2_told => k_is)
    (case a_of => k_is)
    (case l_of => k_is)
    (case k1_of => k_is)
    (case k2_of => k_is)
    (case a_flat => k_is)
    (case l_flat => k_is)
    (case k1_flat => k_is)
    (case k2_flat => k_is)
    (case a_walked_right => k_is)
    (case l_walked_right => k_is)
    (case k1_walked_right => k_is)
    (case k2_walked_right => k_is)
    (case a_shown_right => k_is)
    (case l_shown_right => k_is)
    (case k1_shown_right => k_is)
    (case k2_shown_right => k_is)
    (case a_other => k_is)
    (case l_other => k_is)
    (case k1_other => k_is)
    (case k2_other => k_is)
    (case a_wrong_level => k_is)
    (case l_wrong_level => k_is)
    (case k1_wrong_level => k_is)
    (case k2_wrong_level => k_is)
    (case a_refused_right => k_is)
    (case l_refused_right => k_is)
    (case k1_refused_right => k_is)
    (case k2_refused_right => k_is)
    (case a_right => k_is)
    (case l_right => k_is)
    (case k1_right => k_is)
    (case k2_right => k_is)
    (case a_many_right => k_is)
    (case l_many_right => k_is)
    (case k1_many_right => k_is)
    (case k2_many_right => k_is)
    (case a_law => k_is)
    (case l_law => k_is)
    (case k1_law => k_is)
    (case k2_law => k_is)
    (case pgA => k_is)
    (case hdA => k_is)
    (case poA => k_is)
    (case saA => k_is)
    (case nLA => k_is)
    (case nPA => k_is)
    (case mkA_ => k_is)
    (case kcA => k_is)
    (case ca_ => k_is)
    (case cn_ => k_is)
    (case ct_ => k_is)
    (case cm_ => k_is)
    (case ic_ => k_is)
    (case it_ => k_is)
    (case sb_NoneType => k_is)
    (case sb_bool => k_is)
    (case sb_int => k_is)
    (case sb_str => k_is)
    (case sb_list => k_is)
    (case sb_tuple => k_is)
    (case sb_dict => k_is)
    (case let_ => k_is)
    (case long_ => k_is)
    (case nsq_ => k_is)
    (case fg_ => k_is)
    (case cr1_ => k_is)
    (case cr2_ => k_is)
    (case sS_ => k_is)
    (case cne_ => k_is)
    (case xL_InvalidLevels => k_is)
    (case xsa_InvalidLevels => k_is)
    (case xkC_InvalidLevels => k_is)
    (case xga_InvalidLevels => k_is)
    (case xgg_InvalidLevels => k_is)
    (case xca_InvalidLevels => k_is)
    (case xn_InvalidLevels => k_is)
    (case xL_UnknownNode => k_is)
    (case xsa_UnknownNode => k_is)
    (case xkC_UnknownNode => k_is)
    (case xga_UnknownNode => k_is)
    (case xgg_UnknownNode => k_is)
    (case xca_UnknownNode => k_is)
    (case xn_UnknownNode => k_is)
    (case qi_PipeError => k_is)
    (case qt_PipeError => k_is)
    (case qe_PipeError => k_is)
    (case qi_MissingError => k_is)
    (case qt_MissingError => k_is)
    (case qe_MissingError => k_is)
    (case qi_InvalidOrder => k_is)
    (case qt_InvalidOrder => k_is)
    (case qe_InvalidOrder => k_is)
    (case nd_ => decide +kernel)
    (case tb_refused_right => first | k_is | exact rfl)
    (case nk_refused_right => first | k_is | exact rfl)
    (case rc_refused_right => exact rfl)
    (case z_len => k_is)
    (case z_abs => k_is)
    (case z_max => k_is)
    (case z_min => k_is)
    (case z_int => k_is)
    (case z_divmod => k_is)
    (case z_all => k_is)
    (case z_any => k_is)
    (case z_repr => k_is)
    (case z_isinstance => k_is)
    (case z_range => k_is)
    (case z_enumerate => k_is)
    (case z_str => k_is)
    (case z_list => k_is)
    (case z_tuple => k_is)
    (case z_dict => k_is)
    (case z_set => k_is)
    (case z_sorted => k_is)
    (case z_iter => k_is)
#print axioms PySem.Challenge.cw_surepipes_k60_orders_made_and_asked_holds

