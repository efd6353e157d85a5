import PyProof.Rows.All
import Wide.All
import OpenK.AllK
import Wide.FinOn
import HandS.ForMost
import HandS.OwnEq
import HandS.SlotsOwn
import HandS.Property
import HandS.Gcd
import HandS.WideBits
import HandS.Style
import HandS.FStr
import HandS.IsInst
import HandS.RaiseMore
import HandS.Codes
import HandS.Defaults
import KE.RegKCallOwn
import PyProof.ReprRoads
import HandS.ClsMeth
import HandS.Star
import HandS.MakeKwOnly
import HandS.MakeKw
import HandS.StrMore
import KE.GoesMore
import KE.GoesEnum
import HandS.Walk
import HandS.Zip
import KE.KDictZip
import HandS.TryOnly
import PySem.Challenge.RW_surepipes_k16_corners_and_equal_curves
set_option Elab.async false
set_option linter.all false
set_option maxRecDepth 100000
set_option maxHeartbeats 4000000
namespace Lb
open PySem PySem.Spec PyProof.Rows L2
open SlX (cmpback)

/-! own operators of plain instances -/
section
variable {X : Cx} {CX : CXT} {pins : List (Addr × Obj)} {σ : L2.St} {H : Hp} {s : Shared} {a C dx p g : Addr} {f : Str} {n : Nat} {sp : Sp} {E : XK} {v : V} {u : Value}

/-- what a comparison sees as the type of a value -/
theorem looks_ty {x : V} {u t : Value} (I : Inv X pins σ H s) (rx : RelV x u) (ty : TyOf X.K H x t) : PySem.W.Looks (model X.prog X.w) s.heap (typeOf u) t := by
  obtain ⟨P, k, hp, _⟩ := kit_of I rx (.base ty)
  exact k.ty _ _ I.kIn hp

/-- the instance as the library takes it -/
theorem inst_at {fs : List (Str × V)} (I : Inv X pins σ H s) (e : H a = some (.ins C dx fs)) : ∃ od, PySem.W.InstAt s.heap a (PySem.W.instObj C dx) C (some od) := by
  obtain ⟨mA, O, _⟩ := ins_get I.hok e
  obtain ⟨od, J, _⟩ := O.look
  exact ⟨od, J⟩

/-- x OP y by the def of the class of x for OP -/
def rOwnOp (K : PySem.W.Frag) (C : Addr) (sp : Sp) (E : XK) : R2 := fun x y H Q =>
  ∃ a dx fs t, x = .ref a ∧ H a = some (.ins C dx fs) ∧ TyOf K H y t ∧ PySem.W.notFirst K C t = true ∧ sp [x, y] H Q E
theorem op_ownCmp {K : PySem.W.Frag} {op : CmpOp} (hK : X.K = K) (hop : ∀ a b, compareOp op a b = richCompare op a b)
    (hs : PySem.W.findIn K (.ref C) (cmpInfo op).2.1 = some (some (.ref g))) (hf : PySem.W.isFn K (.ref g) = true)
    (F : FnR X.prog X.w X.K X.mg X.base CX n g sp) (hr : Room n X.A) (hx : Passes CX X E) : OpR X (compareOp op) (rOwnOp K C sp E) := by
  subst hK
  intro pins s σ H x y v u Q I rx ry h
  obtain ⟨a, dx, fs, t, rfl, ha, ty, hn, q⟩ := h
  cases (show v = Value.ref a from rx)
  obtain ⟨od, J⟩ := inst_at I ha
  obtain ⟨m, hF⟩ := I.fr
  rw [hop]
  refine PySem.W.cmp_K (op := op) (tb := t) hr.units0 hF I.ok.mod.kin J (looks_ty I ry ty) hn hs hf ?_
  refine wpAny_mono (wpAny_call (SlX.run_at (us := [.ref a, u]) (ws := [.ref a, y]) F hr I.env0 hx I (.cons rfl (.cons ry .nil)) q)) (fun w s' z => ?_) fun _ _ x => x
  obtain ⟨z', H', I', rz, qz⟩ := z
  exact cmpback rz ⟨z', H', I', rz, qz⟩

/-- x != y where the class of x has __eq__ alone: its answer turned -/
theorem ne_try {K : PySem.W.Frag} {prog : Program} {w : World} {A : Around} {EE : Value → Shared → Prop} {s : Shared} {x C f : Addr} {ox : Obj} {od : Option Obj} {b : Value} {Q : Option Value → Shared → Prop}
    (hu : A.units + 1 < cLine) (KX : K.In s.heap) (J : PySem.W.InstAt s.heap x ox C od)
    (hne : PySem.W.findIn K (.ref C) "__ne__" = some (some (.builtin "object.__ne__"))) (hm : PySem.W.mroIn K C (.type "object") = some true)
    (he : PySem.W.findIn K (.ref C) "__eq__" = some (some (.ref f))) (hf : PySem.W.isFn K (.ref f) = true)
    (h : wpAny (model prog w) A.in1 (call (.ref f) [.ref x, b]) (fun v s' => ∃ k, v = .bool k ∧ Q (some (.bool (!k))) s') EE s) :
    wpAny (model prog w) A (tryCompare (.ref x) "__ne__" b) Q EE s := by
  have hb := PySem.F.cmp_object.ne.bind
  simp only [tryCompare, callSpecialIfBound?, bindSpecialIfBound?]
  refine wpAny_bind (wpAny_holding (wpAny_bind (wpAny_bind (wpAny_bind (J.type.here ((PySem.W.looks_findIn KX hne).here ?_))))))
  refine wpAny_bind (wpAny_askSetting (wpAny_ite ?_))
  have body : wpAny (model prog w) A (call (.builtin "object.__ne__") ([.ref x] ++ [b])) (fun v s' => ∃ k, v = .bool k ∧ Q (some (.bool k)) s') EE s := by
    refine wpAny_call (codeAny_call_builtin PySem.F.cmp_object.ne.plain PySem.F.cmpEntry_ne
      (PySem.W.check_slot PySem.F.cmpKind_ne PySem.F.cmpSplit_ne (J.type.andThen (PySem.W.looks_mroIn KX hm)) (PySem.F.cmpArgs_ne _ _) ?_))
    unfold Builtin.«object.__ne__»
    refine wpAny_bind (m := slotArgs "__ne__" 1 _) (wpAny_pure ?_)
    refine wpAny_bind (m := cRoomFor _ _) (wpAny_cRoomFor hu ?_)
    refine wpAny_bind (m := callSpecialIfBound? (.ref x) (Str.ofString "__eq__") [b]) (PySem.W.ifBound_K KX J he hf (wpAny_mono h (fun v s' z => ?_) fun _ _ e => e))
    obtain ⟨k, rfl, q⟩ := z
    refine wpAny_bind (wpAny_truthy_bool ?_)
    exact wpAny_pure ⟨!k, rfl, q⟩
  have fin : wpAny (model prog w) A (call (.builtin "object.__ne__") ([.ref x] ++ [b]) >>= fun v => pure (some v)) (fun r s' => ∃ k, r = some (.bool k) ∧ Q (some (.bool k)) s') EE s :=
    wpAny_bind (wpAny_mono body (fun v s' ⟨k, e, q⟩ => wpAny_pure ⟨k, by rw [e], q⟩) fun _ _ e => e)
  have fin2 : wpAny (model prog w) A (call (.builtin "object.__ne__") ([.ref x] ++ [b]) >>= fun v => pure (some v)) (fun r s' => wpAny (model prog w) A (match r with
      | some .notImplemented | none => pure none
      | some v => pure (some v)) Q EE s') EE s := wpAny_mono fin (fun r s' ⟨k, e, q⟩ => by subst e; exact wpAny_pure q) fun _ _ e => e
  split
  · exact wpAny_bind ((PySem.W.Looks.of_pure (hb _)).here (wpAny_pure (by exact fin2)))
  · exact wpAny_tryCatch (wpAny_bind ((PySem.W.Looks.of_pure (hb _)).here (wpAny_pure (by exact fin2))))

/-- how a promise at a bool is handed back -/
def rOwnNe (K : PySem.W.Frag) (C : Addr) (sp : Sp) (E : XK) : R2 := fun x y H Q =>
  ∃ a dx fs t, x = .ref a ∧ H a = some (.ins C dx fs) ∧ TyOf K H y t ∧ PySem.W.notFirst K C t = true ∧ sp [x, y] H (fun z H' => ∃ k, z = .bl k ∧ Q (.bl (!k)) H') E
theorem op_ownNe {K : PySem.W.Frag} (hK : X.K = K) (hne : PySem.W.findIn K (.ref C) "__ne__" = some (some (.builtin "object.__ne__"))) (hm : PySem.W.mroIn K C (.type "object") = some true)
    (hs : PySem.W.findIn K (.ref C) "__eq__" = some (some (.ref g))) (hf : PySem.W.isFn K (.ref g) = true)
    (F : FnR X.prog X.w X.K X.mg X.base CX n g sp) (hr : Room (n + 1) X.A) (hx : Passes CX X E) : OpR X (compareOp .NotEq) (rOwnNe K C sp E) := by
  subst hK
  intro pins s σ H x y v u Q I rx ry h
  obtain ⟨a, dx, fs, t, rfl, ha, ty, hn, q⟩ := h
  cases (show v = Value.ref a from rx)
  obtain ⟨od, J⟩ := inst_at I ha
  have KX := I.kIn
  have hb := looks_ty I ry ty
  have hu := hr.units
  have body : wpAny (model X.prog X.w) X.A.in1 (call (.ref g) [.ref a, u]) (fun v s' => ∃ k, v = .bool k ∧ EP X pins σ Q (.bool (!k)) s') X.xe s := by
    refine wpAny_mono (wpAny_call (SlX.run_at (us := [.ref a, u]) (ws := [.ref a, y]) F hr.in1 I.env0.in1 hx I (.cons rfl (.cons ry .nil)) q)) (fun w s' z => ?_) fun _ _ x => x
    obtain ⟨z', H', I', rz, k, ez, qz⟩ := z
    subst ez
    exact ⟨k, rz, .bl (!k), H', I', rfl, qz⟩
  have one : wpAny (model X.prog X.w) X.A (tryCompare (.ref a) "__ne__" u) (fun r s' => ∃ v, r = some v ∧ EP X pins σ Q v s') X.xe s :=
    ne_try (by omega) KX J hne hm hs hf (wpAny_mono body (fun v s' ⟨k, e, q⟩ => ⟨k, e, _, rfl, q⟩) fun _ _ e => e)
  show wpAny (model X.prog X.w) X.A (richCompare .NotEq (.ref a) u) (EP X pins σ Q) X.xe s
  unfold richCompare
  simp only [oneThing_ref]
  refine wpAny_holding (wpAny_bind (wpAny_cRoomFor hr.units0 ?_))
  refine wpAny_bind (J.type.here (wpAny_bind (hb.here ?_)))
  split
  · rename_i q'
    have e : PySem.W.subIn X.K t (.ref C) = some false := by
      rcases Bool.or_eq_true_iff.mp hn with e | e
      · rw [beq_iff_eq.mp e] at q'; simp at q'
      · exact beq_iff_eq.mp e
    refine wpAny_bind ((PySem.W.looks_subIn KX e).here ?_)
    simp only [Bool.false_eq_true, if_false]
    refine wpAny_bind (wpAny_mono one (fun r s' z => ?_) fun _ _ e => e)
    obtain ⟨v, rfl, hq⟩ := z
    exact wpAny_pure hq
  · refine wpAny_bind (wpAny_pure ?_)
    simp only [Bool.false_eq_true, if_false]
    refine wpAny_bind (wpAny_mono one (fun r s' z => ?_) fun _ _ e => e)
    obtain ⟨v, rfl, hq⟩ := z
    exact wpAny_pure hq

/-- str(x), x an instance whose class has __str__ -/
def rOwnTx (C : Addr) (sp : Sp) (E : XK) : List V → Hp → VK → Prop := fun xs H Q =>
  ∃ a dx fs, xs = [.ref a] ∧ H a = some (.ins C dx fs) ∧ sp xs H (fun z H' => ∃ y, z = .str y ∧ Q z H') E
theorem call_strOwn (hs : PySem.W.findIn X.K (.ref C) "__str__" = some (some (.ref g))) (hf : PySem.W.isFn X.K (.ref g) = true)
    (F : FnR X.prog X.w X.K X.mg X.base CX n g sp) (hr : Room (n + 2) X.A) (hx : Passes CX X E) : CallR X (.type "str") (rOwnTx C sp E) := by
  intro pins s σ H xs us Q I r h
  obtain ⟨a, dx, fs, rfl, ha, q⟩ := h
  obtain ⟨u, rfl, ru⟩ := vals1 r
  cases (show u = Value.ref a from ru)
  obtain ⟨od, J⟩ := inst_at I ha
  have hu := hr.units
  have hr2 : Room n X.A.in1.in1 := (show Room (n + 1) X.A.in1 from Room.in1 hr).in1
  refine PySem.W.kso_call (by show X.A.units + 1 + 1 < cLine; omega) I.kIn J hs hf ?_
  refine wpAny_mono (wpAny_call (SlX.run_at (us := [.ref a]) (ws := [.ref a]) F hr2 I.env0.in1.in1 hx I (.cons rfl .nil) q)) (fun w s' z => ?_) fun _ _ x => x
  obtain ⟨z', H', I', rz, y, ez, qz⟩ := z
  subst ez
  obtain ⟨t, rfl⟩ := (show ∃ t, w = Value.str y t from rz)
  exact ⟨.str y, H', I', ⟨t, rfl⟩, qz⟩
/-- repr(x), x an instance whose class has __repr__ -/
theorem call_reprOwn (hs : PySem.W.findIn X.K (.ref C) "__repr__" = some (some (.ref g))) (hf : PySem.W.isFn X.K (.ref g) = true)
    (F : FnR X.prog X.w X.K X.mg X.base CX n g sp) (hr : Room (n + 1) X.A) (hx : Passes CX X E) : CallR X (.builtin "repr") (rOwnTx C sp E) := by
  intro pins s σ H xs us Q I r h
  obtain ⟨a, dx, fs, rfl, ha, q⟩ := h
  obtain ⟨u, rfl, ru⟩ := vals1 r
  cases (show u = Value.ref a from ru)
  obtain ⟨od, J⟩ := inst_at I ha
  have hu := hr.units
  refine Calls.call_function_entry PySem.F.kind_repr PySem.F.plain_repr PySem.F.entry_repr (PySem.F.args_repr1 _) ?_
  unfold Builtin.«repr»
  refine wpAny_bind (m := oneArg "repr" _) (wpAny_pure ?_)
  refine wpAny_bind (m := cRoomFor _ _) (wpAny_cRoomFor (by show X.A.units + 1 < cLine; omega) ?_)
  refine wpAny_bind (wpAny_bind (J.type.here ((PySem.W.looks_findIn I.kIn hs).here ?_)))
  refine wpAny_bind (m := callSpecialIfBound? (.ref a) (Str.ofString "__repr__")) (PySem.W.ifBound_K I.kIn J hs hf ?_)
  refine wpAny_mono (wpAny_call (SlX.run_at (us := [.ref a]) (ws := [.ref a]) F hr.in1 I.env0.in1 hx I (.cons rfl .nil) q)) (fun w s' z => ?_) fun _ _ x => x
  obtain ⟨z', H', I', rz, y, ez, qz⟩ := z
  subst ez
  obtain ⟨t, rfl⟩ := (show ∃ t, w = Value.str y t from rz)
  refine wpAny_bind (wpAny_isInstance (T := "str") (b := true) rfl isSubtype_str_str ?_)
  exact wpAny_pure ⟨_, rfl, .str y, H', I', ⟨t, rfl⟩, qz⟩
end
end Lb

set_option Elab.async false
set_option linter.all false
set_option maxRecDepth 100000
set_option maxHeartbeats 4000000
namespace Lb
open PySem PySem.Spec PyProof.Rows L2
open SlX (cmpback)

/-! repr of data: wants that no repr is running -/
mutual
theorem dp_plain {K : PySem.W.Frag} {H : Hp} : ∀ (d : PyData) (v : V), Dp K H v d → d.hasDict = false
  | .none, _, _ => by simp only [PyData.hasDict]
  | .bool _, _, _ => by simp only [PyData.hasDict]
  | .int _, _, _ => by simp only [PyData.hasDict]
  | .str _, _, _ => by simp only [PyData.hasDict]
  | .list ds, _, h => by
    cases h with
    | lst _ q => simp only [PyData.hasDict]; exact dp_plains ds _ q
  | .tuple ds, _, h => by
    cases h with
    | tup _ q => simp only [PyData.hasDict]; exact dp_plains ds _ q
  | .dict _, _, h => by cases h
theorem dp_plains {K : PySem.W.Frag} {H : Hp} : ∀ (ds : List PyData) (vs : List V), DpAll K H vs ds → PyData.hasDictAll ds = false
  | [], _, _ => by simp only [PyData.hasDictAll]
  | d :: ds, _, h => by
    cases h with
    | cons h1 h2 => simp only [PyData.hasDictAll, dp_plain d _ h1, dp_plains ds _ h2, Bool.or_self]
end
section
variable {X : Cx}
def rRepr (K : PySem.W.Frag) : List V → Hp → VK → Prop := fun xs H Q =>
  ∃ x d, xs = [x] ∧ Dp K H x d ∧ d.showable = true ∧ d.shown.length ≤ sizeLine ∧ d.depth ≤ 60 ∧ Q (.str d.shown) H
theorem call_repr {K : PySem.W.Frag} (hK : X.K = K) (hg : X.A.guards = some []) (hu : X.A.units + 64 < cLine) : CallR X (.builtin "repr") (rRepr K) := by
  subst hK
  intro pins s σ H xs us Q I r h
  obtain ⟨x, d, rfl, hd, hs, hz, hdp, q⟩ := h
  obtain ⟨u, rfl, ru⟩ := vals1 r
  have hpl := dp_plain d x hd
  obtain ⟨as, rd⟩ := Dp.reads I d x u hd ru
  cases x with
  | non =>
    cases hd
    cases (show u = Value.none from ru)
    exact PySem.P.repr_of_none ⟨.str _, H, I.tok _, ⟨_, rfl⟩, q⟩
  | bl b =>
    cases hd
    cases (show u = Value.bool b from ru)
    exact PySem.P.repr_of_bool ⟨.str _, H, I.tok _, ⟨_, rfl⟩, q⟩
  | int i =>
    cases hd
    obtain ⟨t, rfl⟩ := (show ∃ t, u = Value.int i t from ru)
    have hi : i.natAbs.log2 < 1920 := of_decide_eq_true (by simpa only [PyData.showable] using hs)
    exact PySem.P.repr_of_int hi ⟨.str _, H, I.tok _, ⟨_, rfl⟩, q⟩
  | str y =>
    cases hd
    obtain ⟨t, rfl⟩ := (show ∃ t, u = Value.str y t from ru)
    exact PySem.P.repr_of_str ⟨.str _, H, I.tok _, ⟨_, rfl⟩, q⟩ hz
  | byt y => cases hd
  | flt y => cases hd
  | ty y => cases hd
  | ref a =>
    cases (show u = Value.ref a from ru)
    refine PySem.repr_of_reads' rd hs (PyData.noDict_hsm hpl) hg (by omega) (fun _ _ e => e) (fun h' w tk k => ?_) hz
    exact ⟨.str _, H, I.kept k, ⟨_, rfl⟩, q⟩

/-! the layer's rules with the written part told apart (within a comprehension the context is another) -/
variable {K : PySem.W.Frag}
theorem ix_listK (hK : X.K = K) : IxR X (rIxL K) := by subst hK; exact ix_list
theorem ix_tupK (hK : X.K = K) : IxR X (rIxT K) := by subst hK; exact ix_tup
theorem sl_listK (hK : X.K = K) : SlR X (rSlL K) := by subst hK; exact sl_list
theorem call_lenK (hK : X.K = K) : CallR X (.builtin "len") (fun xs H Q => ∃ p ys, xs = [.ref p] ∧ (SqL K H p ys ∨ SqT K H p ys) ∧ Q (.int ys.length) H) := by subst hK; exact call_len_seq
theorem call_isiK' (hK : X.K = K) : CallR X (.builtin "isinstance") (rIsi K) := by subst hK; exact call_isi
theorem cr_allK (hK : X.K = K) (hc : X.calm = true) : CallR X (.builtin "all") (rAll K) := by subst hK; exact cr_all hc
theorem cr_anyK (hK : X.K = K) (hc : X.calm = true) : CallR X (.builtin "any") (rAny K) := by subst hK; exact cr_any hc
theorem pe_fldK {e : Expr} {f : Str} {pos : Pos} {ta : TE} (hK : X.K = K) (he : PE X e ta) (hb : attributeBase e f X.env (eval e X.env) = eval e X.env) : PE X (.Attribute e f pos) (tFld K ta f) := by subst hK; exact pe_fld he hb
theorem ps_fldK {o value : Expr} {f : Str} {pos pos' : Pos} {ta tv : TE} (hK : X.K = K) (ha : PE X o ta) (hv : PE X value tv) (hs : swapsWith value (some (.Attribute o f pos')) pos.line X.env = pure false) :
    PS X (.Assign [.Attribute o f pos'] value pos) (sFld K ta tv f) := by subst hK; exact ps_fld ha hv hs
theorem pg_tupK {pos : Pos} {es : List Expr} {k : Nat} {t : TGs} {n : Nat} (hK : X.K = K) (hc : X.calm = true) (h : PGs X es t)
    (hn : (assignEach es X.env).length = n := by rfl) (hst : (assignEach es X.env).findIdx? (·.1) = none := by rfl) : PG X (.Tuple es k pos) (gTup K n t) := by subst hK; exact pg_tup hc h hn hst
theorem pi_listK {tg l : Expr} {tl : TE} (hK : X.K = K) (hl : PE X l tl) : PI X tg l (iList K tl) := by subst hK; exact pi_list hl
end
end Lb

set_option Elab.async false
set_option linter.all false
set_option maxRecDepth 100000
set_option maxHeartbeats 4000000
namespace Lb
open PySem PySem.Spec PyProof.Rows L2

/-! defs that may show data (repr): they are called where no repr runs -/
structure FnG (P : Program) (w : World) (K : PySem.W.Frag) (mg : Str → Option Value) (base : Heap) (CX : CXT)
    (k : Nat) (f : Addr) (fd : FuncData) (ps : List Str) (sp : Sp) : Prop where
  len : ∀ vs H Q E, sp vs H Q E → vs.length = ps.length
  run : ∀ (A : Around) (outer : List Env) (s : Shared) (H : Hp) (args : Args) (us : List Value) (vs : List V) (Q : VK) (E : XK),
    A.guards = some [] → Room k A → Env0 P w K mg base A outer s H → BindsTo s fd args (ps.zip us) → Vals vs us → sp vs H Q E →
    codeAny (model P w) A (.call (.ref f) args) (CR CX outer P w H s Q E) s

section
variable {P : Program} {w : World} {K : PySem.W.Frag} {mg : Str → Option Value} {base : Heap} {CX : CXT} {k j : Nat} {f : Addr} {fd : FuncData} {ps : List Str} {sp : Sp}
theorem FnG.of (F : FnOk P w K mg base CX k f fd ps sp) : FnG P w K mg base CX k f fd ps sp :=
  ⟨F.len, fun A outer s H args us vs Q E _ hr e0 hb r hs => F.run A outer s H args us vs Q E hr e0 hb r hs⟩
theorem FnG.mono (F : FnG P w K mg base CX j f fd ps sp) (h : j ≤ k) : FnG P w K mg base CX k f fd ps sp :=
  ⟨F.len, fun A outer s H args us vs Q E g hr => F.run A outer s H args us vs Q E g (hr.mono h)⟩
/-- the rule for the body of such a def -/
theorem okG {x qual : Str} {st : Stmt} {N : List Str} (F : Fun K x qual st f fd) (S : FnScope N ps (defScope st))
    (len : ∀ vs H Q E, sp vs H Q E → vs.length = ps.length)
    (hbody : ∀ (cdv : Value) (A : Around) (outer : List Env) (s : Shared) (H : Hp) (vs : List V) (Q : VK) (E : XK),
      (A.deeper (envOfC qual (defScope st) s.heap.objs.size f cdv)).guards = some [] →
      Room k (A.deeper (envOfC qual (defScope st) s.heap.objs.size f cdv)) → sp vs H Q E →
      ∃ t, PSs (cxOf CX P w K mg base N qual (defScope st) f cdv A outer s H E).nox (defBody st) t ∧
        t { nx := fun _ H' => Q .non H', rt := Q } (start N vs) H) :
    FnG P w K mg base CX (k + 1) f fd ps sp := by
  obtain ⟨oc, od, kV, doc, pm, an, cdv, ct, osl, rfl, lk, hcd⟩ := F.ex
  refine ⟨len, fun A outer s H args us vs Q E hgu hr e0 hb r hsp => ?_⟩
  have hl := len vs H Q E hsp
  have KX : K.In s.heap := e0.mod.kin.keeps fun b o e => (e0.bs b o e).1
  have lim : s.heap.NoLimit := e0.mod.nolimit.keeps fun b o e => (e0.bs b o e).1
  have hkind : ∀ y ∈ ps.zip us, (defScope st).names.lookup y.1 = some .local ∨
      ((defScope st).names.lookup y.1 = some .cell ∧ ((cellsFrom (s.heap.objs.size + 1) (defScope st).names []).lookup y.1).isSome = true) := by
    rintro ⟨n, v⟩ hy
    rcases S.par n (List.of_mem_zip hy).1 with q | q
    · exact .inl q
    · exact .inr ⟨q, PySem.W.cellsFrom_some _ _ _ (.inl q)⟩
  refine codeAny_call_function hr.depth (KX _ _ lk) rfl S.co S.gen rfl (PySem.W.codeRec_of KX hcd) (hb _ _ _ _ ?_)
  refine wpAny_newFunctionEnv_cells S.kind hkind fun env he s1 y => ?_
  subst he
  refine ⟨lim.keeps y.toInCall.keep, codeAny_func ?_⟩
  have hgd : (A.deeper (envOfC qual (defScope st) s.heap.objs.size f cdv)).guards = some [] := by
    first
      | exact hgu
      | simpa [Around.deeper] using hgu
  obtain ⟨t, ht, hq⟩ := hbody cdv A outer s H vs Q E hgd (hr.deeper _) hsp
  have I := inv_start (CX := CX) (E := E) S hr.hd e0 hl r y
  have fin : ∀ {σ' : L2.St} {H' : Hp} {s' : Shared} {v : V} {u : Value},
      Inv (cxOf CX P w K mg base N qual (defScope st) f cdv A outer s H E) [] σ' H' s' → RelV v u → Q v H' → CE outer P w H s Q u s' :=
    fun {σ' H' s' v u} J rv q => ⟨v, H', J.os, J.bare, J.base, J.hok, rv, q⟩
  refine wpAny_mono (ht.nox.run [] s1 (start N vs) H _ I hq) (fun fl s' hs => ?_) fun _ _ hs => hs
  cases fl with
  | ret u =>
    obtain ⟨v, σ', H', J, rv, q⟩ := hs
    exact fin J rv q
  | next =>
    obtain ⟨σ', H', J, q⟩ := hs
    exact fin (v := V.non) (u := Value.none) J rfl q
  | brk => exact hs.elim fun _ h => h.elim fun _ h => h.2.elim
  | cont => exact hs.elim fun _ h => h.elim fun _ h => h.2.elim
end

section
variable {X : Cx} {CX : CXT} {k : Nat} {f : Addr} {fd : FuncData} {ps : List Str} {sp : Sp} {dvs : List V} {ds : List Value} {E : XK} {x : Str} {p pos : Pos} {e : Expr} {es : List Expr} {t : TA}
theorem run_fnG {pins : List (Addr × Obj)} {σ : L2.St} {H : Hp} {s : Shared} {Q : VK} {us : List Value} {vs : List V} (F : FnG X.prog X.w X.K X.mg X.base CX k f fd ps sp) (gu : X.A.guards = some [])
    (hr : Room k X.A) (hb : Binds X.K fd ps ds) (hd : Vals dvs ds) (hx : Passes CX X E) (I : Inv X pins σ H s) (r : Vals vs us) (h : sp (vs ++ dvs) H Q E) :
    wpAny (model X.prog X.w) X.A (call (.ref f) us) (EP X pins σ Q) X.xe s := by
  have r2 := r.append hd
  have hl : (us ++ ds).length = ps.length := r2.length ▸ F.len _ H Q E h
  have code := F.run X.A X.stack s H ⟨us, []⟩ (us ++ ds) (vs ++ dvs) Q E gu hr I.env0 (hb s us I.kIn hl) r2 h
  refine wpAny_call (codeAny_mono code fun r s' hq => ?_)
  rcases r with er | fl
  · first | exact hx pins σ H s er s' I hq | (cases er <;> first | exact I.after hq | exact hq.elim)
  · first | (cases fl <;> first | exact I.after hq | exact hq.elim) | exact hx pins σ H s fl s' I hq
theorem pe_callG (F : FnG X.prog X.w X.K X.mg X.base CX k f fd ps sp) (gu : X.A.guards = some []) (hr : Room k X.A) (hg : Gl X x) (hm : X.mg x = some (.ref f))
    (hk : PySem.W.keepIn X.K (.ref f) = true) (hb : Binds X.K fd ps ds) (hd : Vals dvs ds) (hx : Passes CX X E) (ha : PA X (e :: es) t)
    (hdb : (x == ("__debug__" : Str)) = false := by decide) (he : starEach (e :: es) X.env = (false, eval e X.env) :: starEach es X.env := by rfl)
    (hpl : (backTo pos (starEach es X.env)).any (·.1) = false := by rfl) : PE X (.Call (.Name x p) (e :: es) [] pos) (tCall sp dvs E t) := by
  refine ⟨fun pins s σ H Q I h => wpAny_Call_Name_kw (ld_glob I hg hm ?_ hdb)⟩
  refine PySem.W.callWith_K (h₀ := X.base) I.ok.mod.kin hk (thn (ha.run pos pins s σ H _ I h) fun us s1 q => ?_) he hpl
  obtain ⟨vs, H1, I1, r, q⟩ := q
  exact ⟨I1.kIn, run_fnG F gu hr hb hd hx I1 r q⟩
theorem pe_call0G (F : FnG X.prog X.w X.K X.mg X.base CX k f fd ps sp) (gu : X.A.guards = some []) (hr : Room k X.A) (hg : Gl X x) (hm : X.mg x = some (.ref f))
    (hk : PySem.W.keepIn X.K (.ref f) = true) (hb : Binds X.K fd ps ds) (hd : Vals dvs ds) (hx : Passes CX X E)
    (hdb : (x == ("__debug__" : Str)) = false := by decide) : PE X (.Call (.Name x p) [] [] pos) (tCall sp dvs E tNil) :=
  ⟨fun pins s σ H Q I h => wpAny_Call_Name_kw (ld_glob I hg hm (PySem.W.callWith_K0 I.kIn hk (run_fnG (us := []) F gu hr hb hd hx I .nil h)) hdb)⟩
end

/-- the law's call: like the layer's own end, for such a def -/
theorem law_callG {P : Program} {w : World} {K : PySem.W.Frag} {mg mb : Str → Option Value} {CX : CXT} {k : Nat} {fa a : Addr} {fd : FuncData} {x : Str} {sp : Sp} {s1 : Shared} {vs : List Value} {ns : List Int}
    (KX : K.In s1.heap) (hns : s1.heap.Ns mainGlobals mg) (hb : s1.heap.Ns builtinsNs mb) (hbb : ∀ x : Str, x ≠ "__name__" → mb x = bootBuiltins x) (hlim : s1.heap.NoLimit) (hg : s1.gens = #[])
    (ha : s1.heap.get? a = some { cls := .type "list", data := .seq vs.toArray }) (hi : IntsAre vs ns) (hl : ns.length ≤ sizeLine) (hr : Room k callerA)
    (F : ∀ base : Heap, K.In base → base.Ns mainGlobals mg → FnG P w K mg base CX k fa fd [x] sp) (hbind : ∀ (s : Shared) (u : Value), BindsTo s fd ⟨[u], []⟩ [(x, u)])
    (hsp : ∀ H : Hp, Only H → SqL K H a (ns.map V.int) → sp [.ref a] H (fun v _ => v = .bl true) fun _ _ _ => False)
    (hCX : ∀ H e s', CX [] H s1 (fun _ _ _ => False) e s' → False) :
    codeAny (model P w) callerA (.call (.ref fa) ⟨[.ref a], []⟩) (fun r s' => r = .ok (.ret (.bool true)) ∧ OldK s1.heap s'.heap ∧ s'.os = s1.os ∧ AllBare s'.gens) s1 := by
  have rv := vals_ints hi
  have core : ∀ H : Hp, Only H → SqL K H a (ns.map V.int) → HOk P w H s1.heap → (∀ b u, H b = some u → b = a) → (∀ u, H a = some u → K.lookup a = none) →
      codeAny (model P w) callerA (.call (.ref fa) ⟨[.ref a], []⟩) (fun r s' => r = .ok (.ret (.bool true)) ∧ OldK s1.heap s'.heap ∧ s'.os = s1.os ∧ AllBare s'.gens) s1 := by
    intro H hO hS hok hA hK
    have free_of : ∀ {b : Addr} {o : Obj}, s1.heap.get? b = some o → (∀ z : Data, o.data = z → ∃ es ep, z = .dict es ep) → H b = none := by
      intro b o e d
      cases q : H b with
      | none => rfl
      | some u =>
        cases hA b u q
        rw [ha] at e
        cases e
        obtain ⟨es, ep, z⟩ := d _ rfl
        cases z
    have nsK : ∀ {b : Addr} {m : Str → Option Value}, s1.heap.Ns b m → (hidT s1.heap H).Ns b m := by
      rintro b m ⟨o, es, ep, e, d, r⟩
      exact ⟨o, es, ep, hidT_get e (free_of e fun z hz => ⟨es, ep, hz ▸ d⟩), d, r⟩
    have hKb : K.In (hidT s1.heap H) := by
      intro b o e
      refine hidT_get (KX b o e) ?_
      cases q : H b with
      | none => rfl
      | some u =>
        cases hA b u q
        rw [hK u q] at e
        cases e
    have hM : Mod K mg (hidT s1.heap H) := by
      obtain ⟨mc, c1, c2⟩ := hlim
      exact ⟨hKb, nsK hns, ⟨mb, nsK hb, hbb⟩, ⟨mc, nsK c1, c2⟩⟩
    have e0 : Env0 P w K mg (hidT s1.heap H) callerA [] s1 H :=
      ⟨rfl, hM, fun b o e => of_hidT e, Nat.le_of_eq (hidT_size _ _), trivial, fun b hb => (List.not_mem_nil hb).elim, hok, .of_eq hg⟩
    have code := (F _ hKb (nsK hns)).run callerA [] s1 H ⟨[.ref a], []⟩ [.ref a] [.ref a] _ _ rfl hr e0 (hbind s1 (.ref a)) (.cons rfl .nil) (hsp H hO hS)
    refine codeAny_mono code fun r s' h => ?_
    cases r with
    | error e => exact (hCX H e s' h).elim
    | ok fl =>
      cases fl with
      | ret u =>
        obtain ⟨v, H', os, bare, un, hok', r', q⟩ := h
        cases (show v = .bl true from q)
        cases (show u = Value.bool true from r')
        refine ⟨rfl, .of_keep fun b o e => ?_, os, bare⟩
        rcases hO b with z | ⟨ob, xs, z⟩
        · exact un.keep b o e z (fun z => List.not_mem_nil z) (fun z => List.not_mem_nil z)
        · obtain ⟨e1, _⟩ := hok b _ z
          obtain ⟨e2, _⟩ := hok' b _ (un.frzs b ob _ z)
          rw [e] at e1
          cases e1
          exact e2
      | next => exact h.elim
      | brk => exact h.elim
      | cont => exact h.elim
  cases hk : K.lookup a with
  | some o =>
    have e := KX a o hk
    rw [ha] at e
    cases e
    refine core (fun _ => none) (fun _ => .inl rfl) (.inr ⟨_, vs.toArray, _, hk, rfl, rfl, rfl, ?_, ?_⟩) (fun b u z => nomatch (show (none : Option HO) = some u from z)) (fun b u z => nomatch (show (none : Option HO) = some u from z)) (fun u z => nomatch (show (none : Option HO) = some u from z))
    · rw [List.size_toArray, hi.length]
      exact hl
    · simpa using rv
  | none =>
    have at_ : ∀ {b : Addr} {u : HO}, (if b = a then some (HO.frz { cls := .type "list", data := .seq vs.toArray } (.lst (ns.map V.int))) else none) = some u →
        b = a ∧ u = HO.frz { cls := .type "list", data := .seq vs.toArray } (.lst (ns.map V.int)) := by
      intro b u e
      by_cases hb : b = a
      · rw [if_pos hb] at e
        exact ⟨hb, (Option.some.inj e).symm⟩
      · rw [if_neg hb] at e
        cases e
    refine core (fun b => if b = a then some (.frz { cls := .type "list", data := .seq vs.toArray } (.lst (ns.map V.int))) else none) (fun b => ?_)
      (.inl (.inr ⟨{ cls := .type "list", data := .seq vs.toArray }, if_pos rfl⟩)) (fun b u e => ?_) (fun b u e => (at_ e).1) (fun _ _ => hk)
    · by_cases hb : b = a
      · exact .inr ⟨_, _, if_pos hb⟩
      · exact .inl (if_neg hb)
    · obtain ⟨rfl, rfl⟩ := at_ e
      exact ⟨ha, by rw [List.length_map]; exact hl, vs, _, rv, ha⟩

theorem walkG {l : PySem.W.OpenLaw} {n k : Nat} {q : Program} {loose : List Str} {XP : (Str → Option Value) → Heap → Prop} {YP : World → Heap → Prop} {d : DefRec} {K : Params → PySem.W.Frag} {sp : PySem.W.Frag → Sp} {x : Str}
    (hn : l.most = some n) (hn2 : n ≤ sizeLine) (hdf : d.params.defaults = []) (hr : Room k callerA)
    (hY : ∀ (w : World) (h : Heap), YP w h → (K w.params).In h)
    (F : ∀ (w : World) (mg : Str → Option Value) (fa : Addr) (h : Heap), (K w.params).In h → h.Ns mainGlobals mg → mg d.name = some (.ref fa) →
      ∃ fd : FuncData, (∀ (s : Shared) (u : Value), BindsTo s fd ⟨[u], []⟩ [(x, u)]) ∧
        ∀ base : Heap, (K w.params).In base → base.Ns mainGlobals mg → FnG l.prog w (K w.params) mg base CX0 k fa fd [x] (sp (K w.params)))
    (hsp : ∀ (K : PySem.W.Frag) (H : Hp) (a : Addr) (ns : List Int), ns.length ≤ n → Only H → SqL K H a (ns.map V.int) → sp K [.ref a] H (fun v _ => v = .bl true) fun _ _ _ => False) :
    PySem.W.WalkO q loose XP YP l.row.toRowW d [] (fun f vs => PySem.call f vs) := by
  refine Att.attach_call hn hdf fun w s0 s1 mg mb fa o pm cd doc a vs ns G Y ho hd hcd hmg hobj hints hlen hg => ?_
  obtain ⟨fd, hb, hF⟩ := F w mg fa _ (hY w _ Y) G.T.g hmg
  exact law_callG (hY w _ Y) G.T.g G.T.b G.T.builtins G.T.nolimit hg hobj hints (Nat.le_trans hlen hn2) hr hF hb (fun H hO hS => hsp _ H a ns hlen hO hS) fun _ _ _ z => z
end Lb

set_option Elab.async false
set_option linter.all false
set_option maxRecDepth 100000
set_option maxHeartbeats 4000000
namespace Lb
open PySem PySem.Spec PyProof.Rows L2

/-! sizes of ints -/
/-- fewer than n bits -/
def Bd (n : Nat) (x : Int) : Prop := x.natAbs < 2 ^ n
theorem Bd.mono {n m : Nat} {x : Int} (h : Bd n x) (k : n ≤ m) : Bd m x := Nat.lt_of_lt_of_le h (Nat.pow_le_pow_right (by decide) k)
theorem Bd.mul {n m : Nat} {x y : Int} (h : Bd n x) (k : Bd m y) : Bd (n + m) (x * y) := by
  unfold Bd at *
  rw [Int.natAbs_mul, Nat.pow_add]
  exact Nat.mul_lt_mul'' h k
theorem Bd.add {n : Nat} {x y : Int} (h : Bd n x) (k : Bd n y) : Bd (n + 1) (x + y) := by
  unfold Bd at *
  have := Int.natAbs_add_le x y
  rw [Nat.pow_succ]
  omega
theorem Bd.neg {n : Nat} {x : Int} (h : Bd n x) : Bd n (-x) := by
  unfold Bd at *
  rw [Int.natAbs_neg]
  exact h
theorem Bd.sub {n : Nat} {x y : Int} (h : Bd n x) (k : Bd n y) : Bd (n + 1) (x - y) := by
  rw [Int.sub_eq_add_neg]
  exact h.add k.neg
theorem Bd.le {n : Nat} {x y : Int} (h : Bd n x) (k : y.natAbs ≤ x.natAbs) : Bd n y := Nat.lt_of_le_of_lt k h
theorem Bd.of {n : Nat} {x : Int} (h : x.natAbs < 2 ^ n) : Bd n x := h
theorem Bd.cm {n m : Nat} {x y : Int} (h : Bd n x) (k : Bd m y) (l : n + m ≤ 134217728) : CMulX x y := mulx_ok h k l
theorem Bd.log {n : Nat} {x : Int} (h : Bd n x) (p : 0 < n) : x.natAbs.log2 < n := PySem.Flt.log2_lt_of p h
theorem Bd.cd {n : Nat} {x y : Int} (h : Bd n y) (p : 0 < y) (l : n ≤ 8999) : CDivW x y := wide_div p (h.mono (Nat.le_succ n)) (Nat.succ_pos n) (by omega)
/-- a divisor of few bits is divided by C itself -/
theorem divp_small {i j : Int} (p : 0 < j) (h : Bd 8000 j) : CDivP i j := by
  refine ⟨p, ?_⟩
  have hj : (j == 0) = false := by simpa using (show j ≠ 0 by omega)
  have hl := h.log (by decide)
  have h1 : (j.natAbs.log2) / 30 + 1 ≤ 300 := by omega
  show (decide ((if j == 0 then 0 else j.natAbs.log2 / 30 + 1) > 300) && _) = false
  rw [hj]
  simp only [Bool.false_eq_true, if_false]
  rw [decide_eq_false (by omega), Bool.false_and]

/-! the pot: two ints, turned by each draw -/
def PotAt (H : Hp) (p : Addr) : Prop := ∃ a b : Int, H p = some (.lst [.int a, .int b]) ∧ 0 ≤ a ∧ 0 ≤ b ∧ b ≤ 2147483629
/-- all but p is kept -/
structure Mov (p : Addr) (H H' : Hp) : Prop where
  keep : ∀ b o, b ≠ p → H b = some o → H' b = some o
  pot : PotAt H' p
theorem Mov.trans {p : Addr} {H H1 H2 : Hp} (a : Mov p H H1) (b : Mov p H1 H2) : Mov p H H2 := ⟨fun c o n e => b.keep c o n (a.keep c o n e), b.pot⟩
theorem Mov.same {p : Addr} {H H1 H2 : Hp} (a : Mov p H H1) (b : Same H1 H2) : Mov p H H2 :=
  ⟨fun c o n e => b _ _ (a.keep c o n e), let ⟨x, y, e, r⟩ := a.pot; ⟨x, y, b _ _ e, r⟩⟩
theorem Same.mov {p : Addr} {H H1 : Hp} (a : Same H H1) (q : PotAt H p) : Mov p H H1 :=
  ⟨fun c o _ e => a _ _ e, let ⟨x, y, e, r⟩ := q; ⟨x, y, a _ _ e, r⟩⟩
theorem Mov.refl {p : Addr} {H : Hp} (q : PotAt H p) : Mov p H H := ⟨fun _ _ _ e => e, q⟩
theorem Mov.tup {p b : Addr} {H H1 : Hp} {xs : List V} (a : Mov p H H1) (q : PotAt H p) (e : H b = some (.tup xs)) : H1 b = some (.tup xs) :=
  a.keep _ _ (let ⟨_, _, e', _⟩ := q; ne_of e e' (fun z => nomatch z)) e
theorem Mov.ins {p b C dx : Addr} {H H1 : Hp} {fs : List (Str × V)} (a : Mov p H H1) (q : PotAt H p) (e : H b = some (.ins C dx fs)) : H1 b = some (.ins C dx fs) :=
  a.keep _ _ (let ⟨_, _, e', _⟩ := q; ne_of e e' (fun z => nomatch z)) e
theorem Mov.free {p b : Addr} {H H1 : Hp} (a : Mov p H H1) (q : PotAt H p) (e : H1 b = none) : H b = none := by
  cases z : H b with
  | none => rfl
  | some o =>
    by_cases hb : b = p
    · subst hb
      obtain ⟨_, _, e', _⟩ := a.pot
      rw [e] at e'
      cases e'
    · rw [a.keep b o hb z] at e
      cases e
theorem Same.upd {H : Hp} {p : Addr} {o : HO} (h : H p = none) : Same H (upd H p o) := fun a u e => by
  rw [upd_ne (ne_of_none e h)]
  exact e
theorem SqL.mov {K : PySem.W.Frag} {p a : Addr} {H H1 : Hp} {xs : List V} (m : Mov p H H1) (n : a ≠ p) (h : SqL K H a xs) : SqL K H1 a xs := by
  rcases h with (h | ⟨o, h⟩) | h
  · exact .inl (.inl (m.keep _ _ n h))
  · exact .inl (.inr ⟨o, m.keep _ _ n h⟩)
  · exact .inr h
theorem SqT.same {K : PySem.W.Frag} {a : Addr} {H H1 : Hp} {xs : List V} (m : Same H H1) (h : SqT K H a xs) : SqT K H1 a xs := by
  rcases h with (h | ⟨o, h⟩) | h
  · exact .inl (.inl (m _ _ h))
  · exact .inl (.inr ⟨o, m _ _ h⟩)
  · exact .inr h
/-- a written list's size -/
theorem sz {n : Nat} (h : Nat.ble n 1000 = true := by rfl) : n ≤ sizeLine :=
  Nat.le_trans (Nat.le_of_ble_eq_true h) (by decide)
theorem szlt {n : Nat} (k : n ≤ 10000) : n < sizeLine := Nat.lt_of_le_of_lt k (by decide)
theorem szle {n : Nat} (k : n ≤ 10000) : n ≤ sizeLine := Nat.le_of_lt (szlt k)
end Lb

set_option Elab.async false
set_option linter.all false
set_option maxRecDepth 100000
set_option maxHeartbeats 4000000
namespace Lb
open PySem PySem.Spec PyProof.Rows L2

/-- // by any divisor but 0, of few bits -/
def CDivX (_ j : Int) : Prop := j ≠ 0 ∧ j.natAbs.log2 < 9000
theorem op_fdivX {X : Cx} : OpR X (binaryOp .FloorDiv) (rI CDivX fun i j => .int (i.fdiv j)) :=
  opI fun i j _ _ _ _ _ hc q => floordiv_int hc.1 q (.inl (PyProof.noPylong_of_log2 hc.2))
theorem Bd.cx {n : Nat} {x y : Int} (h : Bd n y) (p : y ≠ 0) (l : n ≤ 8999) : CDivX x y :=
  ⟨p, Nat.lt_of_lt_of_le ((h.mono (Nat.le_succ n)).log (Nat.succ_pos n)) (by omega)⟩

/-! two lists, item by item -/
theorem Paired.imp {α β : Type} {F G : α → β → Prop} : ∀ {xs : List α} {ys : List β}, Paired F xs ys → (∀ a b, F a b → G a b) → Paired G xs ys
  | _, _, .nil, _ => .nil
  | _, _, .cons r t, f => .cons (f _ _ r) (Paired.imp t f)
theorem Paired.snoc {α β : Type} {F : α → β → Prop} {a : α} {b : β} (h : F a b) : ∀ {xs : List α} {ys : List β}, Paired F xs ys → Paired F (xs ++ [a]) (ys ++ [b])
  | _, _, .nil => .cons h .nil
  | _, _, .cons r t => .cons r (Paired.snoc h t)
theorem Paired.at_ {α β : Type} {F : α → β → Prop} : ∀ {xs : List α} {ys : List β} {i : Nat} {a : α}, Paired F xs ys → xs[i]? = some a → ∃ b, ys[i]? = some b ∧ F a b
  | _, _, i, _, .nil, e => by simp at e
  | _, _, 0, a, .cons r t, e => by simp at e; subst e; exact ⟨_, rfl, r⟩
  | _, _, i + 1, a, .cons r t, e => by
    obtain ⟨b, h1, h2⟩ := Paired.at_ (i := i) (a := a) t (by simpa using e)
    exact ⟨b, by simpa using h1, h2⟩
theorem Paired.at_r {α β : Type} {F : α → β → Prop} : ∀ {xs : List α} {ys : List β} {i : Nat} {b : β}, Paired F xs ys → ys[i]? = some b → ∃ a, xs[i]? = some a ∧ F a b
  | _, _, i, _, .nil, e => by simp at e
  | _, _, 0, a, .cons r t, e => by simp at e; subst e; exact ⟨_, rfl, r⟩
  | _, _, i + 1, a, .cons r t, e => by
    obtain ⟨b, h1, h2⟩ := Paired.at_r (i := i) (b := a) t (by simpa using e)
    exact ⟨b, by simpa using h1, h2⟩
theorem Paired.len {α β : Type} {F : α → β → Prop} : ∀ {xs : List α} {ys : List β}, Paired F xs ys → xs.length = ys.length
  | _, _, .nil => rfl
  | _, _, .cons _ t => congrArg Nat.succ (Paired.len t)
/-- a tuple of two ints -/
def Fr (H : Hp) (q : Addr) (t b : Int) : Prop := H q = some (.tup [.int t, .int b])
abbrev Rows (H : Hp) (as : List Addr) (fr : List (Int × Int)) : Prop := Paired (fun a x => Fr H a x.1 x.2) as fr
theorem Rows.same {H H' : Hp} {as : List Addr} {fr : List (Int × Int)} (r : Rows H as fr) (s : Same H H') : Rows H' as fr := Paired.imp r fun _ _ h => s _ _ h
theorem Rows.mov {p : Addr} {H H' : Hp} {as : List Addr} {fr : List (Int × Int)} (r : Rows H as fr) (m : Mov p H H') (hp : PotAt H p) : Rows H' as fr := Paired.imp r fun _ _ h => m.tup hp h
/-- a test with a known answer -/
theorem iteP {c A B : Prop} [Decidable c] (hc : c) (h : A) : if c then A else B := by rw [if_pos hc]; exact h
theorem iteN {c A B : Prop} [Decidable c] (hc : ¬ c) (h : B) : if c then A else B := by rw [if_neg hc]; exact h
theorem al3 {H H2 : Hp} {p : Addr} {o : HO} (e : upd H p o = H2) (h : H p = none) : Same H H2 ∧ H2 p = some o := by
  subst e
  exact ⟨Lb.Same.upd h, upd_same⟩
theorem Rows.snoc {H : Hp} {as : List Addr} {fr : List (Int × Int)} {q : Addr} {t b : Int} (r : Rows H as fr) (f : H q = some (.tup [.int t, .int b])) : Rows H (as ++ [q]) (fr ++ [(t, b)]) := Paired.snoc (F := fun (a : Addr) (x : Int × Int) => Fr H a x.1 x.2) (b := (t, b)) f r
theorem Rows.nil {H : Hp} : Rows H [] [] := Paired.nil
theorem Mov.ne {p l : Addr} {H H1 : Hp} (m : Mov p H H1) (h : H1 l = none) : l ≠ p := by
  obtain ⟨_, _, e, _⟩ := m.pot
  exact (ne_of_none e h).symm
/-- a list of another length is not the pot -/
theorem PotAt.ne {p l : Addr} {H : Hp} {xs : List V} (m : PotAt H p) (h : H l = some (.lst xs)) (n : xs.length ≠ 2) : l ≠ p := by
  rintro rfl
  obtain ⟨_, _, e, _⟩ := m
  rw [h] at e
  injection e with e
  injection e with e
  rw [e] at n
  exact n rfl
/-- a new object is changed -/
theorem Same.updl {H H2 : Hp} {l : Addr} {o : HO} (s : L2.Same H H2) (hl : H l = none) : L2.Same H (L2.upd H2 l o) := fun b u e => by
  rw [upd_ne (ne_of_none e hl)]
  exact s _ _ e
/-- what isinstance and the comparisons ask of the class at C -/
structure Inst (K : PySem.W.Frag) (C : Addr) : Prop where
  ca : PySem.W.findIn K (.ref C) "__class__" = some (some (.builtin "object.__class__"))
  cn : PySem.W.specialIn K (.builtin "object.__class__") "__get__" = some (some (.builtin "getset_descriptor.__get__"))
  ct : PySem.W.takesIn K (.builtin "object.__class__") = some true
  cm : PySem.W.mroIn K C (.type "object") = some true
  kNone : PySem.W.kitOne K (.type "NoneType") (.ref C) = some false
  kBool : PySem.W.kitOne K (.type "bool") (.ref C) = some false
  kInt : PySem.W.kitOne K (.type "int") (.ref C) = some false
  kStr : PySem.W.kitOne K (.type "str") (.ref C) = some false
  kList : PySem.W.kitOne K (.type "list") (.ref C) = some false
  kTup : PySem.W.kitOne K (.type "tuple") (.ref C) = some false
  kDict : PySem.W.kitOne K (.type "dict") (.ref C) = some false
  nNone : PySem.W.notFirst K C (.type "NoneType") = true
  nBool : PySem.W.notFirst K C (.type "bool") = true
  nInt : PySem.W.notFirst K C (.type "int") = true
  nStr : PySem.W.notFirst K C (.type "str") = true
  nList : PySem.W.notFirst K C (.type "list") = true
  nTup : PySem.W.notFirst K C (.type "tuple") = true
  nDict : PySem.W.notFirst K C (.type "dict") = true
theorem Inst.kSelf {K : PySem.W.Frag} {C : Addr} : PySem.W.kitOne K (.ref C) (.ref C) = some true := by
  unfold PySem.W.kitOne
  rw [if_pos (beq_self_eq_true _)]
theorem Inst.nSelf {K : PySem.W.Frag} {C : Addr} : PySem.W.notFirst K C (.ref C) = true := by
  unfold PySem.W.notFirst
  rw [beq_self_eq_true, Bool.true_or]
theorem Inst.ty {K : PySem.W.Frag} {C x dx : Addr} {H : Hp} {fs : List (Str × V)} (I : Inst K C) (cl : Cls K C) (e : H x = some (.ins C dx fs)) : TyOf K H (.ref x) (.ref C) := .ins e cl I.ca I.cn I.ct I.cm
theorem kit_own {K : PySem.W.Frag} {C : Addr} {T : String} (h1 : PySem.W.isClsIn K C = true) (h2 : PySem.W.typeIn K (.ref C) = some (.type "type")) (h3 : PySem.W.subIn K (.type T) (.ref C) = some false) :
    PySem.W.kitOne K (.type T) (.ref C) = some false ∧ PySem.W.notFirst K C (.type T) = true := by
  have ne : (Value.type T == Value.ref C) = false := Bool.eq_false_iff.mpr fun q => nomatch beq_iff_eq.mp q
  constructor
  · unfold PySem.W.kitOne
    rw [ne, if_neg (by decide)]
    unfold PySem.W.kitCls
    have h1' : (PySem.W.clsIn K C).isSome = true := h1
    dsimp only
    rw [h1', h2]
    rw [if_pos (by simp)]
    exact h3
  · unfold PySem.W.notFirst
    rw [h3]
    simp
/-- a def of the class by its special name -/
structure OwnM (K : PySem.W.Frag) (C : Addr) (x : Str) (f : Addr) : Prop where
  at_ : PySem.W.findIn K (.ref C) x = some (some (.ref f))
  fn : PySem.W.isFn K (.ref f) = true
/-- a value that is plainly no instance of the class at C: how isinstance and the comparisons see it -/
def NotC (K : PySem.W.Frag) (C : Addr) (H : Hp) (y : V) : Prop := ∃ t, TyOf K H y t ∧ PySem.W.kitOne K t (.ref C) = some false ∧ PySem.W.notFirst K C t = true
end Lb

set_option Elab.async false
set_option linter.all false
set_option maxRecDepth 100000
set_option maxHeartbeats 4000000
namespace Lb
open PySem PySem.Spec PyProof.Rows L2

/-! lists of bools, shown -/
theorem dp_bools {K : PySem.W.Frag} {H : Hp} : ∀ bs : List Bool, DpAll K H (bs.map V.bl) (bs.map PyData.bool)
  | [] => .nil
  | b :: r => .cons (.bl b) (dp_bools r)
theorem show_bools : ∀ bs : List Bool, PyData.showableAll (bs.map PyData.bool) = true
  | [] => by simp only [List.map_nil, PyData.showableAll]
  | b :: r => by simp only [List.map_cons, PyData.showableAll, PyData.showable, show_bools r, Bool.and_self]
theorem depth_bools : ∀ bs : List Bool, PyData.depthAll (bs.map PyData.bool) ≤ 1
  | [] => by simp only [List.map_nil, PyData.depthAll]; omega
  | b :: r => by
    have := depth_bools r
    simp only [List.map_cons, PyData.depthAll, PyData.depth]
    omega
theorem len_bools : ∀ bs : List Bool, ((PyData.shownAll (bs.map PyData.bool)).map (·.length)).sum ≤ 5 * bs.length ∧ (PyData.shownAll (bs.map PyData.bool)).length = bs.length
  | [] => by simp only [List.map_nil, PyData.shownAll]; exact ⟨Nat.le_refl _, rfl⟩
  | b :: r => by
    obtain ⟨h1, h2⟩ := len_bools r
    simp only [List.map_cons, PyData.shownAll, List.sum_cons, List.length_cons, h2]
    refine ⟨?_, trivial⟩
    have : (PyData.shown (.bool b)).length ≤ 5 := by
      simp only [PyData.shown]
      cases b <;> decide +kernel
    omega
theorem bools_ok (bs : List Bool) (n : bs.length ≤ 1000) : (PyData.list (bs.map PyData.bool)).showable = true ∧ (PyData.list (bs.map PyData.bool)).shown.length ≤ sizeLine ∧ (PyData.list (bs.map PyData.bool)).depth ≤ 60 := by
  refine ⟨?_, ?_, ?_⟩
  · simp only [PyData.showable, show_bools]
  · have e := listText_len_le (PyData.shownAll (bs.map PyData.bool))
    obtain ⟨h1, h2⟩ := len_bools bs
    simp only [PyData.shown]
    have : sizeLine = 16777216 := by decide
    omega
  · have := depth_bools bs
    simp only [PyData.depth]
    omega
theorem TyOf.same {K : PySem.W.Frag} {H H' : Hp} {y : V} {t : Value} (s : L2.Same H H') (h : TyOf K H y t) : TyOf K H' y t := by
  cases h with
  | non => exact .non
  | bl x => exact .bl x
  | int i => exact .int i
  | str x => exact .str x
  | flt x => exact .flt x
  | lst e => exact .lst (s _ _ e)
  | frz e => exact .frz (s _ _ e)
  | tup e => exact .tup (s _ _ e)
  | dK e => exact .dK (s _ _ e)
  | dT e => exact .dT (s _ _ e)
  | ins e cl a b c d => exact .ins (s _ _ e) cl a b c d
theorem NotC.same {K : PySem.W.Frag} {C : Addr} {H H' : Hp} {y : V} (s : L2.Same H H') (h : NotC K C H y) : NotC K C H' y := by
  obtain ⟨t, a, b, c⟩ := h
  exact ⟨t, TyOf.same s a, b, c⟩
theorem map_replicate_bl (n : Nat) (b : Bool) : (List.replicate n b).map V.bl = List.replicate n (V.bl b) := by simp
theorem all_replicate_true (n : Nat) : (List.replicate n true).all id = true := by simp
end Lb

set_option Elab.async false
set_option linter.all false
set_option maxRecDepth 100000
set_option maxHeartbeats 4000000
namespace Lb
open PySem PySem.Spec PyProof.Rows L2

/-- for i, x in enumerate(xs) -/
theorem for_enum {K : PySem.W.Frag} {a : Addr} {xs : List V} {g : TG} {tb : TS} {D : Ends} {σ : L2.St} {H : Hp} (Pv : Nat → L2.St → Hp → Prop) (h0 : Pv 0 σ H) (hq : ∀ i σ H, Pv i σ H → SqL K H a xs)
    (hs : ∀ (i : Nat) (x : V) (T : Addr) (σ : L2.St) (H : Hp), xs[i]? = some x → Pv i σ H → H T = none → g (.ref T) σ (L2.upd H T (.tup [.int (i : Nat), x])) fun σ2 H2 => tb { D with nx := Pv (i + 1), ct := Pv (i + 1), bk := D.nx } σ2 H2)
    (hd : ∀ σ H, Pv xs.length σ H → D.nx σ H) :
    ∃ W : Nat → Nat → L2.St → Hp → Prop, (∃ m, W 0 m σ H) ∧ ∀ i m σ H, W i m σ H →
      ((Ite K a).stop i H ∧ D.nx σ H) ∨ ((Ite K a).go i H ∧ ∃ N : L2.St → Hp → Prop, (∀ σ' H', N σ' H' → ∃ m', m' < m ∧ W (i + 1) m' σ' H') ∧
        ∀ v H', (Ite K a).yld i H v H' → g v σ H' fun σ2 H2 => tb { D with nx := N, ct := N, bk := D.nx } σ2 H2) := by
  refine ⟨fun i m σ H => m = xs.length - i ∧ i ≤ xs.length ∧ Pv i σ H, ⟨xs.length, rfl, Nat.zero_le _, h0⟩, ?_⟩
  rintro i m σ H ⟨rfl, hi, p⟩
  have q := hq i σ H p
  rcases Nat.lt_or_ge i xs.length with h | h
  · have hx : xs[i]? = some xs[i] := List.getElem?_eq_getElem h
    refine .inr ⟨⟨xs, _, q, hx⟩, Pv (i + 1), fun σ' H' p' => ⟨xs.length - (i + 1), by omega, rfl, h, p'⟩, ?_⟩
    rintro v H' ⟨T, x, rfl, hT, rfl, f⟩
    exact hs i x T σ H (f xs q) p hT
  · have e : i = xs.length := by omega
    subst e
    exact .inl ⟨⟨xs, q, Nat.le_refl _⟩, hd σ H p⟩

/-! a list that is being made at D, above the heap H0 -/
structure Blt {α : Type} (R : Hp → Addr → α → Prop) (H0 : Hp) (D : Addr) (done : List α) (H : Hp) : Prop where
  same : L2.Same H0 H
  ex : ∃ bs : List Addr, H D = some (.lst (bs.map V.ref)) ∧ Paired (R H) bs done
theorem Blt.start {α : Type} {R : Hp → Addr → α → Prop} {H0 : Hp} {D : Addr} (h : H0 D = none) : Blt R H0 D [] (L2.upd H0 D (.lst [])) :=
  ⟨Lb.Same.upd h, [], upd_same, .nil⟩
/-- one more item, made on the way from H to H2 -/
theorem Blt.step {α : Type} {R : Hp → Addr → α → Prop} {H0 H H2 : Hp} {D r : Addr} {done : List α} {x : α} (b : Blt R H0 D done H) (hD : H0 D = none) (s : L2.Same H H2)
    (keep : ∀ H H' a x, R H a x → (∀ o, H a = some o → H' a = some o) → R H' a x) (nl : ∀ H a x l, R H a x → H a = some (.lst l) → False) (hr : R H2 r x) :
    ∃ acc, H2 D = some (.lst acc) ∧ acc.length = done.length ∧ Blt R H0 D (done ++ [x]) (L2.upd H2 D (.lst (acc ++ [V.ref r]))) := by
  obtain ⟨s0, bs, e, p⟩ := b
  have e2 := s _ _ e
  have ch : ∀ a y, R H2 a y → R (L2.upd H2 D (.lst (bs.map V.ref ++ [V.ref r]))) a y := by
    intro a y h
    refine keep _ _ a y h fun o ho => ?_
    have na : a ≠ D := by
      rintro rfl
      exact nl _ _ _ _ h e2
    rw [upd_ne na]
    exact ho
  refine ⟨_, e2, by rw [List.length_map, Paired.len p], Same.updl (s0.trans s) hD, bs ++ [r], by rw [upd_same, List.map_append]; rfl, ?_⟩
  exact Paired.snoc (ch _ _ hr) (Paired.imp p fun a y h => ch _ _ (keep _ _ a y h fun o ho => s _ _ ho))

/-! an element of a list of ints -/
theorem inV_ints (z : Int) : ∀ ns : List Int, inV (.int z) (ns.map V.int) = decide (z ∈ ns)
  | [] => by simp [inV]
  | n :: r => by
    have ih := inV_ints z r
    unfold inV at ih ⊢
    rw [List.map_cons, List.any_cons, ih]
    have : eqV (.int n) (.int z) = decide (z = n) := by
      by_cases h : z = n
      · subst h; simp [eqV]
      · have h' : ¬ n = z := fun e => h e.symm
        simp [eqV, h, h']
    rw [this]
    by_cases h : z = n <;> simp [h]
theorem flat_ints : ∀ ns : List Int, (ns.map V.int).all flatV = true
  | [] => rfl
  | n :: r => by rw [List.map_cons, List.all_cons, flat_ints r]; rfl
end Lb

set_option Elab.async false
set_option linter.all false
set_option maxRecDepth 100000
set_option maxHeartbeats 4000000
namespace Lb
open PySem PySem.Spec PyProof.Rows L2
open SlX (cmpback)

/-! own operators between an instance and an int, or two instances -/
/-- what the text holds of an operator of a class beside ints: its def at g, the turned one at r -/
structure OwnBin (K : PySem.W.Frag) (C : Addr) (op : Operator) (g r : Addr) : Prop where
  first : PySem.W.selfFirst K C = true
  at_ : PySem.W.findIn K (.ref C) (PySem.dunder op.info.2) = some (some (.ref g))
  fn : PySem.W.isFn K (.ref g) = true
  rat : PySem.W.findIn K (.ref C) (dunderR op.info.2) = some (some (.ref r))
  rfn : PySem.W.isFn K (.ref r) = true
  i1 : ∃ fo, PySem.W.findIn K (.type "int") (PySem.dunder op.info.2) = some fo
  i2 : ∃ ro, PySem.W.findIn K (.type "int") (dunderR op.info.2) = some ro
  ss1 : PySem.W.subIn K (.type "int") (.ref C) = some false
  ss2 : PySem.W.subIn K (.ref C) (.type "int") = some false
  tyC : ∀ T, Value.type T ≠ .ref C := by intro T z; cases z

section
variable {X : Cx} {pins : List (Addr × Obj)} {σ : L2.St} {H : Hp} {s : Shared} {a C dx p g r : Addr} {f : Str} {n : Nat} {sp : Sp} {E : XK} {v : V} {u : Value} {op : Operator}

/-- a def that raises nothing, run in an expression -/
theorem run_at0 {A : Around} {Q : VK} {us : List Value} {ws : List V} (F : FnR X.prog X.w X.K X.mg X.base CX0 n g sp) (hr : Room n A) (e0 : Env0 X.prog X.w X.K X.mg X.base A X.stack s H) (I : Inv X pins σ H s) (r : Vals ws us) (h : sp ws H Q E) :
    codeAny (model X.prog X.w) A (.call (.ref g) ⟨us, []⟩) (fun r s' => match r with | .ok (.ret v) => EP X pins σ Q v s' | _ => False) s := by
  refine codeAny_mono (F A X.stack s H us ws Q E hr e0 r h) fun r s' hq => ?_
  cases r with
  | error e => exact False.elim hq
  | ok fl =>
    cases fl with
    | ret u => exact I.after hq
    | next => exact False.elim hq
    | brk => exact False.elim hq
    | cont => exact False.elim hq
theorem call_at0 {A : Around} {Ex : Value → Shared → Prop} {Q : VK} {us : List Value} {ws : List V} (F : FnR X.prog X.w X.K X.mg X.base CX0 n g sp) (hr : Room n A) (e0 : Env0 X.prog X.w X.K X.mg X.base A X.stack s H) (I : Inv X pins σ H s) (r : Vals ws us) (h : sp ws H Q E) :
    wpAny (model X.prog X.w) A (call (.ref g) us) (EP X pins σ Q) Ex s := by
  refine wpAny_call (codeAny_mono (run_at0 F hr e0 I r h) fun r s' hq => ?_)
  cases r with
  | error e => exact False.elim hq
  | ok fl => cases fl <;> first | exact hq | exact False.elim hq
/-- an operator, wherever it is run -/
def OpRA (X : Cx) (A : Around) (f : Value → Value → Sem Value) (r : R2) : Prop :=
  ∀ (pins : List (Addr × Obj)) (s : Shared) (σ : L2.St) (H : Hp) (x y : V) (v u : Value) (Q : VK) (Ex : Value → Shared → Prop), Inv X pins σ H s → Env0 X.prog X.w X.K X.mg X.base A X.stack s H → RelV x v → RelV y u → r x y H Q →
    wpAny (model X.prog X.w) A (f v u) (EP X pins σ Q) Ex s
theorem OpRA.here {f : Value → Value → Sem Value} {r : R2} (h : OpRA X X.A f r) : OpR X f r := fun pins s σ H x y v u Q I rx ry q => h pins s σ H x y v u Q _ I I.env0 rx ry q
theorem OpRA.or {A : Around} {f : Value → Value → Sem Value} {r r' : R2} (h : OpRA X A f r) (h' : OpRA X A f r') : OpRA X A f (fun x y H Q => r x y H Q ∨ r' x y H Q) := fun pins s σ H x y v u Q Ex I e0 rx ry q =>
  q.elim (h pins s σ H x y v u Q Ex I e0 rx ry) (h' pins s σ H x y v u Q Ex I e0 rx ry)
/-- x OP y, x an instance, y an int or an instance of its class -/
def rBin (C : Addr) (sp : Sp) (E : XK) : R2 := fun x y H Q =>
  ∃ a dx fs, x = .ref a ∧ H a = some (.ins C dx fs) ∧ ((∃ m, y = .int m) ∨ ∃ b dy fy, y = .ref b ∧ H b = some (.ins C dy fy)) ∧ sp [x, y] H Q E
theorem ownBin_at {K : PySem.W.Frag} {A : Around} (hK : X.K = K) (B : OwnBin K C op g r) (F : FnR X.prog X.w X.K X.mg X.base CX0 n g sp) (hr : Room n A) : OpRA X A (binaryOp op) (rBin C sp E) := by
  subst hK
  intro pins s σ H x y v u Q Ex I e0 rx ry h
  obtain ⟨a, dx, fs, rfl, ha, hy, q⟩ := h
  cases (show v = Value.ref a from rx)
  obtain ⟨od, J⟩ := inst_at I ha
  obtain ⟨m, hF⟩ := I.fr
  have one : wpAny (model X.prog X.w) A (call (.ref g) [.ref a, u]) (PySem.W.CmpBack (EP X pins σ Q)) Ex s := by
    refine wpAny_mono (call_at0 (us := [.ref a, u]) (ws := [.ref a, y]) F hr e0 I (.cons rfl (.cons ry .nil)) q) (fun w s' z => ?_) fun _ _ x => x
    obtain ⟨z', H', I', rz, qz⟩ := z
    exact cmpback rz ⟨z', H', I', rz, qz⟩
  rcases hy with ⟨k, rfl⟩ | ⟨b, dy, fy, rfl, hb⟩
  · obtain ⟨t, rfl⟩ := ry
    obtain ⟨fo, h1⟩ := B.i1
    obtain ⟨ro, h2⟩ := B.i2
    exact PySem.W.ksp_binT (T := "int") hF I.ok.mod.kin J rfl B.first B.at_ B.fn B.rat (.inr ⟨_, rfl⟩) h1 h2 B.ss1 one
  · cases (show u = Value.ref b from ry)
    obtain ⟨od', J'⟩ := inst_at I hb
    exact PySem.W.binop_K hF I.ok.mod.kin J J'.type B.first B.at_ B.fn one
/-- n OP y, y an instance: its turned def, where the int's own says nothing -/
def rBinR (C : Addr) (sp : Sp) (E : XK) : R2 := fun x y H Q =>
  ∃ m b dy fy, x = .int m ∧ y = .ref b ∧ H b = some (.ins C dy fy) ∧ sp [y, x] H Q E
/-- what the library says of an int's own operator -/
structure IntBin (op : Operator) (id : String) (nm : String) (f : Int → Int → Sem Fin) : Prop where
  fills : fillsNumberSlot (.type "int") op.info.2 = pure true
  slot : Slot "int" (PySem.dunder op.info.2) id
  entry : entryFor table id = some (Builtin.Int.intBinary nm f)
  args : ∀ x y, argsOk id ⟨[x, y], []⟩
theorem int_no {M : Model} {A : Around} {Ex : Value → Shared → Prop} {Q : Fin → Shared → Prop} {k : Int} {t : Tok} {b : Addr} {nm : String} {fI : Int → Int → Sem Fin} (J : s.heap.get? b = some (PySem.W.instObj C dx))
    (h : Q (.done (.ret .notImplemented)) s) : wpAny M A (Builtin.Int.intBinary nm fI false ⟨[.int k t, .ref b], []⟩) Q Ex s := by
  unfold Builtin.Int.intBinary
  refine wpAny_bind (m := slotArgs _ _ _) (wpAny_pure ?_)
  refine wpAny_bind (m := Builtin.Int.intOfSelf _) (wpAny_pure ?_)
  refine wpAny_bind (m := asInt? _) (wpAny_bind (wpAny_load J (wpAny_pure ?_)))
  exact wpAny_bind (wpAny_rule (wpAny_pure h))
theorem int_add : IntBin .Add "int.__add__" "__add__" (fun x y => retInt (x + y)) := ⟨F.fills_int_add, F.slot_int_add, F.entry_int_add, F.args_int_add_2⟩
theorem int_sub : IntBin .Sub "int.__sub__" "__sub__" (fun x y => retInt (x - y)) := ⟨F.fills_int_sub, F.slot_int_sub, F.entry_int_sub, F.args_int_sub_2⟩
theorem int_mul : IntBin .Mult "int.__mul__" "__mul__" (fun x y => Builtin.intProduct "__mul__" x y) := ⟨F.fills_int_mul, F.slot_int_mul, F.entry_int_mul, F.args_int_mul_2⟩
theorem ownBinR_at {K : PySem.W.Frag} {A : Around} {id nm : String} {fI : Int → Int → Sem Fin} (hK : X.K = K) (L : IntBin op id nm fI) (B : OwnBin K C op g r) (F : FnR X.prog X.w X.K X.mg X.base CX0 n r sp) (hr : Room n A) : OpRA X A (binaryOp op) (rBinR C sp E) := by
  subst hK
  intro pins s σ H x y v u Q Ex I e0 rx ry h
  obtain ⟨k, b, dy, fy, rfl, rfl, hb, q⟩ := h
  obtain ⟨t, rfl⟩ := rx
  cases (show u = Value.ref b from ry)
  obtain ⟨od, J⟩ := inst_at I hb
  have KX := I.kIn
  obtain ⟨cd, rest, hcd, hm⟩ := PySem.W.ksp_first B.first
  have L4 : PySem.W.Looks (model X.prog X.w) s.heap (fillsNumberSlot (.ref C) op.info.2) true := PySem.W.fills_K KX hcd hm B.at_
  have L5 : PySem.W.Looks (model X.prog X.w) s.heap (isSubtype (.ref C) (.type "int")) false := PySem.W.looks_subIn KX B.ss2
  have two : wpAny (model X.prog X.w) A (call (.ref r) [.ref b, .int k t]) (PySem.W.CmpBack (EP X pins σ Q)) Ex s := by
    refine wpAny_mono (call_at0 (us := [.ref b, .int k t]) (ws := [.ref b, .int k]) F hr e0 I (.cons rfl (.cons ⟨t, rfl⟩ .nil)) q) (fun w s' z => ?_) fun _ _ x => x
    obtain ⟨z', H', I', rz, qz⟩ := z
    exact cmpback rz ⟨z', H', I', rz, qz⟩
  have rt := B.rat
  have fl := L.fills
  have sl := L.slot
  rcases hi : op.info with ⟨sym, nm'⟩
  rw [hi] at L4 rt fl sl
  dsimp only at L4 rt fl sl
  have hne : (Value.type "int" == Value.ref C) = false := Bool.eq_false_iff.mpr fun q => by cases beq_iff_eq.mp q
  simp only [binaryOp, hi]
  refine wpAny_holding (wpAny_bind ?_)
  unfold binaryOp1
  refine wpAny_bind (wpAny_of_eq (show typeOf (.int k t) = pure (.type "int") from rfl) (wpAny_bind (J.type.here (wpAny_bind (wpAny_of_eq fl ?_)))))
  simp only [hne, Bool.false_eq_true, if_false]
  refine wpAny_bind (L4.here ?_)
  simp only [Bool.and_self, if_true]
  refine wpAny_bind (L5.here ?_)
  have hpy : numberSlotInPython (.type "int") nm' = pure false := rfl
  simp only [Bool.false_eq_true, if_false, pure_bind, Bool.not_false, Bool.and_self, if_true, hpy]
  simp only [tryMethod]
  refine wpAny_bind (wpAny_bind (wpAny_callSpecial?_slot (typeIs_int _ _ _) sl (wpAny_call_entry sl (typeIs_int _ _ _) L.entry ?_ (L.args _ _))))
  refine int_no J.at_ ⟨_, rfl, ?_⟩
  refine wpAny_pure ?_
  refine wpAny_bind (wpAny_bind (PySem.W.special_fn KX J rt (beq_iff_eq.mp B.rfn) (wpAny_mono two (fun v s' hv => ?_) fun _ _ e => e)))
  cases v <;> first | exact hv.elim | exact wpAny_pure (wpAny_bind (wpAny_rule (wpAny_pure (wpAny_pure hv))))
theorem op_ownBin {K : PySem.W.Frag} (hK : X.K = K) (B : OwnBin K C op g r) (F : FnR X.prog X.w X.K X.mg X.base CX0 n g sp) (hr : Room n X.A) : OpR X (binaryOp op) (rBin C sp E) := (ownBin_at hK B F hr).here
theorem op_ownBinR {K : PySem.W.Frag} {id nm : String} {fI : Int → Int → Sem Fin} (hK : X.K = K) (L : IntBin op id nm fI) (B : OwnBin K C op g r) (F : FnR X.prog X.w X.K X.mg X.base CX0 n r sp) (hr : Room n X.A) : OpR X (binaryOp op) (rBinR C sp E) := (ownBinR_at hK L B F hr).here
/-! -x, abs(x), bool(x) of an instance -/
def rUnOwn (C : Addr) (sp : Sp) (E : XK) : V → Hp → VK → Prop := fun x H Q => ∃ a dx fs, x = .ref a ∧ H a = some (.ins C dx fs) ∧ sp [x] H Q E
theorem un_ownNeg {K : PySem.W.Frag} (hK : X.K = K) (hs : PySem.W.findIn K (.ref C) "__neg__" = some (some (.ref g))) (hf : PySem.W.isFn K (.ref g) = true) (F : FnR X.prog X.w X.K X.mg X.base CX0 n g sp) (hr : Room n X.A) :
    UnR X (unaryOp .USub) (rUnOwn C sp E) := by
  subst hK
  intro pins s σ H x v Q I rx h
  obtain ⟨a, dx, fs, rfl, ha, q⟩ := h
  cases (show v = Value.ref a from rx)
  obtain ⟨od, J⟩ := inst_at I ha
  obtain ⟨m, hF⟩ := I.fr
  exact PySem.W.ksp_neg hF I.ok.mod.kin J hs hf (call_at0 (us := [.ref a]) (ws := [.ref a]) F hr I.env0 I (.cons rfl .nil) q)
def rCallOwn (C : Addr) (sp : Sp) (E : XK) : List V → Hp → VK → Prop := fun xs H Q => ∃ a dx fs, xs = [.ref a] ∧ H a = some (.ins C dx fs) ∧ sp xs H Q E
theorem call_absOwn (hs : PySem.W.findIn X.K (.ref C) "__abs__" = some (some (.ref g))) (hf : PySem.W.isFn X.K (.ref g) = true) (F : FnR X.prog X.w X.K X.mg X.base CX0 n g sp) (hr : Room (n + 1) X.A) :
    CallR X (.builtin "abs") (rCallOwn C sp E) := by
  intro pins s σ H xs us Q I r h
  obtain ⟨a, dx, fs, rfl, ha, q⟩ := h
  obtain ⟨u, rfl, ru⟩ := vals1 r
  cases (show u = Value.ref a from ru)
  obtain ⟨od, J⟩ := inst_at I ha
  refine Calls.call_function_entry kind_abs plain_abs entry_abs (args_abs _) ?_
  unfold Builtin.«abs»
  refine wpAny_bind (m := oneArg "abs" _) (wpAny_pure ?_)
  refine wpAny_bind (PySem.W.special_fn I.kIn J hs (beq_iff_eq.mp hf) ?_)
  refine wpAny_mono (call_at0 (us := [.ref a]) (ws := [.ref a]) F hr.in1 I.env0.in1 I (.cons rfl .nil) q) (fun w s' z => ?_) fun _ _ x => x
  exact wpAny_pure ⟨_, rfl, z⟩
end
/-! sum of a list of instances -/
/-- how the sum goes: N i v H, the sum v of the first i -/
structure SumG (K : PySem.W.Frag) (add : R2) (l : Addr) (as : List Addr) (N : Nat → V → Hp → Prop) : Prop where
  zero : ∀ v H, N 0 v H → v = .int 0
  more : ∀ i v H, N (i + 1) v H → ∃ a, v = .ref a
  list : ∀ i v H, N i v H → SqL K H l (as.map V.ref)
  step : ∀ i v a H, as[i]? = some a → N i v H → add v (.ref a) H (N (i + 1))
theorem turn_fp {X : Cx} {pins : List (Addr × Obj)} {σ : L2.St} {H : Hp} {s : Shared} {it : Addr} {h' : Heap} {t' : Nat} (I : Inv X pins σ H s) (f : FpOk X pins H it) (k : ∀ b o, b ≠ it → s.heap.get? b = some o → h'.get? b = some o) : Inv X pins σ H { s with heap := h', toks := t' } := by
  obtain ⟨f0, f1, f2, f3, f4, f5⟩ := f
  exact I.turned k f0 f1 f3 f4 f5
section
variable {X : Cx} {pins : List (Addr × Obj)} {σ : L2.St} {add : R2} {l : Addr} {as : List Addr} {N : Nat → V → Hp → Prop} {Q : VK}
theorem sum_loop (hc : X.calm = true) (hadd : OpRA X X.A.in1 (binaryOp .Add) add) (G : SumG X.K add l as N) (hQ : ∀ v H, N as.length v H → Q v H) (it S : Addr) (hne : S ≠ it) :
    ∀ (k i : Nat) (s : Shared) (H : Hp) (v : V) (u : Value) (c : Nat) (st : Int), as.length - i = k → i ≤ as.length → Inv X pins σ H s → N i v H → RelV v u → ((st = 0 ∧ ∃ t, u = .int 0 t) ∨ (st = 2 ∧ ∃ a, u = .ref a)) →
      s.heap.IsListIter it l i → s.heap.get? S = some { cls := .type "list", dict := none, data := .seq #[u] c, slots := #[] } → FpOk X pins H it → FpOk X pins H S →
      codeAny (model X.prog X.w) X.A (.builtin "sum.loop" ⟨[.ref it, .ref S, rawInt st, rawInt 0], []⟩) (fun r s' => match r with | .ok (.ret v) => EP X pins σ Q v s' | _ => False) s := by
  intro k
  induction k with
  | zero =>
    intro i s H v u c st hk hi I n rv hu hit hS fi fS
    obtain ⟨its, rl, pl, hsz⟩ := I.list (G.list _ _ _ n)
    have hlen : its.length = as.length := by rw [← rl.length, List.length_map]
    have hin : i = as.length := by omega
    refine codeAny_builtin F.entry_sum_loop ?_
    rw [Around.under_plainId F.plain_sum_loop _]
    show wpAny _ X.A.in1 (seqItems? (.ref S) >>= _) _ _ s
    refine wpAny_bind (wpAny_seqItems hS rfl ?_)
    show wpAny _ X.A.in1 (tryCatch (pyNext (.ref it)) _ >>= _) _ _ s
    refine wpAny_bind (wpAny_tryCatch (wpAny_pyNext_list_end (I.ok.hd hc) hit pl.isList (by rw [List.getElem?_toArray, List.getElem?_eq_none (by omega)]) fun h' he => ?_))
    have I' := turn_fp (t' := s.toks) I fi he
    have q : Q v H := hQ _ _ (hin ▸ n)
    rcases hu with ⟨_, t, rfl⟩ | ⟨_, a, rfl⟩
    · exact wpAny_pure ⟨v, H, I', rv, q⟩
    · exact wpAny_pure ⟨v, H, I', rv, q⟩
  | succ k ih =>
    intro i s H v u c st hk hi I n rv hu hit hS fi fS
    obtain ⟨its, rl, pl, hsz⟩ := I.list (G.list _ _ _ n)
    have hlen : its.length = as.length := by rw [← rl.length, List.length_map]
    have hlt : i < as.length := by omega
    obtain ⟨u2, hu2, rx⟩ := rl.get (i := i) (x := .ref as[i]) (by rw [List.getElem?_map, List.getElem?_eq_getElem hlt]; rfl)
    cases (show u2 = Value.ref as[i] from rx)
    refine codeAny_builtin F.entry_sum_loop ?_
    rw [Around.under_plainId F.plain_sum_loop _]
    show wpAny _ X.A.in1 (seqItems? (.ref S) >>= _) _ _ s
    refine wpAny_bind (wpAny_seqItems hS rfl ?_)
    show wpAny _ X.A.in1 (tryCatch (pyNext (.ref it)) _ >>= _) _ _ s
    refine wpAny_bind (wpAny_tryCatch (wpAny_pyNext_list_item hit pl.isList (x := .ref as[i]) (by rw [List.getElem?_toArray]; exact hu2) fun h' hit' hs => ?_))
    have I' := turn_fp (t' := s.toks) I fi hs.extBut
    have hS' : h'.get? S = some { cls := .type "list", dict := none, data := .seq #[u] c, slots := #[] } := hs.extBut S _ hne hS
    -- both kept while the operator runs
    have fps : ∀ b ∈ [it, S], FpOk X pins H b := by
      intro b hb
      rcases List.mem_cons.mp hb with e | hb
      · exact e ▸ fi
      · exact (List.mem_singleton.mp hb) ▸ fS
    obtain ⟨oi, hoi, hci, hdi⟩ := id hit'
    have IP := I'.pinned (fp := [it, S]) fps (by
      intro b hb
      rcases List.mem_cons.mp hb with e | hb
      · exact ⟨oi, by rw [e]; exact hoi, fun v z => by rw [hdi] at z; cases z⟩
      · exact ⟨_, by rw [List.mem_singleton.mp hb]; exact hS', fun v z => by cases z⟩)
    have main : ∀ (Ex : Value → Shared → Prop), wpAny (model X.prog X.w) X.A.in1 (binaryOp .Add u (.ref as[i])) (fun r s' => ∃ a v' H', r = .ref a ∧ v' = .ref a ∧ Inv X pins σ H' s' ∧ N (i + 1) v' H' ∧ s'.heap.IsListIter it l (i + 1) ∧
        s'.heap.get? S = some { cls := .type "list", dict := none, data := .seq #[u] c, slots := #[] } ∧ FpOk X pins H' it ∧ FpOk X pins H' S) Ex { s with heap := h' } := fun Ex => by
      refine wpAny_mono (hadd _ _ σ H v (.ref as[i]) u (.ref as[i]) (N (i + 1)) Ex IP IP.env0.in1 rv rfl (G.step _ _ _ _ (List.getElem?_eq_getElem hlt) n)) (fun r s' z => ?_) fun _ _ e => e
      obtain ⟨v', H', I2, r2, n2⟩ := z
      obtain ⟨a, rfl⟩ := G.more _ _ _ n2
      have p1 := I2.pin (it, oi) (List.mem_append_right _ (List.mem_append_right _ (mem_pinsAt (by simp) hoi)))
      have p2 := I2.pin (S, _) (List.mem_append_right _ (List.mem_append_right _ (mem_pinsAt (by simp) hS')))
      exact ⟨a, _, H', r2, rfl, I2.unpinned, n2, ⟨oi, p1.1, hci, hdi⟩, p2.1, ⟨p1.2.1, fi.2⟩, ⟨p2.2.1, fS.2⟩⟩
    -- the sum is set
    have last : ∀ (s' : Shared) (H' : Hp) (a : Addr), Inv X pins σ H' s' → N (i + 1) (.ref a) H' → s'.heap.IsListIter it l (i + 1) → s'.heap.get? S = some { cls := .type "list", dict := none, data := .seq #[u] c, slots := #[] } → FpOk X pins H' it → FpOk X pins H' S →
        wpAny (model X.prog X.w) X.A.in1 (updateSeq S (fun _ => #[.ref a]) >>= fun _ => letGo [u, .ref as[i]] [] >>= fun _ => updateSeq S (fun _ => #[.ref a]) >>= fun _ => again (.builtin "sum.loop" ⟨[.ref it, .ref S, rawInt 2, rawInt 0], []⟩))
          (fun fin s' => match fin with | .done f => (match (Except.ok f : Result) with | .ok (.ret v) => EP X pins σ Q v s' | _ => False) | .again c' => c'.quiet = true ∧ codeAny (model X.prog X.w) X.A c' (fun r s' => match r with | .ok (.ret v) => EP X pins σ Q v s' | _ => False) s') (fun _ _ => False) s' := by
      intro s' H' a I2 n2 hit2 hS2 fi2 fS2
      refine wpAny_bind (wpAny_updateSeq hS2 rfl ?_)
      have hS3 := Heap.get?_update_self (Obj.mapSeq fun _ => #[Value.ref a]) hS2 rfl
      refine wpAny_bind (wpAny_letGo ?_)
      refine wpAny_bind (wpAny_updateSeq hS3 rfl ?_)
      have hS4 := Heap.get?_update_self (Obj.mapSeq fun _ => #[Value.ref a]) hS3 rfl
      have keep : ∀ b o, b ≠ S → s'.heap.get? b = some o → ((s'.heap.update S (Obj.mapSeq fun _ => #[Value.ref a])).update S (Obj.mapSeq fun _ => #[Value.ref a])).get? b = some o := fun b o nb e =>
        (Heap.get?_update_other _ _ (Ne.symm nb)).trans ((Heap.get?_update_other _ _ (Ne.symm nb)).trans e)
      have I3 := turn_fp (t' := s'.toks) I2 fS2 keep
      refine wpAny_pure ⟨plainId_quiet F.plain_sum_loop _, ih (i + 1) _ H' (.ref a) (.ref a) _ 2 (by omega) hlt I3 n2 rfl (.inr ⟨rfl, _, rfl⟩) ?_ hS4 fi2 fS2⟩
      obtain ⟨o, e, x, y⟩ := hit2
      exact ⟨o, keep _ _ (Ne.symm hne) e, x, y⟩
    rcases hu with ⟨rfl, t, rfl⟩ | ⟨rfl, a0, rfl⟩
    · refine wpAny_bind (wpAny_rule ?_)
      refine wpAny_bind (wpAny_attempt (wpAny_holding (wpAny_mono (main _) (fun r s' z => ?_) fun _ _ e => e)))
      obtain ⟨a, v', H', rfl, rfl, I2, n2, hit2, hS2, fi2, fS2⟩ := z
      exact last s' H' a I2 n2 hit2 hS2 fi2 fS2
    · refine wpAny_bind (wpAny_attempt (wpAny_holding (wpAny_mono (main _) (fun r s' z => ?_) fun _ _ e => e)))
      obtain ⟨a, v', H', rfl, rfl, I2, n2, hit2, hS2, fi2, fS2⟩ := z
      exact last s' H' a I2 n2 hit2 hS2 fi2 fS2
/-- sum(xs), xs a list of instances -/
def rSumOwn (K : PySem.W.Frag) (add : R2) : List V → Hp → VK → Prop := fun vs H Q => ∃ (l : Addr) (as : List Addr) (N : Nat → V → Hp → Prop), vs = [.ref l] ∧ SumG K add l as N ∧ N 0 (.int 0) H ∧ ∀ v H', N as.length v H' → Q v H'
theorem cr_sumOwn {K : PySem.W.Frag} (hK : X.K = K) (hc : X.calm = true) (hadd : OpRA X X.A.in1 (binaryOp .Add) add) : CallR X (.builtin "sum") (rSumOwn K add) := by
  subst hK
  intro pins s σ H xs us Q I r h
  obtain ⟨l, as, N, rfl, G, n0, q⟩ := h
  obtain ⟨u, rfl, ru⟩ := vals1 r
  cases (show u = Value.ref l from ru)
  obtain ⟨its, rl, pl, hsz⟩ := I.list (G.list _ _ _ n0)
  refine call_function_tree F.kind_sum F.plain_sum F.entry_sum (F.args_sum1 _) ?_
  unfold Builtin.«sum»
  simp only [List.length_cons, List.length_nil]
  rw [if_neg (by decide)]
  refine wpAny_bind (wpAny_of_eq (show Builtin.Builtins.bindParams "sum" ["start"] 0 { } = pure [none] from rfl) ?_)
  refine wpAny_bind (wpAny_pyIter_list pl.isList ?_)
  refine wpAny_bind (wpAny_mkInt ?_)
  refine wpAny_bind (wpAny_pure ?_)
  simp only [List.forIn_cons, List.forIn_nil]
  refine wpAny_bind (wpAny_bind (wpAny_bind (wpAny_isInstance (T := "int") (b := false) (typeIs_int _ _ _) PySem.sub_int_str ?_)))
  simp only [Bool.false_eq_true, if_false]
  refine wpAny_pure (wpAny_bind (wpAny_bind (wpAny_isInstance (T := "int") (b := false) (typeIs_int _ _ _) PySem.sub_int_bytes ?_)))
  simp only [Bool.false_eq_true, if_false]
  refine wpAny_pure (wpAny_bind (wpAny_bind (wpAny_isInstance (T := "int") (b := false) (typeIs_int _ _ _) PySem.sub_int_bytearray ?_)))
  simp only [Bool.false_eq_true, if_false]
  refine wpAny_pure (wpAny_pure ?_)
  refine wpAny_bind (wpAny_newObj_type ?_)
  have k1 : ∀ b o, s.heap.get? b = some o → ((s.heap.push ({ cls := .type "list_iterator", data := .fields #[.ref l, .int 0 0] } : Obj)).push ({ cls := .type "list", dict := none, data := .seq #[Value.int 0 s.toks] } : Obj)).get? b = some o := fun b o e => Heap.get?_push_of_some _ (Heap.get?_push_of_some _ e)
  have e1 : (s.heap.push ({ cls := .type "list_iterator", data := .fields #[.ref l, .int 0 0] } : Obj)).objs.size = s.heap.objs.size + 1 := Heap.size_push ..
  have I1 := I.kept (t' := s.toks + 1) k1
  have n1 : H (s.heap.push ({ cls := .type "list_iterator", data := .fields #[.ref l, .int 0 0] } : Obj)).objs.size = none := I.hok.fresh (by rw [e1]; exact Nat.le_succ _)
  have n2 : H s.heap.objs.size = none := I.hok.fresh (Nat.le_refl _)
  have f1 : FpOk X pins H s.heap.objs.size := I.fpOk (Nat.le_refl _) n2
  have f2 : FpOk X pins H (s.heap.push ({ cls := .type "list_iterator", data := .fields #[.ref l, .int 0 0] } : Obj)).objs.size := I.fpOk (by rw [e1]; exact Nat.le_succ _) n1
  refine wpAny_pure ⟨plainId_quiet F.plain_sum_loop _, codeAny_mono (sum_loop (N := N) (Q := Q) hc hadd G q s.heap.objs.size (s.heap.push ({ cls := .type "list_iterator", data := .fields #[.ref l, .int 0 0] } : Obj)).objs.size (by rw [e1]; exact Nat.succ_ne_self _) as.length 0 _ H (.int 0) (.int 0 s.toks) 0 0 (by omega) (Nat.zero_le _) I1 n0 ⟨_, rfl⟩ (.inl ⟨rfl, _, rfl⟩) ?_ ?_ f1 f2) ?_⟩
  · exact ⟨_, Heap.get?_push_of_some _ (Heap.get?_push_size _ rfl), rfl, rfl⟩
  · exact Heap.get?_push_size _ rfl
  · intro r s' z
    cases r with
    | error e => exact False.elim z
    | ok fl => cases fl <;> first | exact z | exact False.elim z
end
end Lb

set_option Elab.async false
set_option linter.all false
set_option maxRecDepth 100000
set_option maxHeartbeats 4000000
namespace Lb
open PySem PySem.Spec PyProof.Rows L2
section
variable {X : Cx} {CX : CXT} {k : Nat} {f C p g : Addr} {fd : FuncData} {ps ks : List Str} {sp : Sp} {E : XK} {x m : Str} {pos np apos : Pos} {o : Expr} {kws : List Keyword} {ta : TE} {tk : TA} {gf : List Value → List Value → List Value} {gV : List V → List V → List V}
theorem run_kbn {n : Nat} {pins : List (Addr × Obj)} {σ : L2.St} {H : Hp} {s : Shared} {Q : VK} {us ws : List Value} {vs zs : List V} (F : FnOk X.prog X.w X.K X.mg X.base CX k f fd ps sp) (hr : Room k X.A) (hb : KBn X.K fd ps n ks gf gV) (hx : Passes CX X E)
    (I : Inv X pins σ H s) (r : Vals vs us) (rz : Vals zs ws) (l1 : vs.length = n) (l2 : zs.length = ks.length) (h : sp (gV vs zs) H Q E) : wpAny (model X.prog X.w) X.A (call (.ref f) us (ks.zip ws)) (EP X pins σ Q) X.xe s := by
  refine wpAny_call (codeAny_mono (F.run X.A X.stack s H ⟨us, ks.zip ws⟩ (gf us ws) (gV vs zs) Q E hr I.env0 (hb.to s us ws I.kIn (r.length.symm.trans l1) (rz.length.symm.trans l2)) (hb.rel r rz) h) fun r s' hq => ?_)
  cases r with
  | error e => exact hx pins σ H s e s' I hq
  | ok fl =>
    cases fl with
    | ret u => exact I.after hq
    | next => exact False.elim hq
    | brk => exact False.elim hq
    | cont => exact False.elim hq
/-- f(k = v, ..) -/
def tCallK0 (m : Nat) (sp : Sp) (gV : List V → List V → List V) (E : XK) (tk : TA) : TE := fun σ H Q => tk σ H fun zs H2 => zs.length = m ∧ sp (gV [] zs) H2 Q E
theorem pe_callK0 (F : FnOk X.prog X.w X.K X.mg X.base CX k f fd ps sp) (hr : Room k X.A) (hg : Gl X x) (hm : X.mg x = some (.ref f)) (hk : PySem.W.keepIn X.K (.ref f) = true) (hb : KBn X.K fd ps 0 ks gf gV) (hx : Passes CX X E) (hkw : PK X kws tk)
    (hall : (backToKw pos (keywordEach kws X.env)).all (·.1.isSome) = true := by rfl) (hks : (backToKw pos (keywordEach kws X.env)).filterMap (·.1) = ks := by rfl) (hdb : (x == ("__debug__" : Str)) = false := by decide)
    (hpl : ((backTo pos (starEach [] X.env)).any (·.1) || (backToKw pos (keywordEach kws X.env)).any (·.1.isNone)) = false := by rfl) :
    PE X (.Call (.Name x np) [] kws pos) (tCallK0 ks.length sp gV E tk) := by
  refine ⟨fun pins s σ H Q I h => ?_⟩
  refine wpAny_Call_Name_kw (ld_glob I hg hm ?_ hdb)
  refine PySem.W.callWith_KW0 (h₀ := X.base) I.ok.mod.kin hk hall ?_ hpl
  refine thn (hkw.run pos pins s σ H _ I h) fun ws s2 ⟨zs, H2, I2, rz, l2, q2⟩ => ⟨I2.kIn, ?_⟩
  rw [hks]
  exact run_kbn (us := []) (vs := []) F hr hb hx I2 .nil rz rfl l2 q2
/-- o.m(k = v, ..) -/
def tMethK0 (C : Addr) (m : Str) (nk : Nat) (sp : Sp) (gV : List V → List V → List V) (E : XK) (ta : TE) (tk : TA) : TE := fun σ H Q => ta σ H fun x H1 => ∃ a dx fs, x = .ref a ∧ H1 a = some (.ins C dx fs) ∧ fs.lookup m = none ∧ tk σ H1 fun zs H2 => zs.length = nk ∧ sp (gV [.ref a] zs) H2 Q E
theorem pe_methK0 {pl : Sem Bool} (he : PE X o ta) (c : Cls X.K C) (hm : Meth X.K C m f) (F : FnOk X.prog X.w X.K X.mg X.base CX k f fd ps sp) (hr : Room k X.A) (hb : KBn X.K fd ps 1 ks gf gV) (hx : Passes CX X E) (hkw : PK X kws tk)
    (hall : (backToKw pos (keywordEach kws X.env)).all (·.1.isSome) = true := by rfl) (hks : (backToKw pos (keywordEach kws X.env)).filterMap (·.1) = ks := by rfl)
    (hpl : ((backTo pos (starEach [] X.env)).any (·.1) || (backToKw pos (keywordEach kws X.env)).any (·.1.isNone)) = false := by rfl)
    (ht : eval (.Call (.Attribute o m apos) [] kws pos) X.env = (do
      let ov ← eval o X.env
      standAt apos.atName
      let (f, first) ← holding [ov] (getMethod ov m pl)
      callWith pos f first (backTo pos (starEach [] X.env)) (backToKw pos (keywordEach kws X.env))) := by rfl) :
    PE X (.Call (.Attribute o m apos) [] kws pos) (tMethK0 C m ks.length sp gV E ta tk) := by
  refine ⟨fun pins s σ H Q I h => ?_⟩
  refine PySem.W.methodCall_KW (pl := pl) (thn (he.run pins s σ H _ I h) fun u s1 ⟨x, H1, I1, rx, a, dx, fs, ex, ea, l, q⟩ => ?_) ht
  subst ex
  obtain rfl : u = Value.ref a := rx
  refine getmeth_ok I1 ea c hm l ?_
  refine PySem.W.callWith_KW0 (first := [.ref a]) (h₀ := X.base) I.ok.mod.kin hm.kp hall ?_ hpl
  refine thn (hkw.run pos pins s1 σ H1 _ I1 q) fun ws s2 ⟨zs, H2, I2, rz, l2, q2⟩ => ⟨I2.kIn, ?_⟩
  rw [hks]
  exact run_kbn (us := [.ref a]) (vs := [.ref a]) F hr hb hx I2 (.cons rfl .nil) rz rfl l2 q2
/-- C.m(), m a classmethod -/
theorem pe_cmeth0 {mc : Value} {pl : Sem Bool} (he : PE X o ta) (r : ClX.CRead X.K C mc) (c : ClX.CMet X.K C mc m p g) (F : FnR X.prog X.w X.K X.mg X.base CX k g sp) (hr : Room k X.A) (hx : Passes CX X E)
    (ht : eval (.Call (.Attribute o m apos) [] [] pos) X.env = (do
      let ov ← eval o X.env
      standAt apos.atName
      let (f, first) ← holding [ov] (getMethod ov m pl)
      callWith pos f first (backTo pos (starEach [] X.env)) (backToKw pos (keywordEach [] X.env))) := by rfl) :
    PE X (.Call (.Attribute o m apos) [] [] pos) (ClX.tCMeth C sp E ta tNil) := by
  refine ⟨fun pins s σ H Q I h => ?_⟩
  refine PySem.W.methodCall_KW (pl := pl) (thn (he.run pins s σ H _ I h) fun u s1 ⟨x, H1, I1, rx, ex, q⟩ => ?_) ht
  subst ex
  obtain rfl : u = Value.ref C := rx
  refine ClX.getmethcm_ok I1 r c fun s2 I2 => ?_
  have hb := ClX.base_none I1 (Nat.le_refl _)
  refine PySem.W.callWith_M0 (K := X.K) (first := []) ⟨ClX.pin_at I2, I2.kIn⟩ c.fi ?_
  exact ClX.run_cm (us := []) (vs := []) F hr hx I2 .nil q
/-- x(e, ..), x a local that holds a class -/
def tMakeL (i : Nat) (C : Addr) (sp : Sp) (dvs : List V) (E : XK) (t : TA) : TE := fun σ H Q => σ[i]? = some (some (.ref C)) ∧ tMake C sp dvs E t σ H Q
theorem pe_makeL {i : Nat} {e : Expr} {es : List Expr} {t : TA} {ds : List Value} {dvs : List V} (M : Mk X.K C f) (F : FnOk X.prog X.w X.K X.mg X.base CX k f fd ps sp) (hr : Room (k + 1) X.A) (hN : X.N[i]? = some x) (hv : Vis X.env.scope x) (hb : Binds X.K fd ps ds) (hd : Vals dvs ds) (hx : Passes CX X E)
    (ha : PA X (e :: es) t) (hdb : (x == ("__debug__" : Str)) = false := by decide) (hcd : (x == ("__classdict__" : Str)) = false := by decide) (he : starEach (e :: es) X.env = (false, eval e X.env) :: starEach es X.env := by rfl) (hpl : (backTo pos (starEach es X.env)).any (·.1) = false := by rfl) :
    PE X (.Call (.Name x np) (e :: es) [] pos) (tMakeL i C sp dvs E t) := by
  refine ⟨fun pins s σ H Q I h => ?_⟩
  obtain ⟨hs, ht⟩ := h
  refine wpAny_Call_Name_kw (thn ((pe_var (pos := np) hN hv hdb hcd).run pins s σ H (fun v H1 => v = .ref C ∧ H1 = H) I ⟨.ref C, hs, rfl, rfl⟩) fun u s1 ⟨v, H1, I1, r1, q1⟩ => ?_)
  obtain ⟨rfl, rfl⟩ := q1
  cases r1
  refine PySem.W.callWith_K (h₀ := X.base) I.ok.mod.kin M.kp (thn (ha.run pos pins s1 σ _ _ I1 ht) fun us s2 ⟨vs, H2, I2, r, q⟩ => ⟨I2.kIn, ?_⟩) he hpl
  exact run_make M F hr hb hd hx I2 r q
/-! bool(x) -/
theorem call_boolOwn {n : Nat} (hs : PySem.W.findIn X.K (.ref C) "__bool__" = some (some (.ref g))) (hf : PySem.W.isFn X.K (.ref g) = true) (F : FnR X.prog X.w X.K X.mg X.base CX0 n g sp) (hr : Room (n + 2) X.A) :
    CallR X (.type "bool") (fun xs H Q => ∃ a dx fs, xs = [.ref a] ∧ H a = some (.ins C dx fs) ∧ sp xs H (fun z H' => ∃ b, z = .bl b ∧ Q z H') E) := by
  intro pins s σ H xs us Q I r h
  obtain ⟨a, dx, fs, rfl, ha, q⟩ := h
  obtain ⟨u, rfl, ru⟩ := vals1 r
  cases (show u = Value.ref a from ru)
  obtain ⟨od, J⟩ := inst_at I ha
  obtain ⟨m, hF⟩ := I.fr
  have hr2 : Room n X.A.in1.in1 := (show Room (n + 1) X.A.in1 from Room.in1 hr).in1
  have one : wpAny (model X.prog X.w) X.A.in1.in1 (truthy (.ref a)) (fun b s' => EP X pins σ Q (.bool b) s') X.xe s := by
    refine PySem.W.truthy_K hF I.ok.mod.kin J hs hf (wpAny_mono (call_at0 (us := [.ref a]) (ws := [.ref a]) F hr2 I.env0.in1.in1 I (.cons rfl .nil) q) (fun w s' z => ?_) fun _ _ x => x)
    obtain ⟨z', H', I', rz, b, ez, qz⟩ := z
    subst ez
    cases (show w = Value.bool b from rz)
    exact ⟨.bl b, H', I', rfl, qz⟩
  refine callType_codes (T := "bool") (Bi := Builtin.«object.__init__») (Q₁ := fun r s₁ => ∃ b, r = .bool b ∧ EP X pins σ Q r s₁) PySem.F.called_bool (PySem.F.typeCall_bool_1 _) PySem.F.entry_object_init ?_ ?_
  · refine codeAny_call_builtin (by decide +kernel) PySem.F.entry_bool_new (wpAny_of_eq (PySem.F.newCall_bool_1 _) ?_)
    unfold Builtin.«bool.__new__»
    refine wpAny_bind (wpAny_of_eq (show isType (.type "bool") = pure true from rfl) ?_)
    simp only [Bool.not_true, Bool.false_eq_true, if_false]
    refine wpAny_bind (wpAny_of_eq PySem.F.conv_sub_bool ?_)
    simp only [Bool.not_true, Bool.false_eq_true, if_false]
    refine wpAny_bind (m := someArgs _ _ _ _) (wpAny_pure ?_)
    refine wpAny_bind (wpAny_mono one (fun b s₁ z => ?_) fun _ _ e => e)
    exact wpAny_pure ⟨b, rfl, z⟩
  · rintro obj s₁ ⟨b, rfl, hq⟩
    exact ⟨PySem.typeIs_bool _ _, PySem.F.args_object_init_2 _ _, object_init_meets PySem.F.called_bool.init.lookup PySem.F.called_bool.made PySem.F.newNe_bool X.prog X.w X.A.in1 _ s₁ ⟨PySem.typeIs_bool _ _, rfl, hq⟩⟩
end
/-! how a def binds -/
theorem kbn_of {K : PySem.W.Frag} {x qual : Str} {st : Stmt} {f : Addr} {fd : FuncData} {ps ks : List Str} {n : Nat} (F : Fun K x qual st f fd)
    (h : ∀ (kV doc pm : Value) (an : Option Addr) (cdv ct : Value) (us ws : List Value), us.length = n → ws.length = ks.length → bindArgs (PySem.W.fnOf x qual (defArgs st) (defBody st) (defScope st) .none kV doc pm an cdv ct) ⟨us, ks.zip ws⟩ = pure (ps.zip (us ++ ws))) :
    KBn K fd ps n ks (fun us ws => us ++ ws) (fun vs zs => vs ++ zs) := by
  obtain ⟨oc, od, kV, doc, pm, an, cdv, ct, osl, rfl, lk, hcd⟩ := F.ex
  exact ⟨fun s us ws X l1 l2 => BindsTo.of_eq (h kV doc pm an cdv ct us ws l1 l2), fun r1 r2 => r1.append r2⟩
/-- def f(a, *v) that raises nothing -/
theorem star_ok {P : Program} {w : World} {K : PySem.W.Frag} {mg : Str → Option Value} {base : Heap} {x qual : Str} {st : Stmt} {f : Addr} {fd : FuncData} {N ps : List Str} {pv : Str} {k : Nat} {sp : Sp} (F : Fun K x qual st f fd) (S : FnScope N (ps ++ [pv]) (defScope st))
    (hb : ∀ (kV doc pm : Value) (an : Option Addr) (cdv ct : Value) (us rest : List Value), us.length = ps.length → bindArgs (PySem.W.fnOf x qual (defArgs st) (defBody st) (defScope st) .none kV doc pm an cdv ct) ⟨us ++ rest, []⟩ = (newTuple rest >>= fun t => pure (ps.zip us ++ [(pv, t)])))
    (hbody : ∀ (cdv : Value) (A : Around) (outer : List Env) (s : Shared) (H : Hp) (vs : List V) (Q : VK) (E : XK), Room k (A.deeper (envOfC qual (defScope st) s.heap.objs.size f cdv)) → sp vs H Q E →
      ∃ t, PSs (cxOf CX0 P w K mg base N qual (defScope st) f cdv A outer s H E).nox (defBody st) t ∧ t { nx := fun _ H' => Q .non H', rt := Q } (start N vs) H) :
    FnR P w K mg base CX0 (k + 1) f (fun vs H Q E => ∃ ws rest, vs = ws ++ rest ∧ ws.length = ps.length ∧ rest.length ≤ sizeLine ∧ ∀ p, H p = Option.none → sp (ws ++ [V.ref p]) (upd H p (.tup rest)) Q E) := by
  obtain ⟨oc, od, kV, doc, pm, an, cdv, ct, osl, rfl, lk, hcd⟩ := F.ex
  exact StX.fn_star lk hcd S StX.cxUp_none (fun us rest l => hb kV doc pm an cdv ct us rest l) (fun A outer s H vs Q E hr h => let ⟨t, h1, q⟩ := hbody cdv A outer s H vs Q E hr h; ⟨t, h1.nox, q⟩)
end Lb

set_option Elab.async false
set_option linter.all false
set_option maxRecDepth 100000
set_option maxHeartbeats 4000000
namespace Lb
open PySem

/-! the digits of a number, cut -/
def pad : Nat → Nat → List Char
  | 0, _ => []
  | k + 1, r => pad k (r / 10) ++ [Nat.digitChar (r % 10)]
theorem digits_cut {n : Nat} (hn : 0 < n) : ∀ (k r : Nat), r < 10 ^ k → Nat.toDigits 10 (n * 10 ^ k + r) = Nat.toDigits 10 n ++ pad k r
  | 0, r, h => by
    have : r = 0 := by simpa using h
    subst this
    simp [pad]
  | k + 1, r, h => by
    have h1 : r / 10 < 10 ^ k := by
      rw [Nat.pow_succ] at h
      omega
    have ih := digits_cut hn k (r / 10) h1
    have e : n * 10 ^ (k + 1) + r = 10 * (n * 10 ^ k + r / 10) + r % 10 := by
      rw [Nat.pow_succ]
      have := Nat.div_add_mod r 10
      rw [← Nat.mul_assoc]
      omega
    have p : 0 < n * 10 ^ k + r / 10 := Nat.add_pos_left (Nat.mul_pos hn (Nat.pow_pos (by decide))) _
    rw [e, ← Nat.toDigits_append_toDigits (by decide) p (Nat.mod_lt _ (by decide)), ih, Nat.toDigits_of_lt_base (Nat.mod_lt _ (by decide))]
    simp [pad]
theorem pad_zero : ∀ k, pad k 0 = List.replicate k '0'
  | 0 => rfl
  | k + 1 => by
    rw [pad, pad_zero k, List.replicate_succ']
    rfl
theorem pad_eq : ∀ (k r : Nat), 1 ≤ k → r < 10 ^ k → pad k r = List.replicate (k - (Nat.toDigits 10 r).length) '0' ++ Nat.toDigits 10 r
  | 1, r, _, h => by
    have h : r < 10 := by simpa using h
    rw [Nat.toDigits_of_lt_base h]
    simp [pad, Nat.mod_eq_of_lt h]
  | k + 2, r, _, h => by
    have h1 : r / 10 < 10 ^ (k + 1) := by
      rw [Nat.pow_succ] at h
      omega
    have ih := pad_eq (k + 1) (r / 10) (by omega) h1
    rw [pad]
    by_cases h0 : r < 10
    · have : r / 10 = 0 := by omega
      rw [this, pad_zero, Nat.toDigits_of_lt_base h0, Nat.mod_eq_of_lt h0]
      rfl
    · have e : Nat.toDigits 10 r = Nat.toDigits 10 (r / 10) ++ [Nat.digitChar (r % 10)] := by
        rw [← Nat.toDigits_of_lt_base (Nat.mod_lt r (by decide : 10 > 0)), Nat.toDigits_append_toDigits (by decide) (by omega) (Nat.mod_lt _ (by decide)), Nat.div_add_mod]
      rw [ih, e, List.length_append]
      rw [show k + 1 + 1 - ((Nat.toDigits 10 (r / 10)).length + [Nat.digitChar (r % 10)].length) = k + 1 - (Nat.toDigits 10 (r / 10)).length by simp only [List.length_cons, List.length_nil]; omega]
      simp
/-- the text of digits -/
def chS (l : List Char) : Str := ⟨(l.map Char.toNat).toArray⟩
theorem chS_append (a b : List Char) : chS (a ++ b) = chS a ++ chS b := by
  show Str.mk _ = Str.mk _
  congr 1
  simp [chS]
theorem toS (n : Nat) : ((toString (n : Int) : String) : Str) = chS (Nat.toDigits 10 n) := by
  rw [show ((toString (n : Int) : String) : Str) = Str.ofString (toString (n : Int)) from rfl, Str.ofString_eq_toList]
  unfold chS
  congr 3
  show (Int.repr (n : Int)).toList = _
  simp [Int.repr, Nat.repr]
theorem zf {k r : Nat} (hk : 1 ≤ k) (hr : r < 10 ^ k) : Txt.zfill (chS (Nat.toDigits 10 r)) (k : Nat) = chS (pad k r) := by
  have hlen : (chS (Nat.toDigits 10 r)).length = (Nat.toDigits 10 r).length := by
    show (chS (Nat.toDigits 10 r)).cps.size = _
    simp [chS]
  rw [pad_eq k r hk hr]
  unfold Txt.zfill
  rw [hlen]
  by_cases h : ((k : Nat) : Int) ≤ ((Nat.toDigits 10 r).length : Nat)
  · rw [if_pos h, show k - (Nat.toDigits 10 r).length = 0 by omega]
    simp
  · rw [if_neg h]
    have e0 : (chS (Nat.toDigits 10 r)).cps[0]? = ((Nat.toDigits 10 r)[0]?).map Char.toNat := by simp [chS]
    have key : (chS (Nat.toDigits 10 r)).cps[0]? ≠ some 43 ∧ (chS (Nat.toDigits 10 r)).cps[0]? ≠ some 45 := by
      rw [e0]
      cases hd : (Nat.toDigits 10 r)[0]? with
      | none => simp
      | some c =>
        have hc := Nat.isDigit_of_mem_toDigits (by decide) (by decide) (List.mem_of_getElem? hd)
        have : 48 ≤ c.toNat := by
          have := hc
          simp only [Char.isDigit, Bool.and_eq_true, decide_eq_true_eq] at this
          exact UInt32.le_iff_toNat_le.mp this.1
        simp only [Option.map_some, ne_eq, Option.some.injEq]
        omega
    have e : zfilled (chS (Nat.toDigits 10 r)) (Int.toNat k - (Nat.toDigits 10 r).length) = Builtin.Str.padded (chS (Nat.toDigits 10 r)) (Int.toNat k - (Nat.toDigits 10 r).length) 0 48 := by
      unfold zfilled
      split
      · rename_i q; exact absurd q key.1
      · rename_i q; exact absurd q key.2
      · rfl
    rw [e, chS_append]
    unfold Builtin.Str.padded
    show Str.mk _ = Str.mk _
    congr 1
    simp [chS]
def cat : List Str → Str
  | [] => Str.empty
  | x :: r => x ++ cat r
theorem empty_add (x : Str) : Str.empty ++ x = x := by
  show Str.mk _ = Str.mk _
  simp [Str.empty]
theorem add_empty (x : Str) : x ++ Str.empty = x := by
  show Str.mk _ = Str.mk _
  simp [Str.empty]
theorem cat_append (a b : List Str) : cat (a ++ b) = cat a ++ cat b := by
  induction a with
  | nil => exact (empty_add _).symm
  | cons x r ih => rw [List.cons_append, cat, cat, ih, Str.append_assoc]
theorem cat_foldl : ∀ (l : List Str) (x : Str), (⟨l.foldl (fun acc p => acc ++ Str.empty.cps ++ p.cps) x.cps⟩ : Str) = x ++ cat l
  | [], x => (add_empty x).symm
  | y :: r, x => by
    rw [List.foldl_cons]
    have e : x.cps ++ Str.empty.cps ++ y.cps = (x ++ y).cps := by
      show _ = x.cps ++ y.cps
      simp [Str.empty]
    rw [e, cat_foldl r (x ++ y), cat, Str.append_assoc]
theorem join_empty : ∀ l : List Str, Txt.join Str.empty l = cat l
  | [] => rfl
  | x :: r => cat_foldl r x
theorem cat_length : ∀ l : List Str, (cat l).length = (l.map (·.length)).sum
  | [] => rfl
  | x :: r => by rw [cat, Str.length_append, cat_length r, List.map_cons, List.sum_cons]
theorem chS_length (l : List Char) : (chS l).length = l.length := by
  show (chS l).cps.size = _
  simp [chS]
theorem pad_length : ∀ k r, (pad k r).length = k
  | 0, _ => rfl
  | k + 1, r => by rw [pad, List.length_append, pad_length k]; rfl
/-- one turn: the last sixty digits are cut off -/
theorem turn60 {n : Nat} (h : 10 ^ 60 ≤ n) : ((toString (n : Int) : String) : Str) = ((toString ((n / 10 ^ 60 : Nat) : Int) : String) : Str) ++ Txt.zfill ((toString ((n % 10 ^ 60 : Nat) : Int) : String) : Str) (60 : Nat) ∧
    (Txt.zfill ((toString ((n % 10 ^ 60 : Nat) : Int) : String) : Str) (60 : Nat)).length = 60 := by
  have q : 0 < n / 10 ^ 60 := Nat.div_pos h (Nat.pow_pos (by decide))
  have r : n % 10 ^ 60 < 10 ^ 60 := Nat.mod_lt _ (Nat.pow_pos (by decide))
  rw [toS, toS, toS, zf (by decide) r]
  refine ⟨?_, by rw [chS_length, pad_length]⟩
  conv => lhs; rw [← Nat.div_add_mod n (10 ^ 60), Nat.mul_comm]
  rw [digits_cut q 60 _ r, chS_append]
end Lb
namespace Lb
open PySem L2
theorem vals_rev : ∀ {vs : List V} {us : List Value}, Vals vs us → Vals vs.reverse us.reverse
  | [], _, .nil => .nil
  | _ :: _, _, .cons r t => by
    rw [List.reverse_cons, List.reverse_cons]
    exact (vals_rev t).append (.cons r .nil)
theorem kit_of_own {K : PySem.W.Frag} {C : Addr} {T : String} (hm : PySem.W.kitMeta T = true) (h : PySem.W.subIn K (.ref C) (.type T) = some false) : PySem.W.kitOne K (.ref C) (.type T) = some false := by
  have ne : (Value.ref C == Value.type T) = false := Bool.eq_false_iff.mpr fun q => nomatch beq_iff_eq.mp q
  unfold PySem.W.kitOne
  rw [ne, if_neg (by decide)]
  unfold PySem.W.kitCls
  dsimp only
  rw [if_pos hm]
  exact h
end Lb

set_option Elab.async false
set_option linter.all false
set_option maxRecDepth 100000
set_option maxHeartbeats 4000000
set_option exponentiation.threshold 10000
namespace Lb
open PySem L2

/-! fractions in lowest terms -/
abbrev Q2 := Int × Int
theorem bd_one {n : Nat} : Bd (n + 1) 1 := by
  show 1 < 2 ^ (n + 1)
  exact Nat.one_lt_two_pow (Nat.succ_ne_zero n)
def rdD (t b : Int) : Int := if b < 0 then -((Nat.gcd t.natAbs b.natAbs : Nat) : Int) else ((Nat.gcd t.natAbs b.natAbs : Nat) : Int)
def rdT (t b : Int) : Int := t.fdiv (rdD t b)
def rdB (t b : Int) : Int := b.fdiv (rdD t b)
theorem rdT_one (t : Int) : rdT t 1 = t := by
  unfold rdT rdD
  simp [Int.fdiv_one]
theorem rdB_one (t : Int) : rdB t 1 = 1 := by
  unfold rdB rdD
  simp [Int.fdiv_one]
/-- a fraction in lowest terms, its parts below a power of two -/
structure Low (n : Nat) (x : Q2) : Prop where
  t : Bd n x.1
  b : Bd n x.2
  pos : 0 < x.2
  g : x.1.gcd x.2 = 1
theorem Low.mono {n m : Nat} {x : Q2} (h : Low n x) (k : n ≤ m) : Low m x := ⟨h.t.mono k, h.b.mono k, h.pos, h.g⟩
def rd (t b : Int) : Q2 := (rdT t b, rdB t b)
theorem rd_spec {t b : Int} (hb : b ≠ 0) : 0 < rdB t b ∧ (rdT t b).gcd (rdB t b) = 1 ∧ t = (rdD t b) * rdT t b ∧ b = (rdD t b) * rdB t b := by
  have hg : 0 < t.gcd b := Int.gcd_pos_of_ne_zero_right t hb
  obtain ⟨t1, ht⟩ := Int.gcd_dvd_left t b
  obtain ⟨b1, hb1⟩ := Int.gcd_dvd_right t b
  have g1 : t1.gcd b1 = 1 := by
    have h := Int.gcd_mul_left (t.gcd b : Int) t1 b1
    rw [← ht, ← hb1] at h
    have h' : t.gcd b * 1 = t.gcd b * t1.gcd b1 := by simpa using h
    exact (Nat.eq_of_mul_eq_mul_left hg h').symm
  have key : ∀ D x y : Int, D ≠ 0 → t = D * x → b = D * y → t.fdiv D = x ∧ b.fdiv D = y := fun D x y hD h1 h2 => by
    rw [h1, h2]
    exact ⟨Int.mul_fdiv_cancel_left _ hD, Int.mul_fdiv_cancel_left _ hD⟩
  have eg : ((Nat.gcd t.natAbs b.natAbs : Nat) : Int) = (t.gcd b : Int) := rfl
  unfold rdT rdB
  by_cases h : b < 0
  · have eD : rdD t b = -(t.gcd b : Int) := by unfold rdD; rw [if_pos h, eg]
    obtain ⟨e1, e2⟩ := key (rdD t b) (-t1) (-b1) (by omega) (by rw [eD, Int.neg_mul_neg]; exact ht) (by rw [eD, Int.neg_mul_neg]; exact hb1)
    rw [e1, e2]
    have hb2 : b1 < 0 := by
      have : (t.gcd b : Int) * b1 < (t.gcd b : Int) * 0 := by omega
      exact Int.lt_of_mul_lt_mul_left this (by omega)
    refine ⟨by omega, ?_, by rw [eD, Int.neg_mul_neg]; exact ht, by rw [eD, Int.neg_mul_neg]; exact hb1⟩
    rw [Int.neg_gcd, Int.gcd_neg]
    exact g1
  · have eD : rdD t b = (t.gcd b : Int) := by unfold rdD; rw [if_neg h, eg]
    obtain ⟨e1, e2⟩ := key (rdD t b) t1 b1 (by omega) (by rw [eD]; exact ht) (by rw [eD]; exact hb1)
    rw [e1, e2]
    have hb2 : 0 < b1 := by
      have : (t.gcd b : Int) * 0 < (t.gcd b : Int) * b1 := by omega
      exact Int.lt_of_mul_lt_mul_left this (by omega)
    exact ⟨hb2, g1, by rw [eD]; exact ht, by rw [eD]; exact hb1⟩
theorem rd_low {n : Nat} {t b : Int} (hb : b ≠ 0) (h1 : Bd n t) (h2 : Bd n b) : Low n (rd t b) := by
  obtain ⟨p, g, e3, e4⟩ := rd_spec (t := t) (b := b) hb
  have hD : 1 ≤ (rdD t b).natAbs := by
    rcases Nat.eq_zero_or_pos (rdD t b).natAbs with e | e
    · have := Int.natAbs_eq_zero.mp e
      rw [this, Int.zero_mul] at e4
      exact absurd e4 hb
    · exact e
  have le : ∀ z : Int, z.natAbs ≤ (rdD t b * z).natAbs := fun z => by
    rw [Int.natAbs_mul]
    exact Nat.le_mul_of_pos_left _ hD
  exact ⟨h1.le (by conv => rhs; rw [e3]
                   exact le _), h2.le (by conv => rhs; rw [e4]
                                          exact le _), p, g⟩
theorem rd_self {t b : Int} (p : 0 < b) (g : t.gcd b = 1) : rdT t b = t ∧ rdB t b = b := by
  have e : rdD t b = 1 := by
    unfold rdD
    rw [if_neg (by omega)]
    show ((t.gcd b : Nat) : Int) = 1
    omega
  unfold rdT rdB
  rw [e, Int.fdiv_one, Int.fdiv_one]
  exact ⟨rfl, rfl⟩

theorem mul_pos_ne {x y : Int} (h : 0 < x) (k : 0 < y) : x * y ≠ 0 := by
  have := Int.mul_pos h k
  omega
/-- the number -/
def val (x : Q2) : Rat := (x.1 : Rat) / (x.2 : Rat)
theorem ne_cast {b : Int} (h : b ≠ 0) : (b : Rat) ≠ 0 := fun z => h (Rat.intCast_inj.mp (z.trans Rat.intCast_zero.symm))
theorem pos_cast {b : Int} (h : 0 < b) : (0 : Rat) < (b : Rat) := by
  have := Rat.intCast_lt_intCast.mpr h
  simpa using this
theorem val_rd {t b : Int} (hb : b ≠ 0) : val (rd t b) = (t : Rat) / (b : Rat) := by
  obtain ⟨p, g, e3, e4⟩ := rd_spec (t := t) (b := b) hb
  have hD : rdD t b ≠ 0 := fun z => by
    rw [z, Int.zero_mul] at e4
    exact hb e4
  have h1 : (t : Rat) = (rdD t b : Rat) * (rdT t b : Rat) := by
    rw [← Rat.intCast_mul, ← e3]
  have h2 : (b : Rat) = (rdD t b : Rat) * (rdB t b : Rat) := by
    rw [← Rat.intCast_mul, ← e4]
  have h3 := ne_cast hD
  have h4 := ne_cast (show rdB t b ≠ 0 by omega)
  show (rdT t b : Rat) / (rdB t b : Rat) = _
  rw [h1, h2]
  grind
theorem val_lt {x y : Q2} (hx : 0 < x.2) (hy : 0 < y.2) : (x.1 * y.2 < y.1 * x.2) ↔ val x < val y := by
  have px := pos_cast hx
  have py := pos_cast hy
  have e1 : val x * ((x.2 : Rat) * y.2) = (x.1 : Rat) * y.2 := by unfold val; grind
  have e2 : val y * ((x.2 : Rat) * y.2) = (y.1 : Rat) * x.2 := by unfold val; grind
  have pp : (0 : Rat) < (x.2 : Rat) * y.2 := Rat.mul_pos px py
  rw [← Rat.intCast_lt_intCast, Rat.intCast_mul, Rat.intCast_mul, ← e1, ← e2]
  constructor
  · intro h
    exact Rat.lt_of_mul_lt_mul_right h (Rat.le_of_lt pp)
  · intro h
    exact Rat.mul_lt_mul_of_pos_right h pp
theorem val_le {x y : Q2} (hx : 0 < x.2) (hy : 0 < y.2) : (x.1 * y.2 ≤ y.1 * x.2) ↔ val x ≤ val y := by
  rw [← Int.not_lt, val_lt hy hx, Rat.not_lt]
theorem low_eq {t b t' b' : Int} (hb : 0 < b) (hb' : 0 < b') (g : t.gcd b = 1) (g' : t'.gcd b' = 1) (h : t * b' = t' * b) : t = t' ∧ b = b' := by
  have d1 : b ∣ b' := by
    have : b ∣ (b.gcd t : Int) * b' := Int.dvd_gcd_mul_iff_dvd_mul.mpr ⟨t', by grind⟩
    rw [Int.gcd_comm, g] at this
    simpa using this
  have d2 : b' ∣ b := by
    have : b' ∣ (b'.gcd t' : Int) * b := Int.dvd_gcd_mul_iff_dvd_mul.mpr ⟨t, by grind⟩
    rw [Int.gcd_comm, g'] at this
    simpa using this
  have e : b = b' := by
    have h1 := Int.le_of_dvd hb' d1
    have h2 := Int.le_of_dvd hb d2
    omega
  subst e
  refine ⟨?_, rfl⟩
  have : (t - t') * b = 0 := by grind
  rcases Int.mul_eq_zero.mp this with e | e <;> omega
theorem val_inj {n m : Nat} {x y : Q2} (hx : Low n x) (hy : Low m y) (h : val x = val y) : x = y := by
  have px := ne_cast (show x.2 ≠ 0 from by have := hx.pos; omega)
  have py := ne_cast (show y.2 ≠ 0 from by have := hy.pos; omega)
  have e : (x.1 : Rat) * y.2 = (y.1 : Rat) * x.2 := by
    unfold val at h
    grind
  rw [← Rat.intCast_mul, ← Rat.intCast_mul, Rat.intCast_inj] at e
  obtain ⟨h1, h2⟩ := low_eq hx.pos hy.pos hx.g hy.g e
  exact Prod.ext h1 h2
theorem val_add {x y : Q2} (hx : 0 < x.2) (hy : 0 < y.2) : val (rd (x.1 * y.2 + y.1 * x.2) (x.2 * y.2)) = val x + val y := by
  have px := ne_cast (show x.2 ≠ 0 by omega)
  have py := ne_cast (show y.2 ≠ 0 by omega)
  rw [val_rd (mul_pos_ne hx hy), Rat.intCast_add, Rat.intCast_mul, Rat.intCast_mul, Rat.intCast_mul]
  unfold val
  grind
theorem val_sub {x y : Q2} (hx : 0 < x.2) (hy : 0 < y.2) : val (rd (x.1 * y.2 - y.1 * x.2) (x.2 * y.2)) = val x - val y := by
  have px := ne_cast (show x.2 ≠ 0 by omega)
  have py := ne_cast (show y.2 ≠ 0 by omega)
  rw [val_rd (mul_pos_ne hx hy), Rat.intCast_sub, Rat.intCast_mul, Rat.intCast_mul, Rat.intCast_mul]
  unfold val
  grind
theorem val_mul {x y : Q2} (hx : 0 < x.2) (hy : 0 < y.2) : val (rd (x.1 * y.1) (x.2 * y.2)) = val x * val y := by
  have px := ne_cast (show x.2 ≠ 0 by omega)
  have py := ne_cast (show y.2 ≠ 0 by omega)
  rw [val_rd (mul_pos_ne hx hy), Rat.intCast_mul, Rat.intCast_mul]
  unfold val
  grind
theorem val_div {x y : Q2} (hx : 0 < x.2) (hy : 0 < y.2) (h0 : y.1 ≠ 0) : val (rd (x.1 * y.2) (x.2 * y.1)) = val x / val y := by
  have px := ne_cast (show x.2 ≠ 0 by omega)
  have py := ne_cast (show y.2 ≠ 0 by omega)
  have p0 := ne_cast h0
  rw [val_rd (Int.mul_ne_zero (by omega) h0), Rat.intCast_mul, Rat.intCast_mul]
  unfold val
  grind
theorem val_neg (x : Q2) : val (-x.1, x.2) = - val x := by
  show ((-x.1 : Int) : Rat) / x.2 = - ((x.1 : Rat) / x.2)
  rw [Rat.intCast_neg]
  grind
theorem val_zero : val (0, 1) = 0 := by
  show ((0 : Int) : Rat) / ((1 : Int) : Rat) = 0
  rw [Rat.intCast_zero]
  grind
theorem val_eq0 {x : Q2} (hx : 0 < x.2) : x.1 = 0 ↔ val x = 0 := by
  have px := ne_cast (show x.2 ≠ 0 by omega)
  constructor
  · intro h
    unfold val
    rw [h, Rat.intCast_zero]
    grind
  · intro h
    refine Classical.byContradiction fun k => ?_
    have := ne_cast k
    unfold val at h
    grind
theorem val_pos {x : Q2} (hx : 0 < x.2) : 0 < x.1 ↔ 0 < val x := by
  have h := val_lt (x := (0, 1)) (y := x) (by decide) hx
  rw [val_zero] at h
  rw [← h]
  simp
theorem val_negl {x : Q2} (hx : 0 < x.2) : x.1 < 0 ↔ val x < 0 := by
  have h := val_lt (x := x) (y := (0, 1)) hx (by decide)
  rw [val_zero] at h
  rw [← h]
  simp
end Lb

set_option Elab.async false
set_option linter.all false
set_option maxRecDepth 100000
set_option maxHeartbeats 4000000
namespace Lb
open PySem PySem.Spec PyProof.Rows L2
section
variable {X : Cx} {CX : CXT} {k : Nat} {f C p g : Addr} {fd : FuncData} {ps ks : List Str} {sp : Sp} {E : XK} {x m : Str} {pos np apos : Pos} {o fe e : Expr} {es : List Expr} {kws : List Keyword} {ta tf : TE} {t tk : TA} {gf : List Value → List Value → List Value} {gV : List V → List V → List V}
/-! an instance is called -/
def tCallI (C : Addr) (sp : Sp) (E : XK) (tf : TE) (t : TA) : TE := fun σ H Q => tf σ H fun y H1 => ∃ a, y = V.ref a ∧ t σ H1 fun vs H2 => (∃ dx fs, H2 a = some (.ins C dx fs)) ∧ sp (V.ref a :: vs) H2 Q E
theorem pe_callI (hf : PE X fe tf) (c : StX.CallO X.K C g) (F : FnR X.prog X.w X.K X.mg X.base CX k g sp) (hr : Room k X.A) (hx : Passes CX X E) (ha : PA X (e :: es) t)
    (ht : eval (.Call fe (e :: es) [] pos) X.env = (do callWith pos (← eval fe X.env) [] (backTo pos (starEach (e :: es) X.env)) (backToKw pos (keywordEach [] X.env))) := by rfl)
    (he : starEach (e :: es) X.env = (false, eval e X.env) :: starEach es X.env := by rfl) (hpl : (backTo pos (starEach es X.env)).any (·.1) = false := by rfl) : PE X (.Call fe (e :: es) [] pos) (tCallI C sp E tf t) := by
  refine ⟨fun pins s σ H Q I h => ?_⟩
  refine Call_ (thn (hf.run pins s σ H _ I h) fun u s1 ⟨y, H1, I1, ry, a, ey, q⟩ => ?_) ht
  subst ey
  obtain rfl : u = Value.ref a := ry
  refine StX.callO_with (thn (ha.run pos pins s1 σ H1 _ I1 q) fun us s2 ⟨vs, H2, I2, r, ⟨dx, fs, hi⟩, q2⟩ => ?_) he hpl
  obtain ⟨ox, od, J, hd⟩ := StX.insC_at I2 (X := X) (.inr ⟨dx, fs, hi⟩)
  exact ⟨⟨C, ox, od, J, hd⟩, StX.run_callO c F hr hx I2 (.inr ⟨dx, fs, hi⟩) r q2⟩
/-! C.m(e, ..), m a staticmethod -/
structure SMet (K : PySem.W.Frag) (C : Addr) (m : Str) (p g : Addr) : Prop where
  ty : PySem.W.typeIn K (.ref C) = some (.type "type")
  rd : PySem.W.readsIn K C (.type "type") = true
  ga : PySem.W.specialIn K (.ref C) "__getattribute__" = some (some (.builtin "type.__getattribute__"))
  at_ : PySem.W.findCls K (.ref C) (.type "type") m = some (.get (.builtin "staticmethod.__get__") (.ref p) .none (.ref C))
  rc : ∃ rest, PySem.W.recIn K p "staticmethod" = some (.ref g :: rest)
  kp : PySem.W.keepIn K (.ref g) = true
def tSMeth (C : Addr) (sp : Sp) (E : XK) (ta : TE) (t : TA) : TE := fun σ H Q => ta σ H fun x H1 => x = .ref C ∧ t σ H1 fun vs H2 => sp vs H2 Q E
theorem getsm_ok {pins : List (Addr × Obj)} {σ : L2.St} {H : Hp} {s : Shared} {A : Around} {Ex : Value → Shared → Prop} {pl : Sem Bool} {Q : Value × List Value → Shared → Prop} (I : Inv X pins σ H s) (c : SMet X.K C m p g)
    (h : ∀ s', Inv X pins σ H s' → Q (.ref g, []) s') : wpAny (model X.prog X.w) A (getMethod (.ref C) m pl) Q Ex s := by
  obtain ⟨rest, hp⟩ := c.rc
  obtain ⟨mm, F⟩ := I.fr
  exact PySem.W.method_cls I.kIn c.ga (PySem.W.cls_sm F I.ok.mod.kin c.ty c.rd c.at_ hp rfl (h _ (I.tok _)))
theorem pe_smeth {pl : Sem Bool} {ds : List Value} {dvs : List V} (he : PE X o ta) (c : SMet X.K C m p g) (F : FnOk X.prog X.w X.K X.mg X.base CX k g fd ps sp) (hr : Room k X.A) (hb : Binds X.K fd ps ds) (hd : Vals dvs ds) (hx : Passes CX X E) (ha : PA X (e :: es) t)
    (hst : starEach (e :: es) X.env = (false, eval e X.env) :: starEach es X.env := by rfl) (hpl : (backTo pos (starEach es X.env)).any (·.1) = false := by rfl)
    (ht : eval (.Call (.Attribute o m apos) (e :: es) [] pos) X.env = (do
      let ov ← eval o X.env
      standAt apos.atName
      let (f, first) ← holding [ov] (getMethod ov m pl)
      callWith pos f first (backTo pos (starEach (e :: es) X.env)) (backToKw pos (keywordEach [] X.env))) := by rfl) :
    PE X (.Call (.Attribute o m apos) (e :: es) [] pos) (tSMeth C (fun vs H Q E => sp (vs ++ dvs) H Q E) E ta t) := by
  refine ⟨fun pins s σ H Q I h => ?_⟩
  refine PySem.W.methodCall_KW (pl := pl) (thn (he.run pins s σ H _ I h) fun u s1 ⟨x, H1, I1, rx, ex, q⟩ => ?_) ht
  subst ex
  obtain rfl : u = Value.ref C := rx
  refine getsm_ok I1 c fun s2 I2 => ?_
  refine PySem.W.callWith_K (first := []) (h₀ := X.base) I.ok.mod.kin c.kp (thn (ha.run pos pins s2 σ H1 _ I2 q) fun us s3 ⟨vs, H2, I3, rv, q2⟩ => ⟨I3.kIn, ?_⟩) hst hpl
  exact run_fn F hr hb hd hx I3 rv q2
/-! an instance is called with keywords alone -/
abbrev KeptBy (s : Shared) (o : Addr) : Prop := ∃ D y z, PySem.W.InstAt s.heap o y D z ∧ y.data = .plain
theorem inst_kw {M : Model} {A : Around} {Bad : Value → Shared → Prop} {Fin : Value → Shared → Prop} {t : Shared} {o : Addr} {pos : Pos} {us : List (Bool × Sem Value)} {ns : List (Option Str × Sem Value)} (no : (us.any (·.1) || ns.any (·.1.isNone)) = false)
    (run : wpAny M A (evalArgs (.ref o) true us ns) (fun got t' => KeptBy t' o ∧ wpAny M A (call (.ref o) got.pos got.kw) Fin Bad t') Bad t) :
    wpAny M A (callWith pos (.ref o) [] us ns) Fin Bad t := by
  have last : ∀ {go : Sem Value} {t' : Shared}, wpAny M A go Fin Bad t' → wpAny M A (go >>= fun v => holding [v] point >>= fun _ => pure v) Fin Bad t' := by
    intro go t' g
    apply wpAny_bind
    refine wpAny_mono g ?_ fun _ _ b => b
    intro v t2 fin
    exact wpAny_bind (wpAny_holding (wpAny_point (wpAny_pure fin)))
  unfold callWith
  apply wpAny_bind
  apply wpAny_holding
  refine wpAny_mono run ?_ fun _ _ b => b
  rintro got t' ⟨⟨D, y, z, inst, dat⟩, go⟩
  apply wpAny_bind
  apply wpAny_standAt
  have keeper := PySem.W.kco_keeper (M := M) inst dat
  simp only [no]
  apply wpAny_bind
  apply keeper.here
  exact last (wpAny_operateT go)
def tCallIK (nk : Nat) (C : Addr) (sp : Sp) (gV : List V → List V → List V) (E : XK) (tf : TE) (tk : TA) : TE := fun σ H Q => tf σ H fun y H1 => ∃ a, y = V.ref a ∧ tk σ H1 fun zs H2 => (∃ dx fs, H2 a = some (.ins C dx fs)) ∧ zs.length = nk ∧ sp (gV [.ref a] zs) H2 Q E
theorem pe_callIK (hf : PE X fe tf) (c : StX.CallO X.K C g) (F : FnOk X.prog X.w X.K X.mg X.base CX k g fd ps sp) (hr : Room k X.A) (hb : KBn X.K fd ps 1 ks gf gV) (hx : Passes CX X E) (hkw : PK X kws tk)
    (hall : (backToKw pos (keywordEach kws X.env)).all (·.1.isSome) = true := by rfl) (hks : (backToKw pos (keywordEach kws X.env)).filterMap (·.1) = ks := by rfl)
    (hpl : ((backTo pos (starEach [] X.env)).any (·.1) || (backToKw pos (keywordEach kws X.env)).any (·.1.isNone)) = false := by rfl)
    (ht : eval (.Call fe [] kws pos) X.env = (do callWith pos (← eval fe X.env) [] (backTo pos (starEach [] X.env)) (backToKw pos (keywordEach kws X.env))) := by rfl) : PE X (.Call fe [] kws pos) (tCallIK ks.length C sp gV E tf tk) := by
  refine ⟨fun pins s σ H Q I h => ?_⟩
  rw [ht]
  refine wpAny_bind (thn (hf.run pins s σ H _ I h) fun u s1 ⟨y, H1, I1, ry, a, ey, q⟩ => ?_)
  subst ey
  obtain rfl : u = Value.ref a := ry
  refine inst_kw hpl (evalArgs_kw2_nil hall ?_)
  refine thn (hkw.run pos pins s1 σ H1 _ I1 q) fun ws s2 ⟨zs, H2, I2, rz, ⟨dx, fs, hi⟩, l2, q2⟩ => ?_
  obtain ⟨ox, od, J, hd⟩ := StX.insC_at I2 (X := X) (.inr ⟨dx, fs, hi⟩)
  refine ⟨⟨C, ox, od, J, hd⟩, ?_⟩
  rw [hks]
  refine wpAny_call (PySem.W.kco_code I2.kIn J hd c.at_ c.fn c.fi ?_)
  refine codeAny_mono (F.run X.A X.stack s2 H2 ⟨[.ref a], ks.zip ws⟩ (gf [.ref a] ws) (gV [.ref a] zs) Q E hr I2.env0 (hb.to s2 [.ref a] ws I2.kIn rfl (rz.length.symm.trans l2)) (hb.rel (.cons rfl .nil) rz) q2) fun r s' hq => ?_
  cases r with
  | error e => exact hx pins σ H2 s2 e s' I2 hq
  | ok fl =>
    cases fl with
    | ret u => exact I2.after hq
    | next => exact False.elim hq
    | brk => exact False.elim hq
    | cont => exact False.elim hq
end
end Lb

set_option Elab.async false
set_option linter.all false
set_option maxRecDepth 100000
set_option maxHeartbeats 4000000
namespace Lb
open PySem PySem.Spec PyProof.Rows L2
/-! enumerate of whatever iter() turns into a new object, with one argument -/
abbrev EnO (k : Nat) : Obj := { cls := .type "enumerate", data := .fields #[.none, .bool false, .ref k, rawInt 0, .none, .none] }
theorem made_enum {v : Value} {o : Obj} {Z : Heap → Prop} (B : Begins v o Z) :
    Meets (Builtin.«enumerate.__new__» ⟨[.type "enumerate", v], []⟩) (fun _ R s => Z s.heap ∧ R (.ok (.ret (.ref (s.heap.push o).objs.size))) { s with heap := (s.heap.push o).push (EnO s.heap.objs.size) }) := by
  refine .of_wp fun P w A R s ⟨z, fin⟩ => ?_
  obtain ⟨hp, gl, od, tk, out⟩ := s
  have sb := sub_enumerate
  have it : ∀ {A' : Around} {Bad Q : Value → Shared → Prop}, Q (.ref hp.objs.size) ⟨hp.push o, gl, od, tk, out⟩ → wpAny (model P w) A' (pyIter v) Q Bad ⟨hp, gl, od, tk, out⟩ := fun q => B.iter P w _ _ ⟨hp, gl, od, tk, out⟩ _ z q
  wp_walk using it
  refine wpAny_stack_any fun _ => wpAny_pure ?_
  split
  · rename_i cc _ _ _ _ _
    cases (cc == Value.type "enumerate") <;> (wp_walk using it; exact ⟨_, rfl, fin⟩)
  · wp_walk using it
    exact ⟨_, rfl, fin⟩
theorem enum_called {P : Program} {w : World} {A : Around} {Bad : Value → Shared → Prop} {s : Shared} {v : Value} {o : Obj} {Z : Heap → Prop} {Q : Value → Shared → Prop} (B : Begins v o Z) (z : Z s.heap)
    (fin : ∀ h2, IsEnum h2 (s.heap.objs.size + 1) s.heap.objs.size 0 .none → h2.get? s.heap.objs.size = some o → (∀ b ob, s.heap.get? b = some ob → h2.get? b = some ob) → Q (.ref (s.heap.objs.size + 1)) { s with heap := h2 }) :
    wpAny (model P w) A (call (.type "enumerate") [v]) Q Bad s := by
  refine callType_new F.called_enumerate (by decide) (F.typeCall_enumerate_1 _) (F.newCall_enumerate_1 _) (fun ob => F.args_object_init_2 ob _) F.entry_enumerate_new (made_enum B) ⟨z, ?_⟩
  have n1 : (s.heap.push o).objs.size = s.heap.objs.size + 1 := Heap.size_push ..
  have top : ((s.heap.push o).push (EnO s.heap.objs.size)).get? (s.heap.push o).objs.size = some (EnO s.heap.objs.size) := Heap.get?_push_size _ rfl
  rw [n1] at top
  show _ ∧ _
  rw [n1]
  exact ⟨⟨_, top, rfl⟩, fin _ top (Heap.get?_push_of_some _ (Heap.get?_push_size _ B.free)) fun b ob q => Heap.get?_push_of_some _ (Heap.get?_push_of_some _ q)⟩
/-- the tuple at a, each item in a new pair with its place -/
def IteT (K : PySem.W.Frag) (a : Addr) : It where
  go i H := ∃ (xs : List V) (x : V), SqT K H a xs ∧ xs[i]? = some x
  yld i H v H' := ∃ T x, v = .ref T ∧ H T = none ∧ H' = L2.upd H T (.tup [.int (i : Nat), x]) ∧ ∀ xs, SqT K H a xs → xs[i]? = some x
  stop i H := ∃ xs : List V, SqT K H a xs ∧ xs.length ≤ i
theorem enum_turn {P : Program} {w : World} {K : PySem.W.Frag} {elts : List Expr} {kk : Nat} {tpos : Pos} (a e it : Addr) :
    Turn P w K (.Tuple elts kk tpos) (IteT K a) [e, it] e (fun i h => (∃ old, IsEnum h e it ((i : Nat) : Int) old) ∧ h.IsTupleIter it a i ∧ e ≠ it) where
  mem := List.mem_cons_self
  self := fun A i s Q E st h => by
    obtain ⟨⟨_, he⟩, _⟩ := st
    exact wpAny_pyIter_enum he h
  obj := by
    rintro i h ⟨⟨old, he⟩, ⟨o, ho, hc, hd⟩, _⟩ b hb
    rw [List.mem_cons, List.mem_singleton] at hb
    rcases hb with rfl | rfl
    · exact ⟨_, he, fun v q => nomatch q⟩
    · exact ⟨o, ho, fun v q => by rw [hd] at q; cases q⟩
  keep := by
    rintro i h h' ⟨⟨old, he⟩, hi, ne⟩ k
    exact ⟨⟨old, k e (by simp) _ he⟩, hi.at fun o q => k it (by simp) o q, ne⟩
  item := by
    rintro X rfl rfl rfl hc i pins s σ H E I hf ⟨⟨old, he⟩, hi, ne⟩ ⟨xs, x, hq, hx⟩
    obtain ⟨its, rv, ⟨ot, hot, cot, rt⟩, hz⟩ := I.tuple hq
    obtain ⟨u, hu, ru⟩ := rv.get hx
    have ai : a ≠ it := by
      rintro rfl
      obtain ⟨o, ho, hc', _⟩ := id hi
      have := hot.symm.trans ho
      injection this with this
      rw [← this, cot] at hc'
      exact absurd hc' (by decide)
    have ae : e ≠ a := by
      rintro rfl
      have := hot.symm.trans he
      injection this with this
      rw [this] at cot
      injection cot with cot
      exact absurd cot (by decide)
    have D := Draws.tuple (prog := X.prog) (w := X.w) (A := X.A.in1) (I.ok.hd hc) it a ai its.toArray
    have li := rv.length
    have lt : i < its.toArray.size := by
      have := (List.getElem?_eq_some_iff.mp hu).1
      simpa using this
    have be : e < s.heap.objs.size := Heap.lt_size he
    have bi : it < s.heap.objs.size := by obtain ⟨_, q, _⟩ := id hi; exact Heap.lt_size q
    refine wpAny_pyNext_enum_itemD D he ⟨hi, ⟨ot, hot, cot, rt⟩⟩ lt ne (by simp [ne, ae]) fun y h' tk py ho st' hT _ hk => ?_
    obtain rfl : y = u := by
      have : its.toArray[i]? = some u := by simpa using hu
      exact Option.some.inj (py.symm.trans this)
    refine ⟨_, rfl, wpAny_letOwnedTupleGo_enum (s := { s with heap := h', toks := tk + 1 }) ho fun h2 he2 sb => ?_⟩
    have new : ObjOk X.prog X.w (L2.upd H s.heap.objs.size (.tup [.int (i : Nat), x])) h2 s.heap.objs.size (.tup [.int (i : Nat), x]) :=
      ⟨by show 2 ≤ sizeLine; decide, [.int i tk, y], .cons ⟨_, rfl⟩ (.cons ru .nil), ⟨_, (sb.2 _ (Nat.ne_of_gt be)).trans hT, rfl, _, rfl⟩⟩
    have I1 : Inv X pins σ (L2.upd H s.heap.objs.size (.tup [.int (i : Nat), x])) { s with heap := h2, toks := tk + 1 } := by
      refine I.turnedNew (ch := [e, it]) (fun b ob hb q => ?_) hf (Nat.le_refl _) new
      simp only [List.mem_cons, List.not_mem_nil, or_false, not_or] at hb
      exact (sb.2 b hb.1).trans (hk b ob hb.1 hb.2 q)
    refine ⟨.ref s.heap.objs.size, _, I1, rfl, ⟨_, x, rfl, I.hok.fresh (Nat.le_refl _), rfl, fun ys hy => by rw [I.tuple_inj hy hq]; exact hx⟩, ⟨⟨y, ?_⟩, st'.1.at fun o q => (sb.2 it (Ne.symm ne)).trans q, ne⟩, fun b hb => ?_⟩
    · rw [show ((i + 1 : Nat) : Int) = (i : Int) + 1 by omega]
      exact he2
    · have : b < s.heap.objs.size := by
        rw [List.mem_cons, List.mem_singleton] at hb
        rcases hb with rfl | rfl
        · exact be
        · exact bi
      rw [upd_ne (Nat.ne_of_lt this)]
      exact (hf b hb).1
  done := by
    rintro X rfl rfl rfl hc i pins s σ H E I hf ⟨⟨old, he⟩, hi, ne⟩ ⟨xs, hq, hx⟩
    obtain ⟨its, rv, ⟨ot, hot, cot, rt⟩, hz⟩ := I.tuple hq
    have ll := rv.length
    have out : its.toArray[i]? = none := by
      rw [Array.getElem?_eq_none_iff]
      show its.length ≤ i
      omega
    have D : Draws X.prog X.w X.A.in1 it [it, a] 0 (fun _ _ => True) (fun _ h => h.IsTupleIter it a i ∧ h.IsTuple a its.toArray) :=
      { live := fun _ _ st => by
          obtain ⟨⟨o, ho, _⟩, _⟩ := st
          exact ⟨o, ho⟩
        frame := fun _ _ _ st k => ⟨st.1.at fun o q => k it (by simp) o q, st.2.at fun o q => k a (by simp) o q⟩
        item := fun j _ _ _ lt => absurd lt (Nat.not_lt_zero _)
        done := fun t Q E' st q => wpAny_nextOf_tuple_end (I.ok.hd hc) st.1 st.2 out q }
    obtain ⟨f0, f1, f2, f3, f4, f5⟩ := hf it (by simp)
    exact wpAny_pyNext_enum_endD D he ⟨hi, ⟨ot, hot, cot, rt⟩⟩ fun h2 eb => ⟨rfl, I.turned (t' := s.toks) (fun b o nb q => eb b o nb q) f0 f1 f3 f4 f5⟩
def iEnumT (K : PySem.W.Frag) (ta : TA) : TI := fun σ H R => ta σ H fun vs H1 => ∃ a xs, vs = [.ref a] ∧ SqT K H1 a xs ∧ R (IteT K a) H1
theorem pi_enumT {X : Cx} {e : Expr} {ta : TA} {p pos tpos : Pos} {elts : List Expr} {kk : Nat} (hg : Gl X "enumerate") (hm : X.mg "enumerate" = none) (ha : PA X [e] ta) (hs : starEach [e] X.env = [(false, eval e X.env)] := by rfl) :
    PI X (.Tuple elts kk tpos) (.Call (.Name "enumerate" p) [e] [] pos) (iEnumT X.K ta) := by
  constructor
  intro pins s σ H R I h
  refine Call_ (ld_blt I hg hm boot_enumerate (PyProof.Rows.callWith_type1 (thn (ha.run pos pins s σ H _ I h) ?_) hs rfl))
  rintro us s1 ⟨vs, H1, I1, r1, a, xs, rfl, hq, q⟩
  obtain ⟨u, rfl⟩ : ∃ u, us = [u] := by
    cases r1 with
    | cons r rr => cases rr; exact ⟨_, rfl⟩
  obtain rfl : u = Value.ref a := by
    cases r1 with
    | cons r rr => exact r
  obtain ⟨its, rv, tt, hz⟩ := I1.tuple hq
  refine enum_called (begins_tuple a its.toArray) tt fun h2 he hi hk => wpAny_pyIter_enum he ?_
  have I2 : Inv X pins σ H1 { s1 with heap := h2 } := I1.kept (t' := s1.toks) hk
  refine ⟨_, [s1.heap.objs.size + 1, s1.heap.objs.size], _, _, H1, rfl, I2, enum_turn a _ s1.heap.objs.size, ⟨⟨.none, he⟩, ⟨_, hi, rfl, rfl⟩, Nat.succ_ne_self _⟩, fun b hb => ?_, q⟩
  have nb : s1.heap.objs.size ≤ b := by
    rw [List.mem_cons, List.mem_singleton] at hb
    rcases hb with z | z
    · rw [z]
      exact Nat.le_succ _
    · rw [z]
      exact Nat.le_refl _
  exact I1.fpOk nb (I1.hok.fresh nb)
/-- for i, x in enumerate(a tuple) -/
theorem for_enumT {K : PySem.W.Frag} {a : Addr} {xs : List V} {g : TG} {tb : TS} {D : Ends} {σ : L2.St} {H : Hp} (Pv : Nat → L2.St → Hp → Prop) (h0 : Pv 0 σ H) (hq : ∀ i σ H, Pv i σ H → SqT K H a xs)
    (hs : ∀ (i : Nat) (x : V) (T : Addr) (σ : L2.St) (H : Hp), xs[i]? = some x → Pv i σ H → H T = none → g (.ref T) σ (L2.upd H T (.tup [.int (i : Nat), x])) fun σ2 H2 => tb { D with nx := Pv (i + 1), ct := Pv (i + 1), bk := D.nx } σ2 H2)
    (hd : ∀ σ H, Pv xs.length σ H → D.nx σ H) :
    ∃ W : Nat → Nat → L2.St → Hp → Prop, (∃ m, W 0 m σ H) ∧ ∀ i m σ H, W i m σ H →
      ((IteT K a).stop i H ∧ D.nx σ H) ∨ ((IteT K a).go i H ∧ ∃ N : L2.St → Hp → Prop, (∀ σ' H', N σ' H' → ∃ m', m' < m ∧ W (i + 1) m' σ' H') ∧
        ∀ v H', (IteT K a).yld i H v H' → g v σ H' fun σ2 H2 => tb { D with nx := N, ct := N, bk := D.nx } σ2 H2) := by
  refine ⟨fun i m σ H => m = xs.length - i ∧ i ≤ xs.length ∧ Pv i σ H, ⟨xs.length, rfl, Nat.zero_le _, h0⟩, ?_⟩
  rintro i m σ H ⟨rfl, hi, p⟩
  have q := hq i σ H p
  by_cases h : i < xs.length
  · refine .inr ⟨⟨xs, xs[i], q, List.getElem?_eq_getElem h⟩, Pv (i + 1), fun σ' H' p' => ⟨xs.length - (i + 1), by omega, rfl, h, p'⟩, ?_⟩
    rintro v H' ⟨T, x, rfl, hT, rfl, f⟩
    exact hs i x T σ H (f xs q) p hT
  · obtain rfl : i = xs.length := by omega
    exact .inl ⟨⟨xs, q, Nat.le_refl _⟩, hd σ H p⟩
theorem pi_tupK {X : Cx} {K : PySem.W.Frag} {tg l : Expr} {tl : TE} (hK : X.K = K) (hl : PE X l tl) : PI X tg l (iTup K tl) := by subst hK; exact pi_tup hl
end Lb

set_option Elab.async false
set_option linter.all false
set_option maxRecDepth 100000
set_option maxHeartbeats 4000000
namespace Lb
open PySem L2
/-- all but lists is kept -/
def NL (H H' : Hp) : Prop := ∀ b o, (∀ l, o ≠ HO.lst l) → H b = some o → H' b = some o
theorem NL.trans {H H1 H2 : Hp} (h : NL H H1) (k : NL H1 H2) : NL H H2 := fun b o n e => k b o n (h b o n e)
theorem NL.of {H H1 : Hp} (h : L2.Same H H1) : NL H H1 := fun b o _ e => h b o e
theorem NL.refl {H : Hp} : NL H H := fun _ _ _ e => e
theorem NL.mov {p : Addr} {H H1 : Hp} (m : Mov p H H1) (hp : PotAt H p) : NL H H1 := fun b o n e => m.keep b o (fun z => by
  obtain ⟨x, y, q, _⟩ := hp
  rw [z, q] at e
  exact n _ (Option.some.inj e).symm) e
theorem NL.upd {H : Hp} {l : Addr} {ys : List V} {o : HO} (h : H l = some (.lst ys)) : NL H (L2.upd H l o) := fun b u n e => by
  have : b ≠ l := fun z => by
    rw [z, h] at e
    exact n _ (Option.some.inj e).symm
  rw [upd_ne this]
  exact e
theorem Mov.updl {p l : Addr} {H H' : Hp} {o : HO} (m : Mov p H H') (h : H l = none) (n : l ≠ p) : Mov p H (L2.upd H' l o) := by
  refine ⟨fun b u nb e => ?_, ?_⟩
  · rw [upd_ne (ne_of_none e h)]
    exact m.keep b u nb e
  · obtain ⟨x, y, q, z⟩ := m.pot
    exact ⟨x, y, by rw [upd_ne (Ne.symm n)]; exact q, z⟩
theorem Same.free {H H' : Hp} {b : Addr} (s : L2.Same H H') (h : H' b = none) : H b = none := by
  cases z : H b with
  | none => rfl
  | some o =>
    rw [s b o z] at h
    cases h
theorem Fr.nl {p : Addr} {H H' : Hp} {t b : Int} (h : Fr H p t b) (s : NL H H') : Fr H' p t b := s _ _ (fun _ z => nomatch z) h
theorem eqv2 (x y : Int) : PyData.eqv (.list [.int x, .int y]) (.list [.int 0, .int 0]) = (decide (x = 0) && decide (y = 0)) := by
  simp only [PyData.eqv, PyData.eqvAll, Bool.and_true]
  rfl
end Lb

set_option Elab.async false
set_option linter.all false
set_option maxRecDepth 100000
set_option maxHeartbeats 4000000
/-! == of lists and tuples whose items have an own ==: either answer -/
namespace LbE
open PySem PySem.SeqAt
open AutoSeq1 (wpAny_loadPart')
open MeetsSeq MeetsSeq2 MeetsSeq3 SeqRoads2
open GQ (FinOf call_here)
section
variable {prog : Program} {w : World} {A : Around} {R : Result → Shared → Prop}
/-- at each moment the two lists are read anew: N items each; how the i-th two compare -/
def ListB (prog : Program) (w : World) (A : Around) (E : Value → Shared → Prop) (l b : Addr) (N : Nat) (e : Nat → Bool) (I : Shared → Prop) : Prop :=
  ∀ s, I s → ∃ (items items2 : Array Value) (n n2 : Nat), s.heap.get? l = some { cls := .type "list", data := .seq items n } ∧ s.heap.get? b = some { cls := .type "list", data := .seq items2 n2 } ∧ items.size = N ∧ items2.size = N ∧
    ∀ (i : Nat) (h1 : i < items.size) (h2 : i < items2.size), wpAny (model prog w) A.in1 (eqBool items[i] items2[i]) (fun r s' => r = e i ∧ I s') E s
theorem eq_loopB (l b : Addr) (N : Nat) (e : Nat → Bool) (I : Shared → Prop) (hl : ListB prog w A (fun e s' => R (.error e) s') l b N e I) (k : Nat) :
    ∀ i : Nat, N - i = k → i ≤ N → (∀ s, I s → R (.ok (.ret (.bool (((List.range N).drop i).all e)))) s) → ∀ s, I s →
      wpAny (model prog w) A.in1 (Builtin.«list.__eq__.loop» ⟨[.ref l, .ref b, rawInt i, rawInt 2], []⟩) (FinOf prog w A R) (fun e s' => R (.error e) s') s := by
  induction k with
  | zero =>
    intro i hk hi fin s h
    obtain ⟨items, items2, n, n2, hl1, hb1, hs1, hs2, _⟩ := hl _ h
    have hi' : i = N := by omega
    have hd : (List.range N).drop i = [] := by simp; omega
    have hR := fin s h
    rw [hd] at hR
    obtain ⟨hp, g, d, tk, os⟩ := s
    wp_walk using wpAny_loadPart' hl1, wpAny_loadPart' hb1
    have hi1 : items[((i : Nat) : Int).toNat]? = none := by simp; omega
    have hi2 : items2[((i : Nat) : Int).toNat]? = none := by simp; omega
    rw [hi1, hi2]
    wp_walk using wpAny_loadPart' hl1, wpAny_loadPart' hb1
    show R (.ok (.ret (.bool (items.size == items2.size)))) _
    rw [hs1, hs2]
    simpa using hR
  | succ k ih =>
    intro i hk hi fin s h
    obtain ⟨items, items2, n, n2, hl1, hb1, hs1, hs2, turn⟩ := hl _ h
    have hlt : i < items.size := by omega
    have hlt2 : i < items2.size := by omega
    have ht := turn i hlt hlt2
    have hd : (List.range N).drop i = i :: (List.range N).drop (i + 1) := by
      rw [List.drop_eq_getElem_cons (by rw [List.length_range]; omega)]
      simp
    rw [hd] at fin
    obtain ⟨hp, g, d, tk, os⟩ := s
    wp_walk using wpAny_loadPart' hl1, wpAny_loadPart' hb1
    have hi1 : items[((i : Nat) : Int).toNat]? = some items[i] := by simp [hlt]
    have hi2 : items2[((i : Nat) : Int).toNat]? = some items2[i] := by simp [hlt2]
    have hc : ((i : Int) + 1) = ((i + 1 : Nat) : Int) := by omega
    rw [hi1, hi2]
    refine wpAny_bind (wpAny_mono ht (fun r s2 h2 => ?_) fun _ _ x => x)
    obtain ⟨hr, h2⟩ := h2
    subst hr
    cases hb' : e i with
    | true =>
      have hrec := ih (i + 1) (by omega) (by omega) (fun s hs => by
        have := fin s hs
        rw [List.all_cons, hb'] at this
        simpa using this) s2 h2
      obtain ⟨hp2, g2, d2, tk2, os2⟩ := s2
      wp_walk
      rw [hc]
      exact ⟨plainId_quiet plain_eq_loop _, codeAny_builtin entry_eq_loop (by
        rw [Around.under_plainId plain_eq_loop _]
        exact hrec)⟩
    | false =>
      have hR := fin s2 h2
      rw [List.all_cons, hb'] at hR
      obtain ⟨items3, items4, n3, n4, hl3, hb3, hs3, hs4, _⟩ := hl _ h2
      obtain ⟨hp2, g2, d2, tk2, os2⟩ := s2
      wp_walk using wpAny_loadPart' hl3, wpAny_loadPart' hb3
      have hi3 : items3[((i : Nat) : Int).toNat]? = some (items3[i]'(by omega)) := by simp [show i < items3.size by omega]
      have hi4 : items4[((i : Nat) : Int).toNat]? = some (items4[i]'(by omega)) := by simp [show i < items4.size by omega]
      rw [hi3, hi4]
      wp_walk
      simpa using hR
theorem list_eqB (l b : Addr) (N : Nat) (e : Nat → Bool) (I : Shared → Prop) (hl : ListB prog w A (fun e s' => R (.error e) s') l b N e I)
    (fin : ∀ s, I s → R (.ok (.ret (.bool ((List.range N).all e)))) s) {s : Shared} (h : I s) :
    wpAny (model prog w) A.in1 (Builtin.«list.__eq__» ⟨[.ref l, .ref b], []⟩) (FinOf prog w A R) (fun e s' => R (.error e) s') s := by
  obtain ⟨items, items2, n, n2, hl1, hb1, hs1, hs2, _⟩ := hl _ h
  have hrec := eq_loopB (A := A) (R := R) l b N e I hl _ 0 rfl (Nat.zero_le _) (by simpa using fin) s h
  obtain ⟨hp, g, d, tk, os⟩ := s
  have f3 := AutoSeq1.sub_list_list
  have hne : ¬ (items.size != items2.size) = true := by simp [hs1, hs2]
  wp_walk using wpAny_loadPart' hl1, wpAny_loadPart' hb1
  exact ⟨plainId_quiet plain_eq_loop _, codeAny_builtin entry_eq_loop (by
    rw [Around.under_plainId plain_eq_loop _]
    exact hrec)⟩
theorem list_neB (l b : Addr) {items items2 : Array Value} {n n2 : Nat} {s : Shared} (hl1 : s.heap.get? l = some { cls := .type "list", data := .seq items n }) (hb1 : s.heap.get? b = some { cls := .type "list", data := .seq items2 n2 }) (hs : items.size ≠ items2.size)
    (fin : R (.ok (.ret (.bool false))) s) :
    wpAny (model prog w) A.in1 (Builtin.«list.__eq__» ⟨[.ref l, .ref b], []⟩) (FinOf prog w A R) (fun e s' => R (.error e) s') s := by
  obtain ⟨hp, g, d, tk, os⟩ := s
  have f3 := AutoSeq1.sub_list_list
  have hne : (items.size != items2.size) = true := by simp [hs]
  wp_walk using wpAny_loadPart' hl1, wpAny_loadPart' hb1
  exact fin
theorem tuple_eqB (l b : Addr) (items items2 : Array Value) (n n2 : Nat) (dd dd2 : Option Addr) (sl sl2 : Array (Option Value)) (hsz : items.size = items2.size) (e : Nat → Bool) (I : Shared → Prop)
    (turn : ∀ i (h1 : i < items.size) (h2 : i < items2.size) s, I s → wpAny (model prog w) A.in1 (eqBool items[i] items2[i]) (fun r s' => r = e i ∧ I s') (fun e s' => R (.error e) s') s)
    (fin : ∀ s, I s → R (.ok (.ret (.bool ((List.range items.size).all e)))) s) {s : Shared} (hl1 : s.heap.get? l = some { cls := .type "tuple", dict := dd, data := .seq items n, slots := sl }) (hb1 : s.heap.get? b = some { cls := .type "tuple", dict := dd2, data := .seq items2 n2, slots := sl2 }) (h : I s) :
    wpAny (model prog w) A.in1 (Builtin.«tuple.__eq__» ⟨[.ref l, .ref b], []⟩) (FinOf prog w A R) (fun e s' => R (.error e) s') s := by
  have f2 := AutoSeq1.sub_tuple_tuple
  have hZ : (items.toList.zip items2.toList).length = items.size := by simp [hsz]
  have h0 := h
  obtain ⟨hp, g, d, tk, os⟩ := s
  wp_walk using wpAny_loadPart' hl1, wpAny_loadPart' hb1, wpAny_forIn_list _ (fun rest b s' => I s' ∧ ∃ i, i ≤ items.size ∧ ((b.1 = none ∧ rest = (items.toList.zip items2.toList).drop i ∧ ((List.range items.size).take i).all e = true))) _
  case turn =>
    rintro ⟨y, x⟩ rest b s' ⟨hI, i, hi, hb', hz, hall⟩
    have hlt : i < (items.toList.zip items2.toList).length := by
      rcases Nat.lt_or_ge i (items.toList.zip items2.toList).length with h' | h'
      · exact h'
      · rw [List.drop_of_length_le h'] at hz; cases hz
    have h1 : i < items.size := hZ ▸ hlt
    have h2 : i < items2.size := hsz ▸ h1
    rw [List.drop_eq_getElem_cons hlt] at hz
    injection hz with hyx hrest
    have hy : y = items[i] := by have := congrArg Prod.fst hyx; simpa using this
    have hx : x = items2[i] := by have := congrArg Prod.snd hyx; simpa using this
    subst hy hx
    refine wpAny_bind (wpAny_mono (turn i h1 h2 s' hI) (fun r s2 q2 => ?_) fun _ _ x => x)
    obtain ⟨hr, q2⟩ := q2
    subst hr
    cases he : e i with
    | true =>
      wp_walk
      refine ⟨q2, i + 1, h1, rfl, hrest, ?_⟩
      rw [List.take_succ, List.all_append, hall, List.getElem?_range h1]
      simp [he]
    | false =>
      have hR : R (.ok (.ret (.bool false))) s2 := by
        have := fin s2 q2
        have e1 : (List.range items.size).all e = false := List.all_eq_false.mpr ⟨i, List.mem_range.mpr h1, by simp [he]⟩
        rw [e1] at this
        exact this
      wp_walk
      exact hR
  case fin =>
    rintro ⟨b1, b2⟩ s' ⟨hI, i, hi, hb', hz, hall⟩
    simp only at hb'
    subst hb'
    have hge : items.size ≤ i := by
      rcases Nat.lt_or_ge i (items.toList.zip items2.toList).length with h' | h'
      · rw [List.drop_eq_getElem_cons h'] at hz; cases hz
      · exact hZ ▸ h'
    have hi' : i = items.size := by omega
    have e1 : (List.range items.size).all e = true := by
      rw [hi', List.take_of_length_le (by simp)] at hall
      exact hall
    have hR : R (.ok (.ret (.bool true))) s' := by
      have := fin s' hI
      rw [e1] at this
      exact this
    wp_walk
    simpa [Builtin.Tuple.tupleCompareSizes, hsz] using hR
  case h =>
    exact ⟨h0, 0, Nat.zero_le _, rfl, rfl, rfl⟩
end
section
variable {prog : Program} {w : World} {A : Around} {E : Value → Shared → Prop} {s : Shared}
theorem rc_listB {l b : Addr} {N : Nat} {e : Nat → Bool} {Q : Value → Shared → Prop} (hu : A.units < cLine) (I : Shared → Prop) (hl : ListB prog w A E l b N e I)
    (fin : ∀ s, I s → Q (.bool ((List.range N).all e)) s) (h : I s) : wpAny (model prog w) A (richCompare .Eq (.ref l) (.ref b)) Q E s := by
  obtain ⟨items, items2, n, n2, hl1, hb1, _, _, _⟩ := hl _ h
  refine wpAny_richCompare_same_room (op := .Eq) ⟨_, hl1, rfl⟩ ⟨_, hb1, rfl⟩ F.slot_list_eq (call_here F.slot_list_eq ⟨_, hl1, rfl⟩ F.entry_list_eq (F.args_list_eq_2 _ _) ?_) hu
  exact list_eqB (R := wants (fun v s' => v ≠ .notImplemented ∧ Q v s') E) l b N e I hl (fun s' q => ⟨(fun x => nomatch x), fin s' q⟩) h
theorem rc_listN {l b : Addr} {items items2 : Array Value} {n n2 : Nat} {Q : Value → Shared → Prop} (hu : A.units < cLine) (hl1 : s.heap.get? l = some { cls := .type "list", data := .seq items n }) (hb1 : s.heap.get? b = some { cls := .type "list", data := .seq items2 n2 }) (hs : items.size ≠ items2.size)
    (fin : Q (.bool false) s) : wpAny (model prog w) A (richCompare .Eq (.ref l) (.ref b)) Q E s := by
  refine wpAny_richCompare_same_room (op := .Eq) ⟨_, hl1, rfl⟩ ⟨_, hb1, rfl⟩ F.slot_list_eq (call_here F.slot_list_eq ⟨_, hl1, rfl⟩ F.entry_list_eq (F.args_list_eq_2 _ _) ?_) hu
  exact list_neB (R := wants (fun v s' => v ≠ .notImplemented ∧ Q v s') E) l b hl1 hb1 hs ⟨(fun x => nomatch x), fin⟩
theorem rc_tupB {l b : Addr} {items items2 : Array Value} {Q : Value → Shared → Prop} {e : Nat → Bool} (hsz : items.size = items2.size) (hu : A.units < cLine) (I : Shared → Prop)
    (hl : s.heap.IsTuple l items) (hb : s.heap.IsTuple b items2)
    (turn : ∀ i (h1 : i < items.size) (h2 : i < items2.size) s, I s → wpAny (model prog w) A.in1 (eqBool items[i] items2[i]) (fun r s' => r = e i ∧ I s') E s)
    (fin : ∀ s, I s → Q (.bool ((List.range items.size).all e)) s) (h : I s) : wpAny (model prog w) A (richCompare .Eq (.ref l) (.ref b)) Q E s := by
  obtain ⟨⟨cls, dd, data, sl⟩, ho, hc, n, hd⟩ := id hl
  obtain ⟨⟨cls2, dd2, data2, sl2⟩, ho2, hc2, n2, hd2⟩ := id hb
  simp only at hc hd hc2 hd2
  subst hc hd hc2 hd2
  refine wpAny_richCompare_same_room (op := .Eq) ⟨_, ho, rfl⟩ ⟨_, ho2, rfl⟩ F.slot_tuple_eq (call_here F.slot_tuple_eq ⟨_, ho, rfl⟩ F.entry_tuple_eq (F.args_tuple_eq_2 _ _) ?_) hu
  exact tuple_eqB (R := wants (fun v s' => v ≠ .notImplemented ∧ Q v s') E) l b items items2 n n2 dd dd2 sl sl2 hsz e I turn (fun s' q => ⟨(fun x => nomatch x), fin s' q⟩) ho ho2 h
end
end LbE
namespace Lb
open PySem PySem.Spec PyProof.Rows L2
/-- how two values compare, by the abstract heap -/
abbrev EqvB := V → V → Hp → Bool → Prop
def MonB (D : EqvB) : Prop := ∀ x y H H' c, Ext H H' → D x y H c → D x y H' c
def EqGB (X : Cx) (n : Nat) (D : EqvB) : Prop :=
  ∀ (A : Around) (pins : List (Addr × Obj)) (s : Shared) (σ : L2.St) (H : Hp) (x y : V) (u v : Value) (c : Bool), L2.Sub X n A → Inv X pins σ H s → RelV x u → RelV y v → D x y H c →
    wpAny (model X.prog X.w) A (eqBool u v) (fun r s' => r = c ∧ ∃ H', Inv X pins σ H' s' ∧ Ext H H') X.xe s
def RcGB (X : Cx) (n : Nat) (D : EqvB) : Prop :=
  ∀ (A : Around) (pins : List (Addr × Obj)) (s : Shared) (σ : L2.St) (H : Hp) (x y : V) (u v : Value) (c : Bool), L2.Sub X n A → Inv X pins σ H s → RelV x u → RelV y v → D x y H c →
    wpAny (model X.prog X.w) A (richCompare .Eq u v) (fun r s' => r = .bool c ∧ ∃ H', Inv X pins σ H' s' ∧ Ext H H') X.xe s
section
variable {X : Cx} {n m : Nat} {D D' : EqvB}
theorem EqGB.mono (h : EqGB X n D) (hn : n ≤ m) : EqGB X m D := fun A pins s σ H x y u v c sb => h A pins s σ H x y u v c (sb.mono hn)
theorem EqGB.or (h : EqGB X n D) (h' : EqGB X n D') : EqGB X n (fun x y H c => D x y H c ∨ D' x y H c) := fun A pins s σ H x y u v c sb I rx ry d => by
  rcases d with d | d
  · exact h A pins s σ H x y u v c sb I rx ry d
  · exact h' A pins s σ H x y u v c sb I rx ry d
theorem MonB.or (h : MonB D) (h' : MonB D') : MonB (fun x y H c => D x y H c ∨ D' x y H c) := fun x y H H' c e d => d.elim (fun d => .inl (h x y H H' c e d)) fun d => .inr (h' x y H H' c e d)
/-- item by item -/
structure PrsB (D : EqvB) (xs ys : List V) (H : Hp) (e : Nat → Bool) : Prop where
  len : xs.length = ys.length
  at_ : ∀ (i : Nat) x y, xs[i]? = some x → ys[i]? = some y → D x y H (e i)
theorem PrsB.mon (hD : MonB D) {xs ys : List V} {H H' : Hp} {c : Nat → Bool} (e : Ext H H') (p : PrsB D xs ys H c) : PrsB D xs ys H' c := ⟨p.len, fun i x y h1 h2 => hD x y H H' _ e (p.at_ i x y h1 h2)⟩
theorem turnB (hD : MonB D) (h : EqGB X n D) {A : Around} (sb : L2.Sub X (n + 1) A) {pins : List (Addr × Obj)} {σ : L2.St} {H : Hp} {xs ys : List V} {its its2 : List Value} {e : Nat → Bool} (p : PrsB D xs ys H e) (r : Vals xs its) (r2 : Vals ys its2)
    (i : Nat) (h1 : i < its.toArray.size) (h2 : i < its2.toArray.size) (s' : Shared) (l : LoopI X pins σ H s') :
    wpAny (model X.prog X.w) A.in1 (eqBool its.toArray[i] its2.toArray[i]) (fun r s2 => r = e i ∧ LoopI X pins σ H s2) X.xe s' := by
  obtain ⟨H1, I1, e1⟩ := l
  have g1 : its[i]? = some its.toArray[i] := by
    have h1' : i < its.length := by simpa using h1
    rw [List.getElem?_eq_getElem h1'] <;> simp
  have g2 : its2[i]? = some its2.toArray[i] := by
    have h2' : i < its2.length := by simpa using h2
    rw [List.getElem?_eq_getElem h2'] <;> simp
  have k1 : i < xs.length := by rw [r.length]; simpa using h1
  have k2 : i < ys.length := by rw [r2.length]; simpa using h2
  obtain ⟨u, hu, ru⟩ := r.get (List.getElem?_eq_getElem k1)
  obtain ⟨v, hv, rv⟩ := r2.get (List.getElem?_eq_getElem k2)
  rw [g1] at hu
  rw [g2] at hv
  rw [Option.some.inj hu, Option.some.inj hv]
  refine wpAny_mono (h A.in1 pins s' σ H1 _ _ u v _ sb.in1 I1 ru rv (hD _ _ _ _ _ e1 (p.at_ i _ _ (List.getElem?_eq_getElem k1) (List.getElem?_eq_getElem k2)))) (fun r s2 q => ?_) fun _ _ x => x
  obtain ⟨hr, H2, I2, e2⟩ := q
  exact ⟨hr, H2, I2, e1.trans e2⟩
def DListB (D : EqvB) : EqvB := fun x y H c => ∃ a b xs ys, x = .ref a ∧ y = .ref b ∧ H a = some (.lst xs) ∧ H b = some (.lst ys) ∧ ((xs.length ≠ ys.length ∧ c = false) ∨ ∃ e, PrsB D xs ys H e ∧ c = (List.range xs.length).all e)
def DTupB (K : PySem.W.Frag) (D : EqvB) : EqvB := fun x y H c => ∃ a b xs ys e, x = .ref a ∧ y = .ref b ∧ SqT K H a xs ∧ SqT K H b ys ∧ PrsB D xs ys H e ∧ c = (List.range xs.length).all e
theorem mon_listB (hD : MonB D) : MonB (DListB D) := fun x y H H' c e d => by
  obtain ⟨a, b, xs, ys, hx, hy, h1, h2, p⟩ := d
  exact ⟨a, b, xs, ys, hx, hy, e _ _ h1, e _ _ h2, p.imp id fun ⟨f, p, q⟩ => ⟨f, p.mon hD e, q⟩⟩
theorem mon_tupB {K : PySem.W.Frag} (hD : MonB D) : MonB (DTupB K D) := fun x y H H' c e d => by
  obtain ⟨a, b, xs, ys, f, hx, hy, h1, h2, p, q⟩ := d
  exact ⟨a, b, xs, ys, f, hx, hy, L2.SqT.ext h1 e, L2.SqT.ext h2 e, p.mon hD e, q⟩
theorem rcGB_list (hD : MonB D) (h : EqGB X n D) : RcGB X (n + 1) (DListB D) := by
  intro A pins s σ H x y u v c sb I rx ry d
  obtain ⟨a, b, xs, ys, rfl, rfl, ha, hb, p⟩ := d
  cases rx
  cases ry
  rcases p with ⟨hne, rfl⟩ | ⟨f, p, rfl⟩
  · obtain ⟨z, its, k, r, e⟩ := I.hok a _ ha
    obtain ⟨z2, its2, k2, r2, e2⟩ := I.hok b _ hb
    refine LbE.rc_listN sb.room.units0 e e2 ?_ ⟨rfl, H, I, Ext.rfl'⟩
    rw [List.size_toArray, List.size_toArray, ← r.length, ← r2.length]
    exact hne
  · refine LbE.rc_listB (N := xs.length) (e := f) sb.room.units0 (fun s' => LoopI X pins σ H s') (fun s' q => ?_) (fun s' q => ⟨rfl, q⟩) ⟨H, I, Ext.rfl'⟩
    obtain ⟨H1, I1, e1⟩ := id q
    obtain ⟨z, its, k, r, e⟩ := I1.hok a _ (e1 _ _ ha)
    obtain ⟨z2, its2, k2, r2, e2⟩ := I1.hok b _ (e1 _ _ hb)
    refine ⟨its.toArray, its2.toArray, k, k2, e, e2, by rw [List.size_toArray, ← r.length], by rw [List.size_toArray, ← r2.length, ← p.len], fun i h1 h2 => ?_⟩
    exact turnB hD h sb p r r2 i h1 h2 s' q
theorem rcGB_tup (hD : MonB D) (h : EqGB X n D) : RcGB X (n + 1) (DTupB X.K D) := by
  intro A pins s σ H x y u v c sb I rx ry d
  obtain ⟨a, b, xs, ys, f, rfl, rfl, ha, hb, p, rfl⟩ := d
  cases rx
  cases ry
  obtain ⟨its, r, e, z⟩ := I.tuple ha
  obtain ⟨its2, r2, e2, z2⟩ := I.tuple hb
  have hsz : its.toArray.size = its2.toArray.size := by rw [List.size_toArray, List.size_toArray, ← r.length, ← r2.length]; exact p.len
  refine LbE.rc_tupB (e := f) hsz sb.room.units0 (fun s' => LoopI X pins σ H s') e e2 (fun i h1 h2 s' q => turnB hD h sb p r r2 i h1 h2 s' q) (fun s' q => ?_) ⟨H, I, Ext.rfl'⟩
  rw [List.size_toArray, ← r.length]
  exact ⟨rfl, q⟩
/-- from a rich comparison of references to == inside a list or tuple: the same object is equal to itself -/
theorem RcGB.eqG (h : RcGB X n D) (hr : ∀ x y H c, D x y H c → ∃ a b, x = .ref a ∧ y = .ref b ∧ (a = b → c = true)) : EqGB X n D := by
  intro A pins s σ H x y u v c sb I rx ry d
  obtain ⟨a, b, rfl, rfl, hs⟩ := hr _ _ _ _ d
  cases rx
  cases ry
  by_cases hab : a = b
  · obtain rfl := hs hab
    subst hab
    exact SeqAt.EqAt.same (A := A) (s := s) (.ref a) X.prog X.w X.xe _ ⟨rfl, H, I, Ext.rfl'⟩
  · refine GQ.eqBool_refG hab (wpAny_mono (h A pins s σ H (.ref a) (.ref b) _ _ c sb I rfl rfl d) (fun r s' q => ?_) fun _ _ x => x)
    obtain ⟨hr', q⟩ := q
    exact ⟨c, hr', rfl, q⟩
/-- instances of the class at C with the text's own == -/
def DInsB (C : Addr) (R : Addr → Addr → Hp → Bool → Prop) : EqvB := fun x y H c => ∃ a b dx dy fs gs, x = .ref a ∧ y = .ref b ∧ H a = some (.ins C dx fs) ∧ H b = some (.ins C dy gs) ∧ R a b H c
theorem mon_insB {C : Addr} {R : Addr → Addr → Hp → Bool → Prop} (hR : ∀ a b H H' c, Ext H H' → R a b H c → R a b H' c) : MonB (DInsB C R) := fun x y H H' c e d => by
  obtain ⟨a, b, dx, dy, fs, gs, hx, hy, h1, h2, r⟩ := d
  exact ⟨a, b, dx, dy, fs, gs, hx, hy, e _ _ h1, e _ _ h2, hR a b H H' c e r⟩
theorem rcGB_ins {CX : CXT} {C f : Addr} {fd : FuncData} {ps : List Str} {sp : Sp} {R : Addr → Addr → Hp → Bool → Prop} {E : XK} (F : FnOk X.prog X.w X.K X.mg X.base CX n f fd ps sp)
    (hR : ∀ a b H c, R a b H c → ∀ Q : VK, (∀ H', Ext H H' → Q (.bl c) H') → sp [.ref a, .ref b] H Q E)
    (hs : PySem.W.findIn X.K (.ref C) "__eq__" = some (some (.ref f))) (hf : PySem.W.isFn X.K (.ref f) = true) (hb : Binds X.K fd ps []) (hx : Passes CX X E) : RcGB X n (DInsB C R) := by
  intro A pins s σ H x y u v c sb I rx ry d
  obtain ⟨a, b, dx, dy, fs, gs, rfl, rfl, ha, hb', hr⟩ := d
  cases rx
  cases ry
  obtain ⟨mA, J, _⟩ := ins_get I.hok ha
  obtain ⟨mB, J', _⟩ := ins_get I.hok hb'
  obtain ⟨od, J, _⟩ := J.look
  obtain ⟨od', J', _⟩ := J'.look
  obtain ⟨m, hF⟩ := I.fr
  refine PySem.W.cmp_K (op := .Eq) (tb := .ref C) sb.room.units0 hF I.ok.mod.kin J J'.type (by simp [PySem.W.notFirst]) hs hf ?_
  have hsp := hR a b H c hr (fun v H' => v = .bl c ∧ Ext H H') fun H' e => ⟨rfl, e⟩
  have e0 : Env0 X.prog X.w X.K X.mg X.base A X.stack s H := by
    have e := I.env0
    exact ⟨by rw [sb.fr]; exact e.frames, e.mod, e.bs, e.bsz, e.funs, e.frf, e.hok, e.bare⟩
  have hl := F.len _ _ _ _ hsp
  have r2 : Vals [V.ref a, V.ref b] [Value.ref a, Value.ref b] := .cons rfl (.cons rfl .nil)
  refine wpAny_call (codeAny_mono (F.run A X.stack s H ⟨[.ref a, .ref b], []⟩ [.ref a, .ref b] [.ref a, .ref b] _ E sb.room e0 (by
    have := hb s [.ref a, .ref b] I.kIn (by simpa using hl)
    simpa using this) r2 hsp) fun r s' hq => ?_)
  cases r with
  | error e => exact hx pins σ H s e s' I hq
  | ok fl =>
    cases fl with
    | ret w =>
      obtain ⟨z, H', I', rz, ez, ex⟩ := I.after hq
      subst ez
      cases rz
      exact ⟨rfl, H', I', ex⟩
    | next => exact False.elim hq
    | brk => exact False.elim hq
    | cont => exact False.elim hq
/-- x == y as an expression -/
def rEqGB (D : EqvB) : R2 := fun x y H Q => ∃ c, D x y H c ∧ ∀ H', Ext H H' → Q (.bl c) H'
theorem op_eqGB (h : RcGB X n D) (hr : Room n X.A) : OpR X (compareOp .Eq) (rEqGB D) := by
  intro pins s σ H x y v u Q I rx ry hq
  obtain ⟨c, d, q⟩ := hq
  show wpAny (model X.prog X.w) X.A (richCompare .Eq v u) (EP X pins σ Q) X.xe s
  refine wpAny_mono (h X.A pins s σ H x y v u c ⟨hr, rfl⟩ I rx ry d) (fun r s' z => ?_) fun _ _ x => x
  obtain ⟨hr', H', I', e⟩ := z
  subst hr'
  exact ⟨.bl c, H', I', rfl, q H' e⟩
end
end Lb

set_option Elab.async false
set_option linter.all false
set_option maxRecDepth 100000
set_option maxHeartbeats 4000000
/-! list(zip(a, b)): a, b two tuples or two lists -/
namespace LbZ
open PySem PyProof.Rows

section
variable {prog : Program} {w : World} {A : Around} {E : Value → Shared → Prop} {s : Shared}
/-- one step of a zip of tuples whose last pair is still held -/
theorem heldT_item {z TI TO T i1 i2 l1 l2 : Addr} {f : Bool} {oT : Obj} {k : Nat} {xs ys : Array Value} {x y : Value} {Q : Option Value → Shared → Prop} (D : ZipApart z TI TO i1 i2 l1 l2)
    (hz : IsZipHeld s.heap z TI TO T f) (hT : s.heap.get? T = some oT) (hTI : IsPair s.heap TI (.ref i1) (.ref i2))
    (j1 : s.heap.IsTupleIter i1 l1 k) (j2 : s.heap.IsTupleIter i2 l2 k) (t1 : s.heap.IsTuple l1 xs) (t2 : s.heap.IsTuple l2 ys) (hx : xs[k]? = some x) (hy : ys[k]? = some y)
    (go : ∀ h', IsZipHeld h' z TI TO T true → h'.IsTupleIter i1 l1 (k + 1) → h'.IsTupleIter i2 l2 (k + 1) → IsPair h' s.heap.objs.size x y →
      (∀ c o, c ≠ z → c ≠ i1 → c ≠ i2 → s.heap.get? c = some o → h'.get? c = some o) → Q (some (.ref s.heap.objs.size)) { s with heap := h' }) :
    wpAny (model prog w) A (pyNext (.ref z)) Q E s := by
  have ty : s.TypeIs (.ref z) "zip" := ⟨_, hz, rfl⟩
  unfold pyNext
  refine wpAny_bind (wpAny_attempt (wpAny_callSpecial?_slot (name := Str.ofString "__next__") ty F.slot_zip_next (wpAny_call_entry F.slot_zip_next ty F.entry_zip_next ?_ (F.args_zip_next_1 _))))
  show wpAny _ _ (field (.ref z) 2 >>= _) _ _ _
  refine wpAny_bind (wpAny_field hz rfl (x := .bool false) rfl ?_)
  show wpAny _ _ (field (.ref z) 3 >>= _) _ _ _
  refine wpAny_bind (wpAny_field hz rfl (x := .ref TI) rfl (wpAny_bind (wpAny_seqItems hTI rfl ?_)))
  show wpAny _ _ (Builtin.SmallTypes.ownedTupleIsFree (.ref z) >>= _) _ _ _
  refine wpAny_bind (wpAny_tupleHeld_zip hz hT fun ha za sa => ?_)
  simp only [Bool.false_eq_true, if_false]
  refine wpAny_bind ?_
  rw [← Array.forIn_toList]
  simp only [List.forIn_cons, List.forIn_nil]
  refine wpAny_bind (wpAny_bind (wpAny_holding ?_))
  show wpAny _ _ (Builtin.SmallTypes.nextOf (.ref i1) >>= _) _ _ _
  refine wpAny_bind (RZ.nextOf_tuple_item (s := { s with heap := ha }) (j1.extBut sa.extBut D.i1z) (t1.extBut sa.extBut D.l1z) hx fun hb j1b sb => wpAny_pure (wpAny_pure ?_))
  refine wpAny_bind (wpAny_bind (wpAny_holding ?_))
  show wpAny _ _ (Builtin.SmallTypes.nextOf (.ref i2) >>= _) _ _ _
  refine wpAny_bind (RZ.nextOf_tuple_item (s := { s with heap := hb }) ((j2.extBut sa.extBut D.i2z).extBut sb.extBut D.i12.symm) ((t2.extBut sa.extBut D.l2z).extBut sb.extBut D.l2i1) hy fun hc j2c sc => wpAny_pure (wpAny_pure (wpAny_pure ?_)))
  show wpAny _ _ (newTuple [x, y] >>= _) _ _ _
  refine wpAny_bind (wpAny_newTuple (wpAny_pure ⟨_, rfl, wpAny_pure ?_⟩))
  have sz : hc.objs.size = s.heap.objs.size := by rw [sc.1, sb.1, sa.1]
  have zc : IsZipHeld hc z TI TO T true := sc.extBut _ _ D.i2z.symm (sb.extBut _ _ D.i1z.symm za)
  have j1c : hc.IsTupleIter i1 l1 (k + 1) := j1b.extBut sc.extBut D.i12
  have pr : IsPair (hc.push { cls := .type "tuple", data := .seq #[x, y] }) hc.objs.size x y := Heap.get?_push_size _ rfl
  show Q (some (.ref hc.objs.size)) _
  rw [sz] at pr ⊢
  exact go _ (Heap.get?_push_of_some _ zc) (j1c.at fun o e => Heap.get?_push_of_some _ e) (j2c.at fun o e => Heap.get?_push_of_some _ e) pr
    fun c o n1 n2 n3 e => Heap.get?_push_of_some _ (sc.extBut _ _ n3 (sb.extBut _ _ n2 (sa.extBut _ _ n1 e)))
theorem heldT_end {z TI TO T i1 i2 l1 l2 : Addr} {f : Bool} {oT : Obj} {k : Nat} {xs ys : Array Value} {Q : Option Value → Shared → Prop} (hh : A.handled = none) (D : ZipApart z TI TO i1 i2 l1 l2)
    (hz : IsZipHeld s.heap z TI TO T f) (hT : s.heap.get? T = some oT) (hTI : IsPair s.heap TI (.ref i1) (.ref i2))
    (j1 : s.heap.IsTupleIter i1 l1 k) (j2 : s.heap.IsTupleIter i2 l2 k) (t1 : s.heap.IsTuple l1 xs) (t2 : s.heap.IsTuple l2 ys) (over : xs[k]? = none ∨ ys[k]? = none)
    (go : ∀ h', (∀ c o, c ≠ z → c ≠ i1 → c ≠ i2 → s.heap.get? c = some o → h'.get? c = some o) → Q none { s with heap := h' }) : wpAny (model prog w) A (pyNext (.ref z)) Q E s := by
  have ty : s.TypeIs (.ref z) "zip" := ⟨_, hz, rfl⟩
  have out : ∀ h' e, (∀ c o, c ≠ z → c ≠ i1 → c ≠ i2 → s.heap.get? c = some o → h'.get? c = some o) → (∃ o, h'.get? e = some o ∧ o.cls = .type "StopIteration") →
      wpAny (model prog w) A (do if ← isInstance (.ref e) (.type "StopIteration") then pure (none : Option Value) else throw (.ref e)) Q E { s with heap := h' } := fun h' e hk ⟨o, ho, hc⟩ =>
    wpAny_bind (wpAny_isInstance (T := "StopIteration") (b := true) ⟨o, ho, hc⟩ isSubtype_stop (wpAny_pure (go _ hk)))
  unfold pyNext
  refine wpAny_bind (wpAny_attempt (wpAny_callSpecial?_slot (name := Str.ofString "__next__") ty F.slot_zip_next (wpAny_call_entry F.slot_zip_next ty F.entry_zip_next ?_ (F.args_zip_next_1 _))))
  show wpAny _ _ (field (.ref z) 2 >>= _) _ _ _
  refine wpAny_bind (wpAny_field hz rfl (x := .bool false) rfl ?_)
  show wpAny _ _ (field (.ref z) 3 >>= _) _ _ _
  refine wpAny_bind (wpAny_field hz rfl (x := .ref TI) rfl (wpAny_bind (wpAny_seqItems hTI rfl ?_)))
  show wpAny _ _ (Builtin.SmallTypes.ownedTupleIsFree (.ref z) >>= _) _ _ _
  refine wpAny_bind (wpAny_tupleHeld_zip hz hT fun ha za sa => ?_)
  simp only [Bool.false_eq_true, if_false]
  refine wpAny_bind ?_
  rw [← Array.forIn_toList]
  simp only [List.forIn_cons, List.forIn_nil]
  refine wpAny_bind (wpAny_bind (wpAny_holding ?_))
  show wpAny _ _ (Builtin.SmallTypes.nextOf (.ref i1) >>= _) _ _ _
  cases hx : xs[k]? with
  | none =>
    refine wpAny_bind (RZ.nextOf_tuple_end (s := { s with heap := ha }) hh (j1.extBut sa.extBut D.i1z) (t1.extBut sa.extBut D.l1z) hx fun hb e sb he => ?_)
    exact out hb e (fun c o n1 n2 _ q => sb _ _ n2 (sa.extBut _ _ n1 q)) he
  | some x =>
    have hy : ys[k]? = none := by
      rcases over with h | h
      · rw [hx] at h; cases h
      · exact h
    refine wpAny_bind (RZ.nextOf_tuple_item (s := { s with heap := ha }) (j1.extBut sa.extBut D.i1z) (t1.extBut sa.extBut D.l1z) hx fun hb j1b sb => wpAny_pure (wpAny_pure ?_))
    refine wpAny_bind (wpAny_bind (wpAny_holding ?_))
    show wpAny _ _ (Builtin.SmallTypes.nextOf (.ref i2) >>= _) _ _ _
    refine wpAny_bind (RZ.nextOf_tuple_end (s := { s with heap := hb }) hh ((j2.extBut sa.extBut D.i2z).extBut sb.extBut D.i12.symm) ((t2.extBut sa.extBut D.l2z).extBut sb.extBut D.l2i1) hy fun hc e sc he => ?_)
    exact out hc e (fun c o n1 n2 n3 q => sc _ _ n3 (sb.extBut _ _ n2 (sa.extBut _ _ n1 q))) he
end
end LbZ
namespace LbZ
open PySem
theorem zip_no_len : typeLookup (.type "zip") "__len__" = pure none := am_miss_of_fast (by decide +kernel)
theorem zip_no_hint : typeLookup (.type "zip") "__length_hint__" = pure none := am_miss_of_fast (by decide +kernel)
end LbZ
namespace Lb
open PySem PySem.Spec PyProof.Rows L2
/-- how a zip of the tuples at a and b stands before its turn i -/
structure ZSt (H : Hp) (h : Heap) (z TI TO i1 i2 a b : Addr) (i : Nat) : Prop where
  zip : IsZip h z TI TO .none ∨ ∃ T fl ys, IsZipHeld h z TI TO T fl ∧ H T = some (.tup ys)
  ti : IsPair h TI (.ref i1) (.ref i2)
  to : ∃ x y, IsPair h TO x y
  j1 : h.IsTupleIter i1 a i
  j2 : h.IsTupleIter i2 b i
theorem ZSt.live {H : Hp} {h : Heap} {z TI TO i1 i2 a b c : Addr} {i : Nat} (st : ZSt H h z TI TO i1 i2 a b i) (hc : c ∈ [z, TI, TO, i1, i2]) : ∃ o, h.get? c = some o := by
  simp only [List.mem_cons, List.not_mem_nil, or_false] at hc
  rcases hc with rfl | rfl | rfl | rfl | rfl
  · rcases st.zip with h | ⟨_, _, _, h, _⟩
    · exact ⟨_, h⟩
    · exact ⟨_, h⟩
  · exact ⟨_, st.ti⟩
  · obtain ⟨_, _, e⟩ := st.to
    exact ⟨_, e⟩
  · obtain ⟨o, e, _⟩ := st.j1
    exact ⟨o, e⟩
  · obtain ⟨o, e, _⟩ := st.j2
    exact ⟨o, e⟩
section
variable {X : Cx} {pins : List (Addr × Obj)} {σ : L2.St} {H : Hp} {s : Shared} {z TI TO i1 i2 a b q : Addr} {i : Nat} {xs ys : List V} {A : Around} {E : Value → Shared → Prop}
theorem FpOk.other {H' : Hp} {c : Addr} (f : FpOk X pins H c) (h : H' c = none) : FpOk X pins H' c := ⟨h, f.2⟩
abbrev Chain (X : Cx) (pins : List (Addr × Obj)) (H : Hp) (z TI TO i1 i2 : Addr) : Prop := ∀ c ∈ [z, TI, TO, i1, i2], FpOk X pins H c
theorem zip_turn {x y : V} (D : ZipApart z TI TO i1 i2 a b) (I : Inv X pins σ H s) (hf : Chain X pins H z TI TO i1 i2) (st : ZSt H s.heap z TI TO i1 i2 a b i)
    (qx : SqT X.K H a xs) (qy : SqT X.K H b ys) (hx : xs[i]? = some x) (hy : ys[i]? = some y) :
    wpAny (model X.prog X.w) A (pyNext (.ref z)) (fun r s' => ∃ T, r = some (.ref T) ∧ H T = none ∧ Inv X pins σ (L2.upd H T (.tup [x, y])) s' ∧ ZSt (L2.upd H T (.tup [x, y])) s'.heap z TI TO i1 i2 a b (i + 1) ∧ Chain X pins (L2.upd H T (.tup [x, y])) z TI TO i1 i2) E s := by
  obtain ⟨its, rv, p, _⟩ := I.tuple qx
  obtain ⟨its2, rv2, p2, _⟩ := I.tuple qy
  obtain ⟨u, hu, ru⟩ := rv.get hx
  obtain ⟨u2, hu2, ru2⟩ := rv2.get hy
  have fr : H s.heap.objs.size = none := I.hok.fresh (Nat.le_refl _)
  have chain : Chain X pins (L2.upd H s.heap.objs.size (.tup [x, y])) z TI TO i1 i2 := fun c hc =>
    let ⟨o, e⟩ := st.live hc
    FpOk.other (hf c hc) (by rw [upd_ne (Nat.ne_of_lt (Heap.lt_size e))]; exact (hf c hc).1)
  have new : ∀ {h' : Heap}, IsPair h' s.heap.objs.size u u2 → ObjOk X.prog X.w (L2.upd H s.heap.objs.size (.tup [x, y])) h' s.heap.objs.size (.tup [x, y]) := fun hT =>
    ⟨by show 2 ≤ sizeLine; decide, [u, u2], .cons ru (.cons ru2 .nil), ⟨_, hT, rfl, _, rfl⟩⟩
  obtain ⟨v, w, hTO⟩ := st.to
  rcases st.zip with hz | ⟨T, fl, zs, hz, hT⟩
  · refine RZ.pyNext_zipT_item D hz st.ti hTO st.j1 st.j2 p p2 (x := u) (y := u2) (by simpa using hu) (by simpa using hu2) fun h' z' TO' k1 k2 hN _ hk => ?_
    have I1 : Inv X pins σ (L2.upd H s.heap.objs.size (.tup [x, y])) { s with heap := h' } :=
      I.turnedNew (t' := s.toks) (ch := [z, TI, TO, i1, i2]) (fun c o hb e => hk c o (fun e' => hb (by simp [e'])) (fun e' => hb (by simp [e'])) (fun e' => hb (by simp [e'])) (fun e' => hb (by simp [e'])) e) hf (Nat.le_refl _) (new hN)
    exact ⟨_, rfl, fr, I1, ⟨.inr ⟨_, false, _, z', upd_same⟩, hk _ _ D.TIz D.TITO D.TIi1 D.TIi2 st.ti, ⟨_, _, TO'⟩, k1, k2⟩, chain⟩
  · obtain ⟨_, _, _, oT, hoT, _⟩ := I.hok T _ hT
    refine LbZ.heldT_item D hz hoT st.ti st.j1 st.j2 p p2 (x := u) (y := u2) (by simpa using hu) (by simpa using hu2) fun h' z' k1 k2 hN hk => ?_
    have I1 : Inv X pins σ (L2.upd H s.heap.objs.size (.tup [x, y])) { s with heap := h' } :=
      I.turnedNew (t' := s.toks) (ch := [z, TI, TO, i1, i2]) (fun c o hb e => hk c o (fun e' => hb (by simp [e'])) (fun e' => hb (by simp [e'])) (fun e' => hb (by simp [e'])) e) hf (Nat.le_refl _) (new hN)
    exact ⟨_, rfl, fr, I1, ⟨.inr ⟨T, true, zs, z', by rw [upd_ne (ne_of_none hT fr)]; exact hT⟩, hk _ _ D.TIz D.TIi1 D.TIi2 st.ti, ⟨_, _, hk _ _ D.TOz D.TOi1 D.TOi2 hTO⟩, k1, k2⟩, chain⟩
theorem zip_over (hh : A.handled = none) (D : ZipApart z TI TO i1 i2 a b) (I : Inv X pins σ H s) (hf : Chain X pins H z TI TO i1 i2) (st : ZSt H s.heap z TI TO i1 i2 a b i)
    (qx : SqT X.K H a xs) (qy : SqT X.K H b ys) (over : xs.length ≤ i ∨ ys.length ≤ i) :
    wpAny (model X.prog X.w) A (pyNext (.ref z)) (fun r s' => r = none ∧ Inv X pins σ H s') E s := by
  obtain ⟨its, rv, p, _⟩ := I.tuple qx
  obtain ⟨its2, rv2, p2, _⟩ := I.tuple qy
  have l1 := rv.length
  have l2 := rv2.length
  have he : its.toArray[i]? = none ∨ its2.toArray[i]? = none := by
    rcases over with q | q
    · exact .inl (by simp; omega)
    · exact .inr (by simp; omega)
  obtain ⟨v, w, hTO⟩ := st.to
  rcases st.zip with hz | ⟨T, fl, zs, hz, hT⟩
  · exact RZ.pyNext_zipT_end hh D hz st.ti hTO st.j1 st.j2 p p2 he fun h' hk => ⟨rfl, I.turnedL (t' := s.toks) (ch := [z, TI, TO, i1, i2]) (fun c o hb e =>
      hk c o (fun e' => hb (by simp [e'])) (fun e' => hb (by simp [e'])) (fun e' => hb (by simp [e'])) (fun e' => hb (by simp [e'])) e) hf⟩
  · obtain ⟨_, _, _, oT, hoT, _⟩ := I.hok T _ hT
    exact LbZ.heldT_end hh D hz hoT st.ti st.j1 st.j2 p p2 he fun h' hk => ⟨rfl, I.turnedL (t' := s.toks) (ch := [z, TI, TO, i1, i2]) (fun c o hb e =>
      hk c o (fun e' => hb (by simp [e'])) (fun e' => hb (by simp [e'])) (fun e' => hb (by simp [e'])) e) hf⟩
/-- a new pair -/
def PairAt (H : Hp) (T : Addr) (p : V × V) : Prop := H T = some (.tup [p.1, p.2])
theorem zip_loop {Rs : Result → Shared → Prop} {A1 : Around} {H0 : Hp} (hh : A1.in1.handled = none) (D : ZipApart z TI TO i1 i2 a b) (l1 : xs.length ≤ 10000) (qa : a ≠ q) (qb : b ≠ q)
    (hdone : ∀ H' s' ts, Inv X pins σ H' s' → H' q = some (.lst (ts.map V.ref)) → Paired (PairAt H') ts (xs.zip ys) → (∀ c o, c ≠ q → H0 c = some o → H' c = some o) → Rs (.ok (.ret .none)) s') (herr : ∀ e s, X.xe e s → Rs (.error e) s) (qx0 : SqT X.K H0 a xs) (qy0 : SqT X.K H0 b ys) :
    ∀ (m i : Nat) (H : Hp) (s : Shared) (ts : List Addr), min xs.length ys.length - i = m → i ≤ min xs.length ys.length → Inv X pins σ H s → Chain X pins H z TI TO i1 i2 → ZSt H s.heap z TI TO i1 i2 a b i →
      H q = some (.lst (ts.map V.ref)) → Paired (PairAt H) ts ((xs.zip ys).take i) → (∀ c o, c ≠ q → H0 c = some o → H c = some o) →
      codeAny (model X.prog X.w) A1 (.builtin "list.extend.loop" ⟨[.ref q, .ref z, .none], []⟩) Rs s := by
  have sqk : ∀ {H : Hp} {c : Addr} {zs : List V}, c ≠ q → (∀ c o, c ≠ q → H0 c = some o → H c = some o) → SqT X.K H0 c zs → SqT X.K H c zs := fun n k h =>
    h.elim (fun h => .inl (h.elim (fun h => .inl (k _ _ n h)) fun ⟨o, h⟩ => .inr ⟨o, k _ _ n h⟩)) fun h => .inr h
  intro m
  induction m with
  | zero =>
    intro i H s ts hm hi I hf st hq pt kp
    refine codeAny_builtin PySem.F.entry_extend_loop ?_
    rw [Around.under_plainId PySem.F.plain_extend_loop _]
    show wpAny _ A1.in1 (pyNext (.ref z) >>= _) _ _ s
    refine wpAny_bind (wpAny_mono (zip_over hh D I hf st (sqk qa kp qx0) (sqk qb kp qy0) (by omega)) (fun r s' hr => ?_) fun e s' he => herr e s' he)
    obtain ⟨rfl, I'⟩ := hr
    rw [List.take_of_length_le (by rw [List.length_zip]; omega)] at pt
    exact wpAny_pure (hdone H s' ts I' hq pt kp)
  | succ m ih =>
    intro i H s ts hm hi I hf st hq pt kp
    refine codeAny_builtin PySem.F.entry_extend_loop ?_
    rw [Around.under_plainId PySem.F.plain_extend_loop _]
    show wpAny _ A1.in1 (pyNext (.ref z) >>= _) _ _ s
    have h1 : i < xs.length := by omega
    have h2 : i < ys.length := by omega
    have hx := List.getElem?_eq_getElem h1
    have hy := List.getElem?_eq_getElem h2
    refine wpAny_bind (wpAny_mono (zip_turn D I hf st (sqk qa kp qx0) (sqk qb kp qy0) hx hy) (fun r s' hr => ?_) fun e s' he => herr e s' he)
    obtain ⟨T, rfl, hT, I', st', hf'⟩ := hr
    show wpAny _ A1.in1 (updateSeq q (·.push (.ref T)) >>= _) _ _ _
    have hq' : (L2.upd H T (.tup [xs[i], ys[i]])) q = some (.lst (ts.map V.ref)) := by rw [upd_ne (ne_of_none hq hT)]; exact hq
    have ht : ts.length = i := by
      have := Paired.len pt
      rw [List.length_take, List.length_zip] at this
      omega
    obtain ⟨zz, its, k, r2, hl, e⟩ := I'.lstM hq'
    have hl' : its.length = i := by rw [← hl, List.length_map, ht]
    have sl : sizeLine = 16777216 := by decide
    refine wpAny_bind (wpAny_updateSeq e rfl (wpAny_pure ⟨plainId_quiet PySem.F.plain_extend_loop _, ?_⟩) (by rw [List.size_toArray]; omega) (by show (its.toArray.push (.ref T)).size ≤ sizeLine + 1; rw [Array.size_push, List.size_toArray]; omega))
    have I2 := I'.lset (f := (·.push (.ref T))) (its' := its ++ [.ref T]) (ys := (ts ++ [T]).map V.ref) (t' := s'.toks) hq' e (by simp) (by rw [List.map_append]; exact r2.append (.cons rfl .nil)) (by rw [List.length_map, List.length_append]; show ts.length + 1 ≤ _; omega)
    have nc : ∀ c ∈ [z, TI, TO, i1, i2], c ≠ q := fun c hc e' => by
      have := (hf c hc).1
      rw [e', hq] at this
      cases this
    have keep : ∀ c o, c ≠ q → s'.heap.get? c = some o → (s'.heap.update q (Obj.mapSeq (·.push (.ref T)))).get? c = some o := fun c o n e' => (Heap.get?_update_other _ _ (Ne.symm n)).trans e'
    have st2 : ZSt (L2.upd (L2.upd H T (.tup [xs[i], ys[i]])) q (.lst ((ts ++ [T]).map V.ref))) (s'.heap.update q (Obj.mapSeq (·.push (.ref T)))) z TI TO i1 i2 a b (i + 1) := by
      refine ⟨?_, keep _ _ (nc TI (by simp)) st'.ti, let ⟨v, w, e'⟩ := st'.to; ⟨v, w, keep _ _ (nc TO (by simp)) e'⟩, st'.j1.at fun o e' => keep _ _ (nc i1 (by simp)) e', st'.j2.at fun o e' => keep _ _ (nc i2 (by simp)) e'⟩
      rcases st'.zip with hz | ⟨T1, fl, zs, hz, h1'⟩
      · exact .inl (keep _ _ (nc z (by simp)) hz)
      · refine .inr ⟨T1, fl, zs, keep _ _ (nc z (by simp)) hz, ?_⟩
        have : T1 ≠ q := fun e' => by
          rw [e', hq'] at h1'
          cases h1'
        rw [upd_ne this]
        exact h1'
    have up2 : ∀ c o, c ≠ q → H c = some o → (L2.upd (L2.upd H T (.tup [xs[i], ys[i]])) q (.lst ((ts ++ [T]).map V.ref))) c = some o := fun c o n e' => by
      rw [upd_ne n, upd_ne (ne_of_none e' hT)]
      exact e'
    have nT : T ≠ q := fun e' => by
      rw [e', hq] at hT
      cases hT
    refine ih (i + 1) _ _ (ts ++ [T]) (by omega) (by omega) I2 (fun c hc => FpOk.other (hf' c hc) (by rw [upd_ne (nc c hc)]; exact (hf' c hc).1)) st2 upd_same ?_ (fun c o n e' => up2 c o n (kp c o n e'))
    have hz : (xs.zip ys)[i]? = some (xs[i], ys[i]) := by
      rw [List.getElem?_zip_eq_some]
      exact ⟨hx, hy⟩
    rw [List.take_succ, hz]
    refine Paired.snoc (F := PairAt _) ?_ (Paired.imp pt fun t p h => up2 _ _ (fun e' => ?_) h)
    · show (L2.upd (L2.upd H T (.tup [xs[i], ys[i]])) q (.lst ((ts ++ [T]).map V.ref))) T = _
      rw [upd_ne nT, upd_same]
    · have h : H t = some (.tup [p.1, p.2]) := h
      rw [e', hq] at h
      cases h
/-- list(zip(a, b)) of two tuples -/
def tListZip (K : PySem.W.Frag) (ta : TA) : TE := fun σ H Q => ta σ H fun vs H1 => ∃ a b xs ys, vs = [.ref a, .ref b] ∧ SqT K H1 a xs ∧ SqT K H1 b ys ∧ xs.length ≤ 10000 ∧
  ∀ H' q ts, L2.Same H1 H' → H1 q = none → H' q = some (.lst (ts.map V.ref)) → Paired (PairAt H') ts (xs.zip ys) → Q (.ref q) H'
theorem call_zip_it {Q : VK} (hh : X.A.handled = none) (D : ZipApart z TI TO i1 i2 a b) (l1 : xs.length ≤ 10000) (I : Inv X pins σ H s) (hf : Chain X pins H z TI TO i1 i2) (hz0 : IsZip s.heap z TI TO .none) (st : ZSt H s.heap z TI TO i1 i2 a b 0)
    (qx : SqT X.K H a xs) (qy : SqT X.K H b ys) (go : ∀ H' q ts, L2.Same H H' → H q = none → H' q = some (.lst (ts.map V.ref)) → Paired (PairAt H') ts (xs.zip ys) → Q (.ref q) H') :
    wpAny (model X.prog X.w) X.A (call (.type "list") [.ref z]) (EP X pins σ Q) X.xe s := by
  refine callType_codes (Q₁ := fun obj s₁ => obj = .ref s.heap.objs.size ∧ s₁ = { s with heap := s.heap.push { cls := .type "list", data := .seq #[] } }) PySem.F.called_list (PySem.F.typeCall_list_1 _) PySem.F.entry_list_init
    (code_list_new _ ⟨rfl, rfl⟩) fun obj s₁ h₁ => ?_
  obtain ⟨rfl, rfl⟩ := h₁
  have hS : (s.heap.push { cls := .type "list", data := .seq #[] }).get? s.heap.objs.size = some { cls := .type "list", data := .seq #[] } := Heap.get?_push_size _ rfl
  refine ⟨⟨_, hS, rfl⟩, PySem.F.args_list_init_2 _ _, ?_⟩
  have fr : H s.heap.objs.size = none := I.hok.fresh (Nat.le_refl _)
  have ns : ∀ c ∈ [z, TI, TO, i1, i2], c ≠ s.heap.objs.size := fun c hc => let ⟨o, e⟩ := st.live hc; Nat.ne_of_lt (Heap.lt_size e)
  have la : a ≠ s.heap.objs.size ∧ b ≠ s.heap.objs.size := by
    obtain ⟨its, rv, ⟨o, e, _⟩, _⟩ := I.tuple qx
    obtain ⟨its2, rv2, ⟨o2, e2, _⟩, _⟩ := I.tuple qy
    exact ⟨Nat.ne_of_lt (Heap.lt_size e), Nat.ne_of_lt (Heap.lt_size e2)⟩
  have I1 : Inv X pins σ (L2.upd H s.heap.objs.size (.lst [])) { s with heap := s.heap.push { cls := .type "list", data := .seq #[] } } := I.lnew (its := []) (t' := s.toks) .nil (Nat.zero_le _)
  generalize hq : s.heap.objs.size = q at *
  show wpAny _ _ (do let old ← Builtin.List.listItems (.ref q); Builtin.List.listUpdate (.ref q) (fun _ => #[]); letGo old.toList.reverse; Builtin.List.listExtendWith (.ref q) (.ref z) .none) _ _ _
  refine wpAny_bind ?_
  unfold Builtin.List.listItems
  refine wpAny_bind (wpAny_seqItems hS rfl (wpAny_pure ?_))
  show wpAny _ _ (updateSeq q (fun _ => #[]) >>= fun _ => letGo (#[] : Array Value).toList.reverse >>= fun _ => Builtin.List.listExtendWith (.ref q) (.ref z) .none) _ _ _
  refine wpAny_bind (wpAny_updateSeq hS rfl ?_)
  have I2 := I1.lset (f := fun _ => #[]) (its := []) (its' := []) (ys := []) (t' := s.toks) upd_same hS rfl .nil (Nat.zero_le _)
  rw [upd_upd] at I2
  refine wpAny_bind (wpAny_letGo ?_)
  have nz : z ≠ q := ns z (by simp)
  unfold Builtin.List.listExtendWith
  have keep2 : ∀ c o, c ≠ q → s.heap.get? c = some o → ((s.heap.push { cls := .type "list", data := .seq #[] }).update q (Obj.mapSeq fun _ => #[])).get? c = some o := fun c o n e => (Heap.get?_update_other _ _ (Ne.symm n)).trans (Heap.get?_push_of_some _ e)
  have zty : Shared.TypeIs { s with heap := (s.heap.push { cls := .type "list", data := .seq #[] }).update q (Obj.mapSeq fun _ => #[]) } (.ref z) "zip" := ⟨_, keep2 _ _ nz hz0, rfl⟩
  refine wpAny_bind (wpAny_typeOf zty ?_)
  have g1 : Builtin.List.listSameRef (.ref q) (.ref z) = false := by simp [Builtin.List.listSameRef, nz.symm]
  have g2 : (Value.type "zip" == Value.type "list") = false := by decide
  have g3 : (Value.type "zip" == Value.type "tuple") = false := by decide
  simp only [g1, g2, g3, Bool.or_false, Bool.false_eq_true, if_false]
  refine wpAny_bind (wpAny_pyIter_zip (keep2 _ _ nz hz0) ?_)
  refine wpAny_bind (wpAny_holding ?_)
  unfold Builtin.List.listLengthHint
  refine wpAny_bind (wpAny_specialOf zty LbZ.zip_no_len ?_)
  show wpAny _ _ (specialOf (Value.ref z) (Str.ofString "__length_hint__") >>= _) _ _ _
  refine wpAny_bind (wpAny_specialOf zty LbZ.zip_no_hint (wpAny_pure ?_))
  obtain ⟨_, its3, k3, r3, _, e3⟩ := I2.lstM upd_same
  cases r3
  show wpAny _ _ (rule "list.extend.makes-room" >>= fun _ => Builtin.List.listTouch (.ref q) >>= fun _ => again (.builtin "list.extend.loop" ⟨[.ref q, .ref z, .none], []⟩)) _ _ _
  refine wpAny_bind (wpAny_rule (wpAny_bind ?_))
  show wpAny _ _ (updateSeq q (·.push .none) >>= fun _ => updateSeq q (·.pop)) _ _ _
  refine wpAny_bind (wpAny_updateSeq e3 rfl ?_)
  have I3 := I2.lset (f := (·.push Value.none)) (its' := [Value.none]) (ys := [.non]) (t' := s.toks) upd_same e3 (by simp) (.cons rfl .nil) (by decide)
  obtain ⟨_, its4, k4, r4, _, e4⟩ := I3.lstM upd_same
  obtain ⟨u4, rfl, _⟩ := r4.one
  refine wpAny_updateSeq e4 rfl ?_ (by show 1 ≤ sizeLine; decide) (by show 0 ≤ sizeLine + 1; exact Nat.zero_le _)
  have I4 := I3.lset (f := (·.pop)) (its := [u4]) (its' := []) (ys := []) (t' := s.toks) upd_same e4 (by rfl) .nil (Nat.zero_le _)
  rw [upd_upd, upd_upd] at I4
  have keep4 : ∀ c o, c ≠ q → s.heap.get? c = some o → ((((s.heap.push { cls := .type "list", data := .seq #[] }).update q (Obj.mapSeq fun _ => #[])).update q (Obj.mapSeq (·.push Value.none))).update q (Obj.mapSeq (·.pop))).get? c = some o := fun c o n e =>
    (Heap.get?_update_other _ _ (Ne.symm n)).trans ((Heap.get?_update_other _ _ (Ne.symm n)).trans (keep2 c o n e))
  have st4 : ZSt (L2.upd H q (.lst [])) ((((s.heap.push { cls := .type "list", data := .seq #[] }).update q (Obj.mapSeq fun _ => #[])).update q (Obj.mapSeq (·.push Value.none))).update q (Obj.mapSeq (·.pop))) z TI TO i1 i2 a b 0 :=
    ⟨.inl (keep4 _ _ nz hz0), keep4 _ _ (ns TI (by simp)) st.ti, let ⟨v, w, e⟩ := st.to; ⟨v, w, keep4 _ _ (ns TO (by simp)) e⟩, st.j1.at fun o e => keep4 _ _ (ns i1 (by simp)) e, st.j2.at fun o e => keep4 _ _ (ns i2 (by simp)) e⟩
  have S0 : L2.Same H (L2.upd H q (.lst [])) := Lb.Same.upd fr
  refine wpAny_pure ⟨plainId_quiet PySem.F.plain_extend_loop _, zip_loop (q := q) (H0 := L2.upd H q (.lst [])) (A1 := X.A.in1) (Rs := wants (fun r s₂ => r = .none ∧ EP X pins σ Q (.ref q) s₂) X.xe) hh D l1 la.1 la.2 ?_ (fun e s' he => he) (SqT.same S0 qx) (SqT.same S0 qy) _ 0 _ _ [] rfl (Nat.zero_le _) I4
    (fun c hc => FpOk.other (hf c hc) (by rw [upd_ne (ns c hc)]; exact (hf c hc).1)) st4 upd_same ?_ (fun c o n e => e)⟩
  · intro H' s' ts I' e pt kp
    exact ⟨rfl, .ref q, H', I', rfl, go H' q ts (fun c o e' => kp c o (ne_of_none e' fr) (by rw [upd_ne (ne_of_none e' fr)]; exact e')) fr e pt⟩
  · rw [List.take_zero]
    exact .nil
theorem pe_listZip {e e2 : Expr} {ta : TA} {p p2 pos pos2 : Pos} (hcalm : X.calm = true) (hg : Gl X "list") (hm : X.mg "list" = none) (hg2 : Gl X "zip") (hm2 : X.mg "zip" = none) (ha : PA X [e, e2] ta)
    (hs : starEach [e, e2] X.env = (false, eval e X.env) :: starEach [e2] X.env := by rfl) (hpl : (backTo pos2 (starEach [e2] X.env)).any (·.1) = false := by rfl)
    (hs2 : starEach [.Call (.Name "zip" p2) [e, e2] [] pos2] X.env = (false, eval (.Call (.Name "zip" p2) [e, e2] [] pos2) X.env) :: starEach [] X.env := by rfl) :
    PE X (.Call (.Name "list" p) [.Call (.Name "zip" p2) [e, e2] [] pos2] [] pos) (tListZip X.K ta) := by
  refine ⟨fun pins s σ H Q I h => ?_⟩
  refine wpAny_Call_Name_kw (ld_blt I hg hm (by decide +kernel : bootBuiltins "list" = some (.type "list")) ?_)
  refine PyProof.Rows.callWith_type1 ?_ hs2 rfl
  rw [hs2]
  refine Calls.spliced_cons ?_
  refine wpAny_Call_Name_kw (ld_blt I hg2 hm2 PyProof.Rows.boot_zip ?_)
  refine PyProof.Rows.callWith_type1 (thn (ha.run pos2 pins s σ H _ I h) fun us s1 ⟨vs, H1, I1, r1, q1⟩ => ?_) hs hpl
  obtain ⟨a, b, xs, ys, rfl, qx, qy, l1, go⟩ := q1
  cases r1 with
  | cons r rr =>
    cases rr with
    | cons r' rr =>
      cases rr
      cases r
      cases r'
      obtain ⟨its, rv, p1, _⟩ := I1.tuple qx
      obtain ⟨its2, rv2, p2, _⟩ := I1.tuple qy
      obtain ⟨o1, ho1, _⟩ := id p1
      obtain ⟨o2, ho2, _⟩ := id p2
      refine RZ.call_zipT (xs := its.toArray) (ys := its2.toArray) p1 p2 fun h' hz hTI hTO k1 k2 _ hk => ?_
      have I2 : Inv X pins σ H1 { s1 with heap := h' } := I1.kept (t' := s1.toks) hk
      have chain : Chain X pins H1 (s1.heap.objs.size + 4) (s1.heap.objs.size + 2) (s1.heap.objs.size + 3) s1.heap.objs.size (s1.heap.objs.size + 1) := fun c hc => by
        have hle : s1.heap.objs.size ≤ c := by
          simp only [List.mem_cons, List.not_mem_nil, or_false] at hc
          rcases hc with h | h | h | h | h <;> (rw [h]; first | exact Nat.le_add_right _ _ | exact Nat.le_refl _)
        exact I1.fpOk hle (I1.hok.fresh hle)
      show wpAny _ _ (pure []) _ _ _
      refine wpAny_pure ?_
      exact call_zip_it (I1.ok.hd hcalm) (PySem.W.ktu_apart s1.heap.objs.size a b (Heap.lt_size ho1) (Heap.lt_size ho2)) l1 I2 chain hz ⟨.inl hz, hTI, ⟨_, _, hTO⟩, k1, k2⟩ qx qy go
end
end Lb

set_option Elab.async false
set_option linter.all false
set_option maxRecDepth 100000
set_option maxHeartbeats 4000000
namespace Lb
open PySem PySem.Spec PyProof.Rows L2
/-- a thing is equal to itself -/
def ReflB (D : EqvB) : Prop := ∀ x H c, D x x H c → c = true
def DTupH (D : EqvB) : EqvB := fun x y H c => ∃ a b xs ys e, x = .ref a ∧ y = .ref b ∧ H a = some (.tup xs) ∧ H b = some (.tup ys) ∧ PrsB D xs ys H e ∧ c = (List.range xs.length).all e
section
variable {X : Cx} {n : Nat} {D : EqvB}
theorem RcGB.imp {D' : EqvB} (h : RcGB X n D) (k : ∀ x y H c, D' x y H c → D x y H c) : RcGB X n D' := fun A pins s σ H x y u v c sb I rx ry d => h A pins s σ H x y u v c sb I rx ry (k _ _ _ _ d)
theorem rcGB_tupH (hD : MonB D) (h : EqGB X n D) : RcGB X (n + 1) (DTupH D) :=
  (rcGB_tup hD h).imp fun _ _ _ _ ⟨a, b, xs, ys, e, h1, h2, h3, h4, h5, h6⟩ => ⟨a, b, xs, ys, e, h1, h2, SqT.of h3, SqT.of h4, h5, h6⟩
theorem mon_tupH (hD : MonB D) : MonB (DTupH D) := fun x y H H' c e d => by
  obtain ⟨a, b, xs, ys, f, hx, hy, h1, h2, p, q⟩ := d
  exact ⟨a, b, xs, ys, f, hx, hy, e _ _ h1, e _ _ h2, p.mon hD e, q⟩
theorem prs_refl (hD : ReflB D) {xs : List V} {H : Hp} {e : Nat → Bool} (p : PrsB D xs xs H e) : (List.range xs.length).all e = true := by
  rw [List.all_eq_true]
  intro i hi
  have hi := List.mem_range.mp hi
  have hx := List.getElem?_eq_getElem hi
  exact hD _ _ _ (p.at_ i _ _ hx hx)
theorem refl_tupH (hD : ReflB D) : ReflB (DTupH D) := by
  rintro x H c ⟨a, b, xs, ys, e, h1, h2, h3, h4, p, rfl⟩
  rw [h1] at h2
  cases h2
  rw [h3] at h4
  cases h4
  exact prs_refl hD p
theorem refl_list (hD : ReflB D) : ReflB (DListB D) := by
  rintro x H c ⟨a, b, xs, ys, h1, h2, h3, h4, p⟩
  rw [h1] at h2
  cases h2
  rw [h3] at h4
  cases h4
  rcases p with ⟨h, _⟩ | ⟨e, p, rfl⟩
  · exact absurd rfl h
  · exact prs_refl hD p
theorem eqGB_tupH (hD : MonB D) (hR : ReflB D) (h : EqGB X n D) : EqGB X (n + 1) (DTupH D) :=
  (rcGB_tupH hD h).eqG fun x y H c d => by
    obtain ⟨a, b, xs, ys, e, h1, h2, h3, h4, p, h5⟩ := id d
    refine ⟨a, b, h1, h2, fun q => ?_⟩
    subst q
    rw [← h2] at h1
    subst h1
    exact refl_tupH hR _ _ _ d
theorem eqGB_list (hD : MonB D) (hR : ReflB D) (h : EqGB X n D) : EqGB X (n + 1) (DListB D) :=
  (rcGB_list hD h).eqG fun x y H c d => by
    obtain ⟨a, b, xs, ys, h1, h2, h3, h4, p⟩ := id d
    refine ⟨a, b, h1, h2, fun q => ?_⟩
    subst q
    rw [← h2] at h1
    subst h1
    exact refl_list hR _ _ _ d
end
/-- item by item, by a decidable equality -/
theorem all_range_eq {α : Type} [DecidableEq α] (d : α) : ∀ {xs ys : List α}, xs.length = ys.length → (List.range xs.length).all (fun i => decide (xs.getD i d = ys.getD i d)) = decide (xs = ys) := by
  intro xs ys h
  rw [Bool.eq_iff_iff, List.all_eq_true, decide_eq_true_eq]
  constructor
  · intro k
    refine List.ext_getElem h fun i h1 h2 => ?_
    have := of_decide_eq_true (k i (List.mem_range.mpr h1))
    rw [List.getD_eq_getElem?_getD, List.getD_eq_getElem?_getD, List.getElem?_eq_getElem h1, List.getElem?_eq_getElem h2] at this
    exact this
  · rintro rfl i _
    exact decide_eq_true rfl
theorem atI_last2 {α : Type} {xs : List α} {j : Nat} (h : xs.length = j + 2) : atI xs (-2) = xs[j]? := by
  unfold atI ixN
  rw [if_neg (by decide), if_pos (by omega)]
  show xs[(_ : Int).toNat]? = _
  congr 1
  omega
end Lb

set_option Elab.async false
set_option linter.all false
set_option maxRecDepth 100000
set_option maxHeartbeats 4000000
namespace Lb
open PySem PySem.Spec PyProof.Rows L2
section
variable {X : Cx} {K : PySem.W.Frag}
theorem pg_lstK {pos : Pos} {es : List Expr} {k : Nat} {t : TGs} {n : Nat} (hK : X.K = K) (hc : X.calm = true) (h : PGs X es t)
    (hn : (assignEach es X.env).length = n := by rfl) (hst : (assignEach es X.env).findIdx? (·.1) = none := by rfl) : PG X (.Tuple es k pos) (gLst K n t) := by subst hK; exact pg_lst hc h hn hst
theorem pi_zipAK {e e2 : Expr} {ta : TA} {p pos tpos : Pos} {elts : List Expr} {kk : Nat} (hK : X.K = K) (hg : Gl X "zip") (hm : X.mg "zip" = none) (ha : PA X [e, e2] ta)
    (hs : starEach [e, e2] X.env = (false, eval e X.env) :: starEach [e2] X.env := by rfl) (hpl : (backTo pos (starEach [e2] X.env)).any (·.1) = false := by rfl) :
    PI X (.Tuple elts kk tpos) (.Call (.Name "zip" p) [e, e2] [] pos) (RZ.iZipA K ta) := by subst hK; exact RZ.pi_zipA hg hm ha hs hpl
end
theorem walk_zipT {K : PySem.W.Frag} {a b : Addr} {xs ys : List V} {n : Nat} (hn : n = min xs.length ys.length) : Walk (RZ.ItzT K a b) n (fun H => SqT K H a xs ∧ SqT K H b ys) (YPair (fun i => xs[i]?) (fun i => ys[i]?)) := by
  subst hn
  refine ⟨fun i _ hi q => ?_, fun _ q => ⟨xs, ys, q.1, q.2, by omega⟩, fun i H v H' _ q y => ?_⟩
  · have h1 : i < xs.length := by omega
    have h2 : i < ys.length := by omega
    exact ⟨xs, ys, xs[i], ys[i], q.1, q.2, by simp [h1], by simp [h2]⟩
  · obtain ⟨T, x, z, h1, h2, h3, h4, h5⟩ := y
    exact ⟨T, x, z, h1, h2, h3, h4 xs q.1, h5 ys q.2⟩
/-! data of whole numbers -/
def q2D (x : Q2) : PyData := .tuple [.int x.1, .int x.2]
def ptD (z : Q2 × Q2) : PyData := .tuple [q2D z.1, q2D z.2]
theorem eqv_q2 (x y : Q2) : PyData.eqv (q2D x) (q2D y) = decide (x = y) := by
  unfold q2D
  simp only [PyData.eqv, PyData.eqvAll, Bool.and_true]
  rw [Bool.eq_iff_iff]
  simp [Prod.ext_iff]
theorem eqv_pt (x y : Q2 × Q2) : PyData.eqv (ptD x) (ptD y) = decide (x = y) := by
  unfold ptD
  simp only [PyData.eqv, PyData.eqvAll, Bool.and_true, eqv_q2]
  rw [Bool.eq_iff_iff]
  simp [Prod.ext_iff]
theorem eqvAll_map {α : Type} [DecidableEq α] {f : α → PyData} (h : ∀ x y, PyData.eqv (f x) (f y) = decide (x = y)) : ∀ xs ys : List α, PyData.eqvAll (xs.map f) (ys.map f) = decide (xs = ys)
  | [], [] => by simp [PyData.eqvAll]
  | [], _ :: _ => by simp [PyData.eqvAll]
  | _ :: _, [] => by simp [PyData.eqvAll]
  | x :: xs, y :: ys => by
    simp only [List.map_cons, PyData.eqvAll, h, eqvAll_map h xs ys]
    rw [Bool.eq_iff_iff]
    simp
theorem eqv_list {α : Type} [DecidableEq α] {f : α → PyData} (h : ∀ x y, PyData.eqv (f x) (f y) = decide (x = y)) (xs ys : List α) : PyData.eqv (.list (xs.map f)) (.list (ys.map f)) = decide (xs = ys) := by
  simp only [PyData.eqv]
  exact eqvAll_map h xs ys
theorem lay_q2 (x : Q2) : PyData.canLay0 (q2D x) = true := by simp [q2D, PyData.canLay0, PyData.canLayAll0]
theorem lay_pt (z : Q2 × Q2) : PyData.canLay0 (ptD z) = true := by simp [ptD, PyData.canLay0, PyData.canLayAll0, lay_q2]
theorem dep_q2 (x : Q2) : PyData.depth (q2D x) = 1 := by simp [q2D, PyData.depth, PyData.depthAll]
theorem dep_pt (z : Q2 × Q2) : PyData.depth (ptD z) = 2 := by simp [ptD, PyData.depth, PyData.depthAll, dep_q2]
theorem lay_map {α : Type} {f : α → PyData} (h : ∀ x, PyData.canLay0 (f x) = true) : ∀ xs : List α, PyData.canLayAll0 (xs.map f) = true
  | [] => by simp [PyData.canLayAll0]
  | x :: xs => by simp [PyData.canLayAll0, h, lay_map h xs]
theorem dep_map {α : Type} {f : α → PyData} {k : Nat} (h : ∀ x, PyData.depth (f x) ≤ k) : ∀ xs : List α, PyData.depthAll (xs.map f) ≤ k
  | [] => by simp [PyData.depthAll]
  | x :: xs => by
    have h1 := h x
    have h2 := dep_map h xs
    simp only [List.map_cons, PyData.depthAll]
    omega
theorem shaped_of {d : PyData} (h : PyData.canLay0 d = true) (k : PyData.depth d ≤ 60) : SeqAt.shaped d = true := by
  unfold SeqAt.shaped
  rw [h, decide_eq_true (by omega)]
  rfl
theorem lay_list {α : Type} {f : α → PyData} (h : ∀ x, PyData.canLay0 (f x) = true) (xs : List α) : PyData.canLay0 (.list (xs.map f)) = true := by
  simp only [PyData.canLay0]
  exact lay_map h xs
theorem dep_list {α : Type} {f : α → PyData} {k : Nat} (h : ∀ x, PyData.depth (f x) ≤ k) (xs : List α) : PyData.depth (.list (xs.map f)) ≤ k + 1 := by
  simp only [PyData.depth]
  have := dep_map h xs
  omega
theorem rd_lt {t t' b : Int} (hb : 0 < b) (h : t < t') : val (rd t b) < val (rd t' b) := by
  rw [val_rd (by omega), val_rd (by omega), Rat.div_def, Rat.div_def]
  exact Rat.mul_lt_mul_of_pos_right (Rat.intCast_lt_intCast.mpr h) (Rat.inv_pos.mpr (pos_cast hb))
theorem rd_zero {b : Int} (hb : 0 < b) : rd 0 b = (0, 1) := by
  have h1 : Low (b.natAbs + 1) (rd 0 b) := rd_low (by omega) (show (0 : Nat) < _ from Nat.pow_pos (by decide)) (show b.natAbs < _ from Nat.lt_of_lt_of_le Nat.lt_two_pow_self (Nat.pow_le_pow_right (by decide) (Nat.le_succ _)))
  refine val_inj (m := 1) h1 ⟨by unfold Bd; decide, by unfold Bd; decide, by decide, by decide⟩ ?_
  rw [val_rd (by omega), val_zero, Rat.intCast_zero]
  grind
end Lb

set_option Elab.async false
set_option linter.all false
/-! a comprehension within one; tuple(list) within one -/
namespace Lb
open PySem L2
theorem blkOk_any {N : List Str} {sc scope : Scope} {own : List (Str × Nat)} (h : blkC N { kind := .function, names := [], isGenerator := false, isCoroutine := false } scope own = true) : BlkOk N sc scope own :=
  let b := blkOk_by h
  ⟨b.kind, b.uniq, b.ix, fun y hy e => (b.free y hy e).elim (fun q => nomatch q) (fun q => nomatch q), b.own⟩
section
variable {X : Cx} {K : PySem.W.Frag}
theorem call_tuple_ofK (hK : X.K = K) : CallR X (.type "tuple") (fun xs H Q => ∃ p ys, xs = [.ref p] ∧ ((SqL K H p ys ∧ ∀ l, H l = none → Q (.ref l) (upd H l (.tup ys))) ∨ (SqT K H p ys ∧ Q (.ref p) H))) := by subst hK; exact call_tuple_of
end
theorem kit_two {K : PySem.W.Frag} {A C : Addr} (h1 : PySem.W.isClsIn K C = true) (h2 : PySem.W.typeIn K (.ref C) = some (.type "type")) (h3 : PySem.W.subIn K (.ref A) (.ref C) = some false) (h4 : PySem.W.subIn K (.ref C) (.ref C) = some true) :
    PySem.W.kitOne K (.ref A) (.ref C) = some false ∧ PySem.W.notFirst K C (.ref A) = true := by
  have ne : (Value.ref A == Value.ref C) = false := Bool.eq_false_iff.mpr fun q => by
    have e := beq_iff_eq.mp q
    cases e
    rw [h3] at h4
    cases h4
  constructor
  · unfold PySem.W.kitOne
    rw [ne, if_neg (by decide)]
    unfold PySem.W.kitCls
    have h1' : (PySem.W.clsIn K C).isSome = true := h1
    dsimp only
    rw [h1', h2]
    rw [if_pos (by simp)]
    exact h3
  · unfold PySem.W.notFirst
    rw [h3]
    simp
end Lb

set_option Elab.async false
set_option linter.all false
set_option maxRecDepth 100000
set_option maxHeartbeats 4000000
namespace K16
open PySem L2 Lb
def top (i : Nat) : Stmt := PySem.Challenge.pw_surepipes_k16_corners_and_equal_curves.main.body.getD i (.Pass ⟨0, 0, 0, 0⟩)
abbrev s_is_integer : Stmt := (top 14)
theorem sc_is_integer : FnScope ["value"] ["value"] (defScope s_is_integer) := ⟨rfl, rfl, rfl, by decide +kernel, rfl, by decide +kernel, by decide +kernel⟩
abbrev s_is_amount : Stmt := (top 15)
theorem sc_is_amount : FnScope ["value"] ["value"] (defScope s_is_amount) := ⟨rfl, rfl, rfl, by decide +kernel, rfl, by decide +kernel, by decide +kernel⟩
abbrev s_amount_of : Stmt := (top 16)
theorem sc_amount_of : FnScope ["value"] ["value"] (defScope s_amount_of) := ⟨rfl, rfl, rfl, by decide +kernel, rfl, by decide +kernel, by decide +kernel⟩
abbrev s_Amount_init_ : Stmt := (inClass (top 21) 0)
theorem sc_Amount_init_ : FnScope ["self", "top", "bottom", "divisor"] ["self", "top", "bottom"] (defScope s_Amount_init_) := ⟨rfl, rfl, rfl, by decide +kernel, rfl, by decide +kernel, by decide +kernel⟩
abbrev s_Amounttop : Stmt := (inClass (top 21) 1)
theorem sc_Amounttop : FnScope ["self"] ["self"] (defScope s_Amounttop) := ⟨rfl, rfl, rfl, by decide +kernel, rfl, by decide +kernel, by decide +kernel⟩
abbrev s_Amountbottom : Stmt := (inClass (top 21) 2)
theorem sc_Amountbottom : FnScope ["self"] ["self"] (defScope s_Amountbottom) := ⟨rfl, rfl, rfl, by decide +kernel, rfl, by decide +kernel, by decide +kernel⟩
abbrev s_Amountsign : Stmt := (inClass (top 21) 3)
theorem sc_Amountsign : FnScope ["self"] ["self"] (defScope s_Amountsign) := ⟨rfl, rfl, rfl, by decide +kernel, rfl, by decide +kernel, by decide +kernel⟩
abbrev s_Amount_sub_ : Stmt := (inClass (top 21) 6)
theorem sc_Amount_sub_ : FnScope ["self", "other", "right"] ["self", "other"] (defScope s_Amount_sub_) := ⟨rfl, rfl, rfl, by decide +kernel, rfl, by decide +kernel, by decide +kernel⟩
abbrev s_Amount_rsub_ : Stmt := (inClass (top 21) 7)
theorem sc_Amount_rsub_ : FnScope ["self", "other"] ["self", "other"] (defScope s_Amount_rsub_) := ⟨rfl, rfl, rfl, by decide +kernel, rfl, by decide +kernel, by decide +kernel⟩
abbrev s_Amountover : Stmt := (inClass (top 21) 10)
theorem sc_Amountover : FnScope ["self", "other", "right"] ["self", "other"] (defScope s_Amountover) := ⟨rfl, rfl, rfl, by decide +kernel, rfl, by decide +kernel, by decide +kernel⟩
abbrev s_Amount_eq_ : Stmt := (inClass (top 21) 14)
theorem sc_Amount_eq_ : FnScope ["self", "other"] ["self", "other"] (defScope s_Amount_eq_) := ⟨rfl, rfl, rfl, by decide +kernel, rfl, by decide +kernel, by decide +kernel⟩
abbrev s_Amount_lt_ : Stmt := (inClass (top 21) 15)
theorem sc_Amount_lt_ : FnScope ["self", "other"] ["self", "other"] (defScope s_Amount_lt_) := ⟨rfl, rfl, rfl, by decide +kernel, rfl, by decide +kernel, by decide +kernel⟩
abbrev s_is_point : Stmt := (top 26)
theorem sc_is_point : FnScope ["value"] ["value"] (defScope s_is_point) := ⟨rfl, rfl, rfl, by decide +kernel, rfl, by decide +kernel, by decide +kernel⟩
abbrev s_is_origin : Stmt := (top 27)
theorem sc_is_origin : FnScope ["value"] ["value"] (defScope s_is_origin) := ⟨rfl, rfl, rfl, by decide +kernel, rfl, by decide +kernel, by decide +kernel⟩
abbrev s_checked : Stmt := (top 28)
theorem sc_checked : FnScope ["points", "point", "rows", "position", "row"] ["points"] (defScope s_checked) := ⟨rfl, rfl, rfl, by decide +kernel, rfl, by decide +kernel, by decide +kernel⟩
abbrev s_rises : Stmt := (top 29)
theorem sc_rises : FnScope ["low", "high"] ["low", "high"] (defScope s_rises) := ⟨rfl, rfl, rfl, by decide +kernel, rfl, by decide +kernel, by decide +kernel⟩
abbrev s_with_origin : Stmt := (top 30)
theorem sc_with_origin : FnScope ["rows", "below", "row", "above"] ["rows"] (defScope s_with_origin) := ⟨rfl, rfl, rfl, by decide +kernel, rfl, by decide +kernel, by decide +kernel⟩
abbrev s_drop_for_one : Stmt := (top 35)
theorem sc_drop_for_one : FnScope ["low", "high"] ["low", "high"] (defScope s_drop_for_one) := ⟨rfl, rfl, rfl, by decide +kernel, rfl, by decide +kernel, by decide +kernel⟩
abbrev s_bends : Stmt := (top 36)
theorem sc_bends : FnScope ["points", "steep", "at"] ["points"] (defScope s_bends) := ⟨rfl, rfl, rfl, by decide +kernel, rfl, by decide +kernel, by decide +kernel⟩
abbrev s_form : Stmt := (top 37)
theorem sc_form : FnScope ["points"] ["points"] (defScope s_form) := ⟨rfl, rfl, rfl, by decide +kernel, rfl, by decide +kernel, by decide +kernel⟩
abbrev s_Curve_init_ : Stmt := (inClass (top 39) 0)
theorem sc_Curve_init_ : FnScope ["self", "points"] ["self", "points"] (defScope s_Curve_init_) := ⟨rfl, rfl, rfl, by decide +kernel, rfl, by decide +kernel, by decide +kernel⟩
abbrev s_Curvepoints : Stmt := (inClass (top 39) 3)
theorem sc_Curvepoints : FnScope ["self"] ["self"] (defScope s_Curvepoints) := ⟨rfl, rfl, rfl, by decide +kernel, rfl, by decide +kernel, by decide +kernel⟩
abbrev s_Curvecorners : Stmt := (inClass (top 39) 4)
theorem sc_Curvecorners : FnScope ["self", "point"] ["self"] (defScope s_Curvecorners) := ⟨rfl, rfl, rfl, by decide +kernel, rfl, by decide +kernel, by decide +kernel⟩
abbrev s_Curveis_straight : Stmt := (inClass (top 39) 5)
theorem sc_Curveis_straight : FnScope ["self"] ["self"] (defScope s_Curveis_straight) := ⟨rfl, rfl, rfl, by decide +kernel, rfl, by decide +kernel, by decide +kernel⟩
abbrev s_Curveconductance : Stmt := (inClass (top 39) 6)
theorem sc_Curveconductance : FnScope ["self"] ["self"] (defScope s_Curveconductance) := ⟨rfl, rfl, rfl, by decide +kernel, rfl, by decide +kernel, by decide +kernel⟩
abbrev s_Curve_eq_ : Stmt := (inClass (top 39) 10)
theorem sc_Curve_eq_ : FnScope ["self", "other"] ["self", "other"] (defScope s_Curve_eq_) := ⟨rfl, rfl, rfl, by decide +kernel, rfl, by decide +kernel, by decide +kernel⟩
abbrev s_pot : Stmt := (top 41)
theorem sc_pot : FnScope ["_law_script", "_law_k", "_law_cell"] ["_law_script", "_law_k"] (defScope s_pot) := ⟨rfl, rfl, rfl, by decide +kernel, rfl, by decide +kernel, by decide +kernel⟩
abbrev s_draw : Stmt := (top 42)
theorem sc_draw : FnScope ["_law_pot_here", "_law_many", "_law_digit"] ["_law_pot_here", "_law_many"] (defScope s_draw) := ⟨rfl, rfl, rfl, by decide +kernel, rfl, by decide +kernel, by decide +kernel⟩
abbrev s_low : Stmt := (top 43)
theorem sc_low : FnScope ["_law_top", "_law_bottom", "_law_here", "_law_there"] ["_law_top", "_law_bottom"] (defScope s_low) := ⟨rfl, rfl, rfl, by decide +kernel, rfl, by decide +kernel, by decide +kernel⟩
abbrev s_plus : Stmt := (top 44)
theorem sc_plus : FnScope ["_law_one", "_law_other_here"] ["_law_one", "_law_other_here"] (defScope s_plus) := ⟨rfl, rfl, rfl, by decide +kernel, rfl, by decide +kernel, by decide +kernel⟩
abbrev s_minus : Stmt := (top 45)
theorem sc_minus : FnScope ["_law_one", "_law_other_here"] ["_law_one", "_law_other_here"] (defScope s_minus) := ⟨rfl, rfl, rfl, by decide +kernel, rfl, by decide +kernel, by decide +kernel⟩
abbrev s_times : Stmt := (top 46)
theorem sc_times : FnScope ["_law_one", "_law_other_here"] ["_law_one", "_law_other_here"] (defScope s_times) := ⟨rfl, rfl, rfl, by decide +kernel, rfl, by decide +kernel, by decide +kernel⟩
abbrev s_over : Stmt := (top 47)
theorem sc_over : FnScope ["_law_one", "_law_other_here"] ["_law_one", "_law_other_here"] (defScope s_over) := ⟨rfl, rfl, rfl, by decide +kernel, rfl, by decide +kernel, by decide +kernel⟩
abbrev s_amount : Stmt := (top 48)
theorem sc_amount : FnScope ["_law_part"] ["_law_part"] (defScope s_amount) := ⟨rfl, rfl, rfl, by decide +kernel, rfl, by decide +kernel, by decide +kernel⟩
abbrev s_read : Stmt := (top 49)
theorem sc_read : FnScope ["_law_told"] ["_law_told"] (defScope s_read) := ⟨rfl, rfl, rfl, by decide +kernel, rfl, by decide +kernel, by decide +kernel⟩
abbrev s_step : Stmt := (top 50)
theorem sc_step : FnScope ["_law_pot_here"] ["_law_pot_here"] (defScope s_step) := ⟨rfl, rfl, rfl, by decide +kernel, rfl, by decide +kernel, by decide +kernel⟩
abbrev s_points : Stmt := (top 51)
theorem sc_points : FnScope ["_law_pot_here", "_law_sides", "_law_found", "_law_wide", "_law_high", "_law_part", "_law_turn", "_law_x", "_law_y"] ["_law_pot_here"] (defScope s_points) := ⟨rfl, rfl, rfl, by decide +kernel, rfl, by decide +kernel, by decide +kernel⟩
abbrev s_slope : Stmt := (top 52)
theorem sc_slope : FnScope ["_law_one", "_law_other_here"] ["_law_one", "_law_other_here"] (defScope s_slope) := ⟨rfl, rfl, rfl, by decide +kernel, rfl, by decide +kernel, by decide +kernel⟩
abbrev s_corners : Stmt := (top 53)
theorem sc_corners : FnScope ["_law_points_here", "_law_found", "_law_at", "_law_ahead", "_law_behind"] ["_law_points_here"] (defScope s_corners) := ⟨rfl, rfl, rfl, by decide +kernel, rfl, by decide +kernel, by decide +kernel⟩
abbrev s_shape : Stmt := (top 54)
theorem sc_shape : FnScope ["_law_points_here"] ["_law_points_here"] (defScope s_shape) := ⟨rfl, rfl, rfl, by decide +kernel, rfl, by decide +kernel, by decide +kernel⟩
abbrev s_passed : Stmt := (top 55)
theorem sc_passed : FnScope ["_law_pot_here", "_law_points_here", "_law_found", "_law_is_bare", "_law_x", "_law_y"] ["_law_pot_here", "_law_points_here"] (defScope s_passed) := ⟨rfl, rfl, rfl, by decide +kernel, rfl, by decide +kernel, by decide +kernel⟩
abbrev s_more : Stmt := (top 56)
theorem sc_more : FnScope ["_law_pot_here", "_law_points_here", "_law_way", "_law_at", "_law_pairs", "_law_middle", "_law_one", "_law_other_here", "_law_far", "_law_less", "_law_part"] ["_law_pot_here", "_law_points_here"] (defScope s_more) := ⟨rfl, rfl, rfl, by decide +kernel, rfl, by decide +kernel, by decide +kernel⟩
abbrev s_other : Stmt := (top 57)
theorem sc_other : FnScope ["_law_pot_here", "_law_points_here", "_law_by"] ["_law_pot_here", "_law_points_here"] (defScope s_other) := ⟨rfl, rfl, rfl, by decide +kernel, rfl, by decide +kernel, by decide +kernel⟩
abbrev s_is : Stmt := (top 58)
theorem sc_is : FnScope ["_law_made", "_law_points_here", "_law_bends", "_law_slope_here", "_law_told", "_law_listed", "_law_one", "_law_bend", "_law_part", "_law_pair", "_law_due", "_law_rate"] ["_law_made", "_law_points_here"] (defScope s_is) := ⟨rfl, rfl, rfl, by decide +kernel, rfl, by decide +kernel, by decide +kernel⟩
abbrev s_pair_right : Stmt := (top 59)
theorem sc_pair_right : FnScope ["_law_one", "_law_other_here", "_law_is_same", "_law_told"] ["_law_one", "_law_other_here", "_law_is_same"] (defScope s_pair_right) := ⟨rfl, rfl, rfl, by decide +kernel, rfl, by decide +kernel, by decide +kernel⟩
abbrev s_right : Stmt := (top 60)
theorem sc_right : FnScope ["_law_pot_here", "_law_points_here", "_law_wider", "_law_turn", "_law_near", "_law_handed", "_law_made", "_law_same", "_law_other_here", "_law_odd", "_law_told", "_law_again", "_law_one"] ["_law_pot_here"] (defScope s_right) := ⟨rfl, rfl, rfl, by decide +kernel, rfl, by decide +kernel, by decide +kernel⟩
abbrev s_far_right : Stmt := (top 61)
theorem sc_far_right : FnScope ["_law_far", "_law_bent", "_law_even", "_law_same", "_law_told", "_law_one"] [] (defScope s_far_right) := ⟨rfl, rfl, rfl, by decide +kernel, rfl, by decide +kernel, by decide +kernel⟩
abbrev s_law : Stmt := (top 62)
theorem sc_law : FnScope ["_law_script", "_law_k", "_law_pot_here", "_law_turn"] ["_law_script"] (defScope s_law) := ⟨rfl, rfl, rfl, by decide +kernel, rfl, by decide +kernel, by decide +kernel⟩
structure Ad where
  f_is_integer : Addr
  d_is_integer : FuncData
  f_is_amount : Addr
  d_is_amount : FuncData
  f_amount_of : Addr
  d_amount_of : FuncData
  f_Amount_init_ : Addr
  d_Amount_init_ : FuncData
  f_Amounttop : Addr
  d_Amounttop : FuncData
  f_Amountbottom : Addr
  d_Amountbottom : FuncData
  f_Amountsign : Addr
  d_Amountsign : FuncData
  f_Amount_sub_ : Addr
  d_Amount_sub_ : FuncData
  f_Amount_rsub_ : Addr
  d_Amount_rsub_ : FuncData
  f_Amountover : Addr
  d_Amountover : FuncData
  f_Amount_eq_ : Addr
  d_Amount_eq_ : FuncData
  f_Amount_lt_ : Addr
  d_Amount_lt_ : FuncData
  f_is_point : Addr
  d_is_point : FuncData
  f_is_origin : Addr
  d_is_origin : FuncData
  f_checked : Addr
  d_checked : FuncData
  f_rises : Addr
  d_rises : FuncData
  f_with_origin : Addr
  d_with_origin : FuncData
  f_drop_for_one : Addr
  d_drop_for_one : FuncData
  f_bends : Addr
  d_bends : FuncData
  f_form : Addr
  d_form : FuncData
  f_Curve_init_ : Addr
  d_Curve_init_ : FuncData
  f_Curvepoints : Addr
  d_Curvepoints : FuncData
  f_Curvecorners : Addr
  d_Curvecorners : FuncData
  f_Curveis_straight : Addr
  d_Curveis_straight : FuncData
  f_Curveconductance : Addr
  d_Curveconductance : FuncData
  f_Curve_eq_ : Addr
  d_Curve_eq_ : FuncData
  f_pot : Addr
  d_pot : FuncData
  f_draw : Addr
  d_draw : FuncData
  f_low : Addr
  d_low : FuncData
  f_plus : Addr
  d_plus : FuncData
  f_minus : Addr
  d_minus : FuncData
  f_times : Addr
  d_times : FuncData
  f_over : Addr
  d_over : FuncData
  f_amount : Addr
  d_amount : FuncData
  f_read : Addr
  d_read : FuncData
  f_step : Addr
  d_step : FuncData
  f_points : Addr
  d_points : FuncData
  f_slope : Addr
  d_slope : FuncData
  f_corners : Addr
  d_corners : FuncData
  f_shape : Addr
  d_shape : FuncData
  f_passed : Addr
  d_passed : FuncData
  f_more : Addr
  d_more : FuncData
  f_other : Addr
  d_other : FuncData
  f_is : Addr
  d_is : FuncData
  f_pair_right : Addr
  d_pair_right : FuncData
  f_right : Addr
  d_right : FuncData
  f_far_right : Addr
  d_far_right : FuncData
  f_law : Addr
  d_law : FuncData
  c_Amount : Addr
  c_Curve : Addr
  p_top : Addr
  p_bottom : Addr
  p_sign : Addr
  p_straight : Addr
  p_cond : Addr
structure Txt (K : PySem.W.Frag) (mg : Str → Option Value) (a : Ad) : Prop where
  F_is_integer : Fun K "is_integer" "is_integer" s_is_integer a.f_is_integer a.d_is_integer
  m_is_integer : mg "is_integer" = some (.ref a.f_is_integer)
  F_is_amount : Fun K "is_amount" "is_amount" s_is_amount a.f_is_amount a.d_is_amount
  m_is_amount : mg "is_amount" = some (.ref a.f_is_amount)
  F_amount_of : Fun K "amount_of" "amount_of" s_amount_of a.f_amount_of a.d_amount_of
  m_amount_of : mg "amount_of" = some (.ref a.f_amount_of)
  F_Amount_init_ : FunD K "__init__" "Amount.__init__" (defArgs s_Amount_init_) (defBody s_Amount_init_) (defScope s_Amount_init_) [.int 1] [] a.f_Amount_init_ a.d_Amount_init_
  F_Amounttop : Fun K "top" "Amount.top" s_Amounttop a.f_Amounttop a.d_Amounttop
  F_Amountbottom : Fun K "bottom" "Amount.bottom" s_Amountbottom a.f_Amountbottom a.d_Amountbottom
  F_Amountsign : Fun K "sign" "Amount.sign" s_Amountsign a.f_Amountsign a.d_Amountsign
  F_Amount_sub_ : Fun K "__sub__" "Amount.__sub__" s_Amount_sub_ a.f_Amount_sub_ a.d_Amount_sub_
  F_Amount_rsub_ : Fun K "__rsub__" "Amount.__rsub__" s_Amount_rsub_ a.f_Amount_rsub_ a.d_Amount_rsub_
  F_Amountover : Fun K "over" "Amount.over" s_Amountover a.f_Amountover a.d_Amountover
  F_Amount_eq_ : Fun K "__eq__" "Amount.__eq__" s_Amount_eq_ a.f_Amount_eq_ a.d_Amount_eq_
  F_Amount_lt_ : Fun K "__lt__" "Amount.__lt__" s_Amount_lt_ a.f_Amount_lt_ a.d_Amount_lt_
  F_is_point : Fun K "_is_point" "_is_point" s_is_point a.f_is_point a.d_is_point
  m_is_point : mg "_is_point" = some (.ref a.f_is_point)
  F_is_origin : Fun K "_is_origin" "_is_origin" s_is_origin a.f_is_origin a.d_is_origin
  m_is_origin : mg "_is_origin" = some (.ref a.f_is_origin)
  F_checked : Fun K "_checked" "_checked" s_checked a.f_checked a.d_checked
  m_checked : mg "_checked" = some (.ref a.f_checked)
  F_rises : Fun K "_rises" "_rises" s_rises a.f_rises a.d_rises
  m_rises : mg "_rises" = some (.ref a.f_rises)
  F_with_origin : Fun K "_with_origin" "_with_origin" s_with_origin a.f_with_origin a.d_with_origin
  m_with_origin : mg "_with_origin" = some (.ref a.f_with_origin)
  F_drop_for_one : Fun K "_drop_for_one" "_drop_for_one" s_drop_for_one a.f_drop_for_one a.d_drop_for_one
  m_drop_for_one : mg "_drop_for_one" = some (.ref a.f_drop_for_one)
  F_bends : Fun K "_bends" "_bends" s_bends a.f_bends a.d_bends
  m_bends : mg "_bends" = some (.ref a.f_bends)
  F_form : Fun K "_form" "_form" s_form a.f_form a.d_form
  m_form : mg "_form" = some (.ref a.f_form)
  F_Curve_init_ : Fun K "__init__" "Curve.__init__" s_Curve_init_ a.f_Curve_init_ a.d_Curve_init_
  F_Curvepoints : Fun K "points" "Curve.points" s_Curvepoints a.f_Curvepoints a.d_Curvepoints
  F_Curvecorners : Fun K "corners" "Curve.corners" s_Curvecorners a.f_Curvecorners a.d_Curvecorners
  F_Curveis_straight : Fun K "is_straight" "Curve.is_straight" s_Curveis_straight a.f_Curveis_straight a.d_Curveis_straight
  F_Curveconductance : Fun K "conductance" "Curve.conductance" s_Curveconductance a.f_Curveconductance a.d_Curveconductance
  F_Curve_eq_ : Fun K "__eq__" "Curve.__eq__" s_Curve_eq_ a.f_Curve_eq_ a.d_Curve_eq_
  F_pot : Fun K "_law_pot" "_law_pot" s_pot a.f_pot a.d_pot
  m_pot : mg "_law_pot" = some (.ref a.f_pot)
  F_draw : Fun K "_law_draw" "_law_draw" s_draw a.f_draw a.d_draw
  m_draw : mg "_law_draw" = some (.ref a.f_draw)
  F_low : Fun K "_law_low" "_law_low" s_low a.f_low a.d_low
  m_low : mg "_law_low" = some (.ref a.f_low)
  F_plus : Fun K "_law_plus" "_law_plus" s_plus a.f_plus a.d_plus
  m_plus : mg "_law_plus" = some (.ref a.f_plus)
  F_minus : Fun K "_law_minus" "_law_minus" s_minus a.f_minus a.d_minus
  m_minus : mg "_law_minus" = some (.ref a.f_minus)
  F_times : Fun K "_law_times" "_law_times" s_times a.f_times a.d_times
  m_times : mg "_law_times" = some (.ref a.f_times)
  F_over : Fun K "_law_over" "_law_over" s_over a.f_over a.d_over
  m_over : mg "_law_over" = some (.ref a.f_over)
  F_amount : Fun K "_law_amount" "_law_amount" s_amount a.f_amount a.d_amount
  m_amount : mg "_law_amount" = some (.ref a.f_amount)
  F_read : Fun K "_law_read" "_law_read" s_read a.f_read a.d_read
  m_read : mg "_law_read" = some (.ref a.f_read)
  F_step : Fun K "_law_step" "_law_step" s_step a.f_step a.d_step
  m_step : mg "_law_step" = some (.ref a.f_step)
  F_points : Fun K "_law_points" "_law_points" s_points a.f_points a.d_points
  m_points : mg "_law_points" = some (.ref a.f_points)
  F_slope : Fun K "_law_slope" "_law_slope" s_slope a.f_slope a.d_slope
  m_slope : mg "_law_slope" = some (.ref a.f_slope)
  F_corners : Fun K "_law_corners" "_law_corners" s_corners a.f_corners a.d_corners
  m_corners : mg "_law_corners" = some (.ref a.f_corners)
  F_shape : Fun K "_law_shape" "_law_shape" s_shape a.f_shape a.d_shape
  m_shape : mg "_law_shape" = some (.ref a.f_shape)
  F_passed : Fun K "_law_passed" "_law_passed" s_passed a.f_passed a.d_passed
  m_passed : mg "_law_passed" = some (.ref a.f_passed)
  F_more : Fun K "_law_more" "_law_more" s_more a.f_more a.d_more
  m_more : mg "_law_more" = some (.ref a.f_more)
  F_other : Fun K "_law_other" "_law_other" s_other a.f_other a.d_other
  m_other : mg "_law_other" = some (.ref a.f_other)
  F_is : Fun K "_law_is" "_law_is" s_is a.f_is a.d_is
  m_is : mg "_law_is" = some (.ref a.f_is)
  F_pair_right : Fun K "_law_pair_right" "_law_pair_right" s_pair_right a.f_pair_right a.d_pair_right
  m_pair_right : mg "_law_pair_right" = some (.ref a.f_pair_right)
  F_right : Fun K "_law_right" "_law_right" s_right a.f_right a.d_right
  m_right : mg "_law_right" = some (.ref a.f_right)
  F_far_right : Fun K "_law_far_right" "_law_far_right" s_far_right a.f_far_right a.d_far_right
  m_far_right : mg "_law_far_right" = some (.ref a.f_far_right)
  F_law : Fun K "law" "law" s_law a.f_law a.d_law
  m_law : mg "law" = some (.ref a.f_law)
  cl : Cls K a.c_Amount
  nT : NoAttr K a.c_Amount "_top"
  nB : NoAttr K a.c_Amount "_bottom"
  mA : mg "Amount" = some (.ref a.c_Amount)
  mkA : Mk K a.c_Amount a.f_Amount_init_
  m_gcd : mg "gcd" = some (.builtin "math.gcd")
  I : Inst K a.c_Amount
  p_top : PropOf K a.c_Amount "top" a.p_top a.f_Amounttop
  p_bottom : PropOf K a.c_Amount "bottom" a.p_bottom a.f_Amountbottom
  p_sign : PropOf K a.c_Amount "sign" a.p_sign a.f_Amountsign
  gFlow : ∃ t, mg "FLOW" = some (.int 0 t)
  gDrop : ∃ t, mg "DROP" = some (.int 1 t)
  gMost : ∃ t, mg "MOST_POINTS" = some (.int 80 t)
  oSub : OwnBin K a.c_Amount .Sub a.f_Amount_sub_ a.f_Amount_rsub_
  cLt : OwnM K a.c_Amount "__lt__" a.f_Amount_lt_
  cEq : OwnM K a.c_Amount "__eq__" a.f_Amount_eq_
  cNe : PySem.W.findIn K (.ref a.c_Amount) "__ne__" = some (some (.builtin "object.__ne__"))
  cNeC : PySem.W.findIn K (.ref a.c_Curve) "__ne__" = some (some (.builtin "object.__ne__"))
  cEqC : OwnM K a.c_Curve "__eq__" a.f_Curve_eq_
  J : Inst K a.c_Curve
  kAC : PySem.W.kitOne K (.ref a.c_Amount) (.ref a.c_Curve) = some false
  nAC : PySem.W.notFirst K a.c_Curve (.ref a.c_Amount) = true
  p_is_straight : PropOf K a.c_Curve "is_straight" a.p_straight a.f_Curveis_straight
  p_conductance : PropOf K a.c_Curve "conductance" a.p_cond a.f_Curveconductance
  mOver : Meth K a.c_Amount "over" a.f_Amountover
  cl2 : Cls K a.c_Curve
  nP : NoAttr K a.c_Curve "_points"
  mC : mg "Curve" = some (.ref a.c_Curve)
  mkC : Mk K a.c_Curve a.f_Curve_init_
  mPts : Meth K a.c_Curve "points" a.f_Curvepoints
  mCor : Meth K a.c_Curve "corners" a.f_Curvecorners
  b_len : mg "len" = none
  b_abs : mg "abs" = none
  b_max : mg "max" = none
  b_min : mg "min" = none
  b_int : mg "int" = none
  b_divmod : mg "divmod" = none
  b_all : mg "all" = none
  b_any : mg "any" = none
  b_repr : mg "repr" = none
  b_isinstance : mg "isinstance" = none
  b_range : mg "range" = none
  b_bool : mg "bool" = none
  b_list : mg "list" = none
  b_tuple : mg "tuple" = none
  b_enumerate : mg "enumerate" = none
  b_zip : mg "zip" = none
theorem b_is_integer {K : PySem.W.Frag} {mg : Str → Option Value} {a : Ad} (T : Txt K mg a) : Binds K a.d_is_integer ["value"] [] := T.F_is_integer.binds (ps := ["value"]) fun _ _ _ _ _ _ us hl => match us, hl with | [_], _ => rfl
theorem b_is_amount {K : PySem.W.Frag} {mg : Str → Option Value} {a : Ad} (T : Txt K mg a) : Binds K a.d_is_amount ["value"] [] := T.F_is_amount.binds (ps := ["value"]) fun _ _ _ _ _ _ us hl => match us, hl with | [_], _ => rfl
theorem b_amount_of {K : PySem.W.Frag} {mg : Str → Option Value} {a : Ad} (T : Txt K mg a) : Binds K a.d_amount_of ["value"] [] := T.F_amount_of.binds (ps := ["value"]) fun _ _ _ _ _ _ us hl => match us, hl with | [_], _ => rfl
theorem b_Amount_init_ {K : PySem.W.Frag} {mg : Str → Option Value} {a : Ad} (T : Txt K mg a) : Binds K a.d_Amount_init_ ["self", "top", "bottom"] [] := by
  obtain ⟨ds, r, b⟩ := T.F_Amount_init_.binds1 (ps := ["self", "top", "bottom"]) 3 1 (by simp) rfl (fun _ _ _ _ _ _ _ us its h1 h2 => match us, its, h1, h2 with | [_, _, _], [_], _, _ => ⟨_, rfl, rfl⟩)
  cases r
  exact b
theorem b_Amounttop {K : PySem.W.Frag} {mg : Str → Option Value} {a : Ad} (T : Txt K mg a) : Binds K a.d_Amounttop ["self"] [] := T.F_Amounttop.binds (ps := ["self"]) fun _ _ _ _ _ _ us hl => match us, hl with | [_], _ => rfl
theorem b_Amountbottom {K : PySem.W.Frag} {mg : Str → Option Value} {a : Ad} (T : Txt K mg a) : Binds K a.d_Amountbottom ["self"] [] := T.F_Amountbottom.binds (ps := ["self"]) fun _ _ _ _ _ _ us hl => match us, hl with | [_], _ => rfl
theorem b_Amountsign {K : PySem.W.Frag} {mg : Str → Option Value} {a : Ad} (T : Txt K mg a) : Binds K a.d_Amountsign ["self"] [] := T.F_Amountsign.binds (ps := ["self"]) fun _ _ _ _ _ _ us hl => match us, hl with | [_], _ => rfl
theorem b_Amount_sub_ {K : PySem.W.Frag} {mg : Str → Option Value} {a : Ad} (T : Txt K mg a) : Binds K a.d_Amount_sub_ ["self", "other"] [] := T.F_Amount_sub_.binds (ps := ["self", "other"]) fun _ _ _ _ _ _ us hl => match us, hl with | [_, _], _ => rfl
theorem b_Amount_rsub_ {K : PySem.W.Frag} {mg : Str → Option Value} {a : Ad} (T : Txt K mg a) : Binds K a.d_Amount_rsub_ ["self", "other"] [] := T.F_Amount_rsub_.binds (ps := ["self", "other"]) fun _ _ _ _ _ _ us hl => match us, hl with | [_, _], _ => rfl
theorem b_Amountover {K : PySem.W.Frag} {mg : Str → Option Value} {a : Ad} (T : Txt K mg a) : Binds K a.d_Amountover ["self", "other"] [] := T.F_Amountover.binds (ps := ["self", "other"]) fun _ _ _ _ _ _ us hl => match us, hl with | [_, _], _ => rfl
theorem b_Amount_eq_ {K : PySem.W.Frag} {mg : Str → Option Value} {a : Ad} (T : Txt K mg a) : Binds K a.d_Amount_eq_ ["self", "other"] [] := T.F_Amount_eq_.binds (ps := ["self", "other"]) fun _ _ _ _ _ _ us hl => match us, hl with | [_, _], _ => rfl
theorem b_Amount_lt_ {K : PySem.W.Frag} {mg : Str → Option Value} {a : Ad} (T : Txt K mg a) : Binds K a.d_Amount_lt_ ["self", "other"] [] := T.F_Amount_lt_.binds (ps := ["self", "other"]) fun _ _ _ _ _ _ us hl => match us, hl with | [_, _], _ => rfl
theorem b_is_point {K : PySem.W.Frag} {mg : Str → Option Value} {a : Ad} (T : Txt K mg a) : Binds K a.d_is_point ["value"] [] := T.F_is_point.binds (ps := ["value"]) fun _ _ _ _ _ _ us hl => match us, hl with | [_], _ => rfl
theorem b_is_origin {K : PySem.W.Frag} {mg : Str → Option Value} {a : Ad} (T : Txt K mg a) : Binds K a.d_is_origin ["value"] [] := T.F_is_origin.binds (ps := ["value"]) fun _ _ _ _ _ _ us hl => match us, hl with | [_], _ => rfl
theorem b_checked {K : PySem.W.Frag} {mg : Str → Option Value} {a : Ad} (T : Txt K mg a) : Binds K a.d_checked ["points"] [] := T.F_checked.binds (ps := ["points"]) fun _ _ _ _ _ _ us hl => match us, hl with | [_], _ => rfl
theorem b_rises {K : PySem.W.Frag} {mg : Str → Option Value} {a : Ad} (T : Txt K mg a) : Binds K a.d_rises ["low", "high"] [] := T.F_rises.binds (ps := ["low", "high"]) fun _ _ _ _ _ _ us hl => match us, hl with | [_, _], _ => rfl
theorem b_with_origin {K : PySem.W.Frag} {mg : Str → Option Value} {a : Ad} (T : Txt K mg a) : Binds K a.d_with_origin ["rows"] [] := T.F_with_origin.binds (ps := ["rows"]) fun _ _ _ _ _ _ us hl => match us, hl with | [_], _ => rfl
theorem b_drop_for_one {K : PySem.W.Frag} {mg : Str → Option Value} {a : Ad} (T : Txt K mg a) : Binds K a.d_drop_for_one ["low", "high"] [] := T.F_drop_for_one.binds (ps := ["low", "high"]) fun _ _ _ _ _ _ us hl => match us, hl with | [_, _], _ => rfl
theorem b_bends {K : PySem.W.Frag} {mg : Str → Option Value} {a : Ad} (T : Txt K mg a) : Binds K a.d_bends ["points"] [] := T.F_bends.binds (ps := ["points"]) fun _ _ _ _ _ _ us hl => match us, hl with | [_], _ => rfl
theorem b_form {K : PySem.W.Frag} {mg : Str → Option Value} {a : Ad} (T : Txt K mg a) : Binds K a.d_form ["points"] [] := T.F_form.binds (ps := ["points"]) fun _ _ _ _ _ _ us hl => match us, hl with | [_], _ => rfl
theorem b_Curve_init_ {K : PySem.W.Frag} {mg : Str → Option Value} {a : Ad} (T : Txt K mg a) : Binds K a.d_Curve_init_ ["self", "points"] [] := T.F_Curve_init_.binds (ps := ["self", "points"]) fun _ _ _ _ _ _ us hl => match us, hl with | [_, _], _ => rfl
theorem b_Curvepoints {K : PySem.W.Frag} {mg : Str → Option Value} {a : Ad} (T : Txt K mg a) : Binds K a.d_Curvepoints ["self"] [] := T.F_Curvepoints.binds (ps := ["self"]) fun _ _ _ _ _ _ us hl => match us, hl with | [_], _ => rfl
theorem b_Curvecorners {K : PySem.W.Frag} {mg : Str → Option Value} {a : Ad} (T : Txt K mg a) : Binds K a.d_Curvecorners ["self"] [] := T.F_Curvecorners.binds (ps := ["self"]) fun _ _ _ _ _ _ us hl => match us, hl with | [_], _ => rfl
theorem b_Curveis_straight {K : PySem.W.Frag} {mg : Str → Option Value} {a : Ad} (T : Txt K mg a) : Binds K a.d_Curveis_straight ["self"] [] := T.F_Curveis_straight.binds (ps := ["self"]) fun _ _ _ _ _ _ us hl => match us, hl with | [_], _ => rfl
theorem b_Curveconductance {K : PySem.W.Frag} {mg : Str → Option Value} {a : Ad} (T : Txt K mg a) : Binds K a.d_Curveconductance ["self"] [] := T.F_Curveconductance.binds (ps := ["self"]) fun _ _ _ _ _ _ us hl => match us, hl with | [_], _ => rfl
theorem b_Curve_eq_ {K : PySem.W.Frag} {mg : Str → Option Value} {a : Ad} (T : Txt K mg a) : Binds K a.d_Curve_eq_ ["self", "other"] [] := T.F_Curve_eq_.binds (ps := ["self", "other"]) fun _ _ _ _ _ _ us hl => match us, hl with | [_, _], _ => rfl
theorem b_pot {K : PySem.W.Frag} {mg : Str → Option Value} {a : Ad} (T : Txt K mg a) : Binds K a.d_pot ["_law_script", "_law_k"] [] := T.F_pot.binds (ps := ["_law_script", "_law_k"]) fun _ _ _ _ _ _ us hl => match us, hl with | [_, _], _ => rfl
theorem b_draw {K : PySem.W.Frag} {mg : Str → Option Value} {a : Ad} (T : Txt K mg a) : Binds K a.d_draw ["_law_pot_here", "_law_many"] [] := T.F_draw.binds (ps := ["_law_pot_here", "_law_many"]) fun _ _ _ _ _ _ us hl => match us, hl with | [_, _], _ => rfl
theorem b_low {K : PySem.W.Frag} {mg : Str → Option Value} {a : Ad} (T : Txt K mg a) : Binds K a.d_low ["_law_top", "_law_bottom"] [] := T.F_low.binds (ps := ["_law_top", "_law_bottom"]) fun _ _ _ _ _ _ us hl => match us, hl with | [_, _], _ => rfl
theorem b_plus {K : PySem.W.Frag} {mg : Str → Option Value} {a : Ad} (T : Txt K mg a) : Binds K a.d_plus ["_law_one", "_law_other_here"] [] := T.F_plus.binds (ps := ["_law_one", "_law_other_here"]) fun _ _ _ _ _ _ us hl => match us, hl with | [_, _], _ => rfl
theorem b_minus {K : PySem.W.Frag} {mg : Str → Option Value} {a : Ad} (T : Txt K mg a) : Binds K a.d_minus ["_law_one", "_law_other_here"] [] := T.F_minus.binds (ps := ["_law_one", "_law_other_here"]) fun _ _ _ _ _ _ us hl => match us, hl with | [_, _], _ => rfl
theorem b_times {K : PySem.W.Frag} {mg : Str → Option Value} {a : Ad} (T : Txt K mg a) : Binds K a.d_times ["_law_one", "_law_other_here"] [] := T.F_times.binds (ps := ["_law_one", "_law_other_here"]) fun _ _ _ _ _ _ us hl => match us, hl with | [_, _], _ => rfl
theorem b_over {K : PySem.W.Frag} {mg : Str → Option Value} {a : Ad} (T : Txt K mg a) : Binds K a.d_over ["_law_one", "_law_other_here"] [] := T.F_over.binds (ps := ["_law_one", "_law_other_here"]) fun _ _ _ _ _ _ us hl => match us, hl with | [_, _], _ => rfl
theorem b_amount {K : PySem.W.Frag} {mg : Str → Option Value} {a : Ad} (T : Txt K mg a) : Binds K a.d_amount ["_law_part"] [] := T.F_amount.binds (ps := ["_law_part"]) fun _ _ _ _ _ _ us hl => match us, hl with | [_], _ => rfl
theorem b_read {K : PySem.W.Frag} {mg : Str → Option Value} {a : Ad} (T : Txt K mg a) : Binds K a.d_read ["_law_told"] [] := T.F_read.binds (ps := ["_law_told"]) fun _ _ _ _ _ _ us hl => match us, hl with | [_], _ => rfl
theorem b_step {K : PySem.W.Frag} {mg : Str → Option Value} {a : Ad} (T : Txt K mg a) : Binds K a.d_step ["_law_pot_here"] [] := T.F_step.binds (ps := ["_law_pot_here"]) fun _ _ _ _ _ _ us hl => match us, hl with | [_], _ => rfl
theorem b_points {K : PySem.W.Frag} {mg : Str → Option Value} {a : Ad} (T : Txt K mg a) : Binds K a.d_points ["_law_pot_here"] [] := T.F_points.binds (ps := ["_law_pot_here"]) fun _ _ _ _ _ _ us hl => match us, hl with | [_], _ => rfl
theorem b_slope {K : PySem.W.Frag} {mg : Str → Option Value} {a : Ad} (T : Txt K mg a) : Binds K a.d_slope ["_law_one", "_law_other_here"] [] := T.F_slope.binds (ps := ["_law_one", "_law_other_here"]) fun _ _ _ _ _ _ us hl => match us, hl with | [_, _], _ => rfl
theorem b_corners {K : PySem.W.Frag} {mg : Str → Option Value} {a : Ad} (T : Txt K mg a) : Binds K a.d_corners ["_law_points_here"] [] := T.F_corners.binds (ps := ["_law_points_here"]) fun _ _ _ _ _ _ us hl => match us, hl with | [_], _ => rfl
theorem b_shape {K : PySem.W.Frag} {mg : Str → Option Value} {a : Ad} (T : Txt K mg a) : Binds K a.d_shape ["_law_points_here"] [] := T.F_shape.binds (ps := ["_law_points_here"]) fun _ _ _ _ _ _ us hl => match us, hl with | [_], _ => rfl
theorem b_passed {K : PySem.W.Frag} {mg : Str → Option Value} {a : Ad} (T : Txt K mg a) : Binds K a.d_passed ["_law_pot_here", "_law_points_here"] [] := T.F_passed.binds (ps := ["_law_pot_here", "_law_points_here"]) fun _ _ _ _ _ _ us hl => match us, hl with | [_, _], _ => rfl
theorem b_more {K : PySem.W.Frag} {mg : Str → Option Value} {a : Ad} (T : Txt K mg a) : Binds K a.d_more ["_law_pot_here", "_law_points_here"] [] := T.F_more.binds (ps := ["_law_pot_here", "_law_points_here"]) fun _ _ _ _ _ _ us hl => match us, hl with | [_, _], _ => rfl
theorem b_other {K : PySem.W.Frag} {mg : Str → Option Value} {a : Ad} (T : Txt K mg a) : Binds K a.d_other ["_law_pot_here", "_law_points_here"] [] := T.F_other.binds (ps := ["_law_pot_here", "_law_points_here"]) fun _ _ _ _ _ _ us hl => match us, hl with | [_, _], _ => rfl
theorem b_is {K : PySem.W.Frag} {mg : Str → Option Value} {a : Ad} (T : Txt K mg a) : Binds K a.d_is ["_law_made", "_law_points_here"] [] := T.F_is.binds (ps := ["_law_made", "_law_points_here"]) fun _ _ _ _ _ _ us hl => match us, hl with | [_, _], _ => rfl
theorem b_pair_right {K : PySem.W.Frag} {mg : Str → Option Value} {a : Ad} (T : Txt K mg a) : Binds K a.d_pair_right ["_law_one", "_law_other_here", "_law_is_same"] [] := T.F_pair_right.binds (ps := ["_law_one", "_law_other_here", "_law_is_same"]) fun _ _ _ _ _ _ us hl => match us, hl with | [_, _, _], _ => rfl
theorem b_right {K : PySem.W.Frag} {mg : Str → Option Value} {a : Ad} (T : Txt K mg a) : Binds K a.d_right ["_law_pot_here"] [] := T.F_right.binds (ps := ["_law_pot_here"]) fun _ _ _ _ _ _ us hl => match us, hl with | [_], _ => rfl
theorem b_far_right {K : PySem.W.Frag} {mg : Str → Option Value} {a : Ad} (T : Txt K mg a) : Binds K a.d_far_right [] [] := T.F_far_right.binds (ps := []) fun _ _ _ _ _ _ us hl => match us, hl with | [], _ => rfl
theorem b_law {K : PySem.W.Frag} {mg : Str → Option Value} {a : Ad} (T : Txt K mg a) : Binds K a.d_law ["_law_script"] [] := T.F_law.binds (ps := ["_law_script"]) fun _ _ _ _ _ _ us hl => match us, hl with | [_], _ => rfl
end K16

set_option Elab.async false
set_option linter.all false
set_option maxRecDepth 100000
set_option maxHeartbeats 4000000
namespace K16
open PySem L2 Lb
open C8 (pss_cut)
theorem b1_Amount_init_ {K : PySem.W.Frag} {mg : Str → Option Value} {a : Ad} (T : Txt K mg a) : ∃ ds, Vals [V.int 1] ds ∧ Binds K a.d_Amount_init_ ["self", "top", "bottom"] ds := by
  obtain ⟨ds, r, b⟩ := T.F_Amount_init_.binds1 (ps := ["self", "top", "bottom"]) 2 0 (by simp) rfl (fun _ _ _ _ _ _ _ us its h1 h2 => match us, its, h1, h2 with | [_, _], [_], _, _ => ⟨_, rfl, rfl⟩)
  exact ⟨ds, r, b⟩
theorem kb_Amount_init_ {K : PySem.W.Frag} {mg : Str → Option Value} {a : Ad} (T : Txt K mg a) : ∃ its : List Value, KBn K a.d_Amount_init_ ["self", "top", "bottom"] 1 ["bottom", "top"] (fun us ws => us ++ ws.reverse) (fun vs zs => vs ++ zs.reverse) := by
  obtain ⟨its, h⟩ := T.F_Amount_init_.kbindsD (ps := ["self", "top", "bottom"]) 1 ["bottom", "top"] (fun us _ ws => us ++ ws.reverse) (by simp) (fun r1 _ r3 => r1.append (vals_rev r3))
    (fun _ _ _ _ _ _ _ us its ws h1 h2 h3 => match us, its, ws, h1, h2, h3 with | [_], [_], [_, _], _, _, _ => ⟨_, rfl, rfl⟩)
  exact ⟨its, h⟩
theorem kb_amount_of {K : PySem.W.Frag} {mg : Str → Option Value} {a : Ad} (T : Txt K mg a) : KBn K a.d_amount_of ["value"] 0 ["value"] (fun us ws => us ++ ws) (fun vs zs => vs ++ zs) :=
  kbn_of T.F_amount_of fun _ _ _ _ _ _ us ws h1 h2 => match us, ws, h1, h2 with | [], [_], _, _ => rfl
theorem tb_ : ¬ (("_bottom" : Str) = "_top") := by decide +kernel
theorem bt_ : ¬ (("_top" : Str) = "_bottom") := by decide +kernel
def am (t b : Int) : List (Str × V) := putF "_bottom" (.int b) (putF "_top" (.int t) [])
theorem am_top (t b : Int) : (am t b).lookup ("_top" : Str) = some (.int t) := by
  unfold am
  rw [lookup_putF, if_neg bt_, lookup_putF, if_pos rfl]
theorem am_bot (t b : Int) : (am t b).lookup ("_bottom" : Str) = some (.int b) := by
  unfold am
  rw [lookup_putF, if_pos rfl]
theorem am_no (t b : Int) {m : Str} (h1 : ¬ m = "_bottom") (h2 : ¬ m = "_top") : (am t b).lookup m = none := by
  unfold am
  rw [lookup_putF, if_neg h1, lookup_putF, if_neg h2]
  all_goals rfl
def AmAt (C : Addr) (H : Hp) (q : Addr) (t b : Int) : Prop := ∃ dx, H q = some (.ins C dx (am t b))
theorem AmAt.same {C p : Addr} {H H' : Hp} {t b : Int} (h : AmAt C H p t b) (s : Same H H') : AmAt C H' p t b := let ⟨dx, e⟩ := h; ⟨dx, s _ _ e⟩
/-- what is passed: an int or an amount -/
def IsP (C : Addr) (H : Hp) (v : V) (t b : Int) : Prop := (v = .int t ∧ b = 1) ∨ ∃ q, v = .ref q ∧ AmAt C H q t b
theorem IsP.same {C : Addr} {v : V} {H H' : Hp} {t b : Int} (h : IsP C H v t b) (s : Same H H') : IsP C H' v t b := by
  rcases h with h | ⟨q, e, h⟩
  · exact .inl h
  · exact .inr ⟨q, e, h.same s⟩
theorem IsP.bin {C : Addr} {v : V} {H : Hp} {t b : Int} (h : IsP C H v t b) : (∃ m, v = V.int m) ∨ ∃ q dy fy, v = V.ref q ∧ H q = some (.ins C dy fy) := by
  rcases h with ⟨e, _⟩ | ⟨q, e, dx, h⟩
  · exact .inl ⟨_, e⟩
  · exact .inr ⟨q, dx, _, e, h⟩
def sp_is_integer (C : Addr) : Sp := fun vs H Q _ => ∃ v t b, vs = [v] ∧ IsP C H v t b ∧ (v = .int t → Q (.bl true) H) ∧ ((∃ q, v = .ref q) → Q (.bl false) H)
def sp_is_amount (C : Addr) : Sp := fun vs H Q _ => ∃ v t b, vs = [v] ∧ IsP C H v t b ∧ Q (.bl true) H
def sp_amount_of (C : Addr) : Sp := fun vs H Q _ => ∃ v t b, vs = [v] ∧ IsP C H v t b ∧ Bd 8000 t ∧ ∀ H' q, Same H H' → AmAt C H' q t b → Q (.ref q) H'
def sp_Amount_init_ (C : Addr) : Sp := fun vs H Q _ => ∃ (q dx : Addr) (t b : Int), vs = [.ref q, .int t, .int b] ∧ b ≠ 0 ∧ Bd 8000 t ∧ Bd 8000 b ∧ H q = some (.ins C dx []) ∧
  ∀ H', (∀ x o, x ≠ q → H x = some o → H' x = some o) → H' q = some (.ins C dx (am (rdT t b) (rdB t b))) → Q .non H'
/-- what C(t, b) gives -/
theorem made_am {C : Addr} {H : Hp} {x dx : Addr} {H' : Hp} {t b : Int} (h1 : H x = none) (h2 : H dx = none) (ne : dx ≠ x) (k : ∀ y o, y ≠ x → (upd (upd H dx (.own x)) x (.ins C dx [])) y = some o → H' y = some o) (e : H' x = some (.ins C dx (am t b))) :
    Same H H' ∧ AmAt C H' x t b := by
  refine ⟨fun y o hy => k y o (ne_of_none hy h1) ?_, dx, e⟩
  rw [upd_ne (ne_of_none hy h1), upd_ne (ne_of_none hy h2)]
  exact hy
section
variable {P : Program} {w : World} {K : PySem.W.Frag} {mg : Str → Option Value} {base : Heap} {a : Ad}
theorem ok_is_integer (T : Txt K mg a) : FnOk P w K mg base CX0 1 a.f_is_integer a.d_is_integer ["value"] (sp_is_integer a.c_Amount) := by
  refine T.F_is_integer.ok sc_is_integer (fun vs H Q E h => ?_) (fun cdv A outer s H vs Q E hr h => ?_)
  · obtain ⟨v, t, b, rfl, _⟩ := h
    rfl
  · obtain ⟨v, t, b, rfl, hv, k1, k2⟩ := h
    refine ⟨_, (pss_one (ps_ret (pe_and (pe_callB (call_isiK' (K := K) rfl) (by rfl) T.b_isinstance (by decide +kernel) (pa_cons (pv 0) (pa_cons (pe_bltn (v := .ty "int") (by rfl) T.b_int (by decide +kernel) rfl) pa_nil))) (pe_one (pe_not (pe_callB (call_isiK' (K := K) rfl) (by rfl) T.b_isinstance (by decide +kernel) (pa_cons (pv 0) (pa_cons (pe_bltn (v := .ty "bool") (by rfl) T.b_bool (by decide +kernel) rfl) pa_nil)))))))), ?_⟩
    rcases hv with ⟨rfl, _⟩ | ⟨q, rfl, dx, hq⟩
    · refine ⟨_, rfl, _, _, _, _, true, rfl, .ty _, .base (.int _), kit_ty (by decide +kernel), true, rfl, iteT ?_⟩
      exact ⟨_, rfl, _, _, _, _, false, rfl, .ty _, .base (.int _), kit_ty (by decide +kernel), false, rfl, k1 rfl⟩
    · refine ⟨_, rfl, _, _, _, _, false, rfl, .ty _, .base (T.I.ty T.cl hq), kit_of_own (by decide +kernel) T.oSub.ss2, false, rfl, iteF ?_⟩
      exact k2 ⟨q, rfl⟩
theorem ok_is_amount (T : Txt K mg a) : FnOk P w K mg base CX0 2 a.f_is_amount a.d_is_amount ["value"] (sp_is_amount a.c_Amount) := by
  refine T.F_is_amount.ok sc_is_amount (fun vs H Q E h => ?_) (fun cdv A outer s H vs Q E hr h => ?_)
  · obtain ⟨v, t, b, rfl, _⟩ := h
    rfl
  · obtain ⟨v, t, b, rfl, hv, k⟩ := h
    refine ⟨_, (pss_one (ps_ret (pe_or (pe_call (ok_is_integer T) (hr.mono (by decide)) (by rfl) T.m_is_integer T.F_is_integer.kp (b_is_integer T) .nil pass0 (pa_cons (pv 0) pa_nil)) (pe_one (pe_callB (call_isiK' (K := K) rfl) (by rfl) T.b_isinstance (by decide +kernel) (pa_cons (pv 0) (pa_cons (pe_glob (v := .ref a.c_Amount) rfl T.mA rfl) pa_nil))))))), ?_⟩
    refine ⟨_, rfl, v, t, b, rfl, hv, fun e => ⟨true, rfl, iteT k⟩, fun ⟨q, e⟩ => ⟨false, rfl, iteF ?_⟩⟩
    subst e
    rcases hv with ⟨e, _⟩ | ⟨q', e, dx, hq⟩
    · cases e
    · cases e
      exact ⟨_, rfl, _, _, _, _, true, rfl, .own _, .base (T.I.ty T.cl hq), Inst.kSelf, k⟩
theorem ok_Amount_init_ (T : Txt K mg a) : FnOk P w K mg base CX0 2 a.f_Amount_init_ a.d_Amount_init_ ["self", "top", "bottom"] (sp_Amount_init_ a.c_Amount) := by
  refine T.F_Amount_init_.ok sc_Amount_init_ (fun vs H Q E h => ?_) (fun cdv A outer s H vs Q E hr h => ?_)
  · obtain ⟨q, dx, t, b, rfl, _⟩ := h
    rfl
  · obtain ⟨q, dx, t, b, rfl, hb, bt, bb, hq, k⟩ := h
    refine ⟨_, (pss_cons (ps_if (pt_not (pt_val (pe_call (ok_is_integer T) (hr.mono (by decide)) (by rfl) T.m_is_integer T.F_is_integer.kp (b_is_integer T) .nil pass0 (pa_cons (pv 1) pa_nil)))) (pss_one ps_never) pss_nil)
 (pss_cons (ps_if (PW.pt (pw_or (pt_not (pt_val (pe_call (ok_is_integer T) (hr.mono (by decide)) (by rfl) T.m_is_integer T.F_is_integer.kp (b_is_integer T) .nil pass0 (pa_cons (pv 2) pa_nil)))) (pw_or1 (pt_cmpR op_eq (pv 2) pe_int (nomark _))))) (pss_one ps_never) pss_nil)
 (pss_cons (ps_set (i := 3) sc_Amount_init_.nd rfl (by first | exact Or.inl rfl | exact Or.inr rfl) (pe_callBfun cr_gcd (by rfl) T.m_gcd (pa_cons (pv 1) (pa_cons (pv 2) pa_nil))))
 (pss_cut (ps_if (pt_cmpR op_lt (pv 2) pe_int (nomark _)) (pss_one (ps_set (i := 3) sc_Amount_init_.nd rfl (by first | exact Or.inl rfl | exact Or.inr rfl) (pe_un un_neg (pv 3)))) pss_nil)
 (pss_cons (ps_fldK (K := K) rfl (pv 0) (pe_op op_fdivX (pv 1) (pv 3)) rfl)
 (pss_one (ps_fldK (K := K) rfl (pv 0) (pe_op op_fdivX (pv 2) (pv 3)) rfl))))))), ?_⟩
    refine ⟨_, rfl, _, t, 1, rfl, .inl ⟨rfl, rfl⟩, fun _ => ⟨true, rfl, iteF ?_⟩, fun ⟨_, e⟩ => nomatch e⟩
    refine ⟨_, rfl, _, b, 1, rfl, .inl ⟨rfl, rfl⟩, fun _ => ⟨true, rfl, iteF ?_⟩, fun ⟨_, e⟩ => nomatch e⟩
    refine ⟨_, rfl, rfl, _, rfl, iteN ?_ ?_⟩
    · intro z
      have z := of_decide_eq_true z
      injection z with z
      exact hb z
    refine ⟨_, rfl, _, rfl, _, _, rfl, ?_⟩
    refine ⟨fun σ H' => H' = H ∧ σ = [some (.ref q), some (.int t), some (.int b), some (.int (rdD t b))], ?_, ?_⟩
    · refine ⟨_, rfl, _, _, rfl, rfl, _, rfl, ?_⟩
      refine ite2 (fun h1 => ?_) (fun h1 => ?_)
      · have h1 : b < 0 := by simpa using h1
        refine ⟨_, rfl, _, rfl, rfl, ?_⟩
        unfold rdD
        rw [if_pos h1]
        rfl
      · have h1 : ¬ b < 0 := by simpa using h1
        refine ⟨rfl, ?_⟩
        unfold rdD
        rw [if_neg h1]
        rfl
    rintro σ H' ⟨rfl, rfl⟩
    have hd : rdD t b ≠ 0 := by
      have : 0 < Nat.gcd t.natAbs b.natAbs := Nat.gcd_pos_of_pos_right _ (by omega)
      unfold rdD
      split <;> omega
    have bd : Bd 8000 (rdD t b) := by
      have : Nat.gcd t.natAbs b.natAbs ≤ b.natAbs := Nat.gcd_le_right _ (by omega)
      refine bb.le ?_
      unfold rdD
      split <;> omega
    refine ⟨_, rfl, _, rfl, _, _, rfl, rfl, bd.cx hd (by decide), _, rfl, q, _, dx, _, rfl, hq, T.cl, T.nT, (by show 0 < 1000; decide), ?_⟩
    refine ⟨_, rfl, _, rfl, _, _, rfl, rfl, bd.cx hd (by decide), _, rfl, q, _, dx, _, rfl, upd_same, T.cl, T.nB, (by show 1 < 1000; decide), ?_⟩
    refine k _ (fun x o n e => ?_) ?_
    · rw [upd_ne n, upd_ne n]
      exact e
    · rw [upd_same]
      rfl
theorem ok_amount_of (T : Txt K mg a) : FnOk P w K mg base CX0 4 a.f_amount_of a.d_amount_of ["value"] (sp_amount_of a.c_Amount) := by
  refine T.F_amount_of.ok sc_amount_of (fun vs H Q E h => ?_) (fun cdv A outer s H vs Q E hr h => ?_)
  · obtain ⟨v, t, b, rfl, _⟩ := h
    rfl
  · obtain ⟨v, t, b, rfl, hv, bt, k⟩ := h
    refine ⟨_, (pss_cons (ps_if (pt_val (pe_callB (call_isiK' (K := K) rfl) (by rfl) T.b_isinstance (by decide +kernel) (pa_cons (pv 0) (pa_cons (pe_glob (v := .ref a.c_Amount) rfl T.mA rfl) pa_nil)))) (pss_one (ps_ret (pv 0))) pss_nil)
 (pss_cons (ps_if (pt_val (pe_call (ok_is_integer T) (hr.mono (by decide)) (by rfl) T.m_is_integer T.F_is_integer.kp (b_is_integer T) .nil pass0 (pa_cons (pv 0) pa_nil))) (pss_one (ps_ret (pe_make T.mkA (ok_Amount_init_ T) (hr.mono (by decide)) (by rfl) T.mA (b1_Amount_init_ T).choose_spec.2 (b1_Amount_init_ T).choose_spec.1 pass0 (pa_cons (pv 0) pa_nil)))) pss_nil)
 (pss_one ps_never))), ?_⟩
    rcases id hv with ⟨rfl, rfl⟩ | ⟨q, rfl, dx, hq⟩
    · refine ⟨_, rfl, _, _, _, _, false, rfl, .own _, .base (.int _), T.I.kInt, false, rfl, iteF ?_⟩
      refine ⟨_, rfl, _, t, 1, rfl, hv, fun _ => ⟨true, rfl, iteT ?_⟩, fun ⟨_, e⟩ => nomatch e⟩
      refine ⟨_, rfl, fun x dx hx hdx ne => ⟨x, dx, t, 1, rfl, by decide, bt, bd_one, upd_same, fun H' kp e => ⟨rfl, ?_⟩⟩⟩
      rw [rdT_one, rdB_one] at e
      obtain ⟨s, m⟩ := made_am hx hdx ne kp e
      exact k _ _ s m
    · refine ⟨_, rfl, _, _, _, _, true, rfl, .own _, .base (T.I.ty T.cl hq), Inst.kSelf, true, rfl, iteT ?_⟩
      exact ⟨_, rfl, k _ _ (Same.refl _) ⟨dx, hq⟩⟩
end
end K16

set_option Elab.async false
set_option linter.all false
set_option maxRecDepth 100000
set_option maxHeartbeats 4000000
set_option exponentiation.threshold 10000
namespace K16
open PySem L2 Lb
abbrev I4 := Int → Int → Int → Int → Int
def sp_bin (C : Addr) (f g : I4) : Sp := fun vs H Q _ => ∃ p v t b t' b', vs = [.ref p, v] ∧ AmAt C H p t b ∧ IsP C H v t' b' ∧ Bd 3000 t ∧ Bd 3000 b ∧ Bd 3000 t' ∧ Bd 3000 b' ∧ g t b t' b' ≠ 0 ∧
  ∀ H' q, Same H H' → AmAt C H' q (rdT (f t b t' b') (g t b t' b')) (rdB (f t b t' b') (g t b t' b')) → Q (.ref q) H'
def fAdd : I4 := fun t b t' b' => t * b' + t' * b
def gBot : I4 := fun _ b _ b' => b * b'
def fSub : I4 := fun t b t' b' => t * b' - t' * b
def fMul : I4 := fun t _ t' _ => t * t'
def fOver : I4 := fun t _ _ b' => t * b'
def gOver : I4 := fun _ b t' _ => b * t'
def sw (f : I4) : I4 := fun t b t' b' => f t' b' t b
def sp_un (C : Addr) (f : Int → Int) : Sp := fun vs H Q _ => ∃ p t b, vs = [.ref p] ∧ AmAt C H p t b ∧ Bd 3000 t ∧ Bd 3000 b ∧ b ≠ 0 ∧
  ∀ H' q, Same H H' → AmAt C H' q (rdT (f t) b) (rdB (f t) b) → Q (.ref q) H'
def sp_get (C : Addr) (f : Int → Int → V) : Sp := fun vs H Q _ => ∃ p t b, vs = [.ref p] ∧ AmAt C H p t b ∧ Q (f t b) H
def sg (t : Int) : Int := if t = 0 then 0 else if t > 0 then 1 else -1
section
variable {P : Program} {w : World} {K : PySem.W.Frag} {mg : Str → Option Value} {base : Heap} {a : Ad}
theorem ok_Amounttop (T : Txt K mg a) : FnOk P w K mg base CX0 1 a.f_Amounttop a.d_Amounttop ["self"] (sp_get a.c_Amount fun t _ => .int t) := by
  refine T.F_Amounttop.ok sc_Amounttop (fun vs H Q E h => ?_) (fun cdv A outer s H vs Q E hr h => ?_)
  · obtain ⟨p, t, b, rfl, _⟩ := h
    rfl
  · obtain ⟨p, t, b, rfl, ⟨dx, hp⟩, k⟩ := h
    refine ⟨_, (pss_one (ps_ret (pe_fldK (K := K) rfl (pv 0) rfl))), ?_⟩
    exact ⟨_, rfl, p, _, dx, _, _, rfl, hp, T.cl, T.nT, am_top _ _, k⟩
theorem ok_Amountbottom (T : Txt K mg a) : FnOk P w K mg base CX0 1 a.f_Amountbottom a.d_Amountbottom ["self"] (sp_get a.c_Amount fun _ b => .int b) := by
  refine T.F_Amountbottom.ok sc_Amountbottom (fun vs H Q E h => ?_) (fun cdv A outer s H vs Q E hr h => ?_)
  · obtain ⟨p, t, b, rfl, _⟩ := h
    rfl
  · obtain ⟨p, t, b, rfl, ⟨dx, hp⟩, k⟩ := h
    refine ⟨_, (pss_one (ps_ret (pe_fldK (K := K) rfl (pv 0) rfl))), ?_⟩
    exact ⟨_, rfl, p, _, dx, _, _, rfl, hp, T.cl, T.nB, am_bot _ _, k⟩
theorem ok_Amountsign (T : Txt K mg a) : FnOk P w K mg base CX0 1 a.f_Amountsign a.d_Amountsign ["self"] (sp_get a.c_Amount fun t _ => .int (sg t)) := by
  refine T.F_Amountsign.ok sc_Amountsign (fun vs H Q E h => ?_) (fun cdv A outer s H vs Q E hr h => ?_)
  · obtain ⟨p, t, b, rfl, _⟩ := h
    rfl
  · obtain ⟨p, t, b, rfl, ⟨dx, hp⟩, k⟩ := h
    refine ⟨_, (pss_cons (ps_if (pt_cmpR op_eq (pe_fldK (K := K) rfl (pv 0) rfl) pe_int (nomark _)) (pss_one (ps_ret pe_int)) pss_nil)
 (pss_one (ps_ret (pe_ifExp (pt_cmpR op_gt (pe_fldK (K := K) rfl (pv 0) rfl) pe_int (nomark _)) pe_int (pe_un un_neg pe_int))))), ?_⟩
    unfold sg at k
    dsimp only at k
    refine ⟨_, rfl, p, _, dx, _, _, rfl, hp, T.cl, T.nT, am_top _ _, rfl, _, rfl, ite2 (fun h1 => ?_) (fun h1 => ?_)⟩
    · rw [if_pos (by simpa using h1)] at k
      exact k
    · rw [if_neg (by simpa using h1)] at k
      refine ⟨_, rfl, p, _, dx, _, _, rfl, hp, T.cl, T.nT, am_top _ _, _, _, rfl, rfl, _, rfl, ite2 (fun h2 => ?_) (fun h2 => ?_)⟩
      · rw [if_pos (by simpa using h2)] at k
        exact k
      · rw [if_neg (by simpa using h2)] at k
        exact ⟨_, rfl, k⟩
theorem ok_Amount_sub_ (T : Txt K mg a) : FnOk P w K mg base CX0 5 a.f_Amount_sub_ a.d_Amount_sub_ ["self", "other"] (sp_bin a.c_Amount fSub gBot) := by
  refine T.F_Amount_sub_.ok sc_Amount_sub_ (fun vs H Q E h => ?_) (fun cdv A outer s H vs Q E hr h => ?_)
  · obtain ⟨p, v, t, b, t', b', rfl, _⟩ := h
    rfl
  · obtain ⟨p, v, t, b, t', b', rfl, ⟨dx, hp⟩, hv, bt, bb, bt', bb', g0, k⟩ := h
    refine ⟨_, (pss_cons (ps_if (pt_not (pt_val (pe_call (ok_is_amount T) (hr.mono (by decide)) (by rfl) T.m_is_amount T.F_is_amount.kp (b_is_amount T) .nil pass0 (pa_cons (pv 1) pa_nil)))) (pss_one ps_never) pss_nil)
 (pss_cons (ps_set (i := 2) sc_Amount_sub_.nd rfl (by first | exact Or.inl rfl | exact Or.inr rfl) (pe_call (ok_amount_of T) (hr.mono (by decide)) (by rfl) T.m_amount_of T.F_amount_of.kp (b_amount_of T) .nil pass0 (pa_cons (pv 1) pa_nil)))
 (pss_one (ps_ret (pe_make T.mkA (ok_Amount_init_ T) (hr.mono (by decide)) (by rfl) T.mA (b_Amount_init_ T) .nil pass0 (pa_cons (pe_op op_sub (pe_op op_mulX (pe_fldK (K := K) rfl (pv 0) rfl) (pe_fldK (K := K) rfl (pv 2) rfl)) (pe_op op_mulX (pe_fldK (K := K) rfl (pv 2) rfl) (pe_fldK (K := K) rfl (pv 0) rfl))) (pa_cons (pe_op op_mulX (pe_fldK (K := K) rfl (pv 0) rfl) (pe_fldK (K := K) rfl (pv 2) rfl)) pa_nil))))))), ?_⟩
    refine ⟨_, rfl, v, t', b', rfl, hv, true, rfl, iteF ?_⟩
    refine ⟨_, rfl, v, t', b', rfl, hv, bt'.mono (by decide), fun H1 q s1 ⟨dy, hq⟩ => ?_⟩
    have hp := s1 _ _ hp
    refine ⟨_, rfl, p, _, dx, _, _, rfl, hp, T.cl, T.nT, am_top _ _, _, rfl, q, _, dy, _, _, rfl, hq, T.cl, T.nB, am_bot _ _, _, _, rfl, rfl, bt.cm bb' (by decide), ?_⟩
    refine ⟨_, rfl, q, _, dy, _, _, rfl, hq, T.cl, T.nT, am_top _ _, _, rfl, p, _, dx, _, _, rfl, hp, T.cl, T.nB, am_bot _ _, _, _, rfl, rfl, bt'.cm bb (by decide), _, _, rfl, rfl, ?_⟩
    refine ⟨_, rfl, p, _, dx, _, _, rfl, hp, T.cl, T.nB, am_bot _ _, _, rfl, q, _, dy, _, _, rfl, hq, T.cl, T.nB, am_bot _ _, _, _, rfl, rfl, bb.cm bb' (by decide), ?_⟩
    refine fun x dz hx hdx ne => ⟨x, dz, _, _, rfl, g0, ((bt.mul bb').sub (bt'.mul bb)).mono (by decide), (bb.mul bb').mono (by decide), upd_same, fun H' kp e => ⟨rfl, ?_⟩⟩
    obtain ⟨s, m⟩ := made_am hx hdx ne kp e
    exact k _ _ (s1.trans s) m
theorem ok_Amountover (T : Txt K mg a) : FnOk P w K mg base CX0 5 a.f_Amountover a.d_Amountover ["self", "other"] (sp_bin a.c_Amount fOver gOver) := by
  refine T.F_Amountover.ok sc_Amountover (fun vs H Q E h => ?_) (fun cdv A outer s H vs Q E hr h => ?_)
  · obtain ⟨p, v, t, b, t', b', rfl, _⟩ := h
    rfl
  · obtain ⟨p, v, t, b, t', b', rfl, ⟨dx, hp⟩, hv, bt, bb, bt', bb', g0, k⟩ := h
    have ht' : t' ≠ 0 := fun z => g0 (by show b * t' = 0; rw [z, Int.mul_zero])
    refine ⟨_, (pss_cons (ps_if (PW.pt (pw_or (pt_not (pt_val (pe_call (ok_is_amount T) (hr.mono (by decide)) (by rfl) T.m_is_amount T.F_is_amount.kp (b_is_amount T) .nil pass0 (pa_cons (pv 1) pa_nil)))) (pw_or1 (pt_cmpR op_eq (pe_prop (pe_call (ok_amount_of T) (hr.mono (by decide)) (by rfl) T.m_amount_of T.F_amount_of.kp (b_amount_of T) .nil pass0 (pa_cons (pv 1) pa_nil)) T.cl T.p_sign (ok_Amountsign T) (hr.mono (by decide)) (b_Amountsign T) .nil pass0 rfl) pe_int (nomark _))))) (pss_one ps_never) pss_nil)
 (pss_cons (ps_set (i := 2) sc_Amountover.nd rfl (by first | exact Or.inl rfl | exact Or.inr rfl) (pe_call (ok_amount_of T) (hr.mono (by decide)) (by rfl) T.m_amount_of T.F_amount_of.kp (b_amount_of T) .nil pass0 (pa_cons (pv 1) pa_nil)))
 (pss_one (ps_ret (pe_make T.mkA (ok_Amount_init_ T) (hr.mono (by decide)) (by rfl) T.mA (b_Amount_init_ T) .nil pass0 (pa_cons (pe_op op_mulX (pe_fldK (K := K) rfl (pv 0) rfl) (pe_fldK (K := K) rfl (pv 2) rfl)) (pa_cons (pe_op op_mulX (pe_fldK (K := K) rfl (pv 0) rfl) (pe_fldK (K := K) rfl (pv 2) rfl)) pa_nil))))))), ?_⟩
    refine ⟨_, rfl, v, t', b', rfl, hv, true, rfl, iteF ?_⟩
    refine ⟨_, rfl, v, t', b', rfl, hv, bt'.mono (by decide), fun H1 q s1 ⟨dy, hq⟩ => ?_⟩
    refine ⟨q, dy, _, rfl, hq, q, t', b', rfl, ⟨dy, hq⟩, rfl, _, rfl, iteN ?_ ?_⟩
    · intro z
      have z := of_decide_eq_true z
      injection z with z
      unfold sg at z
      rw [if_neg ht'] at z
      split at z <;> omega
    have hp := s1 _ _ hp
    have hv := hv.same s1
    refine ⟨_, rfl, v, t', b', rfl, hv, bt'.mono (by decide), fun H2 q2 s2 ⟨dz, hq2⟩ => ?_⟩
    have hp := s2 _ _ hp
    refine ⟨_, rfl, p, _, dx, _, _, rfl, hp, T.cl, T.nT, am_top _ _, _, rfl, q2, _, dz, _, _, rfl, hq2, T.cl, T.nB, am_bot _ _, _, _, rfl, rfl, bt.cm bb' (by decide), ?_⟩
    refine ⟨_, rfl, p, _, dx, _, _, rfl, hp, T.cl, T.nB, am_bot _ _, _, rfl, q2, _, dz, _, _, rfl, hq2, T.cl, T.nT, am_top _ _, _, _, rfl, rfl, bb.cm bt' (by decide), ?_⟩
    refine fun x dz hx hdx ne => ⟨x, dz, _, _, rfl, g0, (bt.mul bb').mono (by decide), (bb.mul bt').mono (by decide), upd_same, fun H' kp e => ⟨rfl, ?_⟩⟩
    obtain ⟨s, m⟩ := made_am hx hdx ne kp e
    exact k _ _ ((s1.trans s2).trans s) m
theorem ok_Amount_rsub_ (T : Txt K mg a) : FnOk P w K mg base CX0 6 a.f_Amount_rsub_ a.d_Amount_rsub_ ["self", "other"] (sp_bin a.c_Amount (sw fSub) (sw gBot)) := by
  refine T.F_Amount_rsub_.ok sc_Amount_rsub_ (fun vs H Q E h => ?_) (fun cdv A outer s H vs Q E hr h => ?_)
  · obtain ⟨p, v, t, b, t', b', rfl, _⟩ := h
    rfl
  · obtain ⟨p, v, t, b, t', b', rfl, hp, hv, bt, bb, bt', bb', g0, k⟩ := h
    refine ⟨_, (pss_cons (ps_if (pt_not (pt_val (pe_call (ok_is_amount T) (hr.mono (by decide)) (by rfl) T.m_is_amount T.F_is_amount.kp (b_is_amount T) .nil pass0 (pa_cons (pv 1) pa_nil)))) (pss_one ps_never) pss_nil)
 (pss_one (ps_ret (pe_op (op_ownBin (K := K) (E := E0) rfl T.oSub ((ok_Amount_sub_ T).raw (b_Amount_sub_ T) .nil) (hr.mono (by decide))) (pe_call (ok_amount_of T) (hr.mono (by decide)) (by rfl) T.m_amount_of T.F_amount_of.kp (b_amount_of T) .nil pass0 (pa_cons (pv 1) pa_nil)) (pv 0))))), ?_⟩
    refine ⟨_, rfl, v, t', b', rfl, hv, true, rfl, iteF ?_⟩
    refine ⟨_, rfl, v, t', b', rfl, hv, bt'.mono (by decide), fun H1 q s1 hq => ?_⟩
    obtain ⟨dy, eq⟩ := id hq
    have hp := hp.same s1
    exact ⟨_, rfl, q, dy, _, rfl, eq, .inr (let ⟨dx, ep⟩ := hp; ⟨p, dx, _, rfl, ep⟩), q, _, t', b', t, b, rfl, hq, .inr ⟨p, rfl, hp⟩, bt', bb', bt, bb, g0, fun H2 r s2 hr => k _ _ (s1.trans s2) hr⟩
end
end K16

set_option Elab.async false
set_option linter.all false
set_option maxRecDepth 100000
set_option maxHeartbeats 4000000
set_option exponentiation.threshold 10000
namespace K16
open PySem L2 Lb
theorem at0 {x y : V} : atI [x, y] 0 = some x := atI_nat (j := 0) rfl
theorem at1 {x y : V} : atI [x, y] 1 = some y := atI_nat (j := 1) rfl
theorem take_snoc {α : Type} {l : List α} {i : Nat} {x : α} (h : l[i]? = some x) : l.take i ++ [x] = l.take (i + 1) := by
  rw [List.take_succ, h]
  rfl
theorem ref_at {as : List Addr} {i : Nat} {x : V} (h : (as.map V.ref)[i]? = some x) : ∃ q, x = .ref q ∧ as[i]? = some q := by
  rw [List.getElem?_map] at h
  cases e : as[i]? with
  | none => rw [e] at h; cases h
  | some q => rw [e] at h; exact ⟨q, (Option.some.inj h).symm, rfl⟩
theorem at_ref {as : List Addr} {i : Nat} {q : Addr} (h : as[i]? = some q) : atI (as.map V.ref) (i : Int) = some (.ref q) := atI_nat (by rw [List.getElem?_map, h]; rfl)
theorem paired_snoc {α β : Type} {R : α → β → Prop} : ∀ {as : List α} {bs : List β} {a : α} {b : β}, Paired R as bs → R a b → Paired R (as ++ [a]) (bs ++ [b])
  | [], [], _, _, .nil, h => .cons h .nil
  | _ :: _, _ :: _, _, _, .cons h1 h2, h => .cons h1 (paired_snoc h2 h)
def sp_cmp (C : Addr) (f : Int → Int → Int → Int → Bool) : Sp := fun vs H Q _ => ∃ (p q : Addr) (t b t' b' : Int), vs = [.ref p, .ref q] ∧ AmAt C H p t b ∧ AmAt C H q t' b' ∧ Bd 8000 t ∧ Bd 8000 b ∧ Bd 8000 t' ∧ Bd 8000 b' ∧ Q (.bl (f t b t' b')) H
def fLt : Int → Int → Int → Int → Bool := fun t b t' b' => decide (t * b' < t' * b)
def fLe : Int → Int → Int → Int → Bool := fun t b t' b' => decide (t * b' ≤ t' * b)
/-- a point: two fractions -/
abbrev Pt := Q2 × Q2
/-- a point as it is passed -/
def PtP (C : Addr) (H : Hp) (v : V) (z : Pt) : Prop := ∃ t u w, v = .ref t ∧ H t = some (.tup [u, w]) ∧ IsP C H u z.1.1 z.1.2 ∧ IsP C H w z.2.1 z.2.2
theorem PtP.same {C : Addr} {H H' : Hp} {v : V} {z : Pt} (h : PtP C H v z) (s : Same H H') : PtP C H' v z :=
  let ⟨t, u, w, e, et, p, q⟩ := h
  ⟨t, u, w, e, s _ _ et, p.same s, q.same s⟩
/-- a point that the program holds: a tuple of two amounts -/
def RowA (C : Addr) (H : Hp) (r : Addr) (z : Pt) : Prop := ∃ p q, H r = some (.tup [.ref p, .ref q]) ∧ AmAt C H p z.1.1 z.1.2 ∧ AmAt C H q z.2.1 z.2.2
theorem RowA.same {C : Addr} {H H' : Hp} {r : Addr} {z : Pt} (h : RowA C H r z) (s : Same H H') : RowA C H' r z :=
  let ⟨p, q, e, ap, aq⟩ := h
  ⟨p, q, s _ _ e, ap.same s, aq.same s⟩
/-- both parts in lowest terms, small, and of one sign -/
structure PtL (n : Nat) (z : Pt) : Prop where
  x : Low n z.1
  y : Low n z.2
  s : sg z.1.1 = sg z.2.1
def ltQ (x y : Q2) : Prop := x.1 * y.2 < y.1 * x.2
def sp_is_point (C : Addr) : Sp := fun vs H Q _ => ∃ v z n, vs = [v] ∧ PtP C H v z ∧ PtL n z ∧ n ≤ 8000 ∧ ∀ H', Same H H' → Q (.bl true) H'
def sp_is_origin (C : Addr) : Sp := fun vs H Q _ => ∃ v z n, vs = [v] ∧ PtP C H v z ∧ PtL n z ∧ n ≤ 8000 ∧ ∀ H', Same H H' → Q (.bl (decide (z.1.1 = 0))) H'
def sp_rises (C : Addr) : Sp := fun vs H Q _ => ∃ r r' z z' n, vs = [.ref r, .ref r'] ∧ RowA C H r z ∧ RowA C H r' z' ∧ PtL n z ∧ PtL n z' ∧ n ≤ 8000 ∧ ltQ z.1 z'.1 ∧ ltQ z.2 z'.2 ∧ Q (.bl true) H
theorem sg0 {t : Int} : sg t = 0 ↔ t = 0 := by
  unfold sg
  split
  · rename_i h; simp [h]
  · rename_i h
    split <;> simp [h]
section
variable {P : Program} {w : World} {K : PySem.W.Frag} {mg : Str → Option Value} {base : Heap} {a : Ad}
theorem ok_Amount_lt_ (T : Txt K mg a) : FnOk P w K mg base CX0 1 a.f_Amount_lt_ a.d_Amount_lt_ ["self", "other"] (sp_cmp a.c_Amount fLt) := by
  refine T.F_Amount_lt_.ok sc_Amount_lt_ (fun vs H Q E h => ?_) (fun cdv A outer s H vs Q E hr h => ?_)
  · obtain ⟨p, q, t, b, t', b', rfl, _⟩ := h
    rfl
  · obtain ⟨p, q, t, b, t', b', rfl, ⟨dx, hp⟩, ⟨dy, hq⟩, bt, bb, bt', bb', k⟩ := h
    refine ⟨_, (pss_cons (ps_if (pt_not (pt_val (pe_callB (call_isiK' (K := K) rfl) (by rfl) T.b_isinstance (by decide +kernel) (pa_cons (pv 1) (pa_cons (pe_glob (v := .ref a.c_Amount) rfl T.mA rfl) pa_nil))))) (pss_one ps_never) pss_nil)
 (pss_one (ps_ret (pe_cmpR op_lt (pe_op op_mulX (pe_fldK (K := K) rfl (pv 0) rfl) (pe_fldK (K := K) rfl (pv 1) rfl)) (pe_op op_mulX (pe_fldK (K := K) rfl (pv 1) rfl) (pe_fldK (K := K) rfl (pv 0) rfl)) (nomark _))))), ?_⟩
    refine ⟨_, rfl, _, _, _, _, true, rfl, .own _, .base (T.I.ty T.cl hq), Inst.kSelf, true, rfl, iteF ?_⟩
    refine ⟨_, rfl, p, _, dx, _, _, rfl, hp, T.cl, T.nT, am_top _ _, _, rfl, q, _, dy, _, _, rfl, hq, T.cl, T.nB, am_bot _ _, _, _, rfl, rfl, bt.cm bb' (by decide), ?_⟩
    exact ⟨_, rfl, q, _, dy, _, _, rfl, hq, T.cl, T.nT, am_top _ _, _, rfl, p, _, dx, _, _, rfl, hp, T.cl, T.nB, am_bot _ _, _, _, rfl, rfl, bt'.cm bb (by decide), _, _, rfl, rfl, k⟩
theorem ok_is_point (T : Txt K mg a) : FnOk P w K mg base CX0 5 a.f_is_point a.d_is_point ["value"] (sp_is_point a.c_Amount) := by
  refine T.F_is_point.ok sc_is_point (fun vs H Q E h => ?_) (fun cdv A outer s H vs Q E hr h => ?_)
  · obtain ⟨v, z, n, rfl, _⟩ := h
    rfl
  · obtain ⟨v, z, n, rfl, ⟨t, u, w, rfl, et, iu, iw⟩, lz, hn, k⟩ := h
    refine ⟨_, (pss_cons (ps_if (PW.pt (pw_or (pt_not (pt_val (pe_callB (call_isiK' (K := K) rfl) (by rfl) T.b_isinstance (by decide +kernel) (pa_cons (pv 0) (pa_cons (pe_bltn (v := .ty "tuple") (by rfl) T.b_tuple (by decide +kernel) rfl) pa_nil))))) (pw_or1 (pt_cmpR op_ne (pe_callB (call_lenK (K := K) rfl) (by rfl) T.b_len (by decide +kernel) (pa_cons (pv 0) pa_nil)) pe_int (nomark _))))) (pss_one (ps_ret pe_bl)) pss_nil)
 (pss_cons (ps_if (PW.pt (pw_or (pt_not (pt_val (pe_call (ok_is_amount T) (hr.mono (by decide)) (by rfl) T.m_is_amount T.F_is_amount.kp (b_is_amount T) .nil pass0 (pa_cons (pe_ix (ix_tupK (K := K) rfl) (pv 0) (pe_glob (v := .int 0) rfl T.gFlow.choose_spec ⟨_, rfl⟩) (fun _ _ => rfl)) pa_nil)))) (pw_or1 (pt_not (pt_val (pe_call (ok_is_amount T) (hr.mono (by decide)) (by rfl) T.m_is_amount T.F_is_amount.kp (b_is_amount T) .nil pass0 (pa_cons (pe_ix (ix_tupK (K := K) rfl) (pv 0) (pe_glob (v := .int 1) rfl T.gDrop.choose_spec ⟨_, rfl⟩) (fun _ _ => rfl)) pa_nil))))))) (pss_one (ps_ret pe_bl)) pss_nil)
 (pss_one (ps_ret (pe_cmpR op_eq (pe_prop (pe_call (ok_amount_of T) (hr.mono (by decide)) (by rfl) T.m_amount_of T.F_amount_of.kp (b_amount_of T) .nil pass0 (pa_cons (pe_ix (ix_tupK (K := K) rfl) (pv 0) (pe_glob (v := .int 0) rfl T.gFlow.choose_spec ⟨_, rfl⟩) (fun _ _ => rfl)) pa_nil)) T.cl T.p_sign (ok_Amountsign T) (hr.mono (by decide)) (b_Amountsign T) .nil pass0 rfl) (pe_prop (pe_call (ok_amount_of T) (hr.mono (by decide)) (by rfl) T.m_amount_of T.F_amount_of.kp (b_amount_of T) .nil pass0 (pa_cons (pe_ix (ix_tupK (K := K) rfl) (pv 0) (pe_glob (v := .int 1) rfl T.gDrop.choose_spec ⟨_, rfl⟩) (fun _ _ => rfl)) pa_nil)) T.cl T.p_sign (ok_Amountsign T) (hr.mono (by decide)) (b_Amountsign T) .nil pass0 rfl) (nomark _)))))), ?_⟩
    refine ⟨_, rfl, _, _, _, _, true, rfl, .ty _, .base (.tup et), kit_ty (by decide +kernel), true, rfl, iteF ?_⟩
    refine ⟨_, rfl, _, _, rfl, .inr (SqT.of et), rfl, _, rfl, iteN (by simp) ?_⟩
    refine ⟨_, rfl, _, _, _, _, rfl, rfl, SqT.of et, at0, u, _, _, rfl, iu, true, rfl, iteF ?_⟩
    refine ⟨_, rfl, _, _, _, _, rfl, rfl, SqT.of et, at1, w, _, _, rfl, iw, true, rfl, iteF ?_⟩
    refine ⟨_, rfl, _, _, _, _, rfl, rfl, SqT.of et, at0, u, _, _, rfl, iu, lz.x.t.mono hn, fun H1 q s1 aq => ?_⟩
    obtain ⟨dq, eq⟩ := id aq
    refine ⟨q, dq, _, rfl, eq, q, _, _, rfl, aq, ?_⟩
    refine ⟨_, rfl, _, _, _, _, rfl, rfl, SqT.of (s1 _ _ et), at1, w, _, _, rfl, iw.same s1, lz.y.t.mono hn, fun H2 r s2 ar => ?_⟩
    obtain ⟨dr, er⟩ := id ar
    refine ⟨r, dr, _, rfl, er, r, _, _, rfl, ar, rfl, ?_⟩
    have e := k _ (s1.trans s2)
    show Q (.bl (decide (V.int _ = V.int _))) H2
    rw [decide_eq_true (by rw [lz.s])]
    exact e
theorem ok_is_origin (T : Txt K mg a) : FnOk P w K mg base CX0 6 a.f_is_origin a.d_is_origin ["value"] (sp_is_origin a.c_Amount) := by
  refine T.F_is_origin.ok sc_is_origin (fun vs H Q E h => ?_) (fun cdv A outer s H vs Q E hr h => ?_)
  · obtain ⟨v, z, n, rfl, _⟩ := h
    rfl
  · obtain ⟨v, z, n, rfl, hp, lz, hn, k⟩ := h
    refine ⟨_, (pss_one (ps_ret (pe_and (pe_call (ok_is_point T) (hr.mono (by decide)) (by rfl) T.m_is_point T.F_is_point.kp (b_is_point T) .nil pass0 (pa_cons (pv 0) pa_nil)) (pe_one (pe_cmpR op_eq (pe_prop (pe_call (ok_amount_of T) (hr.mono (by decide)) (by rfl) T.m_amount_of T.F_amount_of.kp (b_amount_of T) .nil pass0 (pa_cons (pe_ix (ix_tupK (K := K) rfl) (pv 0) (pe_glob (v := .int 0) rfl T.gFlow.choose_spec ⟨_, rfl⟩) (fun _ _ => rfl)) pa_nil)) T.cl T.p_sign (ok_Amountsign T) (hr.mono (by decide)) (b_Amountsign T) .nil pass0 rfl) pe_int (nomark _)))))), ?_⟩
    refine ⟨_, rfl, v, z, n, rfl, hp, lz, hn, fun H1 s1 => ⟨true, rfl, iteT ?_⟩⟩
    obtain ⟨t, u, w, rfl, et, iu, iw⟩ := hp.same s1
    refine ⟨_, rfl, _, _, _, _, rfl, rfl, SqT.of et, at0, u, _, _, rfl, iu, lz.x.t.mono hn, fun H2 q s2 aq => ?_⟩
    obtain ⟨dq, eq⟩ := id aq
    refine ⟨q, dq, _, rfl, eq, q, _, _, rfl, aq, rfl, ?_⟩
    have e := k _ (s1.trans s2)
    show Q (.bl (decide (V.int (sg z.1.1) = V.int 0))) H2
    rw [show decide (V.int (sg z.1.1) = V.int 0) = decide (z.1.1 = 0) from decide_eq_decide.mpr ⟨fun h => by injection h with h; exact sg0.mp h, fun h => by rw [sg0.mpr h]⟩]
    exact e
theorem ok_rises (T : Txt K mg a) : FnOk P w K mg base CX0 2 a.f_rises a.d_rises ["low", "high"] (sp_rises a.c_Amount) := by
  refine T.F_rises.ok sc_rises (fun vs H Q E h => ?_) (fun cdv A outer s H vs Q E hr h => ?_)
  · obtain ⟨r, r', z, z', n, rfl, _⟩ := h
    rfl
  · obtain ⟨r, r', z, z', n, rfl, ⟨p, q, er, ap, aq⟩, ⟨p', q', er', ap', aq'⟩, l, l', hn, h1, h2, k⟩ := h
    refine ⟨_, (pss_one (ps_ret (pe_and (pe_cmpR (op_ownCmp (n := 1) (C := a.c_Amount) (K := K) rfl (fun _ _ => rfl) T.cLt.at_ T.cLt.fn ((ok_Amount_lt_ T).raw (b_Amount_lt_ T) .nil) (hr.mono (by decide)) pass0) (pe_ix (ix_tupK (K := K) rfl) (pv 0) (pe_glob (v := .int 0) rfl T.gFlow.choose_spec ⟨_, rfl⟩) (fun _ _ => rfl)) (pe_ix (ix_tupK (K := K) rfl) (pv 1) (pe_glob (v := .int 0) rfl T.gFlow.choose_spec ⟨_, rfl⟩) (fun _ _ => rfl)) (nomark _)) (pe_one (pe_cmpR (op_ownCmp (n := 1) (C := a.c_Amount) (K := K) rfl (fun _ _ => rfl) T.cLt.at_ T.cLt.fn ((ok_Amount_lt_ T).raw (b_Amount_lt_ T) .nil) (hr.mono (by decide)) pass0) (pe_ix (ix_tupK (K := K) rfl) (pv 0) (pe_glob (v := .int 1) rfl T.gDrop.choose_spec ⟨_, rfl⟩) (fun _ _ => rfl)) (pe_ix (ix_tupK (K := K) rfl) (pv 1) (pe_glob (v := .int 1) rfl T.gDrop.choose_spec ⟨_, rfl⟩) (fun _ _ => rfl)) (nomark _)))))), ?_⟩
    obtain ⟨d1, e1⟩ := id ap
    obtain ⟨d2, e2⟩ := id ap'
    obtain ⟨d3, e3⟩ := id aq
    obtain ⟨d4, e4⟩ := id aq'
    refine ⟨_, rfl, _, _, _, _, rfl, rfl, SqT.of er, at0, _, rfl, _, _, _, _, rfl, rfl, SqT.of er', at0, p, d1, _, _, rfl, e1, T.I.ty T.cl e2, Inst.nSelf, p, p', _, _, _, _, rfl, ap, ap', l.x.t.mono hn, l.x.b.mono hn, l'.x.t.mono hn, l'.x.b.mono hn, _, rfl, iteP (decide_eq_true h1) ?_⟩
    refine ⟨_, rfl, _, _, _, _, rfl, rfl, SqT.of er, at1, _, rfl, _, _, _, _, rfl, rfl, SqT.of er', at1, q, d3, _, _, rfl, e3, T.I.ty T.cl e4, Inst.nSelf, q, q', _, _, _, _, rfl, aq, aq', l.y.t.mono hn, l.y.b.mono hn, l'.y.t.mono hn, l'.y.b.mono hn, ?_⟩
    show Q (.bl (decide (z.2.1 * z'.2.2 < z'.2.1 * z.2.2))) H
    rw [decide_eq_true (show z.2.1 * z'.2.2 < z'.2.1 * z.2.2 from h2)]
    exact k
end
end K16

set_option Elab.async false
set_option linter.all false
set_option maxRecDepth 100000
set_option maxHeartbeats 4000000
set_option exponentiation.threshold 10000
namespace K16
open PySem L2 Lb
theorem leftB {C p : Addr} {f g : I4} {H : Hp} {v : V} {t b t' b' : Int} {Q : VK} (hp : AmAt C H p t b) (hv : IsP C H v t' b') (b1 : Bd 3000 t) (b2 : Bd 3000 b) (b3 : Bd 3000 t') (b4 : Bd 3000 b') (g0 : g t b t' b' ≠ 0)
    (k : ∀ H' q, Same H H' → AmAt C H' q (rdT (f t b t' b') (g t b t' b')) (rdB (f t b t' b') (g t b t' b')) → Q (.ref q) H') : rBin C (fun vs H Q E => sp_bin C f g (vs ++ []) H Q E) E0 (.ref p) v H Q :=
  let ⟨dx, e⟩ := hp
  ⟨p, dx, _, rfl, e, hv.bin, p, v, t, b, t', b', rfl, hp, hv, b1, b2, b3, b4, g0, k⟩
/-- an amount: its fraction -/
def AmQ (C : Addr) (H : Hp) (q : Addr) (x : Q2) : Prop := AmAt C H q x.1 x.2
theorem AmQ.same {C p : Addr} {H H' : Hp} {x : Q2} (h : AmQ C H p x) (s : Same H H') : AmQ C H' p x := AmAt.same h s
def sd (s : Nat) (z : Pt) : Q2 := if s = 0 then z.1 else z.2
/-- the points of a curve, as the program holds them -/
structure Crv (C : Addr) (H : Hp) (l : Addr) (zs : List Pt) : Prop where
  ex : ∃ rs : List Addr, H l = some (.lst (rs.map V.ref)) ∧ Paired (RowA C H) rs zs
theorem Crv.same {C l : Addr} {H H' : Hp} {zs : List Pt} (h : Crv C H l zs) (s : Same H H') : Crv C H' l zs :=
  let ⟨rs, e, p⟩ := h.ex
  ⟨rs, s _ _ e, Paired.imp p fun _ _ q => q.same s⟩
theorem Crv.at_ {C l : Addr} {H : Hp} {zs : List Pt} (h : Crv C H l zs) : ∃ xs, H l = some (.lst xs) ∧ xs.length = zs.length ∧ ∀ (i : Nat) z, zs[i]? = some z → ∃ r p q, atI xs (i : Int) = some (.ref r) ∧ H r = some (.tup [.ref p, .ref q]) ∧ AmQ C H p z.1 ∧ AmQ C H q z.2 := by
  obtain ⟨rs, e, p⟩ := h.ex
  refine ⟨_, e, by rw [List.length_map]; exact Paired.len p, fun i z hz => ?_⟩
  obtain ⟨r, hr, p', q, er, ap, aq⟩ := Paired.at_r p hz
  exact ⟨r, p', q, at_ref hr, er, ap, aq⟩
/-- part s of such a tuple -/
theorem sd_at {C : Addr} {H : Hp} {p q : Addr} {z : Pt} {s : Nat} (hs : s = 0 ∨ s = 1) (ap : AmQ C H p z.1) (aq : AmQ C H q z.2) : ∃ y, atI [V.ref p, V.ref q] (s : Int) = some (.ref y) ∧ AmQ C H y (sd s z) := by
  rcases hs with rfl | rfl
  · exact ⟨p, at0, ap⟩
  · exact ⟨q, at1, aq⟩
theorem sd_at' {C : Addr} {H : Hp} {p q : Addr} {z : Pt} {s : Nat} (hs : s = 0 ∨ s = 1) (ap : AmQ C H p z.1) (aq : AmQ C H q z.2) : ∃ y, atI [V.ref p, V.ref q] (1 - (s : Int)) = some (.ref y) ∧ AmQ C H y (sd (1 - s) z) := by
  rcases hs with rfl | rfl
  · exact ⟨q, at1, aq⟩
  · exact ⟨p, at0, ap⟩
structure PtN (n : Nat) (z : Pt) : Prop where
  x : Low n z.1
  y : Low n z.2
theorem PtN.sd {n s : Nat} {z : Pt} (h : PtN n z) : Low n (sd s z) := by
  unfold K16.sd
  split
  · exact h.x
  · exact h.y

def ivals : L2.St → Nat → Int := fun σ i => match σ[i]? with
  | some (some (V.int y)) => y
  | _ => 0
section
variable {P : Program} {w : World} {K : PySem.W.Frag} {mg : Str → Option Value} {base : Heap} {a : Ad}
end
end K16

set_option Elab.async false
set_option linter.all false
set_option maxRecDepth 100000
set_option maxHeartbeats 4000000
set_option exponentiation.threshold 10000
namespace K16
open PySem L2 Lb
theorem sub_low {n m k : Nat} {x y : Q2} (hx : Low n x) (hy : Low m y) (h : n + m + 1 ≤ k) : Low k (rd (x.1 * y.2 - y.1 * x.2) (x.2 * y.2)) :=
  rd_low (mul_pos_ne hx.pos hy.pos) (((hx.t.mul hy.b).sub ((hy.t.mul hx.b).mono (by omega))).mono h) ((hx.b.mul hy.b).mono (by omega))
theorem add_low {n m k : Nat} {x y : Q2} (hx : Low n x) (hy : Low m y) (h : n + m + 1 ≤ k) : Low k (rd (x.1 * y.2 + y.1 * x.2) (x.2 * y.2)) :=
  rd_low (mul_pos_ne hx.pos hy.pos) (((hx.t.mul hy.b).add ((hy.t.mul hx.b).mono (by omega))).mono h) ((hx.b.mul hy.b).mono (by omega))
theorem mul_low {n m k : Nat} {x y : Q2} (hx : Low n x) (hy : Low m y) (h : n + m ≤ k) : Low k (rd (x.1 * y.1) (x.2 * y.2)) :=
  rd_low (mul_pos_ne hx.pos hy.pos) ((hx.t.mul hy.t).mono h) ((hx.b.mul hy.b).mono h)
theorem div_low {n m k : Nat} {x y : Q2} (hx : Low n x) (hy : Low m y) (h0 : y.1 ≠ 0) (h : n + m ≤ k) : Low k (rd (x.1 * y.2) (x.2 * y.1)) :=
  rd_low (Int.mul_ne_zero (by have := hx.pos; omega) h0) ((hx.t.mul hy.b).mono h) ((hx.b.mul hy.t).mono (by omega))
section
variable {P : Program} {w : World} {K : PySem.W.Frag} {mg : Str → Option Value} {base : Heap} {a : Ad}
end
end K16

set_option Elab.async false
set_option linter.all false
set_option maxRecDepth 100000
set_option maxHeartbeats 4000000
set_option exponentiation.threshold 10000
namespace K16
open PySem L2 Lb
def isNeg (z : Pt) : Bool := decide (z.1.1 < 0)
def isPos (z : Pt) : Bool := decide (0 < z.1.1)
def org : Pt := ((0, 1), (0, 1))
/-- the points with (0, 0) among them -/
def withO (zs : List Pt) : List Pt := zs.filter isNeg ++ (org :: zs.filter isPos)
def sp_with_origin (C : Addr) : Sp := fun vs H Q _ => ∃ (l : Addr) (zs : List Pt), vs = [.ref l] ∧ Crv C H l zs ∧ zs.length ≤ 100 ∧ ∀ H' l', Same H H' → H l' = none → Crv C H' l' (withO zs) → Q (.ref l') H'
theorem filter_snoc {α : Type} (f : α → Bool) (l : List α) (x : α) : (l ++ [x]).filter f = if f x = true then l.filter f ++ [x] else l.filter f := by
  rw [List.filter_append]
  by_cases h : f x = true
  · simp [h]
  · simp [h]
theorem sg_neg {t : Int} : decide (sg t < 0) = decide (t < 0) := by
  refine decide_eq_decide.mpr ?_
  unfold sg
  split
  · omega
  · split <;> omega
theorem sg_pos {t : Int} : decide (sg t > 0) = decide (0 < t) := by
  refine decide_eq_decide.mpr ?_
  unfold sg
  split
  · omega
  · split <;> omega
theorem paired_append {α β : Type} {R : α → β → Prop} : ∀ {as cs : List α} {bs ds : List β}, Paired R as bs → Paired R cs ds → Paired R (as ++ cs) (bs ++ ds)
  | [], _, [], _, .nil, h => h
  | _ :: _, _, _ :: _, _, .cons h1 h2, h => .cons h1 (paired_append h2 h)
theorem _root_.L2.Same.free' {H H' : Hp} {b : Addr} (s : Same H H') (h : H' b = none) : H b = none := by
  cases z : H b with
  | none => rfl
  | some o =>
    rw [s b o z] at h
    cases h
section
variable {P : Program} {w : World} {K : PySem.W.Frag} {mg : Str → Option Value} {base : Heap} {a : Ad}
theorem ok_with_origin (T : Txt K mg a) : FnOk P w K mg base CX0 4 a.f_with_origin a.d_with_origin ["rows"] (sp_with_origin a.c_Amount) := by
  refine T.F_with_origin.ok sc_with_origin (fun vs H Q E h => ?_) (fun cdv A outer s H vs Q E hr h => ?_)
  · obtain ⟨l, zs, rfl, _⟩ := h
    rfl
  · obtain ⟨l, zs, rfl, hc, hn, k⟩ := h
    refine ⟨_, (pss_cons (ps_setLc (i := 1) (own := [("row", 2)]) rfl sc_with_origin.nd rfl rfl (sw_true rfl rfl rfl (by decide +kernel)) (pi_listK (K := K) rfl (pv 0)) (blkOk_by (own := [("row", 2)]) (N := ["rows", "below", "row", "above"]) (sc := defScope s_with_origin) (by decide +kernel)) (fun _ _ _ _ _ => (pg_name (i := 2) sc_with_origin.nd rfl (by first | exact Or.inl rfl | exact Or.inr rfl))) (fun _ _ _ _ _ => pts_one (pt_cmpR op_lt (pe_prop (pe_ix (ix_tupK (K := K) rfl) (pv 2) (pe_glob (v := .int 0) rfl T.gFlow.choose_spec ⟨_, rfl⟩) (fun _ _ => rfl)) T.cl T.p_sign (ok_Amountsign T) (hr.mono (by decide)) (b_Amountsign T) .nil pass0 rfl) pe_int (nomark _))) (fun _ _ _ _ _ => (pv 2)))
 (pss_cons (ps_setLc (i := 3) (own := [("row", 2)]) rfl sc_with_origin.nd rfl rfl (sw_true rfl rfl rfl (by decide +kernel)) (pi_listK (K := K) rfl (pv 0)) (blkOk_by (own := [("row", 2)]) (N := ["rows", "below", "row", "above"]) (sc := defScope s_with_origin) (by decide +kernel)) (fun _ _ _ _ _ => (pg_name (i := 2) sc_with_origin.nd rfl (by first | exact Or.inl rfl | exact Or.inr rfl))) (fun _ _ _ _ _ => pts_one (pt_cmpR op_gt (pe_prop (pe_ix (ix_tupK (K := K) rfl) (pv 2) (pe_glob (v := .int 0) rfl T.gFlow.choose_spec ⟨_, rfl⟩) (fun _ _ => rfl)) T.cl T.p_sign (ok_Amountsign T) (hr.mono (by decide)) (b_Amountsign T) .nil pass0 rfl) pe_int (nomark _))) (fun _ _ _ _ _ => (pv 2)))
 (pss_one (ps_ret (pe_lst (StX.pa_star (pv 1) (pa_cons (pe_tup (pa_cons (pe_make T.mkA (ok_Amount_init_ T) (hr.mono (by decide)) (by rfl) T.mA (b1_Amount_init_ T).choose_spec.2 (b1_Amount_init_ T).choose_spec.1 pass0 (pa_cons pe_int pa_nil)) (pa_cons (pe_make T.mkA (ok_Amount_init_ T) (hr.mono (by decide)) (by rfl) T.mA (b1_Amount_init_ T).choose_spec.2 (b1_Amount_init_ T).choose_spec.1 pass0 (pa_cons pe_int pa_nil)) pa_nil))) (StX.pa_star (pv 3) pa_nil)))))))), ?_⟩
    obtain ⟨rs, el, pr⟩ := hc.ex
    have lrs : rs.length = zs.length := Paired.len pr
    refine ⟨_, rfl, l, rfl, ⟨_, SqL.of el⟩, fun D hD => ?_⟩
    refine lc_list (K := K) (a := l) (xs := rs.map V.ref) (fun i H' => Same H H' ∧ ∃ bs : List Addr, H' D = some (.lst (bs.map V.ref)) ∧ Paired (RowA a.c_Amount H) bs ((zs.take i).filter isNeg)) ⟨Lb.Same.upd hD, [], upd_same, .nil⟩ (fun i H' _ b => SqL.of (b.1 _ _ el)) ?_ ?_
    · rintro i v H' hi ⟨s', bs, eD, pb⟩
      obtain ⟨r, rfl, hr'⟩ := ref_at hi
      obtain ⟨z, hz, pz⟩ := Paired.at_ pr hr'
      obtain ⟨p, q, er, ap, aq⟩ := id (pz.same s')
      obtain ⟨dp, ep⟩ := id ap
      refine ⟨rfl, ?_⟩
      refine ⟨_, rfl, _, _, _, _, rfl, rfl, SqT.of er, at0, p, dp, _, rfl, ep, p, _, _, rfl, ap, _, _, rfl, rfl, _, rfl, ?_⟩
      rw [← take_snoc hz, filter_snoc]
      refine ite2 (fun h => ?_) (fun h => ?_)
      · have h : isNeg z = true := by
          show decide (z.1.1 < 0) = true
          rw [← sg_neg]
          exact h
        rw [if_pos h]
        refine ⟨_, rfl, bs.map V.ref, eD, ?_, Lb.Same.updl s' hD, bs ++ [r], by rw [upd_same, List.map_append]; rfl, paired_snoc pb pz⟩
        have h1 := Paired.len pb
        have h2 := List.length_filter_le isNeg (zs.take i)
        rw [List.length_take] at h2
        rw [List.length_map]
        exact szlt (by omega)
      · have h : ¬ isNeg z = true := by
          show ¬ decide (z.1.1 < 0) = true
          rw [← sg_neg]
          exact h
        rw [if_neg h]
        exact ⟨s', bs, eD, pb⟩
    rintro H1 ⟨s1, bs, eD, pb⟩
    rw [show (rs.map V.ref).length = zs.length by rw [List.length_map, lrs], List.take_length] at pb
    have el := s1 _ _ el
    have pr := Paired.imp pr fun _ _ h => RowA.same h s1
    refine ⟨_, rfl, l, rfl, ⟨_, SqL.of el⟩, fun D2 hD2 => ?_⟩
    refine lc_list (K := K) (a := l) (xs := rs.map V.ref) (fun i H' => Same H1 H' ∧ ∃ cs : List Addr, H' D2 = some (.lst (cs.map V.ref)) ∧ Paired (RowA a.c_Amount H1) cs ((zs.take i).filter isPos)) ⟨Lb.Same.upd hD2, [], upd_same, .nil⟩ (fun i H' _ b => SqL.of (b.1 _ _ el)) ?_ ?_
    · rintro i v H' hi ⟨s', cs, eC, pc⟩
      obtain ⟨r, rfl, hr'⟩ := ref_at hi
      obtain ⟨z, hz, pz⟩ := Paired.at_ pr hr'
      obtain ⟨p, q, er, ap, aq⟩ := id (pz.same s')
      obtain ⟨dp, ep⟩ := id ap
      refine ⟨rfl, ?_⟩
      refine ⟨_, rfl, _, _, _, _, rfl, rfl, SqT.of er, at0, p, dp, _, rfl, ep, p, _, _, rfl, ap, _, _, rfl, rfl, _, rfl, ?_⟩
      rw [← take_snoc hz, filter_snoc]
      refine ite2 (fun h => ?_) (fun h => ?_)
      · have h : isPos z = true := by
          show decide (0 < z.1.1) = true
          rw [← sg_pos]
          exact h
        rw [if_pos h]
        refine ⟨_, rfl, cs.map V.ref, eC, ?_, Lb.Same.updl s' hD2, cs ++ [r], by rw [upd_same, List.map_append]; rfl, paired_snoc pc pz⟩
        have h1 := Paired.len pc
        have h2 := List.length_filter_le isPos (zs.take i)
        rw [List.length_take] at h2
        rw [List.length_map]
        exact szlt (by omega)
      · have h : ¬ isPos z = true := by
          show ¬ decide (0 < z.1.1) = true
          rw [← sg_pos]
          exact h
        rw [if_neg h]
        exact ⟨s', cs, eC, pc⟩
    rintro H2 ⟨s2, cs, eC, pc⟩
    rw [show (rs.map V.ref).length = zs.length by rw [List.length_map, lrs], List.take_length] at pc
    have eD := s2 _ _ eD
    refine ⟨_, rfl, D, _, rfl, .inr (SqL.of eD), ?_⟩
    refine fun x dx hx hdx ne => ⟨x, dx, 0, 1, rfl, by decide, by show 0 < _; exact Nat.pow_pos (by decide), bd_one, upd_same, fun H3 kp e => ⟨rfl, ?_⟩⟩
    obtain ⟨s3, a3⟩ := made_am hx hdx ne kp e
    refine fun x' dx' hx' hdx' ne' => ⟨x', dx', 0, 1, rfl, by decide, by show 0 < _; exact Nat.pow_pos (by decide), bd_one, upd_same, fun H4 kp' e' => ⟨rfl, ?_⟩⟩
    obtain ⟨s4, a4⟩ := made_am hx' hdx' ne' kp' e'
    rw [rdT_one, rdB_one] at a3 a4
    refine ⟨sz, fun t ht => ?_⟩
    have st := Lb.Same.upd (o := .tup [V.ref x, V.ref x']) ht
    have S2 := (s3.trans s4).trans st
    refine ⟨_, rfl, D2, _, rfl, .inr (SqL.of (S2 _ _ eC)), ?_, fun l' hl' => ?_⟩
    · have h1 := Paired.len pb
      have h2 := Paired.len pc
      have h3 := List.length_filter_le isNeg zs
      have h4 := List.length_filter_le isPos zs
      simp only [List.length_append, List.length_map, List.length_cons, List.length_nil]
      exact szle (by omega)
    · have sl := Lb.Same.upd (o := .lst (bs.map V.ref ++ V.ref t :: (cs.map V.ref ++ []))) hl'
      refine k _ l' (((s1.trans s2).trans S2).trans sl) (((s1.trans s2).trans S2).free' hl') ⟨bs ++ t :: cs, ?_, ?_⟩
      · rw [upd_same]
        simp
      · have S := S2.trans sl
        refine paired_append (Paired.imp pb fun _ _ h => RowA.same h ((s1.trans s2).trans S)) (.cons ⟨x, x', ?_, ?_, ?_⟩ (Paired.imp pc fun _ _ h => RowA.same h (s2.trans S)))
        · exact sl _ _ upd_same
        · exact ((a3.same s4).same st).same sl
        · exact (a4.same st).same sl
end
end K16

set_option Elab.async false
set_option linter.all false
set_option maxRecDepth 100000
set_option maxHeartbeats 4000000
set_option exponentiation.threshold 10000
namespace K16
open PySem L2 Lb
/-- points that may be passed -/
structure Pts (n : Nat) (zs : List Pt) : Prop where
  l : ∀ z ∈ zs, PtL n z
  n : n ≤ 3000
  up : ∀ (i : Nat) z z', zs[i]? = some z → zs[i + 1]? = some z' → ltQ z.1 z'.1 ∧ ltQ z.2 z'.2
  some_ : ∃ z ∈ zs, z.1.1 ≠ 0
  most : zs.length ≤ 80
def sp_checkedL (K : PySem.W.Frag) (C : Addr) : Sp := fun vs H Q _ => ∃ (l : Addr) (ws : List V) (zs : List Pt) (n : Nat), vs = [.ref l] ∧ H l = some (.lst ws) ∧ Paired (PtP C H) ws zs ∧ Pts n zs ∧
  ∀ H' l', Same H H' → Crv C H' l' zs → Q (.ref l') H'
theorem kit_lt {K : PySem.W.Frag} {T : String} (h : T = "list" ∨ T = "tuple") : PySem.W.kitAny K (.type T) [.type "list", .type "tuple"] = some true := by
  rcases h with rfl | rfl
  · unfold PySem.W.kitAny
    rw [show PySem.W.kitOne K (.type "list") (.type "list") = some true from kit_ty (by decide +kernel)]
  · unfold PySem.W.kitAny
    rw [show PySem.W.kitOne K (.type "tuple") (.type "list") = some false from kit_ty (by decide +kernel)]
    show PySem.W.kitAny K (.type "tuple") [.type "tuple"] = some true
    unfold PySem.W.kitAny
    rw [show PySem.W.kitOne K (.type "tuple") (.type "tuple") = some true from kit_ty (by decide +kernel)]
theorem atI_last {α : Type} {xs : List α} {j : Nat} (h : xs.length = j + 1) : atI xs (-1) = xs[j]? := by
  unfold atI ixN
  rw [if_neg (by decide), if_pos (by omega)]
  show xs[(_ : Int).toNat]? = _
  congr 1
  omega
theorem all_org {zs : List Pt} (h : ∃ z ∈ zs, z.1.1 ≠ 0) : ((zs.map fun z => decide (z.1.1 = 0)).all id) = false := by
  obtain ⟨z, hz, h0⟩ := h
  rw [List.all_eq_false]
  exact ⟨_, List.mem_map.mpr ⟨z, hz, rfl⟩, by simp [h0]⟩
section
variable {P : Program} {w : World} {K : PySem.W.Frag} {mg : Str → Option Value} {base : Heap} {a : Ad}
theorem ok_checkedL (T : Txt K mg a) : FnOk P w K mg base CX0 7 a.f_checked a.d_checked ["points"] (sp_checkedL K a.c_Amount) := by
  refine T.F_checked.ok sc_checked (fun vs H Q E h => ?_) (fun cdv A outer s H vs Q E hr h => ?_)
  · obtain ⟨l, ws, zs, n, rfl, _⟩ := h
    rfl
  · obtain ⟨l, ws, zs, n, rfl, el, pw, ps, k⟩ := h
    refine ⟨_, (pss_cons (ps_if (PW.pt (pw_or (pt_not (pt_val (pe_callB (call_isiT (X := _)) (by rfl) T.b_isinstance (by decide +kernel) (pa_cons (pv 0) (pa_cons (pe_tup (pa_cons (pe_bltn (v := .ty "list") (by rfl) T.b_list (by decide +kernel) rfl) (pa_cons (pe_bltn (v := .ty "tuple") (by rfl) T.b_tuple (by decide +kernel) rfl) pa_nil))) pa_nil))))) (pw_or1 (pt_val (pe_callB (cr_allK (K := K) rfl rfl) (by rfl) T.b_all (by decide +kernel) (pa_cons (pe_lc (own := [("point", 1)]) (by rfl) sc_checked.nd (pi_listK (K := K) rfl (pv 0)) (blkOk_by (own := [("point", 1)]) (N := ["points", "point", "rows", "position", "row"]) (sc := defScope s_checked) (by decide +kernel)) (fun _ _ _ _ _ => (pg_name (i := 1) sc_checked.nd rfl (by first | exact Or.inl rfl | exact Or.inr rfl))) (fun _ _ _ _ _ => pts_nil) (fun _ _ _ _ _ => (pe_call (ok_is_origin T) (hr.mono (by decide)) (by rfl) T.m_is_origin T.F_is_origin.kp (b_is_origin T) .nil pass0 (pa_cons (pv 1) pa_nil)))) pa_nil)))))) (pss_one ps_never) pss_nil)
 (pss_cons (ps_set (i := 2) sc_checked.nd rfl (by first | exact Or.inl rfl | exact Or.inr rfl) (pe_lst pa_nil))
 (pss_cons (ps_for PassesOwn.never rfl (pi_enum (by rfl) T.b_enumerate (pa_cons (pv 0) pa_nil)) (pg_tupK (K := K) (n := 2) rfl rfl (pgs_cons (pg_name (i := 3) sc_checked.nd rfl (by first | exact Or.inl rfl | exact Or.inr rfl)) (pgs_cons (pg_name (i := 1) sc_checked.nd rfl (by first | exact Or.inl rfl | exact Or.inr rfl)) pgs_nil))) (pss_cons (ps_if (pt_not (pt_val (pe_call (ok_is_point T) (hr.mono (by decide)) (by rfl) T.m_is_point T.F_is_point.kp (b_is_point T) .nil pass0 (pa_cons (pv 1) pa_nil)))) (pss_one ps_never) pss_nil)
 (pss_cons (ps_set (i := 4) sc_checked.nd rfl (by first | exact Or.inl rfl | exact Or.inr rfl) (pe_tup (pa_cons (pe_call (ok_amount_of T) (hr.mono (by decide)) (by rfl) T.m_amount_of T.F_amount_of.kp (b_amount_of T) .nil pass0 (pa_cons (pe_ix (ix_tupK (K := K) rfl) (pv 1) (pe_glob (v := .int 0) rfl T.gFlow.choose_spec ⟨_, rfl⟩) (fun _ _ => rfl)) pa_nil)) (pa_cons (pe_call (ok_amount_of T) (hr.mono (by decide)) (by rfl) T.m_amount_of T.F_amount_of.kp (b_amount_of T) .nil pass0 (pa_cons (pe_ix (ix_tupK (K := K) rfl) (pv 1) (pe_glob (v := .int 1) rfl T.gDrop.choose_spec ⟨_, rfl⟩) (fun _ _ => rfl)) pa_nil)) pa_nil))))
 (pss_cons (ps_if (PW.pt (pw_and (pt_cmpR op_gt (pv 3) pe_int (nomark _)) (pw_and1 (pt_not (pt_val (pe_call (ok_rises T) (hr.mono (by decide)) (by rfl) T.m_rises T.F_rises.kp (b_rises T) .nil pass0 (pa_cons (pe_ix (ix_listK (K := K) rfl) (pv 2) (pe_un un_neg pe_int) (fun _ _ => rfl)) (pa_cons (pv 4) pa_nil)))))))) (pss_one ps_never) pss_nil)
 (pss_one (ps_expr (pe_bm PySem.F.plainAttrs_list PySem.F.slot_list_append PySem.F.type_list_append mt_append (pv 2) (pa_cons (pv 4) pa_nil))))))))
 (pss_cons (ps_if (pt_cmpR op_gt (pe_callB (call_lenK (K := K) rfl) (by rfl) T.b_len (by decide +kernel) (pa_cons (pv 2) pa_nil)) (pe_glob (v := .int 80) rfl T.gMost.choose_spec ⟨_, rfl⟩) (nomark _)) (pss_one ps_never) pss_nil)
 (pss_one (ps_ret (pv 2))))))), ?_⟩
    have lw : ws.length = zs.length := Paired.len pw
    have l80 := ps.most
    refine ⟨_, rfl, sz, fun tp htp => ?_⟩
    generalize e_H1 : upd _ tp _ = H1
    obtain ⟨s1, ft⟩ := al3 e_H1 htp
    clear e_H1
    (try dsimp only at ft)
    have el := s1 _ _ el
    have pw := Paired.imp pw fun _ _ h => PtP.same h s1
    refine ⟨_, tp, _, _, _, true, rfl, ft, .cons (.ty _) (.cons (.ty _) .nil), .base (.lst el), kit_lt (.inl rfl), true, rfl, iteF ?_⟩
    refine ⟨_, rfl, l, rfl, ⟨_, SqL.of el⟩, fun D hD => ?_⟩
    refine lc_list (K := K) (a := l) (xs := ws) (fun i H' => Same H1 H' ∧ H' D = some (.lst (((zs.take i).map fun z => decide (z.1.1 = 0)).map V.bl))) ⟨Lb.Same.upd hD, upd_same⟩ (fun i H' _ b => SqL.of (b.1 _ _ el)) ?_ ?_
    · rintro i v H' hi ⟨s', eD⟩
      obtain ⟨z, hz, pz⟩ := Paired.at_ pw hi
      have lz := ps.l z (List.mem_of_getElem? hz)
      refine ⟨rfl, ?_⟩
      refine ⟨_, rfl, v, z, n, rfl, pz.same s', lz, by have := ps.n; omega, fun H'' s'' => ⟨_, s'' _ _ eD, ?_, Lb.Same.updl (s'.trans s'') hD, ?_⟩⟩
      · rw [List.length_map, List.length_map, List.length_take]
        exact szlt (by omega)
      · rw [upd_same, ← take_snoc hz, List.map_append, List.map_append]
        rfl
    rintro H2 ⟨s2, eD⟩
    rw [lw, List.take_length] at eD
    refine ⟨D, _, rfl, SqL.of eD, ?_⟩
    rw [all_org ps.some_]
    refine ⟨_, rfl, iteN (by simp) ?_⟩
    have el := s2 _ _ el
    have pw := Paired.imp pw fun _ _ h => PtP.same h s2
    have S2 := s1.trans s2
    refine ⟨sz, fun rl hrl => ?_⟩
    have sr := Lb.Same.upd (o := .lst []) hrl
    refine ⟨_, rfl, l, _, rfl, SqL.of (sr _ _ el), ?_⟩
    refine for_enum (K := K) (a := l) (xs := ws) (fun i σ H' => ∃ u1 u3 u4, σ = [some (.ref l), u1, some (.ref rl), u3, u4] ∧ Same H2 H' ∧ ∃ rs : List Addr, H' rl = some (.lst (rs.map V.ref)) ∧ Paired (RowA a.c_Amount H') rs (zs.take i))
      ⟨_, _, _, rfl, sr, [], upd_same, .nil⟩ (fun i σ H' ⟨_, _, _, _, s, _⟩ => SqL.of (s _ _ el)) ?_ ?_
    · rintro i v T0 σ H' hi ⟨u1, u3, u4, rfl, sH, rs, er, prs⟩ hT0
      obtain ⟨z, hz, pz⟩ := Paired.at_ pw hi
      have lz := ps.l z (List.mem_of_getElem? hz)
      have lrs : rs.length = i := by
        have h1 := Paired.len prs
        have h2 := (List.getElem?_eq_some_iff.mp hz).1
        rw [List.length_take] at h1
        omega
      generalize e_H5 : upd _ T0 _ = H5
      obtain ⟨s5, f5⟩ := al3 e_H5 hT0
      clear e_H5
      (try dsimp only at f5)
      have S5 := sH.trans s5
      refine ⟨T0, _, rfl, SqT.of f5, rfl, _, _, rfl, _, _, rfl, rfl, ?_⟩
      refine ⟨_, rfl, v, z, n, rfl, pz.same S5, lz, by have := ps.n; omega, fun H6 s6 => ⟨true, rfl, iteF ?_⟩⟩
      have S6 := S5.trans s6
      obtain ⟨t, u, w', rfl, et, iu, iw⟩ := pz.same S6
      have hn := ps.n
      refine ⟨_, rfl, _, _, _, _, rfl, rfl, SqT.of et, at0, u, _, _, rfl, iu, lz.x.t.mono (by omega), fun H7 q s7 aq => ?_⟩
      refine ⟨_, rfl, _, _, _, _, rfl, rfl, SqT.of (s7 _ _ et), at1, w', _, _, rfl, iw.same s7, lz.y.t.mono (by omega), fun H8 q' s8 aq' => ⟨sz, fun r hr' => ?_⟩⟩
      generalize e_H9 : upd _ r _ = H9
      obtain ⟨s9, fr⟩ := al3 e_H9 hr'
      clear e_H9
      (try dsimp only at fr)
      have S69 := (s7.trans s8).trans s9
      have S9 := S6.trans S69
      have S59 := s6.trans S69
      have row : RowA a.c_Amount H9 r z := ⟨q, q', fr, (aq.same s8).same s9, aq'.same s9⟩
      have er := (s5.trans S59) _ _ er
      have prs := Paired.imp prs fun _ _ h => RowA.same h (s5.trans S59)
      have fin : ∀ σ', σ' = [some (V.ref l), some (V.ref t), some (V.ref rl), some (V.int i), some (V.ref r)] → ∃ u1 u3 u4, σ' = [some (.ref l), u1, some (.ref rl), u3, u4] ∧ Same H2 (upd H9 rl (.lst (rs.map V.ref ++ [V.ref r]))) ∧ ∃ rs' : List Addr, (upd H9 rl (.lst (rs.map V.ref ++ [V.ref r]))) rl = some (.lst (rs'.map V.ref)) ∧ Paired (RowA a.c_Amount (upd H9 rl (.lst (rs.map V.ref ++ [V.ref r])))) rs' (zs.take (i + 1)) := by
        intro σ' e
        have nl : ∀ {b : Addr} {z : Pt}, RowA a.c_Amount H9 b z → RowA a.c_Amount (upd H9 rl (.lst (rs.map V.ref ++ [V.ref r]))) b z := by
          rintro b z ⟨p1, p2, e1, ⟨d1, a1⟩, d2, a2⟩
          have ne : ∀ {c : Addr} {o : HO}, H9 c = some o → (∀ x, o ≠ .lst x) → upd H9 rl (.lst (rs.map V.ref ++ [V.ref r])) c = some o := fun {c o} hc ho => by
            have : c ≠ rl := fun q => by rw [q, er] at hc; exact ho _ (Option.some.inj hc).symm
            rw [upd_ne this]
            exact hc
          exact ⟨p1, p2, ne e1 (fun _ q => nomatch q), ⟨d1, ne a1 (fun _ q => nomatch q)⟩, d2, ne a2 (fun _ q => nomatch q)⟩
        refine ⟨_, _, _, e, Lb.Same.updl S9 hrl, rs ++ [r], by rw [upd_same, List.map_append]; rfl, ?_⟩
        rw [← take_snoc hz]
        exact paired_snoc (Paired.imp prs fun _ _ h => nl h) (nl row)
      refine ⟨_, rfl, _, _, rfl, rfl, _, rfl, ite2 (fun h0 => ?_) (fun h0 => ?_)⟩
      · have h0 : 0 < i := by
          have : (i : Int) > 0 := of_decide_eq_true h0
          omega
        obtain ⟨z0, hz0⟩ : ∃ z0, zs[i - 1]? = some z0 := ⟨_, List.getElem?_eq_getElem (by have := (List.getElem?_eq_some_iff.mp hz).1; omega)⟩
        have hz' : zs[i - 1 + 1]? = some z := by rw [show i - 1 + 1 = i by omega]; exact hz
        have up := ps.up (i - 1) z0 z hz0 hz'
        have lz0 := ps.l z0 (List.mem_of_getElem? hz0)
        obtain ⟨r0, hr0, row0⟩ := Paired.at_r prs (i := i - 1) (b := z0) (by rw [List.getElem?_take, if_pos (by omega)]; exact hz0)
        have at0' : atI (rs.map V.ref) (-1) = some (.ref r0) := by
          rw [atI_last (j := i - 1) (by rw [List.length_map]; omega), List.getElem?_map, hr0]
          rfl
        refine ⟨_, rfl, _, rfl, _, _, _, _, rfl, rfl, SqL.of er, at0', _, rfl, r0, r, z0, z, n, rfl, row0, row, lz0, lz, by omega, up.1, up.2, true, rfl, iteF ?_⟩
        refine ⟨_, rfl, .inl ⟨rfl, _, SqL.of er⟩, _, rfl, rl, _, _, rfl, rfl, er, szlt (by rw [List.length_map]; have := (List.getElem?_eq_some_iff.mp hz).1; omega), fin _ rfl⟩
      · refine ⟨_, rfl, .inl ⟨rfl, _, SqL.of er⟩, _, rfl, rl, _, _, rfl, rfl, er, szlt (by rw [List.length_map]; have := (List.getElem?_eq_some_iff.mp hz).1; omega), fin _ rfl⟩
    · rintro σ H5 ⟨u1, u3, u4, rfl, S5, rs, er, prs⟩
      rw [lw, List.take_length] at prs
      refine ⟨_, rfl, _, _, rfl, .inl (SqL.of er), _, _, rfl, rfl, _, rfl, iteN ?_ ?_⟩
      · have := Paired.len prs
        rw [List.length_map, decide_eq_true_eq]
        omega
      · exact ⟨_, rfl, k _ rl (S2.trans S5) ⟨rs, er, prs⟩⟩
end
end K16

set_option Elab.async false
set_option linter.all false
set_option maxRecDepth 100000
set_option maxHeartbeats 4000000
set_option exponentiation.threshold 10000
namespace K16
open PySem L2 Lb
def sp_checkedT (K : PySem.W.Frag) (C : Addr) : Sp := fun vs H Q _ => ∃ (l : Addr) (ws : List V) (zs : List Pt) (n : Nat), vs = [.ref l] ∧ H l = some (.tup ws) ∧ Paired (PtP C H) ws zs ∧ Pts n zs ∧
  ∀ H' l', Same H H' → Crv C H' l' zs → Q (.ref l') H'
section
variable {P : Program} {w : World} {K : PySem.W.Frag} {mg : Str → Option Value} {base : Heap} {a : Ad}
theorem ok_checkedT (T : Txt K mg a) : FnOk P w K mg base CX0 7 a.f_checked a.d_checked ["points"] (sp_checkedT K a.c_Amount) := by
  refine T.F_checked.ok sc_checked (fun vs H Q E h => ?_) (fun cdv A outer s H vs Q E hr h => ?_)
  · obtain ⟨l, ws, zs, n, rfl, _⟩ := h
    rfl
  · obtain ⟨l, ws, zs, n, rfl, el, pw, ps, k⟩ := h
    refine ⟨_, (pss_cons (ps_if (PW.pt (pw_or (pt_not (pt_val (pe_callB (call_isiT (X := _)) (by rfl) T.b_isinstance (by decide +kernel) (pa_cons (pv 0) (pa_cons (pe_tup (pa_cons (pe_bltn (v := .ty "list") (by rfl) T.b_list (by decide +kernel) rfl) (pa_cons (pe_bltn (v := .ty "tuple") (by rfl) T.b_tuple (by decide +kernel) rfl) pa_nil))) pa_nil))))) (pw_or1 (pt_val (pe_callB (cr_allK (K := K) rfl rfl) (by rfl) T.b_all (by decide +kernel) (pa_cons (pe_lc (own := [("point", 1)]) (by rfl) sc_checked.nd (pi_tupK (K := K) rfl (pv 0)) (blkOk_by (own := [("point", 1)]) (N := ["points", "point", "rows", "position", "row"]) (sc := defScope s_checked) (by decide +kernel)) (fun _ _ _ _ _ => (pg_name (i := 1) sc_checked.nd rfl (by first | exact Or.inl rfl | exact Or.inr rfl))) (fun _ _ _ _ _ => pts_nil) (fun _ _ _ _ _ => (pe_call (ok_is_origin T) (hr.mono (by decide)) (by rfl) T.m_is_origin T.F_is_origin.kp (b_is_origin T) .nil pass0 (pa_cons (pv 1) pa_nil)))) pa_nil)))))) (pss_one ps_never) pss_nil)
 (pss_cons (ps_set (i := 2) sc_checked.nd rfl (by first | exact Or.inl rfl | exact Or.inr rfl) (pe_lst pa_nil))
 (pss_cons (ps_for PassesOwn.never rfl (pi_enumT (by rfl) T.b_enumerate (pa_cons (pv 0) pa_nil)) (pg_tupK (K := K) (n := 2) rfl rfl (pgs_cons (pg_name (i := 3) sc_checked.nd rfl (by first | exact Or.inl rfl | exact Or.inr rfl)) (pgs_cons (pg_name (i := 1) sc_checked.nd rfl (by first | exact Or.inl rfl | exact Or.inr rfl)) pgs_nil))) (pss_cons (ps_if (pt_not (pt_val (pe_call (ok_is_point T) (hr.mono (by decide)) (by rfl) T.m_is_point T.F_is_point.kp (b_is_point T) .nil pass0 (pa_cons (pv 1) pa_nil)))) (pss_one ps_never) pss_nil)
 (pss_cons (ps_set (i := 4) sc_checked.nd rfl (by first | exact Or.inl rfl | exact Or.inr rfl) (pe_tup (pa_cons (pe_call (ok_amount_of T) (hr.mono (by decide)) (by rfl) T.m_amount_of T.F_amount_of.kp (b_amount_of T) .nil pass0 (pa_cons (pe_ix (ix_tupK (K := K) rfl) (pv 1) (pe_glob (v := .int 0) rfl T.gFlow.choose_spec ⟨_, rfl⟩) (fun _ _ => rfl)) pa_nil)) (pa_cons (pe_call (ok_amount_of T) (hr.mono (by decide)) (by rfl) T.m_amount_of T.F_amount_of.kp (b_amount_of T) .nil pass0 (pa_cons (pe_ix (ix_tupK (K := K) rfl) (pv 1) (pe_glob (v := .int 1) rfl T.gDrop.choose_spec ⟨_, rfl⟩) (fun _ _ => rfl)) pa_nil)) pa_nil))))
 (pss_cons (ps_if (PW.pt (pw_and (pt_cmpR op_gt (pv 3) pe_int (nomark _)) (pw_and1 (pt_not (pt_val (pe_call (ok_rises T) (hr.mono (by decide)) (by rfl) T.m_rises T.F_rises.kp (b_rises T) .nil pass0 (pa_cons (pe_ix (ix_listK (K := K) rfl) (pv 2) (pe_un un_neg pe_int) (fun _ _ => rfl)) (pa_cons (pv 4) pa_nil)))))))) (pss_one ps_never) pss_nil)
 (pss_one (ps_expr (pe_bm PySem.F.plainAttrs_list PySem.F.slot_list_append PySem.F.type_list_append mt_append (pv 2) (pa_cons (pv 4) pa_nil))))))))
 (pss_cons (ps_if (pt_cmpR op_gt (pe_callB (call_lenK (K := K) rfl) (by rfl) T.b_len (by decide +kernel) (pa_cons (pv 2) pa_nil)) (pe_glob (v := .int 80) rfl T.gMost.choose_spec ⟨_, rfl⟩) (nomark _)) (pss_one ps_never) pss_nil)
 (pss_one (ps_ret (pv 2))))))), ?_⟩
    have lw : ws.length = zs.length := Paired.len pw
    have l80 := ps.most
    refine ⟨_, rfl, sz, fun tp htp => ?_⟩
    generalize e_H1 : upd _ tp _ = H1
    obtain ⟨s1, ft⟩ := al3 e_H1 htp
    clear e_H1
    (try dsimp only at ft)
    have el := s1 _ _ el
    have pw := Paired.imp pw fun _ _ h => PtP.same h s1
    refine ⟨_, tp, _, _, _, true, rfl, ft, .cons (.ty _) (.cons (.ty _) .nil), .base (.tup el), kit_lt (.inr rfl), true, rfl, iteF ?_⟩
    refine ⟨_, rfl, l, rfl, ⟨_, SqT.of el⟩, fun D hD => ?_⟩
    refine lc_tup (K := K) (a := l) (xs := ws) (fun i H' => Same H1 H' ∧ H' D = some (.lst (((zs.take i).map fun z => decide (z.1.1 = 0)).map V.bl))) ⟨Lb.Same.upd hD, upd_same⟩ (fun i H' _ b => SqT.of (b.1 _ _ el)) ?_ ?_
    · rintro i v H' hi ⟨s', eD⟩
      obtain ⟨z, hz, pz⟩ := Paired.at_ pw hi
      have lz := ps.l z (List.mem_of_getElem? hz)
      refine ⟨rfl, ?_⟩
      refine ⟨_, rfl, v, z, n, rfl, pz.same s', lz, by have := ps.n; omega, fun H'' s'' => ⟨_, s'' _ _ eD, ?_, Lb.Same.updl (s'.trans s'') hD, ?_⟩⟩
      · rw [List.length_map, List.length_map, List.length_take]
        exact szlt (by omega)
      · rw [upd_same, ← take_snoc hz, List.map_append, List.map_append]
        rfl
    rintro H2 ⟨s2, eD⟩
    rw [lw, List.take_length] at eD
    refine ⟨D, _, rfl, SqL.of eD, ?_⟩
    rw [all_org ps.some_]
    refine ⟨_, rfl, iteN (by simp) ?_⟩
    have el := s2 _ _ el
    have pw := Paired.imp pw fun _ _ h => PtP.same h s2
    have S2 := s1.trans s2
    refine ⟨sz, fun rl hrl => ?_⟩
    have sr := Lb.Same.upd (o := .lst []) hrl
    refine ⟨_, rfl, l, _, rfl, SqT.of (sr _ _ el), ?_⟩
    refine for_enumT (K := K) (a := l) (xs := ws) (fun i σ H' => ∃ u1 u3 u4, σ = [some (.ref l), u1, some (.ref rl), u3, u4] ∧ Same H2 H' ∧ ∃ rs : List Addr, H' rl = some (.lst (rs.map V.ref)) ∧ Paired (RowA a.c_Amount H') rs (zs.take i))
      ⟨_, _, _, rfl, sr, [], upd_same, .nil⟩ (fun i σ H' ⟨_, _, _, _, s, _⟩ => SqT.of (s _ _ el)) ?_ ?_
    · rintro i v T0 σ H' hi ⟨u1, u3, u4, rfl, sH, rs, er, prs⟩ hT0
      obtain ⟨z, hz, pz⟩ := Paired.at_ pw hi
      have lz := ps.l z (List.mem_of_getElem? hz)
      have lrs : rs.length = i := by
        have h1 := Paired.len prs
        have h2 := (List.getElem?_eq_some_iff.mp hz).1
        rw [List.length_take] at h1
        omega
      generalize e_H5 : upd _ T0 _ = H5
      obtain ⟨s5, f5⟩ := al3 e_H5 hT0
      clear e_H5
      (try dsimp only at f5)
      have S5 := sH.trans s5
      refine ⟨T0, _, rfl, SqT.of f5, rfl, _, _, rfl, _, _, rfl, rfl, ?_⟩
      refine ⟨_, rfl, v, z, n, rfl, pz.same S5, lz, by have := ps.n; omega, fun H6 s6 => ⟨true, rfl, iteF ?_⟩⟩
      have S6 := S5.trans s6
      obtain ⟨t, u, w', rfl, et, iu, iw⟩ := pz.same S6
      have hn := ps.n
      refine ⟨_, rfl, _, _, _, _, rfl, rfl, SqT.of et, at0, u, _, _, rfl, iu, lz.x.t.mono (by omega), fun H7 q s7 aq => ?_⟩
      refine ⟨_, rfl, _, _, _, _, rfl, rfl, SqT.of (s7 _ _ et), at1, w', _, _, rfl, iw.same s7, lz.y.t.mono (by omega), fun H8 q' s8 aq' => ⟨sz, fun r hr' => ?_⟩⟩
      generalize e_H9 : upd _ r _ = H9
      obtain ⟨s9, fr⟩ := al3 e_H9 hr'
      clear e_H9
      (try dsimp only at fr)
      have S69 := (s7.trans s8).trans s9
      have S9 := S6.trans S69
      have S59 := s6.trans S69
      have row : RowA a.c_Amount H9 r z := ⟨q, q', fr, (aq.same s8).same s9, aq'.same s9⟩
      have er := (s5.trans S59) _ _ er
      have prs := Paired.imp prs fun _ _ h => RowA.same h (s5.trans S59)
      have fin : ∀ σ', σ' = [some (V.ref l), some (V.ref t), some (V.ref rl), some (V.int i), some (V.ref r)] → ∃ u1 u3 u4, σ' = [some (.ref l), u1, some (.ref rl), u3, u4] ∧ Same H2 (upd H9 rl (.lst (rs.map V.ref ++ [V.ref r]))) ∧ ∃ rs' : List Addr, (upd H9 rl (.lst (rs.map V.ref ++ [V.ref r]))) rl = some (.lst (rs'.map V.ref)) ∧ Paired (RowA a.c_Amount (upd H9 rl (.lst (rs.map V.ref ++ [V.ref r])))) rs' (zs.take (i + 1)) := by
        intro σ' e
        have nl : ∀ {b : Addr} {z : Pt}, RowA a.c_Amount H9 b z → RowA a.c_Amount (upd H9 rl (.lst (rs.map V.ref ++ [V.ref r]))) b z := by
          rintro b z ⟨p1, p2, e1, ⟨d1, a1⟩, d2, a2⟩
          have ne : ∀ {c : Addr} {o : HO}, H9 c = some o → (∀ x, o ≠ .lst x) → upd H9 rl (.lst (rs.map V.ref ++ [V.ref r])) c = some o := fun {c o} hc ho => by
            have : c ≠ rl := fun q => by rw [q, er] at hc; exact ho _ (Option.some.inj hc).symm
            rw [upd_ne this]
            exact hc
          exact ⟨p1, p2, ne e1 (fun _ q => nomatch q), ⟨d1, ne a1 (fun _ q => nomatch q)⟩, d2, ne a2 (fun _ q => nomatch q)⟩
        refine ⟨_, _, _, e, Lb.Same.updl S9 hrl, rs ++ [r], by rw [upd_same, List.map_append]; rfl, ?_⟩
        rw [← take_snoc hz]
        exact paired_snoc (Paired.imp prs fun _ _ h => nl h) (nl row)
      refine ⟨_, rfl, _, _, rfl, rfl, _, rfl, ite2 (fun h0 => ?_) (fun h0 => ?_)⟩
      · have h0 : 0 < i := by
          have : (i : Int) > 0 := of_decide_eq_true h0
          omega
        obtain ⟨z0, hz0⟩ : ∃ z0, zs[i - 1]? = some z0 := ⟨_, List.getElem?_eq_getElem (by have := (List.getElem?_eq_some_iff.mp hz).1; omega)⟩
        have hz' : zs[i - 1 + 1]? = some z := by rw [show i - 1 + 1 = i by omega]; exact hz
        have up := ps.up (i - 1) z0 z hz0 hz'
        have lz0 := ps.l z0 (List.mem_of_getElem? hz0)
        obtain ⟨r0, hr0, row0⟩ := Paired.at_r prs (i := i - 1) (b := z0) (by rw [List.getElem?_take, if_pos (by omega)]; exact hz0)
        have at0' : atI (rs.map V.ref) (-1) = some (.ref r0) := by
          rw [atI_last (j := i - 1) (by rw [List.length_map]; omega), List.getElem?_map, hr0]
          rfl
        refine ⟨_, rfl, _, rfl, _, _, _, _, rfl, rfl, SqL.of er, at0', _, rfl, r0, r, z0, z, n, rfl, row0, row, lz0, lz, by omega, up.1, up.2, true, rfl, iteF ?_⟩
        refine ⟨_, rfl, .inl ⟨rfl, _, SqL.of er⟩, _, rfl, rl, _, _, rfl, rfl, er, szlt (by rw [List.length_map]; have := (List.getElem?_eq_some_iff.mp hz).1; omega), fin _ rfl⟩
      · refine ⟨_, rfl, .inl ⟨rfl, _, SqL.of er⟩, _, rfl, rl, _, _, rfl, rfl, er, szlt (by rw [List.length_map]; have := (List.getElem?_eq_some_iff.mp hz).1; omega), fin _ rfl⟩
    · rintro σ H5 ⟨u1, u3, u4, rfl, S5, rs, er, prs⟩
      rw [lw, List.take_length] at prs
      refine ⟨_, rfl, _, _, rfl, .inl (SqL.of er), _, _, rfl, rfl, _, rfl, iteN ?_ ?_⟩
      · have := Paired.len prs
        rw [List.length_map, decide_eq_true_eq]
        omega
      · exact ⟨_, rfl, k _ rl (S2.trans S5) ⟨rs, er, prs⟩⟩
end
end K16

set_option Elab.async false
set_option linter.all false
set_option maxRecDepth 100000
set_option maxHeartbeats 4000000
set_option exponentiation.threshold 10000
namespace K16
open PySem L2 Lb
/-- an instance that has no field yet is no part of a curve's points -/
theorem Crv.kept {A C q dx l : Addr} {H : Hp} {o : HO} {zs : List Pt} (h : Crv A H l zs) (hq : H q = some (.ins C dx [])) : Crv A (upd H q o) l zs := by
  have far : ∀ {b : Addr} {o' : HO}, H b = some o' → (∀ D d, o' ≠ .ins D d []) → upd H q o b = some o' := fun {b o'} hb no => by
    have : b ≠ q := by
      rintro rfl
      rw [hq] at hb
      exact no _ _ (Option.some.inj hb).symm
    rw [upd_ne this]
    exact hb
  have am_ne : ∀ {t b : Int} {D d D' d' : Addr}, HO.ins D d (am t b) ≠ .ins D' d' [] := by
    intro t b D d D' d' e
    injection e with _ _ e
    have := congrArg (fun f => f.lookup ("_top" : Str)) e
    cases this
  obtain ⟨rs, e, p⟩ := h.ex
  refine ⟨rs, far e (fun _ _ z => nomatch z), Paired.imp p ?_⟩
  rintro r z ⟨p1, p2, e1, ⟨d1, a1⟩, d2, a2⟩
  exact ⟨p1, p2, far e1 (fun _ _ z => nomatch z), ⟨d1, far a1 fun _ _ => am_ne⟩, d2, far a2 fun _ _ => am_ne⟩
def sp_Curve_init_ (A C : Addr) : Sp := fun vs H Q _ => ∃ (q dx l : Addr) (ws : List V) (zs : List Pt) (n : Nat), vs = [.ref q, .ref l] ∧ (H l = some (.lst ws) ∨ H l = some (.tup ws)) ∧ Paired (PtP A H) ws zs ∧ Pts n zs ∧ H q = some (.ins C dx []) ∧
  ∀ H' l', (∀ x o, x ≠ q → H x = some o → H' x = some o) → H l' = none → Crv A H' l' (withO zs) → H' q = some (.ins C dx (putF "_points" (.ref l') [])) → Q .non H'
section
variable {P : Program} {w : World} {K : PySem.W.Frag} {mg : Str → Option Value} {base : Heap} {a : Ad}
theorem ok_Curve_init_ (T : Txt K mg a) : FnOk P w K mg base CX0 8 a.f_Curve_init_ a.d_Curve_init_ ["self", "points"] (sp_Curve_init_ a.c_Amount a.c_Curve) := by
  refine T.F_Curve_init_.ok sc_Curve_init_ (fun vs H Q E h => ?_) (fun cdv A outer s H vs Q E hr h => ?_)
  · obtain ⟨q, dx, l, ws, zs, n, rfl, _⟩ := h
    rfl
  · obtain ⟨q, dx, l, ws, zs, n, rfl, el, pw, ps, hq, k⟩ := h
    have rest : ∀ {H1 : Hp} {l1 : Addr}, Same H H1 → H l1 = none → Crv a.c_Amount H1 l1 (withO zs) → Q .non (upd H1 q (.ins a.c_Curve dx (putF "_points" (.ref l1) []))) := by
      intro H1 l1 s1 n1 c1
      refine k _ l1 (fun x o n e => ?_) n1 (c1.kept (s1 _ _ hq)) upd_same
      rw [upd_ne n]
      exact s1 _ _ e
    rcases el with el | el
    · refine ⟨_, (pss_one (ps_fldK (K := K) rfl (pv 0) (pe_call (ok_with_origin T) (hr.mono (by decide)) (by rfl) T.m_with_origin T.F_with_origin.kp (b_with_origin T) .nil pass0 (pa_cons (pe_call (ok_checkedL T) (hr.mono (by decide)) (by rfl) T.m_checked T.F_checked.kp (b_checked T) .nil pass0 (pa_cons (pv 1) pa_nil)) pa_nil)) rfl)), ?_⟩
      refine ⟨_, rfl, l, ws, zs, n, rfl, el, pw, ps, fun H1 l1 s1 c1 => ⟨l1, zs, rfl, c1, by have := ps.most; omega, fun H2 l2 s2 n2 c2 => ?_⟩⟩
      exact ⟨_, rfl, q, _, dx, _, rfl, (s1.trans s2) _ _ hq, T.cl2, T.nP, (by show 0 < 1000; decide), rest (s1.trans s2) (s1.free' n2) c2⟩
    · refine ⟨_, (pss_one (ps_fldK (K := K) rfl (pv 0) (pe_call (ok_with_origin T) (hr.mono (by decide)) (by rfl) T.m_with_origin T.F_with_origin.kp (b_with_origin T) .nil pass0 (pa_cons (pe_call (ok_checkedT T) (hr.mono (by decide)) (by rfl) T.m_checked T.F_checked.kp (b_checked T) .nil pass0 (pa_cons (pv 1) pa_nil)) pa_nil)) rfl)), ?_⟩
      refine ⟨_, rfl, l, ws, zs, n, rfl, el, pw, ps, fun H1 l1 s1 c1 => ⟨l1, zs, rfl, c1, by have := ps.most; omega, fun H2 l2 s2 n2 c2 => ?_⟩⟩
      exact ⟨_, rfl, q, _, dx, _, rfl, (s1.trans s2) _ _ hq, T.cl2, T.nP, (by show 0 < 1000; decide), rest (s1.trans s2) (s1.free' n2) c2⟩
end
end K16

set_option Elab.async false
set_option linter.all false
set_option maxRecDepth 100000
set_option maxHeartbeats 4000000
set_option exponentiation.threshold 10000
namespace K16
open PySem L2 Lb
/-- a curve: its points -/
structure Cu (A C : Addr) (H : Hp) (c : Addr) (zs : List Pt) : Prop where
  ex : ∃ dx l, H c = some (.ins C dx (putF "_points" (.ref l) [])) ∧ Crv A H l zs
theorem Cu.same {A C c : Addr} {H H' : Hp} {zs : List Pt} (h : Cu A C H c zs) (s : Same H H') : Cu A C H' c zs :=
  let ⟨dx, l, e, k⟩ := h.ex
  ⟨dx, l, s _ _ e, k.same s⟩
theorem cu_at (v : V) : (putF "_points" v ([] : List (Str × V))).lookup ("_points" : Str) = some v := by
  rw [lookup_putF, if_pos rfl]
theorem cu_no {m : Str} (v : V) (h : ¬ m = "_points") : (putF "_points" v ([] : List (Str × V))).lookup m = none := by
  rw [lookup_putF, if_neg h]
  rfl
/-- ascending on side s -/
def Asc (s : Nat) (zs : List Pt) : Prop := ∀ (i : Nat) z z', zs[i]? = some z → zs[i + 1]? = some z' → val (sd s z) < val (sd s z')
/-- the points of a curve that may be asked -/
structure Gd (n : Nat) (zs : List Pt) : Prop where
  p : ∀ z ∈ zs, PtN n z
  n : n ≤ 700
  up : Asc 0 zs
  up1 : Asc 1 zs
  l2 : 2 ≤ zs.length
  l200 : zs.length ≤ 200
def minusF (x y : Q2) : Q2 := rd (x.1 * y.2 - y.1 * x.2) (x.2 * y.2)
def overF (x y : Q2) : Q2 := rd (x.1 * y.2) (x.2 * y.1)
def slope (z z' : Pt) : Q2 := overF (minusF z'.2 z.2) (minusF z'.1 z.1)
theorem minus_ne {x y : Q2} (hx : 0 < x.2) (hy : 0 < y.2) (h : val y < val x) : (minusF x y).1 ≠ 0 := fun q => by
  have p : 0 < (minusF x y).2 := (rd_spec (mul_pos_ne hx hy)).1
  have h1 := (val_eq0 p).mp q
  have h2 : val (minusF x y) = val x - val y := val_sub hx hy
  grind
theorem minus_low {n : Nat} {x y : Q2} (hx : Low n x) (hy : Low n y) : Low (2 * n + 1) (minusF x y) := sub_low hx hy (by omega)
theorem slope_low {n : Nat} {z z' : Pt} (hz : PtN n z) (hz' : PtN n z') (h : val z.1 < val z'.1) : Low (4 * n + 2) (slope z z') :=
  div_low (minus_low hz'.y hz.y) (minus_low hz'.x hz.x) (minus_ne hz'.x.pos hz.x.pos h) (by omega)
def slopeAt (zs : List Pt) (j : Nat) : Q2 := slope (zs.getD j org) (zs.getD (j + 1) org)
def cornersUpto (zs : List Pt) : Nat → List Pt
  | 0 => []
  | i + 1 => cornersUpto zs i ++ (if slopeAt zs i = slopeAt zs (i + 1) then [] else [zs.getD (i + 1) org])
def corners (zs : List Pt) : List Pt := cornersUpto zs (zs.length - 2)
theorem cornersUpto_len (zs : List Pt) : ∀ i, (cornersUpto zs i).length ≤ i
  | 0 => Nat.le_refl _
  | i + 1 => by
    have := cornersUpto_len zs i
    unfold cornersUpto
    rw [List.length_append]
    split
    · show _ + 0 ≤ _
      omega
    · show _ + 1 ≤ _
      omega
theorem getD_of {zs : List Pt} {i : Nat} {z : Pt} (h : zs[i]? = some z) : zs.getD i org = z := by
  rw [List.getD_eq_getElem?_getD, h]
  rfl
def formOf (zs : List Pt) : Q2 × List Pt × Q2 := (slopeAt zs 0, corners zs, slopeAt zs (zs.length - 2))
def sp_points_ (A C : Addr) : Sp := fun vs H Q _ => ∃ (c : Addr) (zs : List Pt), vs = [.ref c] ∧ Cu A C H c zs ∧ zs.length ≤ 200 ∧ ∀ H' l, Same H H' → H l = none → Crv A H' l zs → Q (.ref l) H'
def sp_eqA (C : Addr) : Sp := fun vs H Q _ => ∃ (p q : Addr) (x y : Q2), vs = [.ref p, .ref q] ∧ AmQ C H p x ∧ AmQ C H q y ∧ Q (.bl (decide (x = y))) H
def sp_drop_for_one (C : Addr) : Sp := fun vs H Q _ => ∃ (r r' : Addr) (z z' : Pt) (n : Nat), vs = [.ref r, .ref r'] ∧ RowA C H r z ∧ RowA C H r' z' ∧ PtN n z ∧ PtN n z' ∧ n ≤ 700 ∧ val z.1 < val z'.1 ∧
  ∀ H' q, Same H H' → AmQ C H' q (slope z z') → Q (.ref q) H'
def sp_bends (C : Addr) : Sp := fun vs H Q _ => ∃ (l : Addr) (zs : List Pt) (n : Nat), vs = [.ref l] ∧ Crv C H l zs ∧ Gd n zs ∧ ∀ H' q, Same H H' → H q = none → Crv C H' q (corners zs) → Q (.ref q) H'
def sp_form (C : Addr) : Sp := fun vs H Q _ => ∃ (l : Addr) (zs : List Pt) (n : Nat), vs = [.ref l] ∧ Crv C H l zs ∧ Gd n zs ∧
  ∀ H' f q0 b q1, Same H H' → H' f = some (.lst [.ref q0, .ref b, .ref q1]) → AmQ C H' q0 (slopeAt zs 0) → Crv C H' b (corners zs) → AmQ C H' q1 (slopeAt zs (zs.length - 2)) → Q (.ref f) H'
section
variable {P : Program} {w : World} {K : PySem.W.Frag} {mg : Str → Option Value} {base : Heap} {a : Ad}
theorem ok_Curvepoints (T : Txt K mg a) : FnOk P w K mg base CX0 2 a.f_Curvepoints a.d_Curvepoints ["self"] (sp_points_ a.c_Amount a.c_Curve) := by
  refine T.F_Curvepoints.ok sc_Curvepoints (fun vs H Q E h => ?_) (fun cdv A outer s H vs Q E hr h => ?_)
  · obtain ⟨c, zs, rfl, _⟩ := h
    rfl
  · obtain ⟨c, zs, rfl, hc, _, k⟩ := h
    refine ⟨_, (pss_one (ps_ret (pe_callTy call_list_of (by rfl) T.b_list (by decide +kernel) (pa_cons (pe_fldK (K := K) rfl (pv 0) rfl) pa_nil)))), ?_⟩
    obtain ⟨dx, l, ec, cr⟩ := hc.ex
    obtain ⟨rs, el, pr⟩ := cr.ex
    refine ⟨_, rfl, c, _, dx, _, _, rfl, ec, T.cl2, T.nP, cu_at _, ?_⟩
    refine ⟨_, _, rfl, .inl (SqL.of el), fun q hq => ?_⟩
    have sm := Lb.Same.upd (o := .lst (rs.map V.ref)) hq
    exact k _ q sm hq ⟨rs, upd_same, Paired.imp pr fun _ _ h => h.same sm⟩
theorem ok_Amount_eq_ (T : Txt K mg a) : FnOk P w K mg base CX0 1 a.f_Amount_eq_ a.d_Amount_eq_ ["self", "other"] (sp_eqA a.c_Amount) := by
  refine T.F_Amount_eq_.ok sc_Amount_eq_ (fun vs H Q E h => ?_) (fun cdv A outer s H vs Q E hr h => ?_)
  · obtain ⟨p, q, x, y, rfl, _⟩ := h
    rfl
  · obtain ⟨p, q, x, y, rfl, ⟨dx, hp⟩, ⟨dy, hq⟩, k⟩ := h
    refine ⟨_, (pss_one (ps_ret (pe_and (pe_callB (call_isiK' (K := K) rfl) (by rfl) T.b_isinstance (by decide +kernel) (pa_cons (pv 1) (pa_cons (pe_glob (v := .ref a.c_Amount) rfl T.mA rfl) pa_nil))) (pe_and (pe_cmpR op_eq (pe_fldK (K := K) rfl (pv 0) rfl) (pe_fldK (K := K) rfl (pv 1) rfl) (nomark _)) (pe_one (pe_cmpR op_eq (pe_fldK (K := K) rfl (pv 0) rfl) (pe_fldK (K := K) rfl (pv 1) rfl) (nomark _))))))), ?_⟩
    refine ⟨_, rfl, _, _, _, _, true, rfl, .own _, .base (T.I.ty T.cl hq), Inst.kSelf, true, rfl, iteT ?_⟩
    refine ⟨_, rfl, p, _, dx, _, _, rfl, hp, T.cl, T.nT, am_top _ _, _, rfl, q, _, dy, _, _, rfl, hq, T.cl, T.nT, am_top _ _, rfl, _, rfl, ?_⟩
    rw [show decide (V.int x.1 = V.int y.1) = decide (x.1 = y.1) by simp]
    refine ite2 (fun h1 => ?_) (fun h1 => ?_)
    · refine ⟨_, rfl, p, _, dx, _, _, rfl, hp, T.cl, T.nB, am_bot _ _, _, rfl, q, _, dy, _, _, rfl, hq, T.cl, T.nB, am_bot _ _, rfl, ?_⟩
      have h1 : x.1 = y.1 := of_decide_eq_true h1
      rw [show decide (V.int x.2 = V.int y.2) = decide (x = y) from decide_eq_decide.mpr ⟨fun e => by injection e with e; exact Prod.ext h1 e, fun e => by rw [e]⟩]
      exact k
    · have h1 : ¬ x.1 = y.1 := fun e => h1 (decide_eq_true e)
      rw [decide_eq_false fun e => h1 (by rw [e])] at k
      exact k
theorem ok_drop_for_one (T : Txt K mg a) : FnOk P w K mg base CX0 6 a.f_drop_for_one a.d_drop_for_one ["low", "high"] (sp_drop_for_one a.c_Amount) := by
  refine T.F_drop_for_one.ok sc_drop_for_one (fun vs H Q E h => ?_) (fun cdv A outer s H vs Q E hr h => ?_)
  · obtain ⟨r, r', z, z', n, rfl, _⟩ := h
    rfl
  · obtain ⟨r, r', z, z', n, rfl, ⟨p, q, er, ap, aq⟩, ⟨p', q', er', ap', aq'⟩, lz, lz', hn, lt, k⟩ := h
    refine ⟨_, (pss_one (ps_ret (pe_meth (pe_op (op_ownBin (K := K) (E := E0) rfl T.oSub ((ok_Amount_sub_ T).raw (b_Amount_sub_ T) .nil) (hr.mono (by decide))) (pe_ix (ix_tupK (K := K) rfl) (pv 1) (pe_glob (v := .int 1) rfl T.gDrop.choose_spec ⟨_, rfl⟩) (fun _ _ => rfl)) (pe_ix (ix_tupK (K := K) rfl) (pv 0) (pe_glob (v := .int 1) rfl T.gDrop.choose_spec ⟨_, rfl⟩) (fun _ _ => rfl))) T.cl T.mOver (ok_Amountover T) (hr.mono (by decide)) (b_Amountover T) .nil pass0 (pa_cons (pe_op (op_ownBin (K := K) (E := E0) rfl T.oSub ((ok_Amount_sub_ T).raw (b_Amount_sub_ T) .nil) (hr.mono (by decide))) (pe_ix (ix_tupK (K := K) rfl) (pv 1) (pe_glob (v := .int 0) rfl T.gFlow.choose_spec ⟨_, rfl⟩) (fun _ _ => rfl)) (pe_ix (ix_tupK (K := K) rfl) (pv 0) (pe_glob (v := .int 0) rfl T.gFlow.choose_spec ⟨_, rfl⟩) (fun _ _ => rfl))) pa_nil)))), ?_⟩
    have b3 : ∀ {j : Nat} {v : Q2}, Low j v → j ≤ 3000 → Bd 3000 v.1 ∧ Bd 3000 v.2 := fun h k => ⟨h.t.mono k, h.b.mono k⟩
    refine ⟨_, rfl, _, _, _, _, rfl, rfl, SqT.of er', at1, _, rfl, _, _, _, _, rfl, rfl, SqT.of er, at1, ?_⟩
    refine leftB aq' (.inr ⟨q, rfl, aq⟩) (b3 lz'.y (by omega)).1 (b3 lz'.y (by omega)).2 (b3 lz.y (by omega)).1 (b3 lz.y (by omega)).2 (mul_pos_ne lz'.y.pos lz.y.pos) fun H1 q1 s1 a1 => ?_
    have a1 : AmQ a.c_Amount H1 q1 (minusF z'.2 z.2) := a1
    obtain ⟨d1, e1⟩ := id a1
    refine ⟨q1, d1, _, rfl, e1, am_no _ _ (by decide +kernel) (by decide +kernel), ?_⟩
    refine ⟨_, rfl, _, _, _, _, rfl, rfl, SqT.of (s1 _ _ er'), at0, _, rfl, _, _, _, _, rfl, rfl, SqT.of (s1 _ _ er), at0, ?_⟩
    refine leftB (ap'.same s1) (.inr ⟨p, rfl, ap.same s1⟩) (b3 lz'.x (by omega)).1 (b3 lz'.x (by omega)).2 (b3 lz.x (by omega)).1 (b3 lz.x (by omega)).2 (mul_pos_ne lz'.x.pos lz.x.pos) fun H2 q2 s2 a2 => ?_
    have a2 : AmQ a.c_Amount H2 q2 (minusF z'.1 z.1) := a2
    have m1 := minus_low lz'.y lz.y
    have m2 := minus_low lz'.x lz.x
    refine ⟨q1, _, _, _, _, _, rfl, a1.same s2, .inr ⟨q2, rfl, a2⟩, (b3 m1 (by omega)).1, (b3 m1 (by omega)).2, (b3 m2 (by omega)).1, (b3 m2 (by omega)).2, Int.mul_ne_zero (by have := m1.pos; omega) (minus_ne lz'.x.pos lz.x.pos lt), fun H3 q3 s3 a3 => k _ q3 ((s1.trans s2).trans s3) a3⟩
theorem ok_bends (T : Txt K mg a) : FnOk P w K mg base CX0 7 a.f_bends a.d_bends ["points"] (sp_bends a.c_Amount) := by
  refine T.F_bends.ok sc_bends (fun vs H Q E h => ?_) (fun cdv A outer s H vs Q E hr h => ?_)
  · obtain ⟨l, zs, n, rfl, _⟩ := h
    rfl
  · obtain ⟨l, zs, n, rfl, hc, g, k⟩ := h
    refine ⟨_, (pss_cons (ps_set (i := 1) sc_bends.nd rfl (by first | exact Or.inl rfl | exact Or.inr rfl) (pe_lc (own := [("at", 2)]) (by rfl) sc_bends.nd (pi_range1 rfl T.b_range (pa_cons (pe_op op_sub (pe_callB (call_lenK (K := K) rfl) (by rfl) T.b_len (by decide +kernel) (pa_cons (pv 0) pa_nil)) pe_int) pa_nil)) (blkOk_by (own := [("at", 2)]) (N := ["points", "steep", "at"]) (sc := defScope s_bends) (by decide +kernel)) (fun _ _ _ _ _ => (pg_name (i := 2) sc_bends.nd rfl (by first | exact Or.inl rfl | exact Or.inr rfl))) (fun _ _ _ _ _ => pts_nil) (fun _ _ _ _ _ => (pe_call (ok_drop_for_one T) (hr.mono (by decide)) (by rfl) T.m_drop_for_one T.F_drop_for_one.kp (b_drop_for_one T) .nil pass0 (pa_cons (pe_ix (ix_listK (K := K) rfl) (pv 0) (pv 2) (fun _ _ => rfl)) (pa_cons (pe_ix (ix_listK (K := K) rfl) (pv 0) (pe_op op_add (pv 2) pe_int) (fun _ _ => rfl)) pa_nil))))))
 (pss_one (ps_ret (pe_lc (own := [("at", 2)]) (by rfl) sc_bends.nd (pi_range2 rfl T.b_range (pa_cons pe_int (pa_cons (pe_callB (call_lenK (K := K) rfl) (by rfl) T.b_len (by decide +kernel) (pa_cons (pv 1) pa_nil)) pa_nil))) (blkOk_by (own := [("at", 2)]) (N := ["points", "steep", "at"]) (sc := defScope s_bends) (by decide +kernel)) (fun _ _ _ _ _ => (pg_name (i := 2) sc_bends.nd rfl (by first | exact Or.inl rfl | exact Or.inr rfl))) (fun _ _ _ _ _ => pts_one (pt_cmpR (op_ownNe (n := 1) (C := a.c_Amount) (K := K) rfl T.cNe T.I.cm T.cEq.at_ T.cEq.fn ((ok_Amount_eq_ T).raw (b_Amount_eq_ T) .nil) (hr.mono (by decide)) pass0) (pe_ix (ix_listK (K := K) rfl) (pv 1) (pe_op op_sub (pv 2) pe_int) (fun _ _ => rfl)) (pe_ix (ix_listK (K := K) rfl) (pv 1) (pv 2) (fun _ _ => rfl)) (nomark _))) (fun _ _ _ _ _ => (pe_ix (ix_listK (K := K) rfl) (pv 0) (pv 2) (fun _ _ => rfl))))))), ?_⟩
    have g2 := g.l2
    have g200 := g.l200
    obtain ⟨rs, el, pr⟩ := hc.ex
    have lrs := Paired.len pr
    refine ⟨_, rfl, _, _, rfl, .inl (SqL.of el), _, _, rfl, rfl, ?_⟩
    have elen : (((rs.map V.ref).length : Nat) : Int) - 1 = ((zs.length - 1 : Nat) : Int) := by rw [List.length_map, lrs]; omega
    refine ⟨((zs.length - 1 : Nat) : Int), congrArg (fun z => [V.int z]) elen, by omega, by omega, fun D hD => ?_⟩
    refine lc_range (lo := 0) (n := zs.length - 1) (fun i H' => Same H H' ∧ ∃ bs : List Addr, H' D = some (.lst (bs.map V.ref)) ∧ Paired (AmQ a.c_Amount H') bs ((List.range i).map (slopeAt zs))) ⟨Lb.Same.upd hD, [], upd_same, .nil⟩ ?_ ?_
    · rintro i H' hi ⟨s1, bs, eD, pb⟩
      obtain ⟨z, hz⟩ : ∃ z, zs[i]? = some z := ⟨_, List.getElem?_eq_getElem (by omega)⟩
      obtain ⟨z', hz'⟩ : ∃ z, zs[i + 1]? = some z := ⟨_, List.getElem?_eq_getElem (by omega)⟩
      obtain ⟨r, hr', row⟩ := Paired.at_r pr hz
      obtain ⟨r', hr2, row'⟩ := Paired.at_r pr hz'
      refine ⟨rfl, ?_⟩
      refine ⟨_, rfl, _, rfl, _, _, _, _, rfl, rfl, SqL.of (s1 _ _ el), by rw [Int.zero_add]; exact at_ref hr', ?_⟩
      refine ⟨_, rfl, _, rfl, _, _, rfl, rfl, _, _, _, _, rfl, rfl, SqL.of (s1 _ _ el), by rw [Int.zero_add]; exact at_ref hr2, ?_⟩
      refine ⟨r, r', z, z', n, rfl, row.same s1, row'.same s1, g.p z (List.mem_of_getElem? hz), g.p z' (List.mem_of_getElem? hz'), g.n, g.up i z z' hz hz', fun H'' q s'' aq => ?_⟩
      have eD2 := s'' _ _ eD
      have lb := Paired.len pb
      rw [List.length_map, List.length_range] at lb
      have nl : ∀ {b : Addr} {x : Q2}, AmQ a.c_Amount H'' b x → AmQ a.c_Amount (upd H'' D (.lst (bs.map V.ref ++ [V.ref q]))) b x := fun {b x} ⟨dx, e⟩ => ⟨dx, NL.upd eD2 _ _ (fun _ z => nomatch z) e⟩
      refine ⟨_, eD2, szlt (by rw [List.length_map]; omega), Lb.Same.updl (s1.trans s'') hD, bs ++ [q], by rw [upd_same, List.map_append]; rfl, ?_⟩
      rw [List.range_succ, List.map_append]
      refine paired_snoc (Paired.imp pb fun _ _ h => nl (AmQ.same h s'')) ?_
      show AmQ _ _ q (slopeAt zs i)
      unfold slopeAt
      rw [getD_of hz, getD_of hz']
      exact nl aq
    rintro H1 ⟨s1, bs, eD, pb⟩
    have lb := Paired.len pb
    rw [List.length_map, List.length_range] at lb
    refine ⟨_, rfl, _, _, rfl, .inl (SqL.of eD), ?_⟩
    have el1 := s1 _ _ el
    have pr1 := Paired.imp pr fun _ _ h => RowA.same h s1
    refine ⟨1, ((zs.length - 1 : Nat) : Int), by rw [List.length_map, lb], ?_⟩
    have en : (((zs.length - 1 : Nat) : Int) - 1).toNat = zs.length - 2 := by omega
    refine ⟨⟨by decide, by decide, by omega, by omega⟩, fun D2 hD2 => ?_⟩
    refine lc_range (lo := 1) (n := (((zs.length - 1 : Nat) : Int) - 1).toNat) (fun i H' => Same H1 H' ∧ ∃ cs : List Addr, H' D2 = some (.lst (cs.map V.ref)) ∧ Paired (RowA a.c_Amount H1) cs (cornersUpto zs i)) ⟨Lb.Same.upd hD2, [], upd_same, .nil⟩ ?_ ?_
    · rintro i H' hi ⟨s2, cs, eC, pc⟩
      rw [en] at hi
      have i1 : ((List.range (zs.length - 1)).map (slopeAt zs))[i]? = some (slopeAt zs i) := by
        rw [List.getElem?_map, List.getElem?_range (by omega)]
        rfl
      have i2 : ((List.range (zs.length - 1)).map (slopeAt zs))[i + 1]? = some (slopeAt zs (i + 1)) := by
        rw [List.getElem?_map, List.getElem?_range (by omega)]
        rfl
      obtain ⟨q1, h1, a1⟩ := Paired.at_r pb i1
      obtain ⟨q2, h2, a2⟩ := Paired.at_r pb i2
      have a1 := AmQ.same a1 s2
      have a2 := AmQ.same a2 s2
      obtain ⟨d1, e1⟩ := id a1
      obtain ⟨d2, e2⟩ := id a2
      have eD2 := s2 _ _ eD
      refine ⟨rfl, ?_⟩
      refine ⟨_, rfl, _, rfl, _, _, rfl, rfl, _, _, _, _, rfl, rfl, SqL.of eD2, by rw [show (1 : Int) + (i : Int) - 1 = (i : Int) by omega]; exact at_ref h1, ?_⟩
      refine ⟨_, rfl, _, rfl, _, _, _, _, rfl, rfl, SqL.of eD2, by rw [show (1 : Int) + (i : Int) = ((i + 1 : Nat) : Int) by omega]; exact at_ref h2, ?_⟩
      refine ⟨q1, d1, _, _, rfl, e1, T.I.ty T.cl e2, Inst.nSelf, q1, q2, _, _, rfl, a1, a2, _, rfl, _, rfl, ?_⟩
      have lc := cornersUpto_len zs i
      have lcs := Paired.len pc
      unfold cornersUpto
      refine ite2 (fun h => ?_) (fun h => ?_)
      · have h : ¬ slopeAt zs i = slopeAt zs (i + 1) := by simpa using h
        rw [if_neg h]
        obtain ⟨z, hz⟩ : ∃ z, zs[i + 1]? = some z := ⟨_, List.getElem?_eq_getElem (by omega)⟩
        obtain ⟨r, hr', row⟩ := Paired.at_r pr1 hz
        refine ⟨_, rfl, _, rfl, _, _, _, _, rfl, rfl, SqL.of (s2 _ _ el1), by rw [show (1 : Int) + (i : Int) = ((i + 1 : Nat) : Int) by omega]; exact at_ref hr', cs.map V.ref, eC, szlt (by rw [List.length_map]; omega), Lb.Same.updl s2 hD2, cs ++ [r], by rw [upd_same, List.map_append]; rfl, ?_⟩
        rw [getD_of hz]
        exact paired_snoc pc row
      · have h : slopeAt zs i = slopeAt zs (i + 1) := by simpa using h
        rw [if_pos h, List.append_nil]
        exact ⟨s2, cs, eC, pc⟩
    rintro H2 ⟨s2, cs, eC, pc⟩
    rw [en] at pc
    exact k _ D2 (s1.trans s2) (Same.free' s1 hD2) ⟨cs, eC, Paired.imp pc fun _ _ h => RowA.same h s2⟩
theorem ok_form (T : Txt K mg a) : FnOk P w K mg base CX0 8 a.f_form a.d_form ["points"] (sp_form a.c_Amount) := by
  refine T.F_form.ok sc_form (fun vs H Q E h => ?_) (fun cdv A outer s H vs Q E hr h => ?_)
  · obtain ⟨l, zs, n, rfl, _⟩ := h
    rfl
  · obtain ⟨l, zs, n, rfl, hc, g, k⟩ := h
    refine ⟨_, (pss_one (ps_ret (pe_lst (pa_cons (pe_call (ok_drop_for_one T) (hr.mono (by decide)) (by rfl) T.m_drop_for_one T.F_drop_for_one.kp (b_drop_for_one T) .nil pass0 (pa_cons (pe_ix (ix_listK (K := K) rfl) (pv 0) pe_int (fun _ _ => rfl)) (pa_cons (pe_ix (ix_listK (K := K) rfl) (pv 0) pe_int (fun _ _ => rfl)) pa_nil))) (pa_cons (pe_call (ok_bends T) (hr.mono (by decide)) (by rfl) T.m_bends T.F_bends.kp (b_bends T) .nil pass0 (pa_cons (pv 0) pa_nil)) (pa_cons (pe_call (ok_drop_for_one T) (hr.mono (by decide)) (by rfl) T.m_drop_for_one T.F_drop_for_one.kp (b_drop_for_one T) .nil pass0 (pa_cons (pe_ix (ix_listK (K := K) rfl) (pv 0) (pe_un un_neg pe_int) (fun _ _ => rfl)) (pa_cons (pe_ix (ix_listK (K := K) rfl) (pv 0) (pe_un un_neg pe_int) (fun _ _ => rfl)) pa_nil))) pa_nil)))))), ?_⟩
    have g2 := g.l2
    obtain ⟨rs, el, pr⟩ := id hc.ex
    have lrs := Paired.len pr
    have two : ∀ i : Nat, i + 1 < zs.length → ∃ r r' z z', rs[i]? = some r ∧ rs[i + 1]? = some r' ∧ RowA a.c_Amount H r z ∧ RowA a.c_Amount H r' z' ∧ PtN n z ∧ PtN n z' ∧ val z.1 < val z'.1 ∧ slope z z' = slopeAt zs i := by
      intro i hi
      obtain ⟨z, hz⟩ : ∃ z, zs[i]? = some z := ⟨_, List.getElem?_eq_getElem (by omega)⟩
      obtain ⟨z', hz'⟩ : ∃ z, zs[i + 1]? = some z := ⟨_, List.getElem?_eq_getElem (by omega)⟩
      obtain ⟨r, hr', row⟩ := Paired.at_r pr hz
      obtain ⟨r', hr2, row'⟩ := Paired.at_r pr hz'
      exact ⟨r, r', z, z', hr', hr2, row, row', g.p z (List.mem_of_getElem? hz), g.p z' (List.mem_of_getElem? hz'), g.up i z z' hz hz', by unfold slopeAt; rw [getD_of hz, getD_of hz']⟩
    obtain ⟨r0, r1, z0, z1, h0, h1, w0, w1, p0, p1, u0, e0⟩ := two 0 (by omega)
    obtain ⟨r2, r3, z2, z3, h2, h3, w2, w3, p2, p3, u2, e2⟩ := two (zs.length - 2) (by omega)
    refine ⟨_, rfl, _, _, _, _, rfl, rfl, SqL.of el, at_ref (i := 0) h0, _, rfl, _, _, _, _, rfl, rfl, SqL.of el, at_ref (i := 1) h1, r0, r1, z0, z1, n, rfl, w0, w1, p0, p1, g.n, u0, fun H1 q0 s1 a0 => ?_⟩
    refine ⟨_, rfl, l, zs, n, rfl, hc.same s1, g, fun H2 b s2 _ cb => ?_⟩
    have S2 := s1.trans s2
    refine ⟨_, rfl, _, rfl, _, _, _, _, rfl, rfl, SqL.of (S2 _ _ el), by rw [atI_last2 (j := zs.length - 2) (by rw [List.length_map]; omega), List.getElem?_map, h2]; rfl, ?_⟩
    refine ⟨_, rfl, _, rfl, _, _, _, _, rfl, rfl, SqL.of (S2 _ _ el), by rw [atI_last (j := zs.length - 2 + 1) (by rw [List.length_map]; omega), List.getElem?_map, h3]; rfl, r2, r3, z2, z3, n, rfl, w2.same S2, w3.same S2, p2, p3, g.n, u2, fun H3 q1 s3 a1 => ⟨sz, fun f hf => ?_⟩⟩
    have sf := Lb.Same.upd (o := .lst [.ref q0, .ref b, .ref q1]) hf
    rw [e0] at a0
    rw [e2] at a1
    exact k _ f q0 b q1 ((S2.trans s3).trans sf) upd_same (((a0.same s2).same s3).same sf) ((cb.same s3).same sf) (a1.same sf)
end
end K16

set_option Elab.async false
set_option linter.all false
set_option maxRecDepth 100000
set_option maxHeartbeats 4000000
set_option exponentiation.threshold 10000
namespace K16
open PySem L2 Lb
/-! curves compared -/
def DAm (C : Addr) : EqvB := DInsB C fun p q H c => ∃ x y : Q2, AmQ C H p x ∧ AmQ C H q y ∧ c = decide (x = y)
theorem amQ_inj {C p : Addr} {H : Hp} {x y : Q2} (h : AmQ C H p x) (k : AmQ C H p y) : x = y := by
  obtain ⟨d1, e1⟩ := h
  obtain ⟨d2, e2⟩ := k
  rw [e1] at e2
  have e := Option.some.inj e2
  injection e with _ _ e
  have t := congrArg (fun f => f.lookup ("_top" : Str)) e
  have b := congrArg (fun f => f.lookup ("_bottom" : Str)) e
  simp only [am_top, am_bot] at t b
  injection t with t
  injection b with b
  injection t with t
  injection b with b
  exact Prod.ext t b
theorem dAm {C p q : Addr} {H : Hp} {x y : Q2} (h : AmQ C H p x) (k : AmQ C H q y) : DAm C (.ref p) (.ref q) H (decide (x = y)) :=
  let ⟨d1, e1⟩ := id h
  let ⟨d2, e2⟩ := id k
  ⟨p, q, d1, d2, _, _, rfl, rfl, e1, e2, x, y, h, k, rfl⟩
theorem mon_am {C : Addr} : MonB (DAm C) := mon_insB fun p q H H' c e ⟨x, y, ax, ay, h⟩ => ⟨x, y, AmQ.same ax e, AmQ.same ay e, h⟩
theorem refl_am {C : Addr} : ReflB (DAm C) := by
  rintro x H c ⟨a, b, dx, dy, fs, gs, hx, hy, _, _, x1, y1, ax, ay, e⟩
  rw [hx] at hy
  cases hy
  rw [e]
  exact decide_eq_true (amQ_inj ax ay)
theorem dTup {C r r' : Addr} {H : Hp} {z z' : Pt} (h : RowA C H r z) (k : RowA C H r' z') : DTupH (DAm C) (.ref r) (.ref r') H (decide (z = z')) := by
  obtain ⟨p, q, e, ap, aq⟩ := h
  obtain ⟨p', q', e', ap', aq'⟩ := k
  refine ⟨r, r', _, _, fun i => if i = 0 then decide (z.1 = z'.1) else decide (z.2 = z'.2), rfl, rfl, e, e', ⟨rfl, fun i x y hx hy => ?_⟩, ?_⟩
  · cases i with
    | zero =>
      cases hx
      cases hy
      exact dAm ap ap'
    | succ i =>
      cases i with
      | zero =>
        cases hx
        cases hy
        exact dAm aq aq'
      | succ i => simp at hx
  · show decide (z = z') = (decide (z.1 = z'.1) && (decide (z.2 = z'.2) && true))
    rw [Bool.and_true, Bool.eq_iff_iff, Bool.and_eq_true, decide_eq_true_eq, decide_eq_true_eq, decide_eq_true_eq, Prod.ext_iff]
theorem dLst {C l l' : Addr} {H : Hp} {zs zs' : List Pt} (h : Crv C H l zs) (k : Crv C H l' zs') : DListB (DTupH (DAm C)) (.ref l) (.ref l') H (decide (zs = zs')) := by
  obtain ⟨rs, e, p⟩ := h.ex
  obtain ⟨rs', e', p'⟩ := k.ex
  have l1 := Paired.len p
  have l2 := Paired.len p'
  refine ⟨l, l', _, _, rfl, rfl, e, e', ?_⟩
  by_cases hl : zs.length = zs'.length
  · refine .inr ⟨fun i => decide (zs.getD i org = zs'.getD i org), ⟨by rw [List.length_map, List.length_map]; omega, fun i x y hx hy => ?_⟩, ?_⟩
    · obtain ⟨r, rfl, hr⟩ := ref_at hx
      obtain ⟨r', rfl, hr'⟩ := ref_at hy
      obtain ⟨z, hz, w⟩ := Paired.at_ p hr
      obtain ⟨z', hz', w'⟩ := Paired.at_ p' hr'
      show DTupH _ _ _ _ (decide (zs.getD i org = zs'.getD i org))
      rw [getD_of hz, getD_of hz']
      exact dTup w w'
    · rw [List.length_map, l1]
      exact (all_range_eq org hl).symm
  · exact .inl ⟨by rw [List.length_map, List.length_map]; omega, decide_eq_false fun q => hl (by rw [q])⟩
abbrev DTop (C : Addr) : EqvB := fun x y H c => DAm C x y H c ∨ DListB (DTupH (DAm C)) x y H c
theorem rcForm {X : Cx} {a : Ad} (T : Txt X.K X.mg a) : RcGB X 4 (DListB (DTop a.c_Amount)) := by
  have r1 : RcGB X 1 (DAm a.c_Amount) := rcGB_ins (E := E0) (ok_Amount_eq_ T) (fun p q H c ⟨x, y, ax, ay, e⟩ Q k => ⟨p, q, x, y, rfl, ax, ay, e ▸ k H Ext.rfl'⟩) T.cEq.at_ T.cEq.fn (b_Amount_eq_ T) pass0
  have e1 : EqGB X 1 (DAm a.c_Amount) := r1.eqG fun x y H c d => by
    obtain ⟨p, q, dx, dy, fs, gs, hx, hy, h1, h2, x1, y1, ax, ay, e⟩ := d
    refine ⟨p, q, hx, hy, fun e' => ?_⟩
    subst e'
    rw [e]
    exact decide_eq_true (amQ_inj ax ay)
  have e2 := eqGB_tupH mon_am refl_am e1
  have e3 := eqGB_list (mon_tupH mon_am) (refl_tupH refl_am) e2
  exact rcGB_list (mon_am.or (mon_listB (mon_tupH mon_am))) ((e1.mono (by decide)).or e3)
theorem dForm {C f f' q0 b q1 q0' b' q1' : Addr} {H : Hp} {zs zs' : List Pt} (e : H f = some (.lst [.ref q0, .ref b, .ref q1])) (e' : H f' = some (.lst [.ref q0', .ref b', .ref q1']))
    (a0 : AmQ C H q0 (slopeAt zs 0)) (cb : Crv C H b (corners zs)) (a1 : AmQ C H q1 (slopeAt zs (zs.length - 2))) (a0' : AmQ C H q0' (slopeAt zs' 0)) (cb' : Crv C H b' (corners zs')) (a1' : AmQ C H q1' (slopeAt zs' (zs'.length - 2))) :
    DListB (DTop C) (.ref f) (.ref f') H (decide (formOf zs = formOf zs')) := by
  refine ⟨f, f', _, _, rfl, rfl, e, e', .inr ⟨fun i => if i = 0 then decide (slopeAt zs 0 = slopeAt zs' 0) else if i = 1 then decide (corners zs = corners zs') else decide (slopeAt zs (zs.length - 2) = slopeAt zs' (zs'.length - 2)), ⟨rfl, fun i x y hx hy => ?_⟩, ?_⟩⟩
  · cases i with
    | zero =>
      cases hx
      cases hy
      exact .inl (dAm a0 a0')
    | succ i =>
      cases i with
      | zero =>
        cases hx
        cases hy
        exact .inr (dLst cb cb')
      | succ i =>
        cases i with
        | zero =>
          cases hx
          cases hy
          exact .inl (dAm a1 a1')
        | succ i => simp at hx
  · show decide (formOf zs = formOf zs') = (decide (slopeAt zs 0 = slopeAt zs' 0) && (decide (corners zs = corners zs') && (decide (slopeAt zs (zs.length - 2) = slopeAt zs' (zs'.length - 2)) && true)))
    unfold formOf
    simp [Prod.ext_iff]
def sp_Curve_eq_ (K : PySem.W.Frag) (A C : Addr) : Sp := fun vs H Q _ => ∃ (c : Addr) (y : V) (zs : List Pt) (n : Nat), vs = [.ref c, y] ∧ Cu A C H c zs ∧ Gd n zs ∧
  ((∃ c' zs' n', y = .ref c' ∧ Cu A C H c' zs' ∧ Gd n' zs' ∧ ∀ H', Same H H' → Q (.bl (decide (formOf zs = formOf zs'))) H') ∨ (NotC K C H y ∧ Q (.bl false) H))
def sp_corners_ (A C : Addr) : Sp := fun vs H Q _ => ∃ (c : Addr) (zs : List Pt) (n : Nat), vs = [.ref c] ∧ Cu A C H c zs ∧ Gd n zs ∧
  ∀ H' q rs, Same H H' → H q = none → H' q = some (.lst (rs.map V.ref)) → Paired (AmQ A H') rs ((corners zs).map (·.1)) → Q (.ref q) H'
def sp_is_straight (A C : Addr) : Sp := fun vs H Q _ => ∃ (c : Addr) (zs : List Pt) (n : Nat), vs = [.ref c] ∧ Cu A C H c zs ∧ Gd n zs ∧ ∀ H', Same H H' → Q (.bl (decide (corners zs = []))) H'
def sp_conductance (A C : Addr) : Sp := fun vs H Q _ => ∃ (c : Addr) (zs : List Pt) (n : Nat), vs = [.ref c] ∧ Cu A C H c zs ∧ Gd n zs ∧
  (corners zs ≠ [] → ∀ H', Same H H' → Q .non H') ∧ (corners zs = [] → ∀ H' q, Same H H' → AmQ A H' q (overF (1, 1) (slopeAt zs 0)) → Q (.ref q) H')
theorem slope_ne {n : Nat} {z z' : Pt} (hz : PtN n z) (hz' : PtN n z') (h : val z.1 < val z'.1) (h' : val z.2 < val z'.2) : (slope z z').1 ≠ 0 := fun q => by
  have l := slope_low hz hz' h
  have n1 := minus_ne hz'.x.pos hz.x.pos h
  have n2 := minus_ne hz'.y.pos hz.y.pos h'
  have v := val_div (minus_low hz'.y hz.y).pos (minus_low hz'.x hz.x).pos n1
  have v0 := (val_eq0 l.pos).mp q
  have v1 : val (slope z z') = val (minusF z'.2 z.2) / val (minusF z'.1 z.1) := v
  have d1 : val (minusF z'.1 z.1) ≠ 0 := fun e => n1 ((val_eq0 (minus_low hz'.x hz.x).pos).mpr e)
  have d2 : val (minusF z'.2 z.2) ≠ 0 := fun e => n2 ((val_eq0 (minus_low hz'.y hz.y).pos).mpr e)
  rw [v1] at v0
  have : val (minusF z'.2 z.2) = 0 := by grind
  exact d2 this
section
variable {P : Program} {w : World} {K : PySem.W.Frag} {mg : Str → Option Value} {base : Heap} {a : Ad}
theorem ok_Curve_eq_ (T : Txt K mg a) : FnOk P w K mg base CX0 10 a.f_Curve_eq_ a.d_Curve_eq_ ["self", "other"] (sp_Curve_eq_ K a.c_Amount a.c_Curve) := by
  refine T.F_Curve_eq_.ok sc_Curve_eq_ (fun vs H Q E h => ?_) (fun cdv A outer s H vs Q E hr h => ?_)
  · obtain ⟨c, y, zs, n, rfl, _⟩ := h
    rfl
  · obtain ⟨c, y, zs, n, rfl, hc, g, h⟩ := h
    refine ⟨_, (pss_one (ps_ret (pe_and (pe_callB (call_isiK' (K := K) rfl) (by rfl) T.b_isinstance (by decide +kernel) (pa_cons (pv 1) (pa_cons (pe_glob (v := .ref a.c_Curve) rfl T.mC rfl) pa_nil))) (pe_one (pe_cmpR (op_eqGB (rcForm T) (hr.mono (by decide))) (pe_call (ok_form T) (hr.mono (by decide)) (by rfl) T.m_form T.F_form.kp (b_form T) .nil pass0 (pa_cons (pe_fldK (K := K) rfl (pv 0) rfl) pa_nil)) (pe_call (ok_form T) (hr.mono (by decide)) (by rfl) T.m_form T.F_form.kp (b_form T) .nil pass0 (pa_cons (pe_fldK (K := K) rfl (pv 1) rfl) pa_nil)) (nomark _)))))), ?_⟩
    obtain ⟨dx, l, ec, cr⟩ := hc.ex
    rcases h with ⟨c', zs', n', rfl, hc', g', k⟩ | ⟨⟨ty, h1, h2, h3⟩, k⟩
    · obtain ⟨dx', l', ec', cr'⟩ := hc'.ex
      refine ⟨_, rfl, _, _, _, _, true, rfl, .own _, .base (T.J.ty T.cl2 ec'), Inst.kSelf, true, rfl, iteT ?_⟩
      refine ⟨_, rfl, c, _, dx, _, _, rfl, ec, T.cl2, T.nP, cu_at _, l, zs, n, rfl, cr, g, fun H1 f q0 b q1 s1 ef a0 cb a1 => ?_⟩
      refine ⟨_, rfl, c', _, dx', _, _, rfl, s1 _ _ ec', T.cl2, T.nP, cu_at _, l', zs', n', rfl, cr'.same s1, g', fun H2 f' q0' b' q1' s2 ef' a0' cb' a1' => ?_⟩
      exact ⟨_, dForm (s2 _ _ ef) ef' (a0.same s2) (cb.same s2) (a1.same s2) a0' cb' a1', fun H3 e3 => k _ ((s1.trans s2).trans e3)⟩
    · exact ⟨_, rfl, _, _, _, _, false, rfl, .own _, .base h1, h2, false, rfl, iteF k⟩
theorem ok_Curvecorners (T : Txt K mg a) : FnOk P w K mg base CX0 8 a.f_Curvecorners a.d_Curvecorners ["self"] (sp_corners_ a.c_Amount a.c_Curve) := by
  refine T.F_Curvecorners.ok sc_Curvecorners (fun vs H Q E h => ?_) (fun cdv A outer s H vs Q E hr h => ?_)
  · obtain ⟨c, zs, n, rfl, _⟩ := h
    rfl
  · obtain ⟨c, zs, n, rfl, hc, g, k⟩ := h
    refine ⟨_, (pss_one (ps_ret (pe_lc (own := [("point", 1)]) (by rfl) sc_Curvecorners.nd (pi_listK (K := K) rfl (pe_call (ok_bends T) (hr.mono (by decide)) (by rfl) T.m_bends T.F_bends.kp (b_bends T) .nil pass0 (pa_cons (pe_fldK (K := K) rfl (pv 0) rfl) pa_nil))) (blkOk_by (own := [("point", 1)]) (N := ["self", "point"]) (sc := defScope s_Curvecorners) (by decide +kernel)) (fun _ _ _ _ _ => (pg_name (i := 1) sc_Curvecorners.nd rfl (by first | exact Or.inl rfl | exact Or.inr rfl))) (fun _ _ _ _ _ => pts_nil) (fun _ _ _ _ _ => (pe_ix (ix_tupK (K := K) rfl) (pv 1) (pe_glob (v := .int 0) rfl T.gFlow.choose_spec ⟨_, rfl⟩) (fun _ _ => rfl)))))), ?_⟩
    obtain ⟨dx, l, ec, cr⟩ := hc.ex
    refine ⟨_, rfl, c, _, dx, _, _, rfl, ec, T.cl2, T.nP, cu_at _, l, zs, n, rfl, cr, g, fun H1 b s1 _ cb => ?_⟩
    obtain ⟨rs, eb, pb⟩ := cb.ex
    have g200 := g.l200
    have lb := Paired.len pb
    have lc := cornersUpto_len zs (zs.length - 2)
    have lc : (corners zs).length ≤ zs.length - 2 := lc
    refine ⟨b, rfl, ⟨_, SqL.of eb⟩, fun D hD => ?_⟩
    refine lc_list (K := K) (a := b) (xs := rs.map V.ref) (fun i H' => Same H1 H' ∧ ∃ cs : List Addr, H' D = some (.lst (cs.map V.ref)) ∧ Paired (AmQ a.c_Amount H1) cs (((corners zs).take i).map (·.1))) ⟨Lb.Same.upd hD, [], upd_same, .nil⟩ (fun i H' _ b => SqL.of (b.1 _ _ eb)) ?_ ?_
    · rintro i v H' hi ⟨s', cs, eD, pc⟩
      obtain ⟨r, rfl, hr'⟩ := ref_at hi
      obtain ⟨z, hz, p, q, er, ap, aq⟩ := Paired.at_ pb hr'
      have lcs := Paired.len pc
      rw [List.length_map, List.length_take] at lcs
      refine ⟨rfl, ?_⟩
      refine ⟨_, rfl, _, _, _, _, rfl, rfl, SqT.of (s' _ _ er), at0, cs.map V.ref, eD, szlt (by rw [List.length_map]; omega), Lb.Same.updl s' hD, cs ++ [p], by rw [upd_same, List.map_append]; rfl, ?_⟩
      rw [← take_snoc hz, List.map_append]
      exact paired_snoc pc ap
    rintro H2 ⟨s2, cs, eD, pc⟩
    rw [show (rs.map V.ref).length = (corners zs).length by rw [List.length_map, lb], List.take_length] at pc
    exact k _ D cs (s1.trans s2) (Same.free' s1 hD) eD (Paired.imp pc fun _ _ h => AmQ.same h s2)
theorem ok_Curveis_straight (T : Txt K mg a) : FnOk P w K mg base CX0 8 a.f_Curveis_straight a.d_Curveis_straight ["self"] (sp_is_straight a.c_Amount a.c_Curve) := by
  refine T.F_Curveis_straight.ok sc_Curveis_straight (fun vs H Q E h => ?_) (fun cdv A outer s H vs Q E hr h => ?_)
  · obtain ⟨c, zs, n, rfl, _⟩ := h
    rfl
  · obtain ⟨c, zs, n, rfl, hc, g, k⟩ := h
    refine ⟨_, (pss_one (ps_ret (pe_cmpR op_eq (pe_callB (call_lenK (K := K) rfl) (by rfl) T.b_len (by decide +kernel) (pa_cons (pe_call (ok_bends T) (hr.mono (by decide)) (by rfl) T.m_bends T.F_bends.kp (b_bends T) .nil pass0 (pa_cons (pe_fldK (K := K) rfl (pv 0) rfl) pa_nil)) pa_nil)) pe_int (nomark _)))), ?_⟩
    obtain ⟨dx, l, ec, cr⟩ := hc.ex
    refine ⟨_, rfl, c, _, dx, _, _, rfl, ec, T.cl2, T.nP, cu_at _, l, zs, n, rfl, cr, g, fun H1 b s1 _ cb => ?_⟩
    obtain ⟨rs, eb, pb⟩ := cb.ex
    have lb := Paired.len pb
    refine ⟨_, _, rfl, .inl (SqL.of eb), rfl, ?_⟩
    have e := k _ s1
    show Q (.bl (decide (V.int _ = V.int 0))) H1
    rw [List.length_map, lb, show decide (V.int (((corners zs).length : Nat) : Int) = V.int 0) = decide (corners zs = []) from decide_eq_decide.mpr ⟨fun h => by injection h with h; exact List.length_eq_zero_iff.mp (by omega), fun h => by rw [h]; rfl⟩]
    exact e
theorem ok_Curveconductance (T : Txt K mg a) : FnOk P w K mg base CX0 10 a.f_Curveconductance a.d_Curveconductance ["self"] (sp_conductance a.c_Amount a.c_Curve) := by
  refine T.F_Curveconductance.ok sc_Curveconductance (fun vs H Q E h => ?_) (fun cdv A outer s H vs Q E hr h => ?_)
  · obtain ⟨c, zs, n, rfl, _⟩ := h
    rfl
  · obtain ⟨c, zs, n, rfl, hc, g, k1, k2⟩ := h
    refine ⟨_, (pss_cons (ps_if (pt_not (pt_val (pe_prop (pv 0) T.cl2 T.p_is_straight (ok_Curveis_straight T) (hr.mono (by decide)) (b_Curveis_straight T) .nil pass0 rfl))) (pss_one (ps_ret pe_non)) pss_nil)
 (pss_one (ps_ret (pe_meth (pe_make T.mkA (ok_Amount_init_ T) (hr.mono (by decide)) (by rfl) T.mA (b1_Amount_init_ T).choose_spec.2 (b1_Amount_init_ T).choose_spec.1 pass0 (pa_cons pe_int pa_nil)) T.cl T.mOver (ok_Amountover T) (hr.mono (by decide)) (b_Amountover T) .nil pass0 (pa_cons (pe_call (ok_drop_for_one T) (hr.mono (by decide)) (by rfl) T.m_drop_for_one T.F_drop_for_one.kp (b_drop_for_one T) .nil pass0 (pa_cons (pe_ix (ix_listK (K := K) rfl) (pe_fldK (K := K) rfl (pv 0) rfl) pe_int (fun _ _ => rfl)) (pa_cons (pe_ix (ix_listK (K := K) rfl) (pe_fldK (K := K) rfl (pv 0) rfl) pe_int (fun _ _ => rfl)) pa_nil))) pa_nil))))), ?_⟩
    obtain ⟨dx, l, ec, cr⟩ := hc.ex
    have g2 := g.l2
    refine ⟨_, rfl, c, dx, _, rfl, ec, c, zs, n, rfl, hc, g, fun H1 s1 => ⟨_, rfl, ?_⟩⟩
    by_cases hcor : corners zs = []
    · rw [decide_eq_true hcor]
      refine iteF ?_
      refine fun x dx' hx hdx ne => ⟨x, dx', 1, 1, rfl, by decide, bd_one, bd_one, upd_same, fun H2 kp e => ⟨rfl, ?_⟩⟩
      obtain ⟨s2, am2⟩ := made_am hx hdx ne kp e
      rw [rdT_one, rdB_one] at am2
      have am2 : AmQ a.c_Amount H2 x (1, 1) := am2
      obtain ⟨d2, e2⟩ := id am2
      have S2 := s1.trans s2
      obtain ⟨rs, el, pr⟩ := id cr.ex
      obtain ⟨z, hz⟩ : ∃ z, zs[0]? = some z := ⟨_, List.getElem?_eq_getElem (by omega)⟩
      obtain ⟨z', hz'⟩ : ∃ z, zs[1]? = some z := ⟨_, List.getElem?_eq_getElem (by omega)⟩
      obtain ⟨r, hr', row⟩ := Paired.at_r pr hz
      obtain ⟨r', hr2, row'⟩ := Paired.at_r pr hz'
      have pz := g.p z (List.mem_of_getElem? hz)
      have pz' := g.p z' (List.mem_of_getElem? hz')
      have lt := g.up 0 z z' hz hz'
      have lt1 := g.up1 0 z z' hz hz'
      have hn := g.n
      refine ⟨x, d2, _, rfl, e2, am_no _ _ (by decide +kernel) (by decide +kernel), ?_⟩
      refine ⟨_, rfl, c, _, dx, _, _, rfl, S2 _ _ ec, T.cl2, T.nP, cu_at _, _, _, _, _, rfl, rfl, SqL.of (S2 _ _ el), at_ref (i := 0) hr', ?_⟩
      refine ⟨_, rfl, c, _, dx, _, _, rfl, S2 _ _ ec, T.cl2, T.nP, cu_at _, _, _, _, _, rfl, rfl, SqL.of (S2 _ _ el), at_ref (i := 1) hr2, r, r', z, z', n, rfl, row.same S2, row'.same S2, pz, pz', hn, lt, fun H3 q s3 aq => ?_⟩
      have lsl := slope_low pz pz' lt
      refine ⟨x, _, 1, 1, _, _, rfl, am2.same s3, .inr ⟨q, rfl, aq⟩, bd_one, bd_one, lsl.t.mono (by omega), lsl.b.mono (by omega), Int.mul_ne_zero (by decide) (slope_ne pz pz' lt lt1), fun H4 q4 s4 a4 => ?_⟩
      refine k2 hcor _ q4 ((S2.trans s3).trans s4) ?_
      unfold slopeAt
      rw [getD_of hz, getD_of hz']
      exact a4
    · rw [decide_eq_false hcor]
      exact iteT (k1 hcor _ s1)
end
end K16

set_option Elab.async false
set_option linter.all false
set_option maxRecDepth 100000
set_option maxHeartbeats 4000000
set_option exponentiation.threshold 10000
namespace K16
open PySem L2 Lb

theorem Asc.far {s : Nat} {zs : List Pt} (h : Asc s zs) : ∀ (k i : Nat) z z', zs[i]? = some z → zs[i + 1 + k]? = some z' → val (sd s z) < val (sd s z')
  | 0, i, z, z', hz, hz' => h i z z' hz hz'
  | k + 1, i, z, z', hz, hz' => by
    obtain ⟨w, hw⟩ : ∃ w, zs[i + 1 + k]? = some w := ⟨_, List.getElem?_eq_getElem (by have := (List.getElem?_eq_some_iff.mp hz').1; omega)⟩
    have h1 := Asc.far h k i z w hz hw
    have h2 := h (i + 1 + k) w z' hw (by rw [show i + 1 + k + 1 = i + 1 + (k + 1) by omega]; exact hz')
    grind
theorem Asc.lt {s : Nat} {zs : List Pt} (h : Asc s zs) {i j : Nat} {z z' : Pt} (hij : i < j) (hz : zs[i]? = some z) (hz' : zs[j]? = some z') : val (sd s z) < val (sd s z') :=
  h.far (j - i - 1) i z z' hz (by rw [show i + 1 + (j - i - 1) = j by omega]; exact hz')
/-- a fraction of the law's own: a tuple of two ints -/
def FrQ (H : Hp) (q : Addr) (x : Q2) : Prop := Fr H q x.1 x.2
theorem FrQ.same {H H' : Hp} {q : Addr} {x : Q2} (h : FrQ H q x) (s : Same H H') : FrQ H' q x := s _ _ h
/-- the law's points: tuples of two fractions -/
def SpR (H : Hp) (r : Addr) (z : Pt) : Prop := ∃ p q, H r = some (.tup [.ref p, .ref q]) ∧ FrQ H p z.1 ∧ FrQ H q z.2
theorem SpR.same {H H' : Hp} {r : Addr} {z : Pt} (h : SpR H r z) (s : Same H H') : SpR H' r z :=
  let ⟨p, q, e, a, b⟩ := h
  ⟨p, q, s _ _ e, a.same s, b.same s⟩
structure Spots (H : Hp) (l : Addr) (zs : List Pt) : Prop where
  ex : ∃ rs : List Addr, H l = some (.lst (rs.map V.ref)) ∧ Paired (SpR H) rs zs
theorem Spots.same {l : Addr} {H H' : Hp} {zs : List Pt} (h : Spots H l zs) (s : Same H H') : Spots H' l zs :=
  let ⟨rs, e, p⟩ := h.ex
  ⟨rs, s _ _ e, Paired.imp p fun _ _ q => q.same s⟩
theorem Spots.at_ {l : Addr} {H : Hp} {zs : List Pt} (h : Spots H l zs) : ∃ xs, H l = some (.lst xs) ∧ xs.length = zs.length ∧ ∀ (i : Nat) z, zs[i]? = some z → ∃ r p q, atI xs (i : Int) = some (.ref r) ∧ H r = some (.tup [.ref p, .ref q]) ∧ FrQ H p z.1 ∧ FrQ H q z.2 := by
  obtain ⟨rs, e, p⟩ := h.ex
  refine ⟨_, e, by rw [List.length_map]; exact Paired.len p, fun i z hz => ?_⟩
  obtain ⟨r, hr, p', q, er, ap, aq⟩ := Paired.at_r p hz
  exact ⟨r, p', q, at_ref hr, er, ap, aq⟩
theorem fr_at {H : Hp} {p q : Addr} {z : Pt} {s : Nat} (hs : s = 0 ∨ s = 1) (ap : FrQ H p z.1) (aq : FrQ H q z.2) : ∃ y, atI [V.ref p, V.ref q] (s : Int) = some (.ref y) ∧ FrQ H y (sd s z) := by
  rcases hs with rfl | rfl
  · exact ⟨p, at0, ap⟩
  · exact ⟨q, at1, aq⟩
theorem SpR.nl {H H' : Hp} {r : Addr} {z : Pt} (h : SpR H r z) (s : NL H H') : SpR H' r z :=
  let ⟨p, q, e, a, b⟩ := h
  ⟨p, q, s _ _ (fun _ z => nomatch z) e, s _ _ (fun _ z => nomatch z) a, s _ _ (fun _ z => nomatch z) b⟩
theorem FrQ.nl {H H' : Hp} {q : Addr} {x : Q2} (h : FrQ H q x) (s : NL H H') : FrQ H' q x := s _ _ (fun _ z => nomatch z) h
theorem Spots.mov {p l : Addr} {H H' : Hp} {zs : List Pt} (h : Spots H l zs) (m : Mov p H H') (hp : PotAt H p) (n : l ≠ p) : Spots H' l zs :=
  let ⟨rs, e, q⟩ := h.ex
  ⟨rs, m.keep _ _ n e, Paired.imp q fun _ _ x => x.nl (NL.mov m hp)⟩
theorem org_low {n : Nat} : Low (n + 1) ((0, 1) : Q2) := ⟨(show (0 : Nat) < 2 ^ (n + 1) from Nat.pow_pos (by decide)), bd_one, by decide, by decide⟩
theorem PtL.mono {n m : Nat} {z : Pt} (h : PtL n z) (k : n ≤ m) : PtL m z := ⟨h.x.mono k, h.y.mono k, h.s⟩
theorem sg_p {t : Int} (h : 0 < t) : sg t = 1 := by
  unfold sg
  rw [if_neg (by omega), if_pos h]
theorem sg_n {t : Int} (h : t < 0) : sg t = -1 := by
  unfold sg
  rw [if_neg (by omega), if_neg (by omega)]
theorem asc_snoc {s : Nat} {zs : List Pt} {z z' : Pt} (h : Asc s zs) (hl : zs[zs.length - 1]? = some z') (lt : val (sd s z') < val (sd s z)) : Asc s (zs ++ [z]) := by
  intro i y y' hy hy'
  have hlt := (List.getElem?_eq_some_iff.mp hy').1
  rw [List.length_append, List.length_singleton] at hlt
  rcases Nat.lt_or_ge (i + 1) zs.length with c | c
  · rw [List.getElem?_append_left (by omega)] at hy
    rw [List.getElem?_append_left c] at hy'
    exact h i y y' hy hy'
  · have e : i + 1 = zs.length := by omega
    rw [List.getElem?_append_left (by omega)] at hy
    rw [List.getElem?_append_right (by omega), e, Nat.sub_self] at hy'
    rw [show i = zs.length - 1 by omega, hl] at hy
    have e1 := Option.some.inj hy
    have e2 : z = y' := by simpa using hy'
    rw [← e1, ← e2]
    exact lt
theorem asc_cons {s : Nat} {zs : List Pt} {z : Pt} (h : Asc s zs) (lt : ∀ y, zs[0]? = some y → val (sd s z) < val (sd s y)) : Asc s (z :: zs) := by
  intro i y y' hy hy'
  cases i with
  | zero =>
    have e : z = y := by simpa using hy
    rw [← e]
    exact lt y' (by simpa using hy')
  | succ i => exact h i y y' (by simpa using hy) (by simpa using hy')
/-- points, those below, (0, 0), those above -/
structure LQ (n : Nat) (zs : List Pt) : Prop where
  l : ∀ z ∈ zs, PtL n z
  up : ∀ s, s = 0 ∨ s = 1 → Asc s zs
  ex : ∃ ns ps, zs = ns ++ org :: ps ∧ (∀ z ∈ ns, z.1.1 < 0) ∧ (∀ z ∈ ps, 0 < z.1.1)
theorem LQ.start {n : Nat} : LQ (n + 1) [org] := by
  refine ⟨fun z hz => ?_, fun s _ i z z' _ h => ?_, [], [], rfl, fun z hz => absurd hz List.not_mem_nil, fun z hz => absurd hz List.not_mem_nil⟩
  · rw [List.mem_singleton.mp hz]
    exact ⟨org_low, org_low, rfl⟩
  · have := (List.getElem?_eq_some_iff.mp h).1
    simp at this
theorem LQ.snoc {n m : Nat} {zs : List Pt} {z z' : Pt} (h : LQ n zs) (hl : zs[zs.length - 1]? = some z') (hnm : n ≤ m) (lx : Low m z.1) (ly : Low m z.2) (h0 : val z'.1 < val z.1) (h1 : val z'.2 < val z.2) : LQ m (zs ++ [z]) := by
  have up : ∀ s, s = 0 ∨ s = 1 → Asc s (zs ++ [z]) := by
    rintro s (rfl | rfl)
    · exact asc_snoc (h.up 0 (.inl rfl)) hl h0
    · exact asc_snoc (h.up 1 (.inr rfl)) hl h1
  obtain ⟨ns, ps, e, hn, hp⟩ := h.ex
  have eo : (zs ++ [z])[ns.length]? = some org := by rw [e]; simp
  have ez : (zs ++ [z])[zs.length]? = some z := by simp
  have lt : ns.length < zs.length := by rw [e]; simp
  have p0 := (up 0 (.inl rfl)).lt lt eo ez
  have p1 := (up 1 (.inr rfl)).lt lt eo ez
  have q0 : 0 < z.1.1 := (val_pos lx.pos).mpr (by
    rw [show val (sd 0 org) = 0 from val_zero] at p0
    exact p0)
  have q1 : 0 < z.2.1 := (val_pos ly.pos).mpr (by
    rw [show val (sd 1 org) = 0 from val_zero] at p1
    exact p1)
  refine ⟨fun y hy => ?_, up, ns, ps ++ [z], by rw [e]; simp, hn, fun y hy => ?_⟩
  · rcases List.mem_append.mp hy with hy | hy
    · exact (h.l y hy).mono hnm
    · rw [List.mem_singleton.mp hy]
      exact ⟨lx, ly, by rw [sg_p q0, sg_p q1]⟩
  · rcases List.mem_append.mp hy with hy | hy
    · exact hp y hy
    · rw [List.mem_singleton.mp hy]
      exact q0
theorem LQ.cons {n m : Nat} {zs : List Pt} {z z' : Pt} (h : LQ n zs) (hl : zs[0]? = some z') (hnm : n ≤ m) (lx : Low m z.1) (ly : Low m z.2) (h0 : val z.1 < val z'.1) (h1 : val z.2 < val z'.2) : LQ m (z :: zs) := by
  have up : ∀ s, s = 0 ∨ s = 1 → Asc s (z :: zs) := by
    rintro s (rfl | rfl)
    · exact asc_cons (h.up 0 (.inl rfl)) fun y hy => by
        rw [hl] at hy
        cases hy
        exact h0
    · exact asc_cons (h.up 1 (.inr rfl)) fun y hy => by
        rw [hl] at hy
        cases hy
        exact h1
  obtain ⟨ns, ps, e, hn, hp⟩ := h.ex
  have eo : (z :: zs)[ns.length + 1]? = some org := by rw [e]; simp
  have ez : (z :: zs)[0]? = some z := rfl
  have p0 := (up 0 (.inl rfl)).lt (Nat.succ_pos _) ez eo
  have p1 := (up 1 (.inr rfl)).lt (Nat.succ_pos _) ez eo
  have q0 : z.1.1 < 0 := (val_negl lx.pos).mpr (by
    rw [show val (sd 0 org) = 0 from val_zero] at p0
    exact p0)
  have q1 : z.2.1 < 0 := (val_negl ly.pos).mpr (by
    rw [show val (sd 1 org) = 0 from val_zero] at p1
    exact p1)
  refine ⟨fun y hy => ?_, up, z :: ns, ps, by rw [e]; simp, fun y hy => ?_, hp⟩
  · rcases List.mem_cons.mp hy with hy | hy
    · rw [hy]
      exact ⟨lx, ly, by rw [sg_n q0, sg_n q1]⟩
    · exact (h.l y hy).mono hnm
  · rcases List.mem_cons.mp hy with hy | hy
    · rw [hy]
      exact q0
    · exact hn y hy
/-- the law's points -/
structure LP (n : Nat) (zs : List Pt) : Prop where
  q : LQ n zs
  l2 : 2 ≤ zs.length
  l20 : zs.length ≤ 20

theorem cut_from {xs : List V} {k : Nat} (h : k ≤ xs.length) : cutV xs (some (k : Int)) none = xs.drop k := by
  unfold cutV
  rw [HT.sIx_nat, HT.sIx_none, Nat.min_eq_left h, List.take_of_length_le (by rw [List.length_drop]; omega)]
abbrev FrRows (H : Hp) (rs : List Addr) (xs : List Q2) : Prop := Paired (FrQ H) rs xs
theorem FrRows.same {H H' : Hp} {rs : List Addr} {xs : List Q2} (h : FrRows H rs xs) (s : Same H H') : FrRows H' rs xs := Paired.imp h fun _ _ q => FrQ.same q s
theorem FrRows.nl {H H' : Hp} {rs : List Addr} {xs : List Q2} (h : FrRows H rs xs) (s : NL H H') : FrRows H' rs xs := Paired.imp h fun _ _ q => FrQ.nl q s
theorem AmAt.nl {C p : Addr} {H H' : Hp} {t b : Int} (h : AmAt C H p t b) (s : NL H H') : AmAt C H' p t b := let ⟨dx, e⟩ := h; ⟨dx, s _ _ (fun _ z => nomatch z) e⟩
theorem IsP.nl {C : Addr} {v : V} {H H' : Hp} {t b : Int} (h : IsP C H v t b) (s : NL H H') : IsP C H' v t b := by
  rcases h with h | ⟨q, e, h⟩
  · exact .inl h
  · exact .inr ⟨q, e, h.nl s⟩
theorem PtP.nl {C : Addr} {H H' : Hp} {v : V} {z : Pt} (h : PtP C H v z) (s : NL H H') : PtP C H' v z :=
  let ⟨t, u, w, e, et, p, q⟩ := h
  ⟨t, u, w, e, s _ _ (fun _ z => nomatch z) et, p.nl s, q.nl s⟩
theorem RowA.nl {C : Addr} {H H' : Hp} {r : Addr} {z : Pt} (h : RowA C H r z) (s : NL H H') : RowA C H' r z :=
  let ⟨p, q, e, ap, aq⟩ := h
  ⟨p, q, s _ _ (fun _ z => nomatch z) e, ap.nl s, aq.nl s⟩
/-- a curve, the address of its points told -/
structure CuAt (A C : Addr) (H : Hp) (c l : Addr) (zs : List Pt) : Prop where
  e : ∃ dx, H c = some (.ins C dx (putF "_points" (.ref l) []))
  r : Crv A H l zs
theorem CuAt.cu {A C : Addr} {H : Hp} {c l : Addr} {zs : List Pt} (h : CuAt A C H c l zs) : Cu A C H c zs := let ⟨dx, e⟩ := h.e; ⟨dx, l, e, h.r⟩
/-- lists are changed, not that one -/
theorem CuAt.nl {A C : Addr} {H H' : Hp} {c l : Addr} {zs : List Pt} (h : CuAt A C H c l zs) (s : NL H H') (k : ∀ o, H l = some o → H' l = some o) : CuAt A C H' c l zs :=
  let ⟨dx, e⟩ := h.e
  let ⟨rs, el, p⟩ := h.r.ex
  ⟨⟨dx, s _ _ (fun _ z => nomatch z) e⟩, rs, k _ el, Paired.imp p fun _ _ q => q.nl s⟩
theorem CuAt.same {A C : Addr} {H H' : Hp} {c l : Addr} {zs : List Pt} (h : CuAt A C H c l zs) (s : Same H H') : CuAt A C H' c l zs := h.nl (NL.of s) fun _ e => s _ _ e
theorem CuAt.mov {A C p : Addr} {H H' : Hp} {c l : Addr} {zs : List Pt} (h : CuAt A C H c l zs) (m : Mov p H H') (hp : PotAt H p) (n : l ≠ p) : CuAt A C H' c l zs := h.nl (NL.mov m hp) fun _ e => m.keep _ _ n e
def nz (z : Pt) : Bool := !decide (z.1.1 = 0)
theorem filt_all {α : Type} {f : α → Bool} {l : List α} (h : ∀ z ∈ l, f z = true) : l.filter f = l := List.filter_eq_self.mpr h
theorem filt_no {α : Type} {f : α → Bool} {l : List α} (h : ∀ z ∈ l, f z = false) : l.filter f = [] := List.filter_eq_nil_iff.mpr fun z hz => by rw [h z hz]; simp
theorem isNeg_org : isNeg org = false := by decide
theorem isPos_org : isPos org = false := by decide
theorem nz_org : nz org = false := by decide
theorem withO_self {zs : List Pt} (h : ∃ ns ps, zs = ns ++ org :: ps ∧ (∀ z ∈ ns, z.1.1 < 0) ∧ (∀ z ∈ ps, 0 < z.1.1)) : withO zs = zs ∧ withO (zs.filter nz) = zs := by
  obtain ⟨ns, ps, e, hn, hp⟩ := h
  have f1 : ns.filter isNeg = ns := filt_all fun z hz => by have := hn z hz; simp [isNeg, this]
  have f2 : ns.filter isPos = [] := filt_no fun z hz => by have := hn z hz; simp [isPos]; omega
  have f3 : ps.filter isNeg = [] := filt_no fun z hz => by have := hp z hz; simp [isNeg]; omega
  have f4 : ps.filter isPos = ps := filt_all fun z hz => by have := hp z hz; simp [isPos, this]
  have f5 : ns.filter nz = ns := filt_all fun z hz => by have := hn z hz; simp [nz]; omega
  have f6 : ps.filter nz = ps := filt_all fun z hz => by have := hp z hz; simp [nz]; omega
  have e1 : zs.filter nz = ns ++ ps := by
    rw [e, List.filter_append, List.filter_cons, nz_org, f5, f6]
    simp
  constructor
  · unfold withO
    rw [e, List.filter_append, List.filter_append, List.filter_cons, List.filter_cons, isNeg_org, isPos_org, f1, f2, f3, f4]
    simp
  · unfold withO
    rw [e1, e, List.filter_append, List.filter_append, f1, f2, f3, f4]
    simp
theorem ltq_of {x y : Q2} {n m : Nat} (lx : Low n x) (ly : Low m y) (h : val x < val y) : ltQ x y := (val_lt lx.pos ly.pos).mpr h
theorem asc_filter {s : Nat} {zs : List Pt} (f : Pt → Bool) (h : Asc s zs) : Asc s (zs.filter f) := by
  have key : ∀ l : List Pt, l.Sublist zs → Asc s l := by
    intro l hl i z z' hz hz'
    have hl2 : [z, z'].Sublist zs := by
      refine List.Sublist.trans ?_ hl
      have h1 := (List.getElem?_eq_some_iff.mp hz').1
      have e : l.drop i = z :: z' :: l.drop (i + 2) := by
        have e1 := List.getElem?_eq_some_iff.mp hz
        have e2 := List.getElem?_eq_some_iff.mp hz'
        obtain ⟨g1, g2⟩ := e1
        obtain ⟨g3, g4⟩ := e2
        rw [List.drop_eq_getElem_cons g1, List.drop_eq_getElem_cons g3, g2, g4]
      refine List.Sublist.trans ?_ (List.drop_sublist i l)
      rw [e]
      exact .cons₂ _ (.cons₂ _ (List.nil_sublist _))
    obtain ⟨is, h2, h3⟩ := List.sublist_eq_map_getElem hl2
    have hlen : is.length = 2 := by
      have := congrArg List.length h2
      simpa using this.symm
    obtain ⟨i1, i2, rfl⟩ : ∃ a b, is = [a, b] := by
      match is, hlen with
      | [a, b], _ => exact ⟨a, b, rfl⟩
    simp only [List.map_cons, List.map_nil, List.cons.injEq, and_true] at h2
    have h4 : i1 < i2 := by
      have := h3
      simp at this
      exact this
    exact h.lt (i := i1.val) (j := i2.val) h4 (by rw [h2.1]; simp) (by rw [h2.2]; simp)
  exact key _ List.filter_sublist
theorem pts_of {zs : List Pt} {f : Pt → Bool} {n : Nat} (hn : n ≤ 700) (lp : LP n zs) (h : ∃ z ∈ zs.filter f, z.1.1 ≠ 0) : Pts n (zs.filter f) := by
  have hl : ∀ z ∈ zs.filter f, PtL n z := fun z hz => lp.q.l z (List.mem_filter.mp hz).1
  have l20 := lp.l20
  refine ⟨hl, by omega, fun i z z' hz hz' => ?_, h, ?_⟩
  · have p1 := hl z (List.mem_of_getElem? hz)
    have p2 := hl z' (List.mem_of_getElem? hz')
    exact ⟨ltq_of p1.x p2.x (asc_filter f (lp.q.up 0 (.inl rfl)) i z z' hz hz'), ltq_of p1.y p2.y (asc_filter f (lp.q.up 1 (.inr rfl)) i z z' hz hz')⟩
  · have := List.length_filter_le f zs
    omega
theorem lp_some {zs : List Pt} {n : Nat} (lp : LP n zs) : ∃ z ∈ zs, z.1.1 ≠ 0 := by
  obtain ⟨ns, ps, e, hn, hp⟩ := lp.q.ex
  have l2 := lp.l2
  cases ns with
  | cons z _ => exact ⟨z, by rw [e]; simp, by have := hn z (by simp); omega⟩
  | nil =>
    cases ps with
    | cons z _ => exact ⟨z, by rw [e]; simp, by have := hp z (by simp); omega⟩
    | nil => rw [e] at l2; simp at l2
theorem vN (n : Int) : val ((n, 1) : Q2) = (n : Rat) := by
  show (n : Rat) / ((1 : Int) : Rat) = n
  rw [Rat.intCast_one]
  grind
theorem lowN {n : Int} (h : n.natAbs < 1000) : Low 20 ((n, 1) : Q2) := ⟨(show n.natAbs < 2 ^ 20 from Nat.lt_trans h (by decide)), bd_one, by show (0 : Int) < 1; decide, by simp⟩
theorem made_same {C : Addr} {H : Hp} {x dx : Addr} (h1 : H x = none) (h2 : H dx = none) : Same H (upd (upd H dx (.own x)) x (.ins C dx [])) := fun y o hy => by
  rw [upd_ne (ne_of_none hy h1), upd_ne (ne_of_none hy h2)]
  exact hy
theorem cut_map (rs : List Addr) (lo hi : Option Int) : cutV (rs.map V.ref) lo hi = ((rs.drop (HT.sIx rs.length 0 lo)).take (HT.sIx rs.length rs.length hi - HT.sIx rs.length 0 lo)).map V.ref := by
  unfold cutV
  rw [List.length_map, List.map_take, List.map_drop]
theorem paired_drop {α β : Type} {R : α → β → Prop} : ∀ {as : List α} {bs : List β} {i : Nat}, Paired R as bs → Paired R (as.drop i) (bs.drop i)
  | _, _, 0, h => by simpa using h
  | _, _, _ + 1, .nil => by simpa using Paired.nil
  | _, _, i + 1, .cons _ t => by simpa using paired_drop (i := i) t
theorem paired_take {α β : Type} {R : α → β → Prop} : ∀ {as : List α} {bs : List β} {i : Nat}, Paired R as bs → Paired R (as.take i) (bs.take i)
  | _, _, 0, h => by simpa using Paired.nil
  | _, _, _ + 1, .nil => by simpa using Paired.nil
  | _, _, i + 1, .cons h t => by simpa using Paired.cons h (paired_take (i := i) t)
theorem paired_cut {α β : Type} {R : α → β → Prop} {as : List α} {bs : List β} {i j : Nat} (h : Paired R as bs) : Paired R ((as.drop i).take j) ((bs.drop i).take j) := paired_take (paired_drop h)
def sp_pot (K : PySem.W.Frag) : Sp := fun vs H Q _ => ∃ (sc : Addr) (ns : List Int) (k : Nat), vs = [.ref sc, .int k] ∧ SqL K H sc (ns.map V.int) ∧ ns.length ≤ 63 ∧ k ≤ 1000 ∧
  ∀ H' p, Same H H' → H p = none → PotAt H' p → Q (.ref p) H'
def sp_draw : Sp := fun vs H Q _ => ∃ (p : Addr) (n : Int), vs = [.ref p, .int n] ∧ PotAt H p ∧ 0 < n ∧ Bd 200 n ∧
  ∀ H' d, Mov p H H' → 0 ≤ d → d < n → Q (.int d) H'
def sp_low : Sp := fun vs H Q _ => ∃ (h l : Int), vs = [.int h, .int l] ∧ l ≠ 0 ∧ Bd 8000 h ∧ Bd 8000 l ∧ ∀ H' q, Same H H' → FrQ H' q (rd h l) → Q (.ref q) H'
theorem gcd_mod (t b : Int) : (t % b).gcd b = t.gcd b := by
  rw [Int.gcd_left_eq_iff]
  intro c hc
  have e := Int.emod_add_mul_ediv t b
  obtain ⟨k, hk⟩ := hc
  constructor
  · rintro ⟨m, hm⟩
    exact ⟨m + k * (t / b), by rw [← e, hm]; grind⟩
  · rintro ⟨m, hm⟩
    exact ⟨m - k * (t / b), by grind⟩
/-- a def of two fractions -/
def sp_fr2 (f : Q2 → Q2 → Q2) : Sp := fun vs H Q _ => ∃ (p q : Addr) (x y : Q2) (n : Nat), vs = [.ref p, .ref q] ∧ FrQ H p x ∧ FrQ H q y ∧ Low n x ∧ Low n y ∧ n ≤ 3900 ∧ ∀ H' r, Same H H' → FrQ H' r (f x y) → Q (.ref r) H'
def plusF (x y : Q2) : Q2 := rd (x.1 * y.2 + y.1 * x.2) (x.2 * y.2)
def timesF (x y : Q2) : Q2 := rd (x.1 * y.1) (x.2 * y.2)
def sp_amount (C : Addr) : Sp := fun vs H Q _ => ∃ (p : Addr) (x : Q2) (n : Nat), vs = [.ref p] ∧ FrQ H p x ∧ Low n x ∧ n ≤ 8000 ∧ ∀ H' v, Same H H' → IsP C H' v x.1 x.2 → Q v H'
section
variable {P : Program} {w : World} {K : PySem.W.Frag} {mg : Str → Option Value} {base : Heap} {a : Ad}

theorem ok_pot (T : Txt K mg a) : FnOk P w K mg base CX0 1 a.f_pot a.d_pot ["_law_script", "_law_k"] (sp_pot K) := by
  refine T.F_pot.ok sc_pot (fun vs H Q E h => ?_) (fun cdv A outer s H vs Q E hr h => ?_)
  · obtain ⟨sc, ns, k, rfl, _⟩ := h
    rfl
  · obtain ⟨sc, ns, k, rfl, hS, hlen, hk, q⟩ := h
    have fin : ∀ c : Int, 0 ≤ c → ∀ p, H p = none → Q (.ref p) (upd H p (.lst [.int (if c - 10 ^ (18 : Int).toNat > 0 then c - 10 ^ (18 : Int).toNat else 0), .int ((c % 2147483563 * 40692 + 8117 * (k : Int) + 53) % 2147483629 + 1)])) := by
      intro c hc p hp
      refine q _ p (Lb.Same.upd hp) hp ⟨_, _, upd_same, ?_, ?_, ?_⟩
      · split <;> omega
      · omega
      · omega
    refine ⟨_, (pss_cons (ps_set (i := 2) sc_pot.nd rfl (by first | exact Or.inl rfl | exact Or.inr rfl) (pe_op op_add (pe_op op_mulX pe_int (pv 1)) pe_int))
 (pss_cons (ps_if (pt_cmpR op_lt (pv 1) (pe_callB (call_lenK (K := K) rfl) (by rfl) T.b_len (by decide +kernel) (pa_cons (pv 0) pa_nil)) (nomark _)) (pss_one (ps_set (i := 2) sc_pot.nd rfl (by first | exact Or.inl rfl | exact Or.inr rfl) (pe_callB call_abs (by rfl) T.b_abs (by decide +kernel) (pa_cons (pe_ix (ix_listK (K := K) rfl) (pv 0) (pv 1) (fun _ _ => rfl)) pa_nil)))) pss_nil)
 (pss_one (ps_ret (pe_lst (pa_cons (pe_callB (call_max2 rfl) (by rfl) T.b_max (by decide +kernel) (pa_cons pe_int (pa_cons (pe_op op_sub (pv 2) (pe_op op_pow pe_int pe_int)) pa_nil))) (pa_cons (pe_op op_add (pe_op op_mod (pe_callTy call_int1 (by rfl) T.b_int (by decide +kernel) (pa_cons (pe_op op_add (pe_op op_add (pe_op op_mulX (pe_op op_mod (pe_callTy call_int1 (by rfl) T.b_int (by decide +kernel) (pa_cons (pv 2) pa_nil)) pe_int) pe_int) (pe_op op_mulX pe_int (pv 1))) pe_int) pa_nil)) pe_int) pe_int) pa_nil))))))), ?_⟩
    refine ⟨_, rfl, _, _, rfl, rfl, mulx_ok (a := 100) (b := 100) (by decide) (by omega) (by decide), _, _, rfl, rfl, ?_⟩
    -- if k < len(script)
    refine ⟨_, rfl, _, rfl, _, _, rfl, .inl hS, _, _, rfl, rfl, _, rfl, ?_⟩
    rw [List.length_map]
    refine ite2 (fun hlt => ?_) (fun _ => ?_)
    · have hlt' : k < ns.length := by simpa using hlt
      have hget : (ns.map V.int)[k]? = some (V.int ns[k]) := by simp [hlt']
      refine ⟨_, rfl, _, rfl, _, _, _, _, rfl, rfl, hS, atI_nat hget, _, rfl, ?_⟩
      refine ⟨_, rfl, _, _, rfl, rfl, ⟨by decide, by decide, by decide⟩, _, _, rfl, rfl, _, _, rfl, ?_⟩
      refine ⟨_, rfl, .inl ⟨_, rfl, _, _, rfl, rfl, (by show (0 : Int) < _; decide), _, _, rfl, rfl, mulx_ok (a := 100) (b := 100) (by omega) (by decide) (by decide), ?_⟩⟩
      refine ⟨_, rfl, _, _, rfl, rfl, mulx_ok (a := 100) (b := 100) (by decide) (by omega) (by decide), _, _, rfl, rfl, _, _, rfl, rfl, ?_⟩
      refine .inl ⟨_, rfl, _, _, rfl, rfl, (by show (0 : Int) < _; decide), _, _, rfl, rfl, sz, fun p hp => ?_⟩
      exact fin _ (by split <;> omega) p hp
    · refine ⟨_, rfl, _, _, rfl, rfl, ⟨by decide, by decide, by decide⟩, _, _, rfl, rfl, _, _, rfl, ?_⟩
      refine ⟨_, rfl, .inl ⟨_, rfl, _, _, rfl, rfl, (by show (0 : Int) < _; decide), _, _, rfl, rfl, mulx_ok (a := 100) (b := 100) (by omega) (by decide) (by decide), ?_⟩⟩
      refine ⟨_, rfl, _, _, rfl, rfl, mulx_ok (a := 100) (b := 100) (by decide) (by omega) (by decide), _, _, rfl, rfl, _, _, rfl, rfl, ?_⟩
      refine .inl ⟨_, rfl, _, _, rfl, rfl, (by show (0 : Int) < _; decide), _, _, rfl, rfl, sz, fun p hp => ?_⟩
      exact fin _ (by omega) p hp

theorem ok_draw (T : Txt K mg a) : FnOk P w K mg base CX0 1 a.f_draw a.d_draw ["_law_pot_here", "_law_many"] sp_draw := by
  refine T.F_draw.ok sc_draw (fun vs H Q E h => ?_) (fun cdv A outer s H vs Q E hr h => ?_)
  · obtain ⟨p, n, rfl, _⟩ := h
    rfl
  · obtain ⟨p, n, rfl, ⟨x, y, hp, hx, hy0, hy1⟩, hn, hb, q⟩ := h
    have S := SqL.of (K := K) hp
    have e0 : atI ([.int x, .int y] : List V) ((0 : Nat) : Int) = some (.int x) := atI_nat rfl
    have e1 : atI ([.int x, .int y] : List V) ((1 : Nat) : Int) = some (.int y) := atI_nat rfl
    refine ⟨_, (pss_cons (ps_if (pt_cmpR op_gt (pe_ix (ix_listK (K := K) rfl) (pv 0) pe_int (fun _ _ => rfl)) pe_int (nomark _)) (pss_cons (ps_asg (pe_callB call_divmodW (by rfl) T.b_divmod (by decide +kernel) (pa_cons (pe_ix (ix_listK (K := K) rfl) (pv 0) pe_int (fun _ _ => rfl)) (pa_cons (pv 1) pa_nil))) (pg_tupK (K := K) (n := 2) rfl rfl (pgs_cons (pg_sub (pv 0) pe_int set_list) (pgs_cons (pg_name (i := 2) sc_draw.nd rfl (by first | exact Or.inl rfl | exact Or.inr rfl)) pgs_nil))))
 (pss_one (ps_ret (pv 2)))) pss_nil)
 (pss_cons (ps_asg (pe_op op_mod (pe_callTy call_int1 (by rfl) T.b_int (by decide +kernel) (pa_cons (pe_op op_add (pe_op op_mulX (pe_ix (ix_listK (K := K) rfl) (pv 0) pe_int (fun _ _ => rfl)) pe_int) pe_int) pa_nil)) pe_int) (pg_sub (pv 0) pe_int set_list))
 (pss_one (ps_ret (pe_op op_mod (pe_callTy call_int1 (by rfl) T.b_int (by decide +kernel) (pa_cons (pe_op op_fdivW (pe_op op_mod (pe_callTy call_int1 (by rfl) T.b_int (by decide +kernel) (pa_cons (pe_op op_mulX (pe_ix (ix_listK (K := K) rfl) (pv 0) pe_int (fun _ _ => rfl)) (pe_ix (ix_listK (K := K) rfl) (pv 0) pe_int (fun _ _ => rfl))) pa_nil)) pe_int) pe_int) pa_nil)) (pv 1)))))), ?_⟩
    refine ⟨_, rfl, _, _, _, _, rfl, rfl, S, e0, _, _, rfl, rfl, _, rfl, ?_⟩
    refine ite2 (fun hlt => ?_) (fun _ => ?_)
    · have hlt : 0 < x := by simpa using hlt
      refine ⟨_, rfl, _, _, _, _, rfl, rfl, S, e0, _, rfl, _, _, rfl, divp_small hn (hb.mono (by decide)), fun t ht => ?_⟩
      have npt : p ≠ t := ne_of_none hp ht
      refine ⟨_, _, rfl, SqT.of upd_same, rfl, ?_⟩
      have hp2 : upd H t (.tup [.int (x / n), .int (x % n)]) p = some (.lst [.int x, .int y]) := by rw [upd_ne npt]; exact hp
      refine ⟨_, _, rfl, ⟨_, rfl, _, _, _, 0, rfl, rfl, hp2, rfl, _, _, rfl, ⟨rfl, ?_⟩⟩⟩
      refine ⟨_, rfl, ?_⟩
      refine q _ _ ⟨fun b o nb e => ?_, _, _, upd_same, Int.ediv_nonneg hx (by omega), hy0, hy1⟩ (Int.emod_nonneg _ (by omega)) (Int.emod_lt_of_pos _ hn)
      rw [upd_ne nb, upd_ne (ne_of_none e ht)]
      exact e
    · refine ⟨_, rfl, _, _, _, _, rfl, rfl, S, e1, _, _, rfl, rfl, mulx_ok (a := 100) (b := 100) (by omega) (by decide) (by decide), _, _, rfl, rfl, .inl ⟨_, rfl, _, _, rfl, rfl, (by show (0 : Int) < _; decide), ?_⟩⟩
      refine ⟨_, rfl, _, _, _, 1, rfl, rfl, hp, rfl, ?_⟩
      have e2 : ∀ z : Int, atI ([.int x, .int z] : List V) ((1 : Nat) : Int) = some (.int z) := fun z => atI_nat rfl
      have S2 : ∀ z : Int, SqL K (upd H p (.lst ([V.int x, V.int y].set 1 (.int z)))) p [.int x, .int z] := fun z => SqL.of upd_same
      refine ⟨_, rfl, _, _, _, _, rfl, rfl, S2 _, e2 _, _, rfl, _, _, _, _, rfl, rfl, S2 _, e2 _, _, _, rfl, rfl, mulx_ok (a := 100) (b := 100) (by omega) (by omega) (by decide), ?_⟩
      refine .inl ⟨_, rfl, _, _, rfl, rfl, (by show (0 : Int) < _; decide), _, _, rfl, rfl, ⟨(by show (0 : Int) < _; decide), (by decide)⟩, .inl ⟨_, rfl, _, rfl, _, _, rfl, rfl, hn, ?_⟩⟩
      refine q _ _ ⟨fun b o nb e => ?_, _, _, upd_same, hx, by omega, by omega⟩ (Int.emod_nonneg _ (by omega)) (Int.emod_lt_of_pos _ hn)
      rw [upd_ne nb]
      exact e
theorem ok_low (T : Txt K mg a) : FnOk P w K mg base CX0 1 a.f_low a.d_low ["_law_top", "_law_bottom"] sp_low := by
  refine T.F_low.ok sc_low (fun vs H Q E h => ?_) (fun cdv A outer s H vs Q E hr h => ?_)
  · obtain ⟨x, y, rfl, _⟩ := h
    rfl
  · obtain ⟨x, y, rfl, hy, bx, bY, q⟩ := h
    refine ⟨_, (pss_cons (ps_par (i := 2) (j := 3) rfl sc_low.nd rfl rfl (by decide) rfl rfl (pa_cons (pe_callB call_abs (by rfl) T.b_abs (by decide +kernel) (pa_cons (pv 0) pa_nil)) (pa_cons (pe_callB call_abs (by rfl) T.b_abs (by decide +kernel) (pa_cons (pv 1) pa_nil)) pa_nil)) (by rfl))
 (pss_cons (ps_while PassesOwn.never (pt_cmpR op_gt (pv 3) pe_int (nomark _)) (pss_one (ps_par (i := 2) (j := 3) rfl sc_low.nd rfl rfl (by decide) rfl rfl (pa_cons (pv 3) (pa_cons (pe_op op_mod (pe_callTy call_int1 (by rfl) T.b_int (by decide +kernel) (pa_cons (pv 2) pa_nil)) (pv 3)) pa_nil)) (by rfl))))
 (pss_cons (ps_set (i := 2) sc_low.nd rfl (by first | exact Or.inl rfl | exact Or.inr rfl) (pe_ifExp (pt_cmpR op_gt (pv 1) pe_int (nomark _)) (pv 2) (pe_op op_sub pe_int (pv 2))))
 (pss_one (ps_ret (pe_tup (pa_cons (pe_op op_fdivX (pv 0) (pv 2)) (pa_cons (pe_op op_fdivX (pv 1) (pv 2)) pa_nil)))))))), ?_⟩
    refine ⟨_, rfl, _, rfl, _, rfl, _, rfl, _, _, rfl, ?_⟩
    refine while_by (fun σ H' => H' = H ∧ ∃ u v : Int, σ = [some (.int x), some (.int y), some (.int u), some (.int v)] ∧ 0 ≤ u ∧ 0 ≤ v ∧ u.gcd v = x.gcd y) (fun σ _ => (ivals σ 3).toNat)
      ⟨rfl, _, _, rfl, by split <;> omega, by split <;> omega, ?_⟩ ?_ (fun σ H Q Q' k ⟨v, e, i, j, e1, e2, b, e3, q⟩ => ⟨v, e, i, j, e1, e2, b, e3, k _ _ q⟩)
    · split <;> split <;> simp
    · rintro σ H' ⟨rfl, u, v, rfl, hu, hv, g⟩
      refine ⟨_, rfl, _, _, rfl, rfl, _, rfl, ?_⟩
      refine ite2 (fun hlt => ?_) (fun hlt => ?_)
      · have hlt : 0 < v := by simpa using hlt
        refine ⟨_, rfl, _, rfl, .inl ⟨_, rfl, _, rfl, _, _, rfl, rfl, hlt, _, _, rfl, ?_⟩⟩
        refine ⟨⟨rfl, _, _, rfl, hv, Int.emod_nonneg _ (by omega), ?_⟩, ?_⟩
        · rw [Int.gcd_comm, gcd_mod]
          exact g
        · show (u % v).toNat < v.toNat
          have := Int.emod_lt_of_pos u hlt
          have := Int.emod_nonneg u (show v ≠ 0 by omega)
          omega
      · have e0 : v = 0 := by
          have : ¬ 0 < v := by simpa using hlt
          omega
        subst e0
        have e : u = ((Nat.gcd x.natAbs y.natAbs : Nat) : Int) := by
          have g' : u.natAbs = Nat.gcd x.natAbs y.natAbs := by
            rw [Int.gcd_zero] at g
            exact g
          omega
        subst e
        have hd : rdD x y ≠ 0 := by
          have : 0 < Nat.gcd x.natAbs y.natAbs := Nat.gcd_pos_of_pos_right _ (by omega)
          unfold rdD
          split <;> omega
        have bd : Bd 8000 (rdD x y) := by
          have : Nat.gcd x.natAbs y.natAbs ≤ y.natAbs := Nat.gcd_le_right _ (by omega)
          refine bY.le ?_
          unfold rdD
          split <;> omega
        refine ⟨_, rfl, _, _, rfl, rfl, _, rfl, ite2 (fun h1 => ?_) (fun h1 => ?_)⟩
        · have h1 : 0 < y := by simpa using h1
          have eD : ((Nat.gcd x.natAbs y.natAbs : Nat) : Int) = rdD x y := by unfold rdD; rw [if_neg (by omega)]
          rw [eD]
          refine ⟨_, rfl, _, rfl, _, rfl, _, _, rfl, rfl, bd.cx hd (by decide), _, rfl, _, rfl, _, _, rfl, rfl, bd.cx hd (by decide), sz, fun r hr => q _ r (Lb.Same.upd hr) upd_same⟩
        · have h1 : ¬ 0 < y := by simpa using h1
          have eD : (0 : Int) - ((Nat.gcd x.natAbs y.natAbs : Nat) : Int) = rdD x y := by unfold rdD; rw [if_pos (by omega)]; omega
          refine ⟨_, rfl, _, _, rfl, rfl, ?_⟩
          dsimp only
          rw [eD]
          refine ⟨_, rfl, _, rfl, _, _, rfl, rfl, bd.cx hd (by decide), _, rfl, _, rfl, _, _, rfl, rfl, bd.cx hd (by decide), sz, fun r hr => q _ r (Lb.Same.upd hr) upd_same⟩
theorem ok_plus (T : Txt K mg a) : FnOk P w K mg base CX0 2 a.f_plus a.d_plus ["_law_one", "_law_other_here"] (sp_fr2 plusF) := by
  refine T.F_plus.ok sc_plus (fun vs H Q E h => ?_) (fun cdv A outer s H vs Q E hr h => ?_)
  · obtain ⟨p, q, x, y, n, rfl, _⟩ := h
    rfl
  · obtain ⟨p, q, x, y, n, rfl, hp, hq, lx, ly, hn, k⟩ := h
    refine ⟨_, (pss_one (ps_ret (pe_call (ok_low T) (hr.mono (by decide)) (by rfl) T.m_low T.F_low.kp (b_low T) .nil pass0 (pa_cons (pe_op op_add (pe_op op_mulX (pe_ix (ix_tupK (K := K) rfl) (pv 0) pe_int (fun _ _ => rfl)) (pe_ix (ix_tupK (K := K) rfl) (pv 1) pe_int (fun _ _ => rfl))) (pe_op op_mulX (pe_ix (ix_tupK (K := K) rfl) (pv 1) pe_int (fun _ _ => rfl)) (pe_ix (ix_tupK (K := K) rfl) (pv 0) pe_int (fun _ _ => rfl)))) (pa_cons (pe_op op_mulX (pe_ix (ix_tupK (K := K) rfl) (pv 0) pe_int (fun _ _ => rfl)) (pe_ix (ix_tupK (K := K) rfl) (pv 1) pe_int (fun _ _ => rfl))) pa_nil))))), ?_⟩
    have b1 : Bd 3900 x.1 := lx.t.mono hn
    have b2 : Bd 3900 x.2 := lx.b.mono hn
    have b3 : Bd 3900 y.1 := ly.t.mono hn
    have b4 : Bd 3900 y.2 := ly.b.mono hn
    refine ⟨_, rfl, _, _, _, _, rfl, rfl, SqT.of hp, at0, _, rfl, _, _, _, _, rfl, rfl, SqT.of hq, at1, _, _, rfl, rfl, b1.cm b4 (by decide), ?_⟩
    refine ⟨_, rfl, _, _, _, _, rfl, rfl, SqT.of hq, at0, _, rfl, _, _, _, _, rfl, rfl, SqT.of hp, at1, _, _, rfl, rfl, b3.cm b2 (by decide), _, _, rfl, rfl, ?_⟩
    refine ⟨_, rfl, _, _, _, _, rfl, rfl, SqT.of hp, at1, _, rfl, _, _, _, _, rfl, rfl, SqT.of hq, at1, _, _, rfl, rfl, b2.cm b4 (by decide), ?_⟩
    exact ⟨_, _, rfl, mul_pos_ne lx.pos ly.pos, ((b1.mul b4).add (b3.mul b2)).mono (by decide), (b2.mul b4).mono (by decide), fun H' r s f => k _ _ s f⟩
theorem ok_minus (T : Txt K mg a) : FnOk P w K mg base CX0 2 a.f_minus a.d_minus ["_law_one", "_law_other_here"] (sp_fr2 minusF) := by
  refine T.F_minus.ok sc_minus (fun vs H Q E h => ?_) (fun cdv A outer s H vs Q E hr h => ?_)
  · obtain ⟨p, q, x, y, n, rfl, _⟩ := h
    rfl
  · obtain ⟨p, q, x, y, n, rfl, hp, hq, lx, ly, hn, k⟩ := h
    refine ⟨_, (pss_one (ps_ret (pe_call (ok_low T) (hr.mono (by decide)) (by rfl) T.m_low T.F_low.kp (b_low T) .nil pass0 (pa_cons (pe_op op_sub (pe_op op_mulX (pe_ix (ix_tupK (K := K) rfl) (pv 0) pe_int (fun _ _ => rfl)) (pe_ix (ix_tupK (K := K) rfl) (pv 1) pe_int (fun _ _ => rfl))) (pe_op op_mulX (pe_ix (ix_tupK (K := K) rfl) (pv 1) pe_int (fun _ _ => rfl)) (pe_ix (ix_tupK (K := K) rfl) (pv 0) pe_int (fun _ _ => rfl)))) (pa_cons (pe_op op_mulX (pe_ix (ix_tupK (K := K) rfl) (pv 0) pe_int (fun _ _ => rfl)) (pe_ix (ix_tupK (K := K) rfl) (pv 1) pe_int (fun _ _ => rfl))) pa_nil))))), ?_⟩
    have b1 : Bd 3900 x.1 := lx.t.mono hn
    have b2 : Bd 3900 x.2 := lx.b.mono hn
    have b3 : Bd 3900 y.1 := ly.t.mono hn
    have b4 : Bd 3900 y.2 := ly.b.mono hn
    refine ⟨_, rfl, _, _, _, _, rfl, rfl, SqT.of hp, at0, _, rfl, _, _, _, _, rfl, rfl, SqT.of hq, at1, _, _, rfl, rfl, b1.cm b4 (by decide), ?_⟩
    refine ⟨_, rfl, _, _, _, _, rfl, rfl, SqT.of hq, at0, _, rfl, _, _, _, _, rfl, rfl, SqT.of hp, at1, _, _, rfl, rfl, b3.cm b2 (by decide), _, _, rfl, rfl, ?_⟩
    refine ⟨_, rfl, _, _, _, _, rfl, rfl, SqT.of hp, at1, _, rfl, _, _, _, _, rfl, rfl, SqT.of hq, at1, _, _, rfl, rfl, b2.cm b4 (by decide), ?_⟩
    exact ⟨_, _, rfl, mul_pos_ne lx.pos ly.pos, ((b1.mul b4).sub (b3.mul b2)).mono (by decide), (b2.mul b4).mono (by decide), fun H' r s f => k _ _ s f⟩
theorem ok_times (T : Txt K mg a) : FnOk P w K mg base CX0 2 a.f_times a.d_times ["_law_one", "_law_other_here"] (sp_fr2 timesF) := by
  refine T.F_times.ok sc_times (fun vs H Q E h => ?_) (fun cdv A outer s H vs Q E hr h => ?_)
  · obtain ⟨p, q, x, y, n, rfl, _⟩ := h
    rfl
  · obtain ⟨p, q, x, y, n, rfl, hp, hq, lx, ly, hn, k⟩ := h
    refine ⟨_, (pss_one (ps_ret (pe_call (ok_low T) (hr.mono (by decide)) (by rfl) T.m_low T.F_low.kp (b_low T) .nil pass0 (pa_cons (pe_op op_mulX (pe_ix (ix_tupK (K := K) rfl) (pv 0) pe_int (fun _ _ => rfl)) (pe_ix (ix_tupK (K := K) rfl) (pv 1) pe_int (fun _ _ => rfl))) (pa_cons (pe_op op_mulX (pe_ix (ix_tupK (K := K) rfl) (pv 0) pe_int (fun _ _ => rfl)) (pe_ix (ix_tupK (K := K) rfl) (pv 1) pe_int (fun _ _ => rfl))) pa_nil))))), ?_⟩
    have b1 : Bd 3900 x.1 := lx.t.mono hn
    have b2 : Bd 3900 x.2 := lx.b.mono hn
    have b3 : Bd 3900 y.1 := ly.t.mono hn
    have b4 : Bd 3900 y.2 := ly.b.mono hn
    refine ⟨_, rfl, _, _, _, _, rfl, rfl, SqT.of hp, at0, _, rfl, _, _, _, _, rfl, rfl, SqT.of hq, at0, _, _, rfl, rfl, b1.cm b3 (by decide), ?_⟩
    refine ⟨_, rfl, _, _, _, _, rfl, rfl, SqT.of hp, at1, _, rfl, _, _, _, _, rfl, rfl, SqT.of hq, at1, _, _, rfl, rfl, b2.cm b4 (by decide), ?_⟩
    exact ⟨_, _, rfl, mul_pos_ne lx.pos ly.pos, (b1.mul b3).mono (by decide), (b2.mul b4).mono (by decide), fun H' r s f => k _ _ s f⟩
def sp_over : Sp := fun vs H Q _ => ∃ (p q : Addr) (x y : Q2) (n : Nat), vs = [.ref p, .ref q] ∧ FrQ H p x ∧ FrQ H q y ∧ Low n x ∧ Low n y ∧ n ≤ 3900 ∧ y.1 ≠ 0 ∧ ∀ H' r, Same H H' → FrQ H' r (overF x y) → Q (.ref r) H'
theorem ok_over (T : Txt K mg a) : FnOk P w K mg base CX0 2 a.f_over a.d_over ["_law_one", "_law_other_here"] sp_over := by
  refine T.F_over.ok sc_over (fun vs H Q E h => ?_) (fun cdv A outer s H vs Q E hr h => ?_)
  · obtain ⟨p, q, x, y, n, rfl, _⟩ := h
    rfl
  · obtain ⟨p, q, x, y, n, rfl, hp, hq, lx, ly, hn, y0, k⟩ := h
    refine ⟨_, (pss_one (ps_ret (pe_call (ok_low T) (hr.mono (by decide)) (by rfl) T.m_low T.F_low.kp (b_low T) .nil pass0 (pa_cons (pe_op op_mulX (pe_ix (ix_tupK (K := K) rfl) (pv 0) pe_int (fun _ _ => rfl)) (pe_ix (ix_tupK (K := K) rfl) (pv 1) pe_int (fun _ _ => rfl))) (pa_cons (pe_op op_mulX (pe_ix (ix_tupK (K := K) rfl) (pv 0) pe_int (fun _ _ => rfl)) (pe_ix (ix_tupK (K := K) rfl) (pv 1) pe_int (fun _ _ => rfl))) pa_nil))))), ?_⟩
    have b1 : Bd 3900 x.1 := lx.t.mono hn
    have b2 : Bd 3900 x.2 := lx.b.mono hn
    have b3 : Bd 3900 y.1 := ly.t.mono hn
    have b4 : Bd 3900 y.2 := ly.b.mono hn
    refine ⟨_, rfl, _, _, _, _, rfl, rfl, SqT.of hp, at0, _, rfl, _, _, _, _, rfl, rfl, SqT.of hq, at1, _, _, rfl, rfl, b1.cm b4 (by decide), ?_⟩
    refine ⟨_, rfl, _, _, _, _, rfl, rfl, SqT.of hp, at1, _, rfl, _, _, _, _, rfl, rfl, SqT.of hq, at0, _, _, rfl, rfl, b2.cm b3 (by decide), ?_⟩
    exact ⟨_, _, rfl, Int.mul_ne_zero (by have := lx.pos; omega) y0, (b1.mul b4).mono (by decide), (b2.mul b3).mono (by decide), fun H' r s f => k _ _ s f⟩

theorem ok_amount (T : Txt K mg a) : FnOk P w K mg base CX0 4 a.f_amount a.d_amount ["_law_part"] (sp_amount a.c_Amount) := by
  refine T.F_amount.ok sc_amount (fun vs H Q E h => ?_) (fun cdv A outer s H vs Q E hr h => ?_)
  · obtain ⟨p, x, n, rfl, _⟩ := h
    rfl
  · obtain ⟨p, x, n, rfl, hp, lx, hn, k⟩ := h
    refine ⟨_, (pss_one (ps_ret (pe_ifExp (pt_cmpR op_eq (pe_ix (ix_tupK (K := K) rfl) (pv 0) pe_int (fun _ _ => rfl)) pe_int (nomark _)) (pe_ix (ix_tupK (K := K) rfl) (pv 0) pe_int (fun _ _ => rfl)) (pe_make T.mkA (ok_Amount_init_ T) (hr.mono (by decide)) (by rfl) T.mA (b_Amount_init_ T) .nil pass0 (pa_cons (pe_ix (ix_tupK (K := K) rfl) (pv 0) pe_int (fun _ _ => rfl)) (pa_cons (pe_ix (ix_tupK (K := K) rfl) (pv 0) pe_int (fun _ _ => rfl)) pa_nil)))))), ?_⟩
    refine ⟨_, rfl, _, _, _, _, rfl, rfl, SqT.of hp, at1, rfl, _, rfl, ite2 (fun h1 => ?_) (fun h1 => ?_)⟩
    · have h1 : x.2 = 1 := by simpa using h1
      exact ⟨_, rfl, _, _, _, _, rfl, rfl, SqT.of hp, at0, k _ _ (Same.refl _) (.inl ⟨rfl, h1⟩)⟩
    · refine ⟨_, rfl, _, _, _, _, rfl, rfl, SqT.of hp, at0, _, rfl, _, _, _, _, rfl, rfl, SqT.of hp, at1, ?_⟩
      refine fun q dx hq hdx ne => ⟨q, dx, _, _, rfl, by have := lx.pos; omega, lx.t.mono hn, lx.b.mono hn, upd_same, fun H' kp e => ⟨rfl, ?_⟩⟩
      obtain ⟨s, m⟩ := made_am hq hdx ne kp e
      obtain ⟨e1, e2⟩ := rd_self lx.pos lx.g
      rw [e1, e2] at m
      exact k _ _ s (.inr ⟨q, rfl, m⟩)
end
end K16

set_option Elab.async false
set_option linter.all false
set_option maxRecDepth 100000
set_option maxHeartbeats 4000000
set_option exponentiation.threshold 10000
namespace K16
open PySem L2 Lb
open C8 (pss_cut)
def sp_read (C : Addr) : Sp := fun vs H Q _ => ∃ (p : Addr) (x : Q2), vs = [.ref p] ∧ AmQ C H p x ∧ ∀ H' q, Same H H' → FrQ H' q x → Q (.ref q) H'
def sp_step : Sp := fun vs H Q _ => ∃ (p : Addr), vs = [.ref p] ∧ PotAt H p ∧ ∀ H' d, Mov p H H' → 1 ≤ d → d ≤ 1000000 → Q (.int d) H'
def sp_points : Sp := fun vs H Q _ => ∃ (p : Addr), vs = [.ref p] ∧ PotAt H p ∧ ∀ H' l zs, Mov p H H' → H l = none → Spots H' l zs → LP 22 zs → zs.length ≤ 9 → Q (.ref l) H'
theorem four_at {a b c d : Int} {i : Int} (h0 : 0 ≤ i) (h4 : i < 4) : ∃ n, atI [V.int a, V.int b, V.int c, V.int d] i = some (.int n) ∧ (n = a ∨ n = b ∨ n = c ∨ n = d) := by
  rcases (show i = 0 ∨ i = 1 ∨ i = 2 ∨ i = 3 by omega) with rfl | rfl | rfl | rfl
  · exact ⟨a, atI_nat (j := 0) rfl, .inl rfl⟩
  · exact ⟨b, atI_nat (j := 1) rfl, .inr (.inl rfl)⟩
  · exact ⟨c, atI_nat (j := 2) rfl, .inr (.inr (.inl rfl))⟩
  · exact ⟨d, atI_nat (j := 3) rfl, .inr (.inr (.inr rfl))⟩
theorem PotAt.ne_ref {p l : Addr} {H : Hp} (hp : PotAt H p) (h : H l = none) : l ≠ p := by
  obtain ⟨_, _, e, _⟩ := hp
  exact (ne_of_none e h).symm
/-- a point of the law, its parts over w and h -/
def gP (w h : Int) (p : Q2) : Pt := (rd p.1 w, rd p.2 h)
theorem gP_low {w h : Int} {p : Q2} (hw : 1 ≤ w ∧ w ≤ 9) (hh : 1 ≤ h ∧ h ≤ 9) (bx : Bd 22 p.1) (by_ : Bd 22 p.2) : Low 22 (gP w h p).1 ∧ Low 22 (gP w h p).2 :=
  ⟨rd_low (by omega) bx (by unfold Bd; omega), rd_low (by omega) by_ (by unfold Bd; omega)⟩
section
variable {P : Program} {w : World} {K : PySem.W.Frag} {mg : Str → Option Value} {base : Heap} {a : Ad}
theorem ok_read (T : Txt K mg a) : FnOk P w K mg base CX0 3 a.f_read a.d_read ["_law_told"] (sp_read a.c_Amount) := by
  refine T.F_read.ok sc_read (fun vs H Q E h => ?_) (fun cdv A outer s H vs Q E hr h => ?_)
  · obtain ⟨p, x, rfl, _⟩ := h
    rfl
  · obtain ⟨p, x, rfl, ⟨dx, hp⟩, k⟩ := h
    refine ⟨_, (pss_one (ps_ret (pe_tup (pa_cons (pe_prop (pv 0) T.cl T.p_top (ok_Amounttop T) (hr.mono (by decide)) (b_Amounttop T) .nil pass0 rfl) (pa_cons (pe_prop (pv 0) T.cl T.p_bottom (ok_Amountbottom T) (hr.mono (by decide)) (b_Amountbottom T) .nil pass0 rfl) pa_nil))))), ?_⟩
    refine ⟨_, rfl, p, dx, _, rfl, hp, p, _, _, rfl, ⟨dx, hp⟩, ?_⟩
    refine ⟨_, rfl, p, dx, _, rfl, hp, p, _, _, rfl, ⟨dx, hp⟩, sz, fun t ht => k _ t (Lb.Same.upd ht) upd_same⟩
theorem ok_step (T : Txt K mg a) : FnOk P w K mg base CX0 2 a.f_step a.d_step ["_law_pot_here"] sp_step := by
  refine T.F_step.ok sc_step (fun vs H Q E h => ?_) (fun cdv A outer s H vs Q E hr h => ?_)
  · obtain ⟨p, rfl, _⟩ := h
    rfl
  · obtain ⟨p, rfl, hp, k⟩ := h
    refine ⟨_, (pss_one (ps_ret (pe_op op_add pe_int (pe_call (ok_draw T) (hr.mono (by decide)) (by rfl) T.m_draw T.F_draw.kp (b_draw T) .nil pass0 (pa_cons (pv 0) (pa_cons (pe_ix (ix_listK (K := K) rfl) (pe_lst (pa_cons pe_int (pa_cons pe_int (pa_cons pe_int (pa_cons (pe_op op_pow pe_int pe_int) pa_nil))))) (pe_call (ok_draw T) (hr.mono (by decide)) (by rfl) T.m_draw T.F_draw.kp (b_draw T) .nil pass0 (pa_cons (pv 0) (pa_cons pe_int pa_nil))) (fun _ _ => rfl)) pa_nil)))))), ?_⟩
    refine ⟨_, rfl, _, _, rfl, rfl, ⟨by decide, by decide, by decide⟩, sz, fun l hl => ?_⟩
    have M0 := (Mov.refl hp).same (Lb.Same.upd (o := .lst [V.int 2, V.int 2, V.int 9, V.int (10 ^ (6 : Int).toNat)]) hl)
    refine ⟨_, rfl, p, _, rfl, M0.pot, by decide, by unfold Bd; decide, fun H1 d m1 d0 d1 => ?_⟩
    obtain ⟨n, an, hn⟩ := four_at (a := 2) (b := 2) (c := 9) (d := 10 ^ (6 : Int).toNat) d0 d1
    have nb : 0 < n ∧ n ≤ 1000000 := by
      rcases hn with rfl | rfl | rfl | rfl <;> decide
    have M1 := M0.trans m1
    have nl : l ≠ p := (Mov.refl hp).ne hl
    refine ⟨_, _, _, _, rfl, rfl, SqL.mov m1 nl (SqL.of upd_same), an, p, n, rfl, M1.pot, nb.1, by unfold Bd; omega, fun H2 e m2 e0 e1 => ⟨_, _, rfl, rfl, k _ (1 + e) (M1.trans m2) (by omega) (by omega)⟩⟩
theorem ok_points (T : Txt K mg a) : FnOk P w K mg base CX0 3 a.f_points a.d_points ["_law_pot_here"] sp_points := by
  refine T.F_points.ok sc_points (fun vs H Q E h => ?_) (fun cdv A outer s H vs Q E hr h => ?_)
  · obtain ⟨p, rfl, _⟩ := h
    rfl
  · obtain ⟨p, rfl, hp, k⟩ := h
    refine ⟨_, (pss_cons (ps_par (i := 1) (j := 2) rfl sc_points.nd rfl rfl (by decide) rfl rfl (pa_cons (pe_lst (pa_cons (pe_call (ok_draw T) (hr.mono (by decide)) (by rfl) T.m_draw T.F_draw.kp (b_draw T) .nil pass0 (pa_cons (pv 0) (pa_cons pe_int pa_nil))) (pa_cons (pe_call (ok_draw T) (hr.mono (by decide)) (by rfl) T.m_draw T.F_draw.kp (b_draw T) .nil pass0 (pa_cons (pv 0) (pa_cons pe_int pa_nil))) pa_nil))) (pa_cons (pe_lst (pa_cons (pe_tup (pa_cons pe_int (pa_cons pe_int pa_nil))) pa_nil)) pa_nil)) (by rfl))
 (pss_cons (ps_asg (pe_lc (own := [("_law_part", 5)]) (by rfl) sc_points.nd (pi_listK (K := K) rfl (pv 1)) (blkOk_by (own := [("_law_part", 5)]) (N := ["_law_pot_here", "_law_sides", "_law_found", "_law_wide", "_law_high", "_law_part", "_law_turn", "_law_x", "_law_y"]) (sc := defScope s_points) (by decide +kernel)) (fun _ _ _ _ _ => (pg_name (i := 5) sc_points.nd rfl (by first | exact Or.inl rfl | exact Or.inr rfl))) (fun _ _ _ _ _ => pts_nil) (fun _ _ _ _ _ => (pe_op op_add pe_int (pe_op op_mulX (pe_call (ok_draw T) (hr.mono (by decide)) (by rfl) T.m_draw T.F_draw.kp (b_draw T) .nil pass0 (pa_cons (pv 0) (pa_cons pe_int pa_nil))) (pe_callTy call_int1 (by rfl) T.b_int (by decide +kernel) (pa_cons (pe_cmpR op_eq (pe_call (ok_draw T) (hr.mono (by decide)) (by rfl) T.m_draw T.F_draw.kp (b_draw T) .nil pass0 (pa_cons (pv 0) (pa_cons pe_int pa_nil))) pe_int (nomark _)) pa_nil)))))) (pg_lstK (K := K) (n := 2) rfl rfl (pgs_cons (pg_name (i := 3) sc_points.nd rfl (by first | exact Or.inl rfl | exact Or.inr rfl)) (pgs_cons (pg_name (i := 4) sc_points.nd rfl (by first | exact Or.inl rfl | exact Or.inr rfl)) pgs_nil))))
 (pss_cut (ps_if (pt_cmpR (op_eqD hr.units) (pv 1) (pe_lst (pa_cons pe_int (pa_cons pe_int pa_nil))) (nomark _)) (pss_one (ps_asg pe_int (pg_sub (pv 1) (pe_call (ok_draw T) (hr.mono (by decide)) (by rfl) T.m_draw T.F_draw.kp (b_draw T) .nil pass0 (pa_cons (pv 0) (pa_cons pe_int pa_nil))) set_list))) pss_nil)
 (pss_cons (ps_for PassesOwn.never rfl (pi_range1 rfl T.b_range (pa_cons (pe_ix (ix_listK (K := K) rfl) (pv 1) pe_int (fun _ _ => rfl)) pa_nil)) (pg_name (i := 6) sc_points.nd rfl (by first | exact Or.inl rfl | exact Or.inr rfl)) (pss_cons (ps_asg (pe_ix (ix_listK (K := K) rfl) (pv 2) (pe_un un_neg pe_int) (fun _ _ => rfl)) (pg_tupK (K := K) (n := 2) rfl rfl (pgs_cons (pg_name (i := 7) sc_points.nd rfl (by first | exact Or.inl rfl | exact Or.inr rfl)) (pgs_cons (pg_name (i := 8) sc_points.nd rfl (by first | exact Or.inl rfl | exact Or.inr rfl)) pgs_nil))))
 (pss_one (ps_expr (pe_bm PySem.F.plainAttrs_list PySem.F.slot_list_append PySem.F.type_list_append mt_append (pv 2) (pa_cons (pe_tup (pa_cons (pe_op op_add (pv 7) (pe_call (ok_step T) (hr.mono (by decide)) (by rfl) T.m_step T.F_step.kp (b_step T) .nil pass0 (pa_cons (pv 0) pa_nil))) (pa_cons (pe_op op_add (pv 8) (pe_call (ok_step T) (hr.mono (by decide)) (by rfl) T.m_step T.F_step.kp (b_step T) .nil pass0 (pa_cons (pv 0) pa_nil))) pa_nil))) pa_nil))))))
 (pss_cons (ps_for PassesOwn.never rfl (pi_range1 rfl T.b_range (pa_cons (pe_ix (ix_listK (K := K) rfl) (pv 1) pe_int (fun _ _ => rfl)) pa_nil)) (pg_name (i := 6) sc_points.nd rfl (by first | exact Or.inl rfl | exact Or.inr rfl)) (pss_cons (ps_asg (pe_ix (ix_listK (K := K) rfl) (pv 2) pe_int (fun _ _ => rfl)) (pg_tupK (K := K) (n := 2) rfl rfl (pgs_cons (pg_name (i := 7) sc_points.nd rfl (by first | exact Or.inl rfl | exact Or.inr rfl)) (pgs_cons (pg_name (i := 8) sc_points.nd rfl (by first | exact Or.inl rfl | exact Or.inr rfl)) pgs_nil))))
 (pss_one (ps_set (i := 2) sc_points.nd rfl (by first | exact Or.inl rfl | exact Or.inr rfl) (pe_op op_cat (pe_lst (pa_cons (pe_tup (pa_cons (pe_op op_sub (pv 7) (pe_call (ok_step T) (hr.mono (by decide)) (by rfl) T.m_step T.F_step.kp (b_step T) .nil pass0 (pa_cons (pv 0) pa_nil))) (pa_cons (pe_op op_sub (pv 8) (pe_call (ok_step T) (hr.mono (by decide)) (by rfl) T.m_step T.F_step.kp (b_step T) .nil pass0 (pa_cons (pv 0) pa_nil))) pa_nil))) pa_nil)) (pv 2))))))
 (pss_one (ps_ret (pe_lc (own := [("_law_x", 7), ("_law_y", 8)]) (by rfl) sc_points.nd (pi_listK (K := K) rfl (pv 2)) (blkOk_by (own := [("_law_x", 7), ("_law_y", 8)]) (N := ["_law_pot_here", "_law_sides", "_law_found", "_law_wide", "_law_high", "_law_part", "_law_turn", "_law_x", "_law_y"]) (sc := defScope s_points) (by decide +kernel)) (fun _ _ _ _ _ => (pg_tupK (K := K) (n := 2) rfl rfl (pgs_cons (pg_name (i := 7) sc_points.nd rfl (by first | exact Or.inl rfl | exact Or.inr rfl)) (pgs_cons (pg_name (i := 8) sc_points.nd rfl (by first | exact Or.inl rfl | exact Or.inr rfl)) pgs_nil)))) (fun _ _ _ _ _ => pts_nil) (fun _ _ _ _ _ => (pe_tup (pa_cons (pe_call (ok_low T) (hr.mono (by decide)) (by rfl) T.m_low T.F_low.kp (b_low T) .nil pass0 (pa_cons (pv 7) (pa_cons (pv 3) pa_nil))) (pa_cons (pe_call (ok_low T) (hr.mono (by decide)) (by rfl) T.m_low T.F_low.kp (b_low T) .nil pass0 (pa_cons (pv 8) (pa_cons (pv 4) pa_nil))) pa_nil)))))))))))), ?_⟩
    refine ⟨_, rfl, p, _, rfl, hp, by decide, by unfold Bd; decide, fun H1 d1 m1 a0 a1 => ?_⟩
    refine ⟨_, rfl, p, _, rfl, m1.pot, by decide, by unfold Bd; decide, fun H2 d2 m2 b0 b1 => ⟨sz, fun sl hsl => ?_⟩⟩
    obtain ⟨na, rfl⟩ := Int.eq_ofNat_of_zero_le a0
    obtain ⟨nb, rfl⟩ := Int.eq_ofNat_of_zero_le b0
    have M2 := m1.trans m2
    have nsl : sl ≠ p := M2.ne hsl
    have fsl := M2.free hp hsl
    generalize e_H3 : upd _ sl _ = H3
    obtain ⟨s3, e3⟩ := al3 e_H3 hsl
    clear e_H3
    (try dsimp only at e3)
    have M3 := M2.same s3
    refine ⟨sz, fun t0 h0 => ?_⟩
    generalize e_H4 : upd _ t0 _ = H4
    obtain ⟨s4, f4⟩ := al3 e_H4 h0
    clear e_H4
    (try dsimp only at f4)
    refine ⟨sz, fun f hf => ?_⟩
    have M4 := M3.same s4
    have nf : f ≠ p := M4.ne hf
    have ff := M4.free hp hf
    have nfs : f ≠ sl := (ne_of_none (s4 _ _ e3) hf).symm
    generalize e_H5 : upd _ f _ = H5
    obtain ⟨s5, ef⟩ := al3 e_H5 hf
    clear e_H5
    (try dsimp only at ef)
    have M5 := M4.same s5
    have e5 := s5 _ _ (s4 _ _ e3)
    have f5 := s5 _ _ f4
    refine ⟨_, _, rfl, ?_⟩
    -- wide, high
    refine ⟨_, rfl, sl, rfl, ⟨_, SqL.of e5⟩, fun D hD => ?_⟩
    have nD : D ≠ p := M5.ne hD
    have fD := M5.free hp hD
    refine lc_list (K := K) (a := sl) (xs := [V.int (na : Int), V.int (nb : Int)]) (fun i H' => Mov p H5 H' ∧ ∃ vs : List Int, H' D = some (.lst (vs.map V.int)) ∧ vs.length = i ∧ ∀ v ∈ vs, 1 ≤ v ∧ v ≤ 9) ⟨Lb.Same.mov (Lb.Same.upd hD) M5.pot, [], upd_same, rfl, fun v hv => absurd hv List.not_mem_nil⟩ (fun i H' _ b => SqL.of (b.1.keep _ _ nsl e5)) ?_ ?_
    · rintro i v H' hi ⟨M, vs, eD, lv, bv⟩
      have hi2 : i < 2 := (List.getElem?_eq_some_iff.mp hi).1
      refine ⟨rfl, ?_⟩
      refine ⟨_, rfl, p, _, rfl, M.pot, by decide, by unfold Bd; decide, fun Ha da ma c0 c1 => ?_⟩
      refine ⟨_, rfl, p, _, rfl, ma.pot, by decide, by unfold Bd; decide, fun Hb db mb c2 c3 => ⟨rfl, .inr ⟨_, rfl, ?_⟩⟩⟩
      have bk : (if decide (V.int db = V.int 0) = true then (1 : Int) else 0) = 0 ∨ (if decide (V.int db = V.int 0) = true then (1 : Int) else 0) = 1 := by split <;> simp
      generalize (if decide (V.int db = V.int 0) = true then (1 : Int) else 0) = kk at *
      refine ⟨_, _, rfl, rfl, mulx_ok (a := 100) (b := 100) (by omega) (by rcases bk with rfl | rfl <;> decide) (by decide), _, _, rfl, rfl, ?_⟩
      have eDb := mb.keep _ _ nD (ma.keep _ _ nD eD)
      have Mb := (M.trans ma).trans mb
      refine ⟨vs.map V.int, eDb, szlt (by rw [List.length_map]; omega), ⟨fun b o n e => ?_, ?_⟩, vs ++ [1 + da * kk], by rw [upd_same, List.map_append]; rfl, by rw [List.length_append, lv]; rfl, fun v hv => ?_⟩
      · have nbD : b ≠ D := (ne_of_none e hD)
        rw [upd_ne nbD]
        exact Mb.keep b o n e
      · obtain ⟨x, y, e, z⟩ := Mb.pot
        exact ⟨x, y, by rw [upd_ne (Ne.symm nD)]; exact e, z⟩
      · rcases List.mem_append.mp hv with hv | hv
        · exact bv v hv
        · rw [List.mem_singleton.mp hv]
          rcases bk with rfl | rfl <;> omega
    rintro H6 ⟨M6', vs, eD, lv, bv⟩
    obtain ⟨wd, hg, rfl⟩ : ∃ x y, vs = [x, y] := by
      match vs, lv with
      | [x, y], _ => exact ⟨x, y, rfl⟩
    have hwd := bv wd (by simp)
    have hhg := bv hg (by simp)
    have M6 := M5.trans M6'
    have e6 := M6'.keep _ _ nsl e5
    have ef6 := M6'.keep _ _ nf ef
    have f6 := M6'.tup M5.pot f5
    refine ⟨D, _, rfl, SqL.of eD, rfl, _, _, rfl, _, _, rfl, rfl, ?_⟩
    -- no side is empty
    refine ⟨fun σ H' => ∃ x y : Nat, x ≤ 4 ∧ y ≤ 4 ∧ 0 < x + y ∧ (∃ u, σ = [some (.ref p), some (.ref sl), some (.ref f), some (.int wd), some (.int hg), u, none, none, none]) ∧ Mov p H H' ∧ H' sl = some (.lst [.int (x : Int), .int (y : Int)]) ∧ H' f = some (.lst [.ref t0]) ∧ H' t0 = some (.tup [.int 0, .int 0]), ?_, ?_⟩
    · refine ⟨_, rfl, sz, fun l hl => ?_⟩
      have sl' := Lb.Same.upd (o := .lst [V.int 0, V.int 0]) hl
      have M7 := M6.same sl'
      have e7 := sl' _ _ e6
      have ef7 := sl' _ _ ef6
      have f7 := sl' _ _ f6
      have e8 : (upd H6 l (.lst [V.int 0, V.int 0])) l = some (.lst [V.int 0, V.int 0]) := upd_same
      generalize upd H6 l (.lst [V.int 0, V.int 0]) = H7 at *
      refine ⟨_, _, .lst (SqL.of e7) (.cons (.int _) (.cons (.int _) .nil)), .lst (SqL.of e8) (.cons (.int _) (.cons (.int _) .nil)), by rfl, by rfl, _, rfl, ?_⟩
      rw [eqv2]
      refine ite2 (fun h0 => ?_) (fun h0 => ?_)
      · have h0 : (na : Int) = 0 ∧ (nb : Int) = 0 := by simpa using h0
        refine ⟨_, rfl, _, rfl, p, _, rfl, M7.pot, by decide, by unfold Bd; decide, fun H8 d m8 c0 c1 => ?_⟩
        have e9 := m8.keep _ _ nsl e7
        have ef9 := m8.keep _ _ nf ef7
        have f9 := m8.tup M7.pot f7
        have M8 := M7.trans m8
        have nt : t0 ≠ sl := fun q => by
          rw [q, e9] at f9
          cases f9
        rcases (show d = 0 ∨ d = 1 by omega) with rfl | rfl
        · refine ⟨_, _, _, 0, rfl, rfl, e9, rfl, 1, 0, by decide, by decide, by decide, ⟨_, rfl⟩, Mov.updl M8 fsl nsl, ?_, by rw [upd_ne nfs]; exact ef9, by rw [upd_ne nt]; exact f9⟩
          rw [upd_same, h0.2]
          rfl
        · refine ⟨_, _, _, 1, rfl, rfl, e9, rfl, 0, 1, by decide, by decide, by decide, ⟨_, rfl⟩, Mov.updl M8 fsl nsl, ?_, by rw [upd_ne nfs]; exact ef9, by rw [upd_ne nt]; exact f9⟩
          rw [upd_same, h0.1]
          rfl
      · have h0 : ¬ ((na : Int) = 0 ∧ (nb : Int) = 0) := by simpa using h0
        exact ⟨na, nb, by omega, by omega, by omega, ⟨_, rfl⟩, M7, e7, ef7, f7⟩
    rintro σ H7 ⟨x, y, hx, hy, hxy, ⟨u5, rfl⟩, M7, e7, ef7, f7⟩
    have q0 : LQ 22 ([((0, 0) : Q2)].map (gP wd hg)) := by
      have : ([((0, 0) : Q2)].map (gP wd hg)) = [org] := by
        show [(rd 0 wd, rd 0 hg)] = _
        rw [rd_zero (by omega), rd_zero (by omega)]
        rfl
      rw [this]
      exact LQ.start
    refine ⟨_, rfl, _, _, _, _, rfl, rfl, SqL.of e7, at0, _, rfl, by omega, by omega, ?_⟩
    refine for_range (n := x) (fun i σ H' => ∃ (u5 u6 u7 u8 : Option V) (rs : List Addr) (ps : List Q2), σ = [some (.ref p), some (.ref sl), some (.ref f), some (.int wd), some (.int hg), u5, u6, u7, u8] ∧ Mov p H H' ∧ H' sl = some (.lst [.int (x : Int), .int (y : Int)]) ∧ H' f = some (.lst (rs.map V.ref)) ∧ FrRows H' rs ps ∧ (∀ q ∈ ps, Bd 22 q.1 ∧ Bd 22 q.2) ∧ LQ 22 (ps.map (gP wd hg)) ∧ ps.length = i + 1 ∧ ps[0]? = some (0, 0) ∧ ∃ z, ps[ps.length - 1]? = some z ∧ 0 ≤ z.1 ∧ z.1 ≤ 1000000 * (i : Int) ∧ 0 ≤ z.2 ∧ z.2 ≤ 1000000 * (i : Int))
      ⟨_, _, _, _, [t0], [(0, 0)], rfl, M7, e7, ef7, .cons f7 .nil, (fun q hq => by rw [List.mem_singleton.mp hq]; exact ⟨by unfold Bd; decide, by unfold Bd; decide⟩), q0, rfl, rfl, (0, 0), rfl, by decide, by decide, by decide, by decide⟩ ?_ ?_
    · rintro i σ H5 hi ⟨u5, u6, u7, u8, rs, ps, rfl, M, es, ef, pr, bp, lq, ln, lo, z, hz, z0, z1, z2, z3⟩
      have lrs := Paired.len pr
      obtain ⟨r, hr', er⟩ := Paired.at_r pr hz
      have atl : atI (rs.map V.ref) (-1) = some (.ref r) := by
        rw [atI_last (j := i) (by rw [List.length_map]; omega), List.getElem?_map, show i = ps.length - 1 by omega, hr']
        rfl
      refine ⟨_, rfl, _, rfl, _, _, _, _, rfl, rfl, SqL.of ef, atl, r, _, rfl, SqT.of er, rfl, _, _, rfl, _, _, rfl, rfl, ?_⟩
      refine ⟨_, rfl, .inl ⟨rfl, _, SqL.of ef⟩, _, rfl, _, rfl, p, rfl, M.pot, fun H6 d6 m6 g6 g6' => ⟨_, _, rfl, rfl, ?_⟩⟩
      have M6 := M.trans m6
      refine ⟨_, rfl, _, rfl, p, rfl, M6.pot, fun H7 d7 m7 g7 g7' => ⟨_, _, rfl, rfl, sz, fun t ht => ?_⟩⟩
      have M7 := M6.trans m7
      have N7 := (NL.mov m6 M.pot).trans (NL.mov m7 M6.pot)
      have ef7 := m7.keep _ _ nf (m6.keep _ _ nf ef)
      have es7 := m7.keep _ _ nsl (m6.keep _ _ nsl es)
      generalize e_Ha : upd _ t _ = Ha
      obtain ⟨sa, fa⟩ := al3 e_Ha ht
      clear e_Ha
      (try dsimp only at fa)
      have efa := sa _ _ ef7
      refine ⟨f, _, _, rfl, rfl, efa, szlt (by rw [List.length_map]; omega), ?_⟩
      have Na := N7.trans (NL.of sa)
      have Nb : NL Ha (upd Ha f (.lst (rs.map V.ref ++ [V.ref t]))) := NL.upd efa
      have hz' : (ps.map (gP wd hg))[(ps.map (gP wd hg)).length - 1]? = some (gP wd hg z) := by
        rw [List.length_map, List.getElem?_map, hz]
        rfl
      have bn : Bd 22 (z.1 + d6) ∧ Bd 22 (z.2 + d7) := ⟨show (z.1 + d6).natAbs < 2 ^ 22 by omega, show (z.2 + d7).natAbs < 2 ^ 22 by omega⟩
      have hl := gP_low (p := (z.1 + d6, z.2 + d7)) hwd hhg bn.1 bn.2
      refine ⟨_, _, _, _, rs ++ [t], ps ++ [(z.1 + d6, z.2 + d7)], rfl, Mov.updl (M7.same sa) ff nf, ?_, by rw [upd_same, List.map_append]; rfl, ?_, (fun q hq => by
        rcases List.mem_append.mp hq with hq | hq
        · exact bp q hq
        · rw [List.mem_singleton.mp hq]; exact bn), ?_, by rw [List.length_append, ln]; rfl, by rw [List.getElem?_append_left (by omega)]; exact lo, (z.1 + d6, z.2 + d7), by rw [List.length_append]; simp, ?_, ?_, ?_, ?_⟩
      · rw [upd_ne (Ne.symm nfs)]
        exact sa _ _ es7
      · exact paired_snoc (Paired.imp pr fun _ _ h => FrQ.nl h (Na.trans Nb)) (FrQ.nl fa Nb)
      · rw [List.map_append]
        exact lq.snoc hz' (Nat.le_refl _) hl.1 hl.2 (rd_lt (by omega) (show z.1 < z.1 + d6 by omega)) (rd_lt (by omega) (show z.2 < z.2 + d7 by omega))
      all_goals (show _ ≤ (_ : Int); simp only; omega)
    rintro σ Hc ⟨u5, u6, u7, u8, rs, ps, rfl, M, es, ef, pr, bp, lq, ln, lo, _⟩
    refine ⟨_, rfl, _, _, _, _, rfl, rfl, SqL.of es, at1, _, rfl, by omega, by omega, ?_⟩
    refine for_range (n := y) (fun i σ H' => ∃ (u5 u6 u7 u8 : Option V) (l : Addr) (rs : List Addr) (ps : List Q2), σ = [some (.ref p), some (.ref sl), some (.ref l), some (.int wd), some (.int hg), u5, u6, u7, u8] ∧ Mov p H H' ∧ H l = none ∧ l ≠ p ∧ H' l = some (.lst (rs.map V.ref)) ∧ FrRows H' rs ps ∧ (∀ q ∈ ps, Bd 22 q.1 ∧ Bd 22 q.2) ∧ LQ 22 (ps.map (gP wd hg)) ∧ ps.length = x + i + 1 ∧ ∃ z, ps[0]? = some z ∧ z.1 ≤ 0 ∧ -1000000 * (i : Int) ≤ z.1 ∧ z.2 ≤ 0 ∧ -1000000 * (i : Int) ≤ z.2)
      ⟨_, _, _, _, f, rs, ps, rfl, M, ff, nf, ef, pr, bp, lq, ln, (0, 0), lo, by decide, by decide, by decide, by decide⟩ ?_ ?_
    · rintro i σ H5 hi ⟨u5, u6, u7, u8, l, rs, ps, rfl, M, fl, nl, ef, pr, bp, lq, ln, z, hz, z0, z1, z2, z3⟩
      have lrs := Paired.len pr
      obtain ⟨r, hr', er⟩ := Paired.at_r pr hz
      refine ⟨_, rfl, _, _, _, _, rfl, rfl, SqL.of ef, at_ref (i := 0) hr', r, _, rfl, SqT.of er, rfl, _, _, rfl, _, _, rfl, rfl, ?_⟩
      refine ⟨_, rfl, _, rfl, p, rfl, M.pot, fun H6 d6 m6 g6 g6' => ⟨_, _, rfl, rfl, ?_⟩⟩
      have M6 := M.trans m6
      refine ⟨_, rfl, _, rfl, p, rfl, M6.pot, fun H7 d7 m7 g7 g7' => ⟨_, _, rfl, rfl, sz, fun t ht => ?_⟩⟩
      have M7 := M6.trans m7
      have N7 := (NL.mov m6 M.pot).trans (NL.mov m7 M6.pot)
      have ef7 := m7.keep _ _ nl (m6.keep _ _ nl ef)
      generalize e_Ha : upd _ t _ = Ha
      obtain ⟨sa, fa⟩ := al3 e_Ha ht
      clear e_Ha
      (try dsimp only at fa)
      refine ⟨sz, fun l1 hl1 => ?_⟩
      generalize e_Hb : upd _ l1 _ = Hb
      obtain ⟨sb, fb⟩ := al3 e_Hb hl1
      clear e_Hb
      (try dsimp only at fb)
      have efb := sb _ _ (sa _ _ ef7)
      have Mb := (M7.same sa).same sb
      refine ⟨_, rfl, l1, l, _, _, rfl, rfl, fb, efb, szle (by rw [List.length_map]; show 1 + rs.length ≤ _; omega), fun l2 hl2 => ?_⟩
      have s2 := Lb.Same.upd (o := .lst ([V.ref t] ++ rs.map V.ref)) hl2
      have Na := ((N7.trans (NL.of sa)).trans (NL.of sb)).trans (NL.of s2)
      have hz' : (ps.map (gP wd hg))[0]? = some (gP wd hg z) := by
        rw [List.getElem?_map, hz]
        rfl
      have bn : Bd 22 (z.1 - d6) ∧ Bd 22 (z.2 - d7) := ⟨show (z.1 - d6).natAbs < 2 ^ 22 by omega, show (z.2 - d7).natAbs < 2 ^ 22 by omega⟩
      have hl := gP_low (p := (z.1 - d6, z.2 - d7)) hwd hhg bn.1 bn.2
      refine ⟨_, _, _, _, l2, t :: rs, (z.1 - d6, z.2 - d7) :: ps, rfl, Mb.same s2, Mb.free hp hl2, Mb.ne hl2, upd_same, ?_, (fun q hq => by
        rcases List.mem_cons.mp hq with hq | hq
        · rw [hq]; exact bn
        · exact bp q hq), ?_, by rw [List.length_cons, ln]; omega, (z.1 - d6, z.2 - d7), rfl, ?_, ?_, ?_, ?_⟩
      · exact .cons (FrQ.same fa (sb.trans s2)) (Paired.imp pr fun _ _ h => FrQ.nl h Na)
      · exact lq.cons hz' (Nat.le_refl _) hl.1 hl.2 (rd_lt (by omega) (show z.1 - d6 < z.1 by omega)) (rd_lt (by omega) (show z.2 - d7 < z.2 by omega))
      all_goals (show _ ≤ (_ : Int); simp only; omega)
    rintro σ Hd ⟨u5, u6, u7, u8, l, rs, ps, rfl, M, fl, nl, ef, pr, bp, lq, ln, _⟩
    have lrs := Paired.len pr
    refine ⟨_, rfl, l, rfl, ⟨_, SqL.of ef⟩, fun D2 hD2 => ?_⟩
    refine lc_list (K := K) (a := l) (xs := rs.map V.ref) (fun i H' => Same Hd H' ∧ ∃ bs : List Addr, H' D2 = some (.lst (bs.map V.ref)) ∧ Paired (SpR H') bs ((ps.take i).map (gP wd hg))) ⟨Lb.Same.upd hD2, [], upd_same, .nil⟩ (fun i H' _ b => SqL.of (b.1 _ _ ef)) ?_ ?_
    · rintro i v H' hi ⟨s', bs, eD, pb⟩
      obtain ⟨r, rfl, hr'⟩ := ref_at hi
      obtain ⟨z, hz, er⟩ := Paired.at_ pr hr'
      have hi' := (List.getElem?_eq_some_iff.mp hz).1
      have bz := bp z (List.mem_of_getElem? hz)
      have er' := FrQ.same er s'
      refine ⟨r, _, rfl, SqT.of er', rfl, _, _, rfl, _, _, rfl, rfl, rfl, ?_⟩
      refine ⟨_, rfl, _, rfl, _, _, rfl, (by omega), bz.1.mono (by decide), (show wd.natAbs < 2 ^ 8000 from Nat.lt_of_lt_of_le (show wd.natAbs < 2 ^ 4 by omega) (Nat.pow_le_pow_right (by decide) (by decide))), fun Ha q1 sa f1 => ?_⟩
      refine ⟨_, rfl, _, rfl, _, _, rfl, (by omega), bz.2.mono (by decide), (show hg.natAbs < 2 ^ 8000 from Nat.lt_of_lt_of_le (show hg.natAbs < 2 ^ 4 by omega) (Nat.pow_le_pow_right (by decide) (by decide))), fun Hb q2 sb f2 => ⟨sz, fun t ht => ?_⟩⟩
      generalize e_Hc2 : upd _ t _ = Hc2
      obtain ⟨sc2, fc2⟩ := al3 e_Hc2 ht
      clear e_Hc2
      (try dsimp only at fc2)
      have S := (sa.trans sb).trans sc2
      have eD2 := S _ _ eD
      have lb := Paired.len pb
      rw [List.length_map, List.length_take] at lb
      have N : NL Hc2 (upd Hc2 D2 (.lst (bs.map V.ref ++ [V.ref t]))) := NL.upd eD2
      refine ⟨_, eD2, szlt (by rw [List.length_map]; omega), Lb.Same.updl (s'.trans S) hD2, bs ++ [t], by rw [upd_same, List.map_append]; rfl, ?_⟩
      rw [← take_snoc hz, List.map_append]
      exact paired_snoc (Paired.imp pb fun _ _ h => (h.same S).nl N) (SpR.nl ⟨q1, q2, fc2, (FrQ.same f1 sb).same sc2, FrQ.same f2 sc2⟩ N)
    rintro He ⟨se, bs, eD, pb⟩
    rw [show (rs.map V.ref).length = ps.length by rw [List.length_map, lrs], List.take_length] at pb
    exact k _ D2 (ps.map (gP wd hg)) (M.same se) (M.free hp hD2) ⟨bs, eD, pb⟩ ⟨lq, by rw [List.length_map]; omega, by rw [List.length_map]; omega⟩ (by rw [List.length_map]; omega)
end
end K16

set_option Elab.async false
set_option linter.all false
set_option maxRecDepth 100000
set_option maxHeartbeats 4000000
set_option exponentiation.threshold 10000
namespace K16
open PySem L2 Lb
open C8 (pss_cut)
theorem dpQ {K : PySem.W.Frag} {H : Hp} {q : Addr} {x : Q2} (h : FrQ H q x) : Dp K H (.ref q) (q2D x) := .tup (SqT.of h) (.cons (.int _) (.cons (.int _) .nil))
theorem dpP {K : PySem.W.Frag} {H : Hp} {r : Addr} {z : Pt} (h : SpR H r z) : Dp K H (.ref r) (ptD z) :=
  let ⟨p, q, e, a, b⟩ := h
  .tup (SqT.of e) (.cons (dpQ a) (.cons (dpQ b) .nil))
theorem dpAll {K : PySem.W.Frag} {H : Hp} {α : Type} {R : Hp → Addr → α → Prop} {f : α → PyData} (h : ∀ r x, R H r x → Dp K H (.ref r) (f x)) : ∀ {rs : List Addr} {xs : List α}, Paired (R H) rs xs → DpAll K H (rs.map V.ref) (xs.map f)
  | _, _, .nil => .nil
  | _, _, .cons r t => .cons (h _ _ r) (dpAll h t)
theorem dpS {K : PySem.W.Frag} {H : Hp} {l : Addr} {zs : List Pt} (h : Spots H l zs) : Dp K H (.ref l) (.list (zs.map ptD)) :=
  let ⟨_, e, p⟩ := h.ex
  .lst (SqL.of e) (dpAll (R := SpR) (fun _ _ => dpP) p)
def sp_slope : Sp := fun vs H Q _ => ∃ (r r' : Addr) (z z' : Pt) (n : Nat), vs = [.ref r, .ref r'] ∧ SpR H r z ∧ SpR H r' z' ∧ PtN n z ∧ PtN n z' ∧ n ≤ 700 ∧ val z.1 < val z'.1 ∧ ∀ H' q, Same H H' → FrQ H' q (slope z z') → Q (.ref q) H'
def sp_corners : Sp := fun vs H Q _ => ∃ (l : Addr) (zs : List Pt) (n : Nat), vs = [.ref l] ∧ Spots H l zs ∧ Gd n zs ∧ ∀ H' q, Same H H' → H q = none → Spots H' q (corners zs) → Q (.ref q) H'
def shD (zs : List Pt) : PyData := .tuple [.list ((corners zs).map ptD), q2D (slopeAt zs 0), q2D (slopeAt zs (zs.length - 2))]
theorem eqv_sh (zs zs' : List Pt) : PyData.eqv (shD zs) (shD zs') = decide (formOf zs = formOf zs') := by
  unfold shD formOf
  simp only [PyData.eqv, PyData.eqvAll, Bool.and_true, eqv_q2, eqvAll_map eqv_pt]
  rw [Bool.eq_iff_iff]
  simp [Prod.ext_iff]
  constructor
  · rintro ⟨a, b, c⟩
    exact ⟨b, a, c⟩
  · rintro ⟨a, b, c⟩
    exact ⟨b, a, c⟩
theorem shaped_sh (zs : List Pt) : SeqAt.shaped (shD zs) = true := by
  refine shaped_of ?_ ?_
  · unfold shD
    simp only [PyData.canLay0, PyData.canLayAll0, lay_q2, lay_map lay_pt, Bool.and_self]
  · unfold shD
    simp only [PyData.depth, PyData.depthAll, dep_q2]
    have := dep_map (f := ptD) (k := 2) (fun x => Nat.le_of_eq (dep_pt x)) (corners zs)
    omega
def sp_shape (K : PySem.W.Frag) : Sp := fun vs H Q _ => ∃ (l : Addr) (zs : List Pt) (n : Nat), vs = [.ref l] ∧ Spots H l zs ∧ Gd n zs ∧ ∀ H' t, Same H H' → Dp K H' (.ref t) (shD zs) → (∀ H'', Same H' H'' → Dp K H'' (.ref t) (shD zs)) → Q (.ref t) H'
def sp_passed (A : Addr) : Sp := fun vs H Q _ => ∃ (p l : Addr) (zs : List Pt) (n : Nat), vs = [.ref p, .ref l] ∧ PotAt H p ∧ l ≠ p ∧ Spots H l zs ∧ LP n zs ∧ n ≤ 700 ∧
  ∀ H' hd ws zs', Mov p H H' → H hd = none → (H' hd = some (.lst ws) ∨ H' hd = some (.tup ws)) → Paired (PtP A H') ws zs' → Pts n zs' → withO zs' = zs → ws.length ≤ 20 → Q (.ref hd) H'
section
variable {P : Program} {w : World} {K : PySem.W.Frag} {mg : Str → Option Value} {base : Heap} {a : Ad}
theorem ok_slope (T : Txt K mg a) : FnOk P w K mg base CX0 3 a.f_slope a.d_slope ["_law_one", "_law_other_here"] sp_slope := by
  refine T.F_slope.ok sc_slope (fun vs H Q E h => ?_) (fun cdv A outer s H vs Q E hr h => ?_)
  · obtain ⟨r, r', z, z', n, rfl, _⟩ := h
    rfl
  · obtain ⟨r, r', z, z', n, rfl, ⟨p, q, er, ap, aq⟩, ⟨p', q', er', ap', aq'⟩, lz, lz', hn, lt, k⟩ := h
    refine ⟨_, (pss_one (ps_ret (pe_call (ok_over T) (hr.mono (by decide)) (by rfl) T.m_over T.F_over.kp (b_over T) .nil pass0 (pa_cons (pe_call (ok_minus T) (hr.mono (by decide)) (by rfl) T.m_minus T.F_minus.kp (b_minus T) .nil pass0 (pa_cons (pe_ix (ix_tupK (K := K) rfl) (pv 1) pe_int (fun _ _ => rfl)) (pa_cons (pe_ix (ix_tupK (K := K) rfl) (pv 0) pe_int (fun _ _ => rfl)) pa_nil))) (pa_cons (pe_call (ok_minus T) (hr.mono (by decide)) (by rfl) T.m_minus T.F_minus.kp (b_minus T) .nil pass0 (pa_cons (pe_ix (ix_tupK (K := K) rfl) (pv 1) pe_int (fun _ _ => rfl)) (pa_cons (pe_ix (ix_tupK (K := K) rfl) (pv 0) pe_int (fun _ _ => rfl)) pa_nil))) pa_nil))))), ?_⟩
    refine ⟨_, rfl, _, _, _, _, rfl, rfl, SqT.of er', at1, _, rfl, _, _, _, _, rfl, rfl, SqT.of er, at1, q', q, z'.2, z.2, n, rfl, aq', aq, lz'.y, lz.y, by omega, fun H1 d1 s1 f1 => ?_⟩
    refine ⟨_, rfl, _, _, _, _, rfl, rfl, SqT.of (s1 _ _ er'), at0, _, rfl, _, _, _, _, rfl, rfl, SqT.of (s1 _ _ er), at0, p', p, z'.1, z.1, n, rfl, ap'.same s1, ap.same s1, lz'.x, lz.x, by omega, fun H2 d2 s2 f2 => ?_⟩
    exact ⟨d1, d2, _, _, 2 * n + 1, rfl, f1.same s2, f2, minus_low lz'.y lz.y, minus_low lz'.x lz.x, by omega, minus_ne lz'.x.pos lz.x.pos lt, fun H3 r3 s3 f3 => k _ r3 ((s1.trans s2).trans s3) f3⟩
theorem ok_corners (T : Txt K mg a) : FnOk P w K mg base CX0 4 a.f_corners a.d_corners ["_law_points_here"] sp_corners := by
  refine T.F_corners.ok sc_corners (fun vs H Q E h => ?_) (fun cdv A outer s H vs Q E hr h => ?_)
  · obtain ⟨l, zs, n, rfl, _⟩ := h
    rfl
  · obtain ⟨l, zs, n, rfl, hl, g, k⟩ := h
    refine ⟨_, (pss_cons (ps_set (i := 1) sc_corners.nd rfl (by first | exact Or.inl rfl | exact Or.inr rfl) (pe_lst pa_nil))
 (pss_cons (ps_for PassesOwn.never rfl (pi_range2 rfl T.b_range (pa_cons pe_int (pa_cons (pe_op op_sub (pe_callB (call_lenK (K := K) rfl) (by rfl) T.b_len (by decide +kernel) (pa_cons (pv 0) pa_nil)) pe_int) pa_nil))) (pg_name (i := 2) sc_corners.nd rfl (by first | exact Or.inl rfl | exact Or.inr rfl)) (pss_cons (ps_par (i := 3) (j := 4) rfl sc_corners.nd rfl rfl (by decide) rfl rfl (pa_cons (pe_ix (ix_listK (K := K) rfl) (pv 0) (pe_op op_sub (pv 2) pe_int) (fun _ _ => rfl)) (pa_cons (pe_ix (ix_listK (K := K) rfl) (pv 0) (pe_op op_add (pv 2) pe_int) (fun _ _ => rfl)) pa_nil)) (by rfl))
 (pss_one (ps_if (pt_cmpR (op_neD hr.units) (pe_call (ok_slope T) (hr.mono (by decide)) (by rfl) T.m_slope T.F_slope.kp (b_slope T) .nil pass0 (pa_cons (pv 3) (pa_cons (pe_ix (ix_listK (K := K) rfl) (pv 0) (pv 2) (fun _ _ => rfl)) pa_nil))) (pe_call (ok_slope T) (hr.mono (by decide)) (by rfl) T.m_slope T.F_slope.kp (b_slope T) .nil pass0 (pa_cons (pe_ix (ix_listK (K := K) rfl) (pv 0) (pv 2) (fun _ _ => rfl)) (pa_cons (pv 4) pa_nil))) (nomark _)) (pss_one (ps_expr (pe_bm PySem.F.plainAttrs_list PySem.F.slot_list_append PySem.F.type_list_append mt_append (pv 1) (pa_cons (pe_ix (ix_listK (K := K) rfl) (pv 0) (pv 2) (fun _ _ => rfl)) pa_nil)))) pss_nil))))
 (pss_one (ps_ret (pv 1))))), ?_⟩
    have g2 := g.l2
    have g200 := g.l200
    obtain ⟨rs, el, pr⟩ := id hl.ex
    have lrs := Paired.len pr
    refine ⟨sz, fun f hf => ?_⟩
    have sf := Lb.Same.upd (o := .lst []) hf
    have elen : (((rs.map V.ref).length : Nat) : Int) - 1 = ((zs.length - 1 : Nat) : Int) := by rw [List.length_map, lrs]; omega
    refine ⟨_, rfl, _, _, rfl, .inl (SqL.of (sf _ _ el)), _, _, rfl, rfl, ?_⟩
    refine ⟨1, ((zs.length - 1 : Nat) : Int), congrArg (fun z => [V.int 1, V.int z]) elen, ⟨by decide, by decide, by omega, by omega⟩, ?_⟩
    have en : (((zs.length - 1 : Nat) : Int) - 1).toNat = zs.length - 2 := by omega
    refine for_range (lo := 1) (n := (((zs.length - 1 : Nat) : Int) - 1).toNat) (fun i σ H' => ∃ (u2 u3 u4 : Option V) (cs : List Addr), σ = [some (.ref l), some (.ref f), u2, u3, u4] ∧ Same H H' ∧ H' f = some (.lst (cs.map V.ref)) ∧ Paired (SpR H') cs (cornersUpto zs i)) ⟨_, _, _, [], rfl, sf, upd_same, .nil⟩ ?_ ?_
    · rintro i σ H1 hi ⟨u2, u3, u4, cs, rfl, s1, ef, pc⟩
      rw [en] at hi
      obtain ⟨z0, h0⟩ : ∃ z, zs[i]? = some z := ⟨_, List.getElem?_eq_getElem (by omega)⟩
      obtain ⟨z1, h1⟩ : ∃ z, zs[i + 1]? = some z := ⟨_, List.getElem?_eq_getElem (by omega)⟩
      obtain ⟨z2, h2⟩ : ∃ z, zs[i + 1 + 1]? = some z := ⟨_, List.getElem?_eq_getElem (by omega)⟩
      obtain ⟨r0, hr0, w0⟩ := Paired.at_r pr h0
      obtain ⟨r1, hr1, w1⟩ := Paired.at_r pr h1
      obtain ⟨r2, hr2, w2⟩ := Paired.at_r pr h2
      have p0 := g.p z0 (List.mem_of_getElem? h0)
      have p1 := g.p z1 (List.mem_of_getElem? h1)
      have p2 := g.p z2 (List.mem_of_getElem? h2)
      have a0 : atI (rs.map V.ref) (1 + (i : Int) - 1) = some (.ref r0) := by rw [show (1 : Int) + (i : Int) - 1 = (i : Int) by omega]; exact at_ref hr0
      have a1 : atI (rs.map V.ref) (1 + (i : Int)) = some (.ref r1) := by rw [show (1 : Int) + (i : Int) = ((i + 1 : Nat) : Int) by omega]; exact at_ref hr1
      have a2 : atI (rs.map V.ref) (1 + (i : Int) + 1) = some (.ref r2) := by rw [show (1 : Int) + (i : Int) + 1 = ((i + 1 + 1 : Nat) : Int) by omega]; exact at_ref hr2
      refine ⟨_, rfl, _, rfl, _, _, rfl, rfl, _, _, _, _, rfl, rfl, SqL.of (s1 _ _ el), a0, _, rfl, _, rfl, _, _, rfl, rfl, _, _, _, _, rfl, rfl, SqL.of (s1 _ _ el), a2, _, _, rfl, ?_⟩
      refine ⟨_, rfl, _, rfl, _, rfl, _, _, _, _, rfl, rfl, SqL.of (s1 _ _ el), a1, r0, r1, z0, z1, n, rfl, w0.same s1, w1.same s1, p0, p1, g.n, g.up i z0 z1 h0 h1, fun H2 q1 s2 f1 => ?_⟩
      have S2 := s1.trans s2
      refine ⟨_, rfl, _, rfl, _, _, _, _, rfl, rfl, SqL.of (S2 _ _ el), a1, _, rfl, r1, r2, z1, z2, n, rfl, w1.same S2, w2.same S2, p1, p2, g.n, g.up (i + 1) z1 z2 h1 h2, fun H3 q2 s3 f2 => ?_⟩
      have S3 := S2.trans s3
      refine ⟨_, _, dpQ (f1.same s3), dpQ f2, shaped_of (lay_q2 _) (by rw [dep_q2]; decide), shaped_of (lay_q2 _) (by rw [dep_q2]; decide), _, rfl, ?_⟩
      rw [eqv_q2]
      have e0 : slope z0 z1 = slopeAt zs i := by unfold slopeAt; rw [getD_of h0, getD_of h1]
      have e1 : slope z1 z2 = slopeAt zs (i + 1) := by unfold slopeAt; rw [getD_of h1, getD_of h2]
      rw [e0, e1]
      have lc := cornersUpto_len zs i
      have lcs := Paired.len pc
      have ef3 := s3 _ _ (s2 _ _ ef)
      unfold cornersUpto
      refine ite2 (fun h => ?_) (fun h => ?_)
      · have h : ¬ slopeAt zs i = slopeAt zs (i + 1) := by simpa using h
        rw [if_neg h]
        refine ⟨_, rfl, .inl ⟨rfl, _, SqL.of ef3⟩, _, rfl, _, rfl, _, _, _, _, rfl, rfl, SqL.of (S3 _ _ el), a1, f, _, _, rfl, rfl, ef3, szlt (by rw [List.length_map]; omega), ?_⟩
        have N := NL.upd (o := .lst (cs.map V.ref ++ [V.ref r1])) ef3
        refine ⟨_, _, _, cs ++ [r1], rfl, Lb.Same.updl S3 hf, by rw [upd_same, List.map_append]; rfl, ?_⟩
        rw [getD_of h1]
        exact paired_snoc (Paired.imp pc fun _ _ h => ((h.same s2).same s3).nl N) ((w1.same S3).nl N)
      · have h : slopeAt zs i = slopeAt zs (i + 1) := by simpa using h
        rw [if_pos h, List.append_nil]
        exact ⟨_, _, _, cs, rfl, S3, ef3, Paired.imp pc fun _ _ h => (h.same s2).same s3⟩
    rintro σ H2 ⟨u2, u3, u4, cs, rfl, s2, ef, pc⟩
    rw [en] at pc
    exact ⟨_, rfl, k _ f s2 hf ⟨cs, ef, pc⟩⟩
theorem ok_shape (T : Txt K mg a) : FnOk P w K mg base CX0 5 a.f_shape a.d_shape ["_law_points_here"] (sp_shape K) := by
  refine T.F_shape.ok sc_shape (fun vs H Q E h => ?_) (fun cdv A outer s H vs Q E hr h => ?_)
  · obtain ⟨l, zs, n, rfl, _⟩ := h
    rfl
  · obtain ⟨l, zs, n, rfl, hl, g, k⟩ := h
    refine ⟨_, (pss_one (ps_ret (pe_tup (pa_cons (pe_call (ok_corners T) (hr.mono (by decide)) (by rfl) T.m_corners T.F_corners.kp (b_corners T) .nil pass0 (pa_cons (pv 0) pa_nil)) (pa_cons (pe_call (ok_slope T) (hr.mono (by decide)) (by rfl) T.m_slope T.F_slope.kp (b_slope T) .nil pass0 (pa_cons (pe_ix (ix_listK (K := K) rfl) (pv 0) pe_int (fun _ _ => rfl)) (pa_cons (pe_ix (ix_listK (K := K) rfl) (pv 0) pe_int (fun _ _ => rfl)) pa_nil))) (pa_cons (pe_call (ok_slope T) (hr.mono (by decide)) (by rfl) T.m_slope T.F_slope.kp (b_slope T) .nil pass0 (pa_cons (pe_ix (ix_listK (K := K) rfl) (pv 0) (pe_un un_neg pe_int) (fun _ _ => rfl)) (pa_cons (pe_ix (ix_listK (K := K) rfl) (pv 0) (pe_un un_neg pe_int) (fun _ _ => rfl)) pa_nil))) pa_nil)))))), ?_⟩
    have g2 := g.l2
    obtain ⟨rs, el, pr⟩ := id hl.ex
    have lrs := Paired.len pr
    have two : ∀ i : Nat, i + 1 < zs.length → ∃ r r' z z', rs[i]? = some r ∧ rs[i + 1]? = some r' ∧ SpR H r z ∧ SpR H r' z' ∧ PtN n z ∧ PtN n z' ∧ val z.1 < val z'.1 ∧ slope z z' = slopeAt zs i := by
      intro i hi
      obtain ⟨z, hz⟩ : ∃ z, zs[i]? = some z := ⟨_, List.getElem?_eq_getElem (by omega)⟩
      obtain ⟨z', hz'⟩ : ∃ z, zs[i + 1]? = some z := ⟨_, List.getElem?_eq_getElem (by omega)⟩
      obtain ⟨r, hr', row⟩ := Paired.at_r pr hz
      obtain ⟨r', hr2, row'⟩ := Paired.at_r pr hz'
      exact ⟨r, r', z, z', hr', hr2, row, row', g.p z (List.mem_of_getElem? hz), g.p z' (List.mem_of_getElem? hz'), g.up i z z' hz hz', by unfold slopeAt; rw [getD_of hz, getD_of hz']⟩
    obtain ⟨r0, r1, z0, z1, h0, h1, w0, w1, p0, p1, u0, e0⟩ := two 0 (by omega)
    obtain ⟨r2, r3, z2, z3, h2, h3, w2, w3, p2, p3, u2, e2⟩ := two (zs.length - 2) (by omega)
    refine ⟨_, rfl, l, zs, n, rfl, hl, g, fun H1 b s1 _ cb => ?_⟩
    refine ⟨_, rfl, _, _, _, _, rfl, rfl, SqL.of (s1 _ _ el), at_ref (i := 0) h0, _, rfl, _, _, _, _, rfl, rfl, SqL.of (s1 _ _ el), at_ref (i := 1) h1, r0, r1, z0, z1, n, rfl, w0.same s1, w1.same s1, p0, p1, g.n, u0, fun H2 q0 s2 f0 => ?_⟩
    have S2 := s1.trans s2
    refine ⟨_, rfl, _, rfl, _, _, _, _, rfl, rfl, SqL.of (S2 _ _ el), by rw [atI_last2 (j := zs.length - 2) (by rw [List.length_map]; omega), List.getElem?_map, h2]; rfl, ?_⟩
    refine ⟨_, rfl, _, rfl, _, _, _, _, rfl, rfl, SqL.of (S2 _ _ el), by rw [atI_last (j := zs.length - 2 + 1) (by rw [List.length_map]; omega), List.getElem?_map, h3]; rfl, r2, r3, z2, z3, n, rfl, w2.same S2, w3.same S2, p2, p3, g.n, u2, fun H3 q1 s3 f1 => ⟨sz, fun t ht => ?_⟩⟩
    have st := Lb.Same.upd (o := .tup [.ref b, .ref q0, .ref q1]) ht
    rw [e0] at f0
    rw [e2] at f1
    have all : ∀ H'', Same (upd H3 t (.tup [.ref b, .ref q0, .ref q1])) H'' → Dp K H'' (.ref t) (shD zs) := fun H'' s =>
      .tup (SqT.of (s _ _ upd_same)) (.cons (dpS ((((cb.same s2).same s3).same st).same s)) (.cons (dpQ (((f0.same s3).same st).same s)) (.cons (dpQ ((f1.same st).same s)) .nil)))
    exact k _ t ((S2.trans s3).trans st) (all _ (Same.refl _)) all
theorem ok_passed (T : Txt K mg a) : FnOk P w K mg base CX0 5 a.f_passed a.d_passed ["_law_pot_here", "_law_points_here"] (sp_passed a.c_Amount) := by
  refine T.F_passed.ok sc_passed (fun vs H Q E h => ?_) (fun cdv A outer s H vs Q E hr h => ?_)
  · obtain ⟨p, l, zs, n, rfl, _⟩ := h
    rfl
  · obtain ⟨p, l, zs, n, rfl, hp, nl, hl, lp, hn, k⟩ := h
    refine ⟨_, (pss_cons (ps_par (i := 2) (j := 3) rfl sc_passed.nd rfl rfl (by decide) rfl rfl (pa_cons (pe_lst pa_nil) (pa_cons (pe_cmpR op_eq (pe_call (ok_draw T) (hr.mono (by decide)) (by rfl) T.m_draw T.F_draw.kp (b_draw T) .nil pass0 (pa_cons (pv 0) (pa_cons pe_int pa_nil))) pe_int (nomark _)) pa_nil)) (by rfl))
 (pss_cons (ps_for PassesOwn.never rfl (pi_listK (K := K) rfl (pv 1)) (pg_tupK (K := K) (n := 2) rfl rfl (pgs_cons (pg_name (i := 4) sc_passed.nd rfl (by first | exact Or.inl rfl | exact Or.inr rfl)) (pgs_cons (pg_name (i := 5) sc_passed.nd rfl (by first | exact Or.inl rfl | exact Or.inr rfl)) pgs_nil))) (pss_one (ps_if (PW.pt (pw_or (pt_cmpR op_ne (pe_ix (ix_tupK (K := K) rfl) (pv 4) pe_int (fun _ _ => rfl)) pe_int (nomark _)) (pw_or1 (pt_not (pt_val (pv 3)))))) (pss_one (ps_expr (pe_bm PySem.F.plainAttrs_list PySem.F.slot_list_append PySem.F.type_list_append mt_append (pv 2) (pa_cons (pe_tup (pa_cons (pe_call (ok_amount T) (hr.mono (by decide)) (by rfl) T.m_amount T.F_amount.kp (b_amount T) .nil pass0 (pa_cons (pv 4) pa_nil)) (pa_cons (pe_call (ok_amount T) (hr.mono (by decide)) (by rfl) T.m_amount T.F_amount.kp (b_amount T) .nil pass0 (pa_cons (pv 5) pa_nil)) pa_nil))) pa_nil)))) pss_nil)))
 (pss_one (ps_ret (pe_ifExp (pt_cmpR op_eq (pe_call (ok_draw T) (hr.mono (by decide)) (by rfl) T.m_draw T.F_draw.kp (b_draw T) .nil pass0 (pa_cons (pv 0) (pa_cons pe_int pa_nil))) pe_int (nomark _)) (pv 2) (pe_callTy call_tuple_of (by rfl) T.b_tuple (by decide +kernel) (pa_cons (pv 2) pa_nil))))))), ?_⟩
    have l20 := lp.l20
    refine ⟨sz, fun f hf => ?_⟩
    have sf := Lb.Same.upd (o := .lst []) hf
    have nf : f ≠ p := PotAt.ne_ref hp hf
    have M0 := Lb.Same.mov sf hp
    refine ⟨_, rfl, p, _, rfl, M0.pot, by decide, by unfold Bd; decide, fun H1 d m1 d0 d1 => ⟨rfl, _, _, rfl, ?_⟩⟩
    generalize decide (V.int d = V.int 0) = bare at *
    have M1 := M0.trans m1
    have ef := m1.keep _ _ nf (upd_same (H := H) (a := f) (o := .lst []))
    have hl1 := (hl.same sf).mov m1 M0.pot nl
    obtain ⟨rs, el, pr⟩ := id hl1.ex
    have lrs := Paired.len pr
    refine ⟨_, rfl, l, rfl, ⟨_, SqL.of el⟩, ?_⟩
    have nfl : l ≠ f := by
      obtain ⟨_, e, _⟩ := hl.ex
      exact ne_of_none e hf
    refine for_list (K := K) (a := l) (xs := rs.map V.ref) (fun i σ H' => ∃ (u4 u5 : Option V) (ws : List V), σ = [some (.ref p), some (.ref l), some (.ref f), some (.bl bare), u4, u5] ∧ Mov p H H' ∧ H' l = some (.lst (rs.map V.ref)) ∧ Paired (SpR H') rs zs ∧ H' f = some (.lst ws) ∧ Paired (PtP a.c_Amount H') ws ((zs.take i).filter fun z => nz z || !bare)) ⟨_, _, [], rfl, M1, el, pr, ef, .nil⟩ (fun i σ H' _ ⟨_, _, _, _, _, e, _⟩ => SqL.of e) ?_ ?_
    · rintro i v σ H2 hi ⟨u4, u5, ws, rfl, M2, el2, pr2, ef2, pw⟩
      obtain ⟨r, rfl, hr'⟩ := ref_at hi
      obtain ⟨z, hz, p1, p2, er, f1, f2⟩ := Paired.at_ pr2 hr'
      have lz := lp.q.l z (List.mem_of_getElem? hz)
      have lw := Paired.len pw
      have lf := List.length_filter_le (fun z => nz z || !bare) (zs.take i)
      rw [List.length_take] at lf
      have hi' := (List.getElem?_eq_some_iff.mp hz).1
      refine ⟨r, _, rfl, SqT.of er, rfl, _, _, rfl, _, _, rfl, rfl, ?_⟩
      refine ⟨_, rfl, _, _, _, _, rfl, rfl, SqT.of f1, at0, rfl, _, rfl, ite2 (fun h => ?_) (fun h => ?_)⟩
      · have h : ¬ z.1.1 = 0 := by simpa using h
        have hc : (nz z || !bare) = true := by simp [nz, h]
        refine ite2 (fun _ => ?_) (fun h => absurd rfl h)
        refine ⟨_, rfl, .inl ⟨rfl, _, SqL.of ef2⟩, _, rfl, p1, z.1, n, rfl, f1, lz.x, by omega, fun H3 v3 s3 i3 => ?_⟩
        refine ⟨_, rfl, p2, z.2, n, rfl, f2.same s3, lz.y, by omega, fun H4 v4 s4 i4 => ⟨sz, fun t ht => ?_⟩⟩
        have st := Lb.Same.upd (o := .tup [v3, v4]) ht
        have S4 := (s3.trans s4).trans st
        have ef4 := S4 _ _ ef2
        refine ⟨f, _, _, rfl, rfl, ef4, szlt (by omega), ?_⟩
        have N := NL.upd (o := .lst (ws ++ [V.ref t])) ef4
        refine ⟨_, _, _, rfl, Lb.Mov.updl (M2.same S4) hf nf, ?_, ?_, upd_same, ?_⟩
        · rw [upd_ne nfl]
          exact S4 _ _ el2
        · exact Paired.imp pr2 fun _ _ h => (h.same S4).nl N
        · rw [← take_snoc hz, filter_snoc, if_pos hc]
          exact paired_snoc (Paired.imp pw fun _ _ h => (h.same S4).nl N) ⟨t, _, _, rfl, N _ _ (fun _ z => nomatch z) upd_same, ((i3.same s4).same st).nl N, (i4.same st).nl N⟩
      · have h : z.1.1 = 0 := by simpa using h
        refine ⟨_, rfl, _, rfl, ite2 (fun hb => ?_) (fun hb => ?_)⟩
        · have hc : (nz z || !bare) = true := by simp [hb]
          refine ⟨_, rfl, .inl ⟨rfl, _, SqL.of ef2⟩, _, rfl, p1, z.1, n, rfl, f1, lz.x, by omega, fun H3 v3 s3 i3 => ?_⟩
          refine ⟨_, rfl, p2, z.2, n, rfl, f2.same s3, lz.y, by omega, fun H4 v4 s4 i4 => ⟨sz, fun t ht => ?_⟩⟩
          have st := Lb.Same.upd (o := .tup [v3, v4]) ht
          have S4 := (s3.trans s4).trans st
          have ef4 := S4 _ _ ef2
          refine ⟨f, _, _, rfl, rfl, ef4, szlt (by omega), ?_⟩
          have N := NL.upd (o := .lst (ws ++ [V.ref t])) ef4
          refine ⟨_, _, _, rfl, Lb.Mov.updl (M2.same S4) hf nf, ?_, ?_, upd_same, ?_⟩
          · rw [upd_ne nfl]
            exact S4 _ _ el2
          · exact Paired.imp pr2 fun _ _ h => (h.same S4).nl N
          · rw [← take_snoc hz, filter_snoc, if_pos hc]
            exact paired_snoc (Paired.imp pw fun _ _ h => (h.same S4).nl N) ⟨t, _, _, rfl, N _ _ (fun _ z => nomatch z) upd_same, ((i3.same s4).same st).nl N, (i4.same st).nl N⟩
        · have hc : ¬ (nz z || !bare) = true := by simp [nz, h, hb]
          refine ⟨_, _, _, rfl, M2, el2, pr2, ef2, ?_⟩
          rw [← take_snoc hz, filter_snoc, if_neg hc]
          exact pw
    rintro σ H3 ⟨u4, u5, ws, rfl, M3, el3, pr3, ef3, pw⟩
    rw [show (rs.map V.ref).length = zs.length by rw [List.length_map, lrs], List.take_length] at pw
    have lw := Paired.len pw
    have lf := List.length_filter_le (fun z => nz z || !bare) zs
    have hs : ∃ z ∈ zs.filter (fun z => nz z || !bare), z.1.1 ≠ 0 := by
      obtain ⟨z, hz, h0⟩ := lp_some lp
      exact ⟨z, List.mem_filter.mpr ⟨hz, by simp [nz, h0]⟩, h0⟩
    have hP := pts_of hn lp hs
    have hO : withO (zs.filter fun z => nz z || !bare) = zs := by
      cases bare with
      | true => simpa using (withO_self lp.q.ex).2
      | false =>
        rw [show (zs.filter fun z => nz z || !false) = zs from filt_all fun z _ => by simp]
        exact (withO_self lp.q.ex).1
    refine ⟨_, rfl, p, _, rfl, M3.pot, by decide, by unfold Bd; decide, fun H4 d4 m4 d40 d41 => ⟨rfl, _, rfl, ite2 (fun _ => ?_) (fun _ => ?_)⟩⟩
    · exact ⟨_, rfl, k _ f ws _ (M3.trans m4) hf (.inl (m4.keep _ _ nf ef3)) (Paired.imp pw fun _ _ h => h.nl (NL.mov m4 M3.pot)) hP hO (by omega)⟩
    · refine ⟨_, rfl, f, ws, rfl, .inl ⟨SqL.of (m4.keep _ _ nf ef3), fun t ht => ?_⟩⟩
      have st := Lb.Same.upd (o := .tup ws) ht
      exact k _ t ws _ ((M3.trans m4).same st) (((M3.trans m4)).free hp ht) (.inr upd_same) (Paired.imp pw fun _ _ h => (h.nl (NL.mov m4 M3.pot)).same st) hP hO (by omega)
end
end K16

set_option Elab.async false
set_option linter.all false
set_option maxRecDepth 100000
set_option maxHeartbeats 4000000
set_option exponentiation.threshold 10000
namespace K16
open PySem L2 Lb
/-! what a point put in between, ahead or behind does to the form -/
theorem slope_val {n : Nat} {z z' : Pt} (hz : PtN n z) (hz' : PtN n z') (h : val z.1 < val z'.1) : val (slope z z') * (val z'.1 - val z.1) = val z'.2 - val z.2 := by
  have e1 : val (minusF z'.2 z.2) = val z'.2 - val z.2 := val_sub hz'.y.pos hz.y.pos
  have e2 : val (minusF z'.1 z.1) = val z'.1 - val z.1 := val_sub hz'.x.pos hz.x.pos
  have e3 : val (slope z z') = val (minusF z'.2 z.2) / val (minusF z'.1 z.1) := val_div (minus_low hz'.y hz.y).pos (minus_low hz'.x hz.x).pos (minus_ne hz'.x.pos hz.x.pos h)
  rw [e3, e1, e2]
  grind
theorem slope_eq {n m : Nat} {a b c d : Pt} (ha : PtN n a) (hb : PtN n b) (hc : PtN m c) (hd : PtN m d) (h : val a.1 < val b.1) (h' : val c.1 < val d.1)
    (e : (val b.2 - val a.2) * (val d.1 - val c.1) = (val d.2 - val c.2) * (val b.1 - val a.1)) : slope a b = slope c d := by
  refine val_inj (slope_low ha hb h) (slope_low hc hd h') ?_
  have e1 := slope_val ha hb h
  have e2 := slope_val hc hd h'
  have n1 : val b.1 - val a.1 ≠ 0 := by grind
  have n2 : val d.1 - val c.1 ≠ 0 := by grind
  generalize val (slope a b) = s at *
  generalize val (slope c d) = t at *
  generalize val b.1 - val a.1 = x at *
  generalize val d.1 - val c.1 = y at *
  grind
def midQ (x y : Q2) : Q2 := timesF (plusF x y) (1, 2)
def farQ (x y : Q2) : Q2 := plusF y (minusF y x)
def midP (a b : Pt) : Pt := (midQ a.1 b.1, midQ a.2 b.2)
def farP (a b : Pt) : Pt := (farQ a.1 b.1, farQ a.2 b.2)
theorem two_low : Low 2 ((1, 2) : Q2) := ⟨by unfold Bd; decide, by unfold Bd; decide, by decide, by decide⟩
theorem mid_low {n : Nat} {x y : Q2} (hx : Low n x) (hy : Low n y) : Low (2 * n + 3) (midQ x y) := mul_low (n := 2 * n + 1) (m := 2) (add_low hx hy (by omega)) two_low (by omega)
theorem far_low {n : Nat} {x y : Q2} (hx : Low n x) (hy : Low n y) : Low (3 * n + 2) (farQ x y) := add_low (m := 2 * n + 1) hy (minus_low hy hx) (by omega)
theorem val_two : val ((1, 2) : Q2) * 2 = 1 := by
  unfold val
  grind
theorem mid_val {n : Nat} {x y : Q2} (hx : Low n x) (hy : Low n y) : val (midQ x y) * 2 = val x + val y := by
  have e1 : val (plusF x y) = val x + val y := val_add hx.pos hy.pos
  have e2 : val (midQ x y) = val (plusF x y) * val ((1, 2) : Q2) := val_mul (add_low (k := 2 * n + 1) hx hy (by omega)).pos (by decide)
  have e3 := val_two
  rw [e2, e1]
  grind
theorem far_val {n : Nat} {x y : Q2} (hx : Low n x) (hy : Low n y) : val (farQ x y) = val y + (val y - val x) := by
  have e1 : val (minusF y x) = val y - val x := val_sub hy.pos hx.pos
  have e2 : val (farQ x y) = val y + val (minusF y x) := val_add hy.pos (minus_low hy hx).pos
  rw [e2, e1]
theorem mid_ptN {n : Nat} {a b : Pt} (h1 : 1 ≤ n) (ha : PtN n a) (hb : PtN n b) : PtN (3 * n + 2) (midP a b) := ⟨(mid_low ha.x hb.x).mono (by omega), (mid_low ha.y hb.y).mono (by omega)⟩
theorem far_ptN {n : Nat} {a b : Pt} (ha : PtN n a) (hb : PtN n b) : PtN (3 * n + 2) (farP a b) := ⟨far_low ha.x hb.x, far_low ha.y hb.y⟩
theorem PtN.mono {n m : Nat} {z : Pt} (h : PtN n z) (k : n ≤ m) : PtN m z := ⟨h.x.mono k, h.y.mono k⟩
/-- the corners behind a point to which s leads -/
def cg : Q2 → Pt → List Pt → List Pt
  | _, _, [] => []
  | s, a, b :: r => (if s = slope a b then [] else [a]) ++ cg (slope a b) b r
def lg : Q2 → Pt → List Pt → Q2
  | s, _, [] => s
  | _, a, b :: r => lg (slope a b) b r
theorem cornersUpto_cons (a : Pt) (r : List Pt) : ∀ i, cornersUpto (a :: r) (i + 1) = (if slopeAt (a :: r) 0 = slopeAt (a :: r) 1 then [] else [r.getD 0 org]) ++ cornersUpto r i
  | 0 => by
    show [] ++ _ = _ ++ []
    rw [List.nil_append, List.append_nil]
    rfl
  | i + 1 => by
    rw [cornersUpto, cornersUpto_cons a r i, List.append_assoc]
    rfl
theorem corners_cg : ∀ (r : List Pt) (a b : Pt), corners (a :: b :: r) = cg (slope a b) b r
  | [], a, b => rfl
  | c :: r, a, b => by
    have e : corners (a :: b :: c :: r) = (if slope a b = slope b c then [] else [b]) ++ corners (b :: c :: r) := cornersUpto_cons a (b :: c :: r) r.length
    rw [e, corners_cg r b c]
    rfl
theorem last_lg : ∀ (r : List Pt) (a b : Pt), slopeAt (a :: b :: r) r.length = lg (slope a b) b r
  | [], a, b => rfl
  | c :: r, a, b => by
    show slopeAt (b :: c :: r) r.length = _
    rw [last_lg r b c]
    rfl
theorem form_cg (r : List Pt) (a b : Pt) : formOf (a :: b :: r) = (slope a b, cg (slope a b) b r, lg (slope a b) b r) := by
  unfold formOf
  rw [corners_cg, ← last_lg]
  rfl
theorem ins_cg {a m b : Pt} {B : List Pt} (e1 : slope a m = slope a b) (e2 : slope m b = slope a b) : ∀ (A : List Pt) (s : Q2) (x : Pt), cg s x (A ++ a :: m :: b :: B) = cg s x (A ++ a :: b :: B) ∧ lg s x (A ++ a :: m :: b :: B) = lg s x (A ++ a :: b :: B)
  | [], s, x => by
    simp only [List.nil_append, cg, lg, e1, e2, if_true, List.nil_append]
    exact ⟨trivial, trivial⟩
  | y :: A, s, x => by
    have h := ins_cg (B := B) e1 e2 A (slope x y) y
    simp only [List.cons_append, cg, lg, h.1, h.2]
    exact ⟨trivial, trivial⟩
theorem ins_cg0 {a m b : Pt} {B : List Pt} (e1 : slope a m = slope a b) (e2 : slope m b = slope a b) (s : Q2) : cg s a (m :: b :: B) = cg s a (b :: B) ∧ lg s a (m :: b :: B) = lg s a (b :: B) := by
  simp only [cg, lg, e1, e2, if_true, List.nil_append]
  exact ⟨trivial, trivial⟩
theorem form_ins {a m b : Pt} (A B : List Pt) (e1 : slope a m = slope a b) (e2 : slope m b = slope a b) : formOf (A ++ a :: m :: b :: B) = formOf (A ++ a :: b :: B) := by
  match A with
  | [] =>
    simp only [List.nil_append, form_cg, cg, lg, e1, e2, if_true]
  | [x] =>
    have h := ins_cg0 (B := B) e1 e2 (slope x a)
    simp only [List.cons_append, List.nil_append, form_cg, h.1, h.2]
  | x :: y :: A =>
    have h := ins_cg (B := B) e1 e2 A (slope x y) y
    simp only [List.cons_append, form_cg, h.1, h.2]
theorem app_cg {a b f : Pt} (e : slope b f = slope a b) : ∀ (A : List Pt) (s : Q2) (x : Pt), cg s x (A ++ [a, b, f]) = cg s x (A ++ [a, b]) ∧ lg s x (A ++ [a, b, f]) = lg s x (A ++ [a, b])
  | [], s, x => by
    simp only [List.nil_append, cg, lg, e, if_true, List.append_nil]
    exact ⟨trivial, trivial⟩
  | y :: A, s, x => by
    have h := app_cg e A (slope x y) y
    simp only [List.cons_append, cg, lg, h.1, h.2]
    exact ⟨trivial, trivial⟩
theorem form_app {a b f : Pt} (A : List Pt) (e : slope b f = slope a b) : formOf (A ++ [a, b, f]) = formOf (A ++ [a, b]) := by
  match A with
  | [] => simp only [List.nil_append, form_cg, cg, lg, e, if_true]
  | [x] => simp only [List.cons_append, List.nil_append, form_cg, cg, lg, e, if_true, List.append_nil]
  | x :: y :: A =>
    have h := app_cg e A (slope x y) y
    simp only [List.cons_append, form_cg, h.1, h.2]
theorem form_pre {a b f : Pt} (B : List Pt) (e : slope f a = slope a b) : formOf (f :: a :: b :: B) = formOf (a :: b :: B) := by
  simp only [form_cg, cg, lg, e, if_true, List.nil_append]
theorem asc_iff {s : Nat} {zs : List Pt} : Asc s zs ↔ zs.Pairwise (fun z z' => val (sd s z) < val (sd s z')) := by
  rw [List.pairwise_iff_getElem]
  constructor
  · intro h i j hi hj hij
    exact h.lt hij (List.getElem?_eq_getElem hi) (List.getElem?_eq_getElem hj)
  · intro h i z z' hz hz'
    obtain ⟨h1, rfl⟩ := List.getElem?_eq_some_iff.mp hz
    obtain ⟨h2, rfl⟩ := List.getElem?_eq_some_iff.mp hz'
    exact h i (i + 1) h1 h2 (Nat.lt_succ_self i)
theorem asc_ins {s : Nat} {A B : List Pt} {a m b : Pt} (h : Asc s (A ++ a :: b :: B)) (h1 : val (sd s a) < val (sd s m)) (h2 : val (sd s m) < val (sd s b)) : Asc s (A ++ a :: m :: b :: B) := by
  rw [asc_iff] at h ⊢
  simp only [List.pairwise_append, List.pairwise_cons, List.mem_cons, forall_eq_or_imp] at h ⊢
  obtain ⟨hA, ⟨⟨hab, haB⟩, hbB, hB⟩, hx⟩ := h
  refine ⟨hA, ⟨⟨h1, hab, haB⟩, ⟨h2, fun y hy => ?_⟩, hbB, hB⟩, fun x hxA => ⟨(hx x hxA).1, ?_, (hx x hxA).2⟩⟩
  · have := hbB y hy
    grind
  · have := (hx x hxA).1
    grind
theorem LQ.of {n : Nat} {zs : List Pt} (hp : ∀ z ∈ zs, PtN n z) (h0 : Asc 0 zs) (h1 : Asc 1 zs) (ho : org ∈ zs) : LQ n zs := by
  obtain ⟨ns, ps, e⟩ := List.append_of_mem ho
  have a0 := asc_iff.mp h0
  have a1 := asc_iff.mp h1
  rw [e] at a0 a1
  simp only [List.pairwise_append, List.pairwise_cons, List.mem_cons, forall_eq_or_imp] at a0 a1
  have v0 : val (sd 0 org) = 0 := val_zero
  have v1 : val (sd 1 org) = 0 := val_zero
  have n0 : ∀ z ∈ ns, z.1.1 < 0 := fun z hz => (val_negl (hp z (by rw [e]; exact List.mem_append_left _ hz)).x.pos).mpr (by
    have := (a0.2.2 z hz).1
    rw [v0] at this
    exact this)
  have n1 : ∀ z ∈ ns, z.2.1 < 0 := fun z hz => (val_negl (hp z (by rw [e]; exact List.mem_append_left _ hz)).y.pos).mpr (by
    have := (a1.2.2 z hz).1
    rw [v1] at this
    exact this)
  have p0 : ∀ z ∈ ps, 0 < z.1.1 := fun z hz => (val_pos (hp z (by rw [e]; exact List.mem_append_right _ (List.mem_cons_of_mem _ hz))).x.pos).mpr (by
    have := a0.2.1.1 z hz
    rw [v0] at this
    exact this)
  have p1 : ∀ z ∈ ps, 0 < z.2.1 := fun z hz => (val_pos (hp z (by rw [e]; exact List.mem_append_right _ (List.mem_cons_of_mem _ hz))).y.pos).mpr (by
    have := a1.2.1.1 z hz
    rw [v1] at this
    exact this)
  refine ⟨fun z hz => ⟨(hp z hz).x, (hp z hz).y, ?_⟩, fun s hs => by rcases hs with rfl | rfl <;> assumption, ns, ps, e, n0, p0⟩
  rw [e] at hz
  rcases List.mem_append.mp hz with hz | hz
  · rw [sg_n (n0 z hz), sg_n (n1 z hz)]
  · rcases List.mem_cons.mp hz with hz | hz
    · rw [hz]
      rfl
    · rw [sg_p (p0 z hz), sg_p (p1 z hz)]
theorem LQ.ptN {n m : Nat} {zs : List Pt} (h : LQ n zs) (k : n ≤ m) : ∀ z ∈ zs, PtN m z := fun z hz => ⟨(h.l z hz).x.mono k, (h.l z hz).y.mono k⟩
theorem LQ.org {n : Nat} {zs : List Pt} (h : LQ n zs) : org ∈ zs := by
  obtain ⟨ns, ps, e, _⟩ := h.ex
  rw [e]
  simp
theorem LQ.pos {n : Nat} {zs : List Pt} (h : LQ n zs) : 1 ≤ n := by
  have := (h.l _ h.org).x.b
  cases n with
  | zero => exact absurd this (by unfold Bd; decide)
  | succ n => omega
/-- a point put in between -/
theorem way0 {n : Nat} {A B : List Pt} {a b : Pt} (h : LQ n (A ++ a :: b :: B)) : LQ (3 * n + 2) (A ++ a :: midP a b :: b :: B) ∧ formOf (A ++ a :: midP a b :: b :: B) = formOf (A ++ a :: b :: B) := by
  have ha := h.ptN (Nat.le_refl n) a (by simp)
  have hb := h.ptN (Nat.le_refl n) b (by simp)
  have u0 := asc_iff.mp (h.up 0 (.inl rfl))
  have u1 := asc_iff.mp (h.up 1 (.inr rfl))
  simp only [List.pairwise_append, List.pairwise_cons, List.mem_cons, forall_eq_or_imp] at u0 u1
  have l0 : val a.1 < val b.1 := u0.2.1.1.1
  have l1 : val a.2 < val b.2 := u1.2.1.1.1
  have m0 : val (midP a b).1 * 2 = val a.1 + val b.1 := mid_val ha.x hb.x
  have m1 : val (midP a b).2 * 2 = val a.2 + val b.2 := mid_val ha.y hb.y
  have hm := mid_ptN h.pos ha hb
  have ha' := ha.mono (show n ≤ 3 * n + 2 by omega)
  have hb' := hb.mono (show n ≤ 3 * n + 2 by omega)
  have lam : val a.1 < val (midP a b).1 := by grind
  have lmb : val (midP a b).1 < val b.1 := by grind
  have lam1 : val a.2 < val (midP a b).2 := by grind
  have lmb1 : val (midP a b).2 < val b.2 := by grind
  refine ⟨LQ.of (fun z hz => ?_) (asc_ins (h.up 0 (.inl rfl)) lam lmb) (asc_ins (h.up 1 (.inr rfl)) lam1 lmb1) ?_, ?_⟩
  · have : z ∈ A ++ a :: b :: B ∨ z = midP a b := by
      simp only [List.mem_append, List.mem_cons] at hz ⊢
      grind
    rcases this with hz | rfl
    · exact h.ptN (by omega) z hz
    · exact hm
  · have := h.org
    simp only [List.mem_append, List.mem_cons] at this ⊢
    grind
  · generalize midP a b = m at *
    refine form_ins A B (slope_eq ha' hm ha' hb' lam l0 ?_) (slope_eq hm hb' ha' hb' lmb l0 ?_)
    · have e1 : val m.1 = (val a.1 + val b.1) / 2 := by grind
      have e2 : val m.2 = (val a.2 + val b.2) / 2 := by grind
      rw [e1, e2]
      grind
    · have e1 : val m.1 = (val a.1 + val b.1) / 2 := by grind
      have e2 : val m.2 = (val a.2 + val b.2) / 2 := by grind
      rw [e1, e2]
      grind
theorem way1 {n : Nat} {A : List Pt} {a b : Pt} (h : LQ n (A ++ [a, b])) : LQ (3 * n + 2) (A ++ [a, b] ++ [farP a b]) ∧ formOf (A ++ [a, b] ++ [farP a b]) = formOf (A ++ [a, b]) := by
  have ha := h.ptN (Nat.le_refl n) a (by simp)
  have hb := h.ptN (Nat.le_refl n) b (by simp)
  have u0 := asc_iff.mp (h.up 0 (.inl rfl))
  have u1 := asc_iff.mp (h.up 1 (.inr rfl))
  simp only [List.pairwise_append, List.pairwise_cons, List.mem_cons, forall_eq_or_imp] at u0 u1
  have l0 : val a.1 < val b.1 := u0.2.1.1.1
  have l1 : val a.2 < val b.2 := u1.2.1.1.1
  have m0 : val (farP a b).1 = val b.1 + (val b.1 - val a.1) := far_val ha.x hb.x
  have m1 : val (farP a b).2 = val b.2 + (val b.2 - val a.2) := far_val ha.y hb.y
  have hm := far_ptN ha hb
  have ha' := ha.mono (show n ≤ 3 * n + 2 by omega)
  have hb' := hb.mono (show n ≤ 3 * n + 2 by omega)
  have lbf : val b.1 < val (farP a b).1 := by grind
  have lbf1 : val b.2 < val (farP a b).2 := by grind
  have hl : (A ++ [a, b])[(A ++ [a, b]).length - 1]? = some b := by simp
  refine ⟨h.snoc hl (by omega) hm.x hm.y lbf lbf1, ?_⟩
  rw [List.append_assoc]
  refine form_app A (slope_eq hb' hm ha' hb' lbf l0 ?_)
  rw [m0, m1]
  grind
theorem way2 {n : Nat} {B : List Pt} {a b : Pt} (h : LQ n (a :: b :: B)) : LQ (3 * n + 2) (farP b a :: a :: b :: B) ∧ formOf (farP b a :: a :: b :: B) = formOf (a :: b :: B) := by
  have ha := h.ptN (Nat.le_refl n) a (by simp)
  have hb := h.ptN (Nat.le_refl n) b (by simp)
  have u0 := asc_iff.mp (h.up 0 (.inl rfl))
  have u1 := asc_iff.mp (h.up 1 (.inr rfl))
  simp only [List.pairwise_cons, List.mem_cons, forall_eq_or_imp] at u0 u1
  have l0 : val a.1 < val b.1 := u0.1.1
  have l1 : val a.2 < val b.2 := u1.1.1
  have m0 : val (farP b a).1 = val a.1 + (val a.1 - val b.1) := far_val hb.x ha.x
  have m1 : val (farP b a).2 = val a.2 + (val a.2 - val b.2) := far_val hb.y ha.y
  have hm := far_ptN hb ha
  have ha' := ha.mono (show n ≤ 3 * n + 2 by omega)
  have hb' := hb.mono (show n ≤ 3 * n + 2 by omega)
  have lbf : val (farP b a).1 < val a.1 := by grind
  have lbf1 : val (farP b a).2 < val a.2 := by grind
  refine ⟨h.cons (z' := a) rfl (by omega) hm.x hm.y lbf lbf1, ?_⟩
  refine form_pre B (slope_eq hm ha' ha' hb' lbf l0 ?_)
  rw [m0, m1]
  grind
end K16

set_option Elab.async false
set_option linter.all false
set_option maxRecDepth 100000
set_option maxHeartbeats 4000000
set_option exponentiation.threshold 10000
namespace K16
open PySem L2 Lb
open C8 (pss_cut)
theorem split2 {α : Type} : ∀ {l : List α} {i : Nat}, i + 1 < l.length → ∃ A a b B, l = A ++ a :: b :: B ∧ A.length = i
  | [], _, h => absurd h (Nat.not_lt_zero _)
  | [_], i, h => absurd h (by simp)
  | x :: y :: l, 0, _ => ⟨[], x, y, l, rfl, rfl⟩
  | x :: y :: l, i + 1, h => by
    obtain ⟨A, a, b, B, e, n⟩ := split2 (l := y :: l) (i := i) (by simpa using h)
    exact ⟨x :: A, a, b, B, by rw [e]; rfl, by rw [List.length_cons, n]⟩
theorem cut_to {xs : List V} {k : Nat} (h : k ≤ xs.length) : cutV xs none (some (k : Int)) = xs.take k := by
  unfold cutV
  rw [HT.sIx_nat, HT.sIx_none, Nat.min_eq_left h]
  rfl
theorem cut_last2 {xs : List V} {x y : V} : cutV (xs ++ [x, y]) (some (-2)) none = [x, y] := by
  unfold cutV
  have e : HT.sIx (xs ++ [x, y]).length 0 (some (-2)) = xs.length := by
    show (if (-2 : Int) < 0 then ((-2 : Int) + ((xs ++ [x, y]).length : Int)).toNat else min (-2 : Int).toNat (xs ++ [x, y]).length) = xs.length
    rw [if_pos (by decide), List.length_append]
    show (-2 + ((xs.length + 2 : Nat) : Int)).toNat = _
    omega
  rw [e, HT.sIx_none, List.drop_left]
  exact List.take_of_length_le (by simp)
theorem pair2 {α β : Type} {R : α → β → Prop} {as : List α} {x y : β} (h : Paired R as [x, y]) : ∃ a b, as = [a, b] ∧ R a x ∧ R b y := by
  cases h with
  | cons h1 h =>
    cases h with
    | cons h2 h =>
      cases h
      exact ⟨_, _, rfl, h1, h2⟩
theorem paired_split {α β : Type} {R : α → β → Prop} {x y : β} {B : List β} : ∀ {A : List β} {as : List α}, Paired R as (A ++ x :: y :: B) → ∃ RA a b RB, as = RA ++ a :: b :: RB ∧ R a x ∧ R b y ∧ RA.length = A.length ∧ RB.length = B.length
  | [], _ :: _ :: _, .cons h1 (.cons h2 h3) => ⟨[], _, _, _, rfl, h1, h2, rfl, Paired.len h3⟩
  | _ :: A, _ :: _, .cons h1 h => by
    obtain ⟨RA, a, b, RB, e, h2, h3, n1, n2⟩ := paired_split (A := A) h
    exact ⟨_ :: RA, a, b, RB, by rw [e]; rfl, h2, h3, by rw [List.length_cons, List.length_cons, n1], n2⟩
def sp_more : Sp := fun vs H Q _ => ∃ (p l : Addr) (zs : List Pt) (n : Nat), vs = [.ref p, .ref l] ∧ PotAt H p ∧ l ≠ p ∧ Spots H l zs ∧ LP n zs ∧ n ≤ 210 ∧ zs.length ≤ 19 ∧
  ∀ H' l' zs', Mov p H H' → H l' = none → Spots H' l' zs' → LP (3 * n + 2) zs' → formOf zs' = formOf zs → zs'.length = zs.length + 1 → Q (.ref l') H'
section
variable {P : Program} {w : World} {K : PySem.W.Frag} {mg : Str → Option Value} {base : Heap} {a : Ad}
theorem ok_more (T : Txt K mg a) : FnOk P w K mg base CX0 4 a.f_more a.d_more ["_law_pot_here", "_law_points_here"] sp_more := by
  refine T.F_more.ok sc_more (fun vs H Q E h => ?_) (fun cdv A outer s H vs Q E hr h => ?_)
  · obtain ⟨p, l, zs, n, rfl, _⟩ := h
    rfl
  · obtain ⟨p, l, zs, n, rfl, hp, nl, hl, lp, hn, h19, k⟩ := h
    refine ⟨_, (pss_cons (ps_par (i := 2) (j := 3) rfl sc_more.nd rfl rfl (by decide) rfl rfl (pa_cons (pe_call (ok_draw T) (hr.mono (by decide)) (by rfl) T.m_draw T.F_draw.kp (b_draw T) .nil pass0 (pa_cons (pv 0) (pa_cons pe_int pa_nil))) (pa_cons (pe_call (ok_draw T) (hr.mono (by decide)) (by rfl) T.m_draw T.F_draw.kp (b_draw T) .nil pass0 (pa_cons (pv 0) (pa_cons (pe_op op_sub (pe_callB (call_lenK (K := K) rfl) (by rfl) T.b_len (by decide +kernel) (pa_cons (pv 1) pa_nil)) pe_int) pa_nil))) pa_nil)) (by rfl))
 (pss_cons (ps_if (pt_cmpR op_eq (pv 2) pe_int (nomark _)) (pss_cons (ps_set (i := 4) sc_more.nd rfl (by first | exact Or.inl rfl | exact Or.inr rfl) (pe_listZip rfl (by rfl) T.b_list (by rfl) T.b_zip (pa_cons (pe_ix (ix_listK (K := K) rfl) (pv 1) (pv 3) (fun _ _ => rfl)) (pa_cons (pe_ix (ix_listK (K := K) rfl) (pv 1) (pe_op op_add (pv 3) pe_int) (fun _ _ => rfl)) pa_nil))))
 (pss_cons (ps_setLc (i := 5) (own := [("_law_one", 6), ("_law_other_here", 7)]) rfl sc_more.nd rfl rfl (sw_true rfl rfl rfl (by decide +kernel)) (pi_listK (K := K) rfl (pv 4)) (blkOk_by (own := [("_law_one", 6), ("_law_other_here", 7)]) (N := ["_law_pot_here", "_law_points_here", "_law_way", "_law_at", "_law_pairs", "_law_middle", "_law_one", "_law_other_here", "_law_far", "_law_less", "_law_part"]) (sc := defScope s_more) (by decide +kernel)) (fun _ _ _ _ _ => (pg_tupK (K := K) (n := 2) rfl rfl (pgs_cons (pg_name (i := 6) sc_more.nd rfl (by first | exact Or.inl rfl | exact Or.inr rfl)) (pgs_cons (pg_name (i := 7) sc_more.nd rfl (by first | exact Or.inl rfl | exact Or.inr rfl)) pgs_nil)))) (fun _ _ _ _ _ => pts_nil) (fun _ _ _ _ _ => (pe_call (ok_times T) (hr.mono (by decide)) (by rfl) T.m_times T.F_times.kp (b_times T) .nil pass0 (pa_cons (pe_call (ok_plus T) (hr.mono (by decide)) (by rfl) T.m_plus T.F_plus.kp (b_plus T) .nil pass0 (pa_cons (pv 6) (pa_cons (pv 7) pa_nil))) (pa_cons (pe_tup (pa_cons pe_int (pa_cons pe_int pa_nil))) pa_nil)))))
 (pss_one (ps_ret (pe_op op_cat (pe_op op_cat (pe_slice (sl_listK (K := K) rfl) (pv 1) po_none (po_some (pe_op op_add (pv 3) pe_int))) (pe_lst (pa_cons (pe_callTy call_tuple_of (by rfl) T.b_tuple (by decide +kernel) (pa_cons (pv 5) pa_nil)) pa_nil))) (pe_slice (sl_listK (K := K) rfl) (pv 1) (po_some (pe_op op_add (pv 3) pe_int)) po_none)))))) pss_nil)
 (pss_cons (ps_asg (pe_ix (ix_listK (K := K) rfl) (pe_lst (pa_cons (pe_slice (sl_listK (K := K) rfl) (pv 1) (po_some (pe_un un_neg pe_int)) po_none) (pa_cons (pe_revL (pe_slice (sl_listK (K := K) rfl) (pv 1) po_none (po_some pe_int))) pa_nil))) (pe_op op_sub (pv 2) pe_int) (fun _ _ => rfl)) (pg_lstK (K := K) (n := 2) rfl rfl (pgs_cons (pg_name (i := 6) sc_more.nd rfl (by first | exact Or.inl rfl | exact Or.inr rfl)) (pgs_cons (pg_name (i := 7) sc_more.nd rfl (by first | exact Or.inl rfl | exact Or.inr rfl)) pgs_nil))))
 (pss_cons (ps_setLc (i := 8) (own := [("_law_less", 9), ("_law_part", 10)]) rfl sc_more.nd rfl rfl (sw_true rfl rfl rfl (by decide +kernel)) (pi_zipAK (K := K) rfl (by rfl) T.b_zip (pa_cons (pv 6) (pa_cons (pv 7) pa_nil))) (blkOk_by (own := [("_law_less", 9), ("_law_part", 10)]) (N := ["_law_pot_here", "_law_points_here", "_law_way", "_law_at", "_law_pairs", "_law_middle", "_law_one", "_law_other_here", "_law_far", "_law_less", "_law_part"]) (sc := defScope s_more) (by decide +kernel)) (fun _ _ _ _ _ => (pg_tupK (K := K) (n := 2) rfl rfl (pgs_cons (pg_name (i := 9) sc_more.nd rfl (by first | exact Or.inl rfl | exact Or.inr rfl)) (pgs_cons (pg_name (i := 10) sc_more.nd rfl (by first | exact Or.inl rfl | exact Or.inr rfl)) pgs_nil)))) (fun _ _ _ _ _ => pts_nil) (fun _ _ _ _ _ => (pe_call (ok_plus T) (hr.mono (by decide)) (by rfl) T.m_plus T.F_plus.kp (b_plus T) .nil pass0 (pa_cons (pv 10) (pa_cons (pe_call (ok_minus T) (hr.mono (by decide)) (by rfl) T.m_minus T.F_minus.kp (b_minus T) .nil pass0 (pa_cons (pv 10) (pa_cons (pv 9) pa_nil))) pa_nil)))))
 (pss_one (ps_ret (pe_ifExp (pt_cmpR op_eq (pv 2) pe_int (nomark _)) (pe_op op_cat (pv 1) (pe_lst (pa_cons (pe_callTy call_tuple_of (by rfl) T.b_tuple (by decide +kernel) (pa_cons (pv 8) pa_nil)) pa_nil))) (pe_op op_cat (pe_lst (pa_cons (pe_callTy call_tuple_of (by rfl) T.b_tuple (by decide +kernel) (pa_cons (pv 8) pa_nil)) pa_nil)) (pv 1))))))))), ?_⟩
    have l2 := lp.l2
    refine ⟨_, rfl, p, _, rfl, hp, by decide, by unfold Bd; decide, fun H1 d1 m1 a0 a1 => ?_⟩
    have hl1 := hl.mov m1 hp nl
    obtain ⟨rs1, el1, pr1⟩ := id hl1.ex
    have lrs1 := Paired.len pr1
    have elen : (((rs1.map V.ref).length : Nat) : Int) - 1 = ((zs.length - 1 : Nat) : Int) := by rw [List.length_map, lrs1]; omega
    refine ⟨_, rfl, _, rfl, _, _, rfl, .inl (SqL.of el1), _, _, rfl, rfl, ?_⟩
    refine ⟨p, ((zs.length - 1 : Nat) : Int), congrArg (fun z => [V.ref p, V.int z]) elen, m1.pot, by omega, (show ((zs.length - 1 : Nat) : Int).natAbs < 2 ^ 200 from Nat.lt_of_lt_of_le (show ((zs.length - 1 : Nat) : Int).natAbs < 2 ^ 10 by omega) (Nat.pow_le_pow_right (by decide) (by decide))), fun H2 d2 m2 b0 b1 => ?_⟩
    obtain ⟨i, rfl⟩ := Int.eq_ofNat_of_zero_le b0
    have M2 := m1.trans m2
    have hl2 := hl1.mov m2 m1.pot nl
    obtain ⟨rs, el, pr⟩ := id hl2.ex
    have lrs := Paired.len pr
    refine ⟨_, _, rfl, _, rfl, rfl, _, rfl, ite2 (fun h => ?_) (fun h => ?_)⟩
    · have h : d1 = 0 := by simpa using h
      have hi : i + 1 < zs.length := by omega
      obtain ⟨ZA, za, zb, ZB, ez, nzA⟩ := split2 hi
      have hza : zs[i]? = some za := by rw [ez, ← nzA]; simp
      have hzb : zs[i + 1]? = some zb := by rw [ez, ← nzA]; simp
      obtain ⟨ra, hra, wa⟩ := Paired.at_r pr hza
      obtain ⟨rb, hrb, wb⟩ := Paired.at_r pr hzb
      have pa := lp.q.ptN (Nat.le_refl n) za (List.mem_of_getElem? hza)
      have pb := lp.q.ptN (Nat.le_refl n) zb (List.mem_of_getElem? hzb)
      obtain ⟨xa, ya, ea, fxa, fya⟩ := id wa
      obtain ⟨xb, yb, eb, fxb, fyb⟩ := id wb
      refine ⟨_, rfl, _, rfl, _, _, _, _, rfl, rfl, SqL.of el, at_ref hra, _, rfl, _, rfl, _, _, rfl, rfl, _, _, _, _, rfl, rfl, SqL.of el, at_ref (i := i + 1) hrb, ra, rb, _, _, rfl, SqT.of ea, SqT.of eb, (show 2 ≤ 10000 by decide), fun H3 q ts s3 hq eq pt => ?_⟩
      obtain ⟨t1, t2, rfl, p1, p2⟩ := pair2 pt
      have each : ∀ (j : Nat) v, ([t1, t2].map V.ref)[j]? = some v → ∃ t u w x y, v = .ref t ∧ H3 t = some (.tup [.ref u, .ref w]) ∧ FrQ H3 u x ∧ FrQ H3 w y ∧ Low n x ∧ Low n y ∧ [midQ za.1 zb.1, midQ za.2 zb.2][j]? = some (midQ x y) ∧ j < 2 := by
        intro j v hv
        match j, hv with
        | 0, hv => exact ⟨t1, xa, xb, _, _, (Option.some.inj hv).symm, p1, fxa.same s3, fxb.same s3, pa.x, pb.x, rfl, by decide⟩
        | 1, hv => exact ⟨t2, ya, yb, _, _, (Option.some.inj hv).symm, p2, fya.same s3, fyb.same s3, pa.y, pb.y, rfl, by decide⟩
        | j + 2, hv => simp at hv
      refine ⟨_, rfl, q, rfl, ⟨_, SqL.of eq⟩, fun D hD => ?_⟩
      refine lc_list (K := K) (a := q) (xs := [t1, t2].map V.ref) (fun j H' => Same H3 H' ∧ ∃ bs : List Addr, H' D = some (.lst (bs.map V.ref)) ∧ Paired (FrQ H') bs ([midQ za.1 zb.1, midQ za.2 zb.2].take j)) ⟨Lb.Same.upd hD, [], upd_same, .nil⟩ (fun i H' _ b => SqL.of (b.1 _ _ eq)) ?_ ?_
      · rintro j v H' hj ⟨s', bs, eD, pb'⟩
        obtain ⟨t, u, w, x, y, rfl, et, fx, fy, lx, ly, hm, hj2⟩ := each j v hj
        refine ⟨t, _, rfl, SqT.of (s' _ _ et), rfl, _, _, rfl, _, _, rfl, rfl, rfl, ?_⟩
        refine ⟨_, rfl, _, rfl, u, w, x, y, n, rfl, fx.same s', fy.same s', lx, ly, by omega, fun Ha q1 sa f1 => ⟨sz, fun tt htt => ?_⟩⟩
        have st := Lb.Same.upd (o := .tup [V.int 1, V.int 2]) htt
        refine ⟨q1, tt, plusF x y, (1, 2), 2 * n + 3, rfl, f1.same st, upd_same, (add_low lx ly (by omega)).mono (show 2 * n + 1 ≤ 2 * n + 3 by omega), two_low.mono (by omega), by omega, fun Hb q2 sb f2 => ?_⟩
        have S := (sa.trans st).trans sb
        have eD2 := S _ _ eD
        have lb := Paired.len pb'
        rw [List.length_take] at lb
        have N : NL Hb (upd Hb D (.lst (bs.map V.ref ++ [V.ref q2]))) := NL.upd eD2
        refine ⟨_, eD2, szlt (by rw [List.length_map]; omega), Lb.Same.updl (s'.trans S) hD, bs ++ [q2], by rw [upd_same, List.map_append]; rfl, ?_⟩
        rw [← take_snoc hm]
        exact paired_snoc (Paired.imp pb' fun _ _ h => (FrQ.same h S).nl N) (FrQ.nl f2 N)
      rintro He ⟨se, bs, eD, pbs⟩
      obtain ⟨q1, q2, rfl, f1, f2⟩ := pair2 pbs
      have Se := s3.trans se
      refine ⟨_, rfl, _, rfl, _, _, rfl, rfl, _, rfl, l, _, rfl, SqL.of (Se _ _ el), fun l1 hl1 => ?_⟩
      generalize e_H5 : upd _ l1 _ = H5
      obtain ⟨s5, e5⟩ := al3 e_H5 hl1
      clear e_H5
      (try dsimp only at e5)
      refine ⟨_, rfl, D, _, rfl, .inl ⟨SqL.of (s5 _ _ eD), fun t ht => ?_⟩⟩
      generalize e_H6 : upd _ t _ = H6
      obtain ⟨s6, e6⟩ := al3 e_H6 ht
      clear e_H6
      (try dsimp only at e6)
      refine ⟨sz, fun l2 hl2 => ?_⟩
      generalize e_H7 : upd _ l2 _ = H7
      obtain ⟨s7, e7⟩ := al3 e_H7 hl2
      clear e_H7
      (try dsimp only at e7)
      have ec1 : cutV (rs.map V.ref) none (some ((i : Int) + 1)) = (rs.take (i + 1)).map V.ref := (cut_to (k := i + 1) (by rw [List.length_map]; omega)).trans List.map_take.symm
      have ec2 : cutV (rs.map V.ref) (some ((i : Int) + 1)) none = (rs.drop (i + 1)).map V.ref := (cut_from (k := i + 1) (by rw [List.length_map]; omega)).trans List.map_drop.symm
      rw [ec1] at e5
      have lt := List.length_take_le (i + 1) rs
      have ld : (rs.drop (i + 1)).length ≤ rs.length := by rw [List.length_drop]; omega
      refine ⟨l1, l2, _, _, rfl, rfl, s7 _ _ (s6 _ _ e5), e7, szle (by rw [List.length_map]; show (rs.take (i + 1)).length + 1 ≤ _; omega), fun l3 hl3 => ?_⟩
      generalize e_H8 : upd _ l3 _ = H8
      obtain ⟨s8, e8⟩ := al3 e_H8 hl3
      clear e_H8
      (try dsimp only at e8)
      have S8 := (((Se.trans s5).trans s6).trans s7).trans s8
      refine ⟨_, rfl, _, rfl, _, _, rfl, rfl, _, rfl, l, _, rfl, SqL.of (S8 _ _ el), fun l4 hl4 => ?_⟩
      generalize e_H9 : upd _ l4 _ = H9
      obtain ⟨s9, e9⟩ := al3 e_H9 hl4
      clear e_H9
      (try dsimp only at e9)
      rw [ec2] at e9
      refine ⟨l3, l4, _, _, rfl, rfl, s9 _ _ e8, e9, szle (by rw [List.length_append, List.length_map, List.length_map]; show (rs.take (i + 1)).length + 1 + _ ≤ _; omega), fun l5 hl5 => ?_⟩
      have M9 := (M2.same S8).same s9
      have f5 := M9.free hp hl5
      generalize e_H10 : upd _ l5 _ = H10
      obtain ⟨s10, e10⟩ := al3 e_H10 hl5
      clear e_H10
      (try dsimp only at e10)
      have S10 := (S8.trans s9).trans s10
      have T6 := ((s6.trans s7).trans s8).trans (s9.trans s10)
      have T7 := (s7.trans s8).trans (s9.trans s10)
      obtain ⟨w1, w2⟩ := way0 (ez ▸ lp.q)
      have ezz : zs.take (i + 1) ++ [midP za zb] ++ zs.drop (i + 1) = ZA ++ za :: midP za zb :: zb :: ZB := by
        rw [ez, ← nzA]
        have q1 : List.take (ZA.length + 1) ZA = ZA := List.take_of_length_le (Nat.le_succ _)
        have q2 : List.drop (ZA.length + 1) ZA = [] := List.drop_eq_nil_of_le (Nat.le_succ _)
        simp [List.take_append, List.drop_append, q1, q2]
      have ln : (ZA ++ za :: midP za zb :: zb :: ZB).length = zs.length + 1 := by
        rw [ez]
        simp
        omega
      refine k _ l5 (ZA ++ za :: midP za zb :: zb :: ZB) (M9.same s10) f5 ⟨rs.take (i + 1) ++ [t] ++ rs.drop (i + 1), ?_, ?_⟩ ⟨w1, by omega, by omega⟩ (w2.trans (by rw [ez])) ln
      · rw [e10, List.map_append, List.map_append]
        rfl
      · rw [← ezz]
        have prS := Paired.imp pr fun _ _ h => SpR.same h S10
        exact paired_append (paired_append (paired_take prS) (.cons ⟨q1, q2, T7 _ _ e6, (FrQ.same f1 s5).same T6, (FrQ.same f2 s5).same T6⟩ .nil)) (paired_drop prS)
    · have h : ¬ d1 = 0 := by simpa using h
      refine ⟨_, rfl, _, rfl, _, rfl, l, _, rfl, SqL.of el, fun l1 hl1 => ?_⟩
      generalize e_H3 : upd _ l1 _ = H3
      obtain ⟨s3, e3⟩ := al3 e_H3 hl1
      clear e_H3
      (try dsimp only at e3)
      refine ⟨_, rfl, _, rfl, l, _, rfl, SqL.of (s3 _ _ el), fun l2' hl2' => ?_⟩
      generalize e_H4 : upd _ l2' _ = H4
      obtain ⟨s4, e4⟩ := al3 e_H4 hl2'
      clear e_H4
      (try dsimp only at e4)
      refine ⟨l2', _, rfl, SqL.of e4, fun l3 hl3 => ?_⟩
      generalize e_H5 : upd _ l3 _ = H5
      obtain ⟨s5, e5⟩ := al3 e_H5 hl3
      clear e_H5
      (try dsimp only at e5)
      refine ⟨sz, fun l4 hl4 => ?_⟩
      generalize e_H6 : upd _ l4 _ = H6
      obtain ⟨s6, e6⟩ := al3 e_H6 hl4
      clear e_H6
      (try dsimp only at e6)
      have S6 := ((s3.trans s4).trans s5).trans s6
      have pr6 := Paired.imp pr fun _ _ h => SpR.same h S6
      have pick : ∃ (li o1 o2 : Addr) (z1 z2 : Pt), atI [V.ref l1, V.ref l3] (d1 - 1) = some (.ref li) ∧ H6 li = some (.lst [.ref o1, .ref o2]) ∧ SpR H6 o1 z1 ∧ SpR H6 o2 z2 ∧ PtN n z1 ∧ PtN n z2 ∧ ((d1 = 1 ∧ ∃ ZA, zs = ZA ++ [z1, z2]) ∨ (d1 = 2 ∧ ∃ ZB, zs = z2 :: z1 :: ZB)) := by
        rcases (show d1 = 1 ∨ d1 = 2 by omega) with rfl | rfl
        · obtain ⟨ZA, za, zb, ZB, ez, nzA⟩ := split2 (l := zs) (i := zs.length - 2) (by omega)
          have lz := congrArg List.length ez
          rw [List.length_append, List.length_cons, List.length_cons] at lz
          have eB : ZB = [] := List.eq_nil_of_length_eq_zero (by omega)
          subst eB
          have pz := pr6
          rw [ez] at pz
          obtain ⟨RA, ra, rb, RB, er, wa, wb, _, eR⟩ := paired_split pz
          have eR : RB = [] := List.eq_nil_of_length_eq_zero eR
          subst eR
          have e3' := s6 _ _ (s5 _ _ (s4 _ _ e3))
          rw [er, List.map_append, show ([ra, rb].map V.ref : List V) = [.ref ra, .ref rb] from rfl, cut_last2] at e3'
          exact ⟨l1, ra, rb, za, zb, atI_nat (j := 0) rfl, e3', wa, wb, lp.q.ptN (Nat.le_refl n) za (by rw [ez]; simp), lp.q.ptN (Nat.le_refl n) zb (by rw [ez]; simp), .inl ⟨rfl, ZA, ez⟩⟩
        · obtain ⟨ZA, za, zb, ZB, ez, nzA⟩ := split2 (l := zs) (i := 0) (by omega)
          have eB : ZA = [] := List.eq_nil_of_length_eq_zero nzA
          subst eB
          have pz := pr6
          rw [ez] at pz
          obtain ⟨RA, ra, rb, RB, er, wa, wb, eR, _⟩ := paired_split pz
          have eR : RA = [] := List.eq_nil_of_length_eq_zero eR
          subst eR
          have e5' := s6 _ _ e5
          have ec : cutV (rs.map V.ref) none (some 2) = [.ref ra, .ref rb] := by
            rw [show cutV (rs.map V.ref) none (some 2) = (rs.map V.ref).take 2 from cut_to (k := 2) (by rw [List.length_map]; omega), er]
            rfl
          rw [ec] at e5'
          exact ⟨l3, rb, ra, zb, za, atI_nat (j := 1) rfl, e5', wb, wa, lp.q.ptN (Nat.le_refl n) zb (by rw [ez]; simp), lp.q.ptN (Nat.le_refl n) za (by rw [ez]; simp), .inr ⟨rfl, ZB, ez⟩⟩
      obtain ⟨li, o1, o2, z1, z2, ha, eli, w1, w2, pz1, pz2, wy⟩ := pick
      obtain ⟨x1, y1, eo1, fx1, fy1⟩ := id w1
      obtain ⟨x2, y2, eo2, fx2, fy2⟩ := id w2
      refine ⟨_, rfl, _, _, rfl, rfl, _, _, _, _, rfl, rfl, SqL.of e6, ha, ?_⟩
      refine ⟨li, _, rfl, SqL.of eli, rfl, _, _, rfl, _, _, rfl, rfl, ?_⟩
      have each : ∀ (j : Nat) u w, ([.ref x1, .ref y1] : List V)[j]? = some u → ([.ref x2, .ref y2] : List V)[j]? = some w → ∃ a b x y, u = .ref a ∧ w = .ref b ∧ FrQ H6 a x ∧ FrQ H6 b y ∧ Low n x ∧ Low n y ∧ [farQ z1.1 z2.1, farQ z1.2 z2.2][j]? = some (farQ x y) ∧ j < 2 := by
        intro j u w hu hw
        match j, hu, hw with
        | 0, hu, hw => exact ⟨x1, x2, _, _, (Option.some.inj hu).symm, (Option.some.inj hw).symm, fx1, fx2, pz1.x, pz2.x, rfl, by decide⟩
        | 1, hu, hw => exact ⟨y1, y2, _, _, (Option.some.inj hu).symm, (Option.some.inj hw).symm, fy1, fy2, pz1.y, pz2.y, rfl, by decide⟩
        | j + 2, hu, _ => simp at hu
      refine ⟨_, rfl, _, rfl, o1, o2, _, _, rfl, .inr ⟨SqT.of eo1, SqT.of eo2, fun D hD => ?_⟩⟩
      refine lc_it (walk_zipT (K := K) (a := o1) (b := o2) (xs := [.ref x1, .ref y1]) (ys := [.ref x2, .ref y2]) (n := 2) rfl) (fun j H' => Same H6 H' ∧ ∃ bs : List Addr, H' D = some (.lst (bs.map V.ref)) ∧ Paired (FrQ H') bs ([farQ z1.1 z2.1, farQ z1.2 z2.2].take j)) ⟨Lb.Same.upd hD, [], upd_same, .nil⟩ (fun i H' _ b => ⟨SqT.of (b.1 _ _ eo1), SqT.of (b.1 _ _ eo2)⟩) ?_ ?_
      · rintro j v H' H'' hj ⟨s', bs, eD, pb'⟩ ⟨T0, u, w, rfl, hT, rfl, ex, ey⟩
        obtain ⟨ua, wa, x, y, rfl, rfl, fx, fy, lx, ly, hm, hj2⟩ := each j u w ex ey
        have sT := Lb.Same.upd (o := .tup [V.ref ua, V.ref wa]) hT
        have S0 := s'.trans sT
        refine ⟨T0, _, rfl, SqT.of upd_same, rfl, _, _, rfl, _, _, rfl, rfl, rfl, ?_⟩
        refine ⟨_, rfl, _, rfl, _, rfl, wa, ua, y, x, n, rfl, fy.same S0, fx.same S0, ly, lx, by omega, fun Ha q1 sa f1 => ?_⟩
        refine ⟨wa, q1, y, minusF y x, 2 * n + 1, rfl, (fy.same S0).same sa, f1, ly.mono (by omega), minus_low ly lx, by omega, fun Hb q2 sb f2 => ?_⟩
        have S := (sT.trans sa).trans sb
        have eD2 := S _ _ eD
        have lb := Paired.len pb'
        rw [List.length_take] at lb
        have N : NL Hb (upd Hb D (.lst (bs.map V.ref ++ [V.ref q2]))) := NL.upd eD2
        refine ⟨_, eD2, szlt (by rw [List.length_map]; omega), Lb.Same.updl (s'.trans S) hD, bs ++ [q2], by rw [upd_same, List.map_append]; rfl, ?_⟩
        rw [← take_snoc hm]
        exact paired_snoc (Paired.imp pb' fun _ _ h => (FrQ.same h S).nl N) (FrQ.nl f2 N)
      rintro He ⟨se, bs, eD, pbs⟩
      obtain ⟨q1, q2, rfl, f1, f2⟩ := pair2 pbs
      have Se := S6.trans se
      refine ⟨_, rfl, rfl, _, rfl, ite2 (fun h => ?_) (fun h => ?_)⟩
      · have h : d1 = 1 := by simpa using h
        obtain ⟨ZA, ez⟩ : ∃ ZA, zs = ZA ++ [z1, z2] := by
          rcases wy with ⟨_, h⟩ | ⟨h', _⟩
          · exact h
          · omega
        refine ⟨_, rfl, _, rfl, D, _, rfl, .inl ⟨SqL.of eD, fun t ht => ?_⟩⟩
        generalize e_H7 : upd _ t _ = H7
        obtain ⟨s7, e7⟩ := al3 e_H7 ht
        clear e_H7
        (try dsimp only at e7)
        refine ⟨sz, fun l5 hl5 => ?_⟩
        generalize e_H8 : upd _ l5 _ = H8
        obtain ⟨s8, e8⟩ := al3 e_H8 hl5
        clear e_H8
        (try dsimp only at e8)
        have S8 := (Se.trans s7).trans s8
        refine ⟨l, l5, _, _, rfl, rfl, S8 _ _ el, e8, szle (by rw [List.length_map]; show rs.length + 1 ≤ _; omega), fun l6 hl6 => ?_⟩
        have M8 := M2.same S8
        have f6 := M8.free hp hl6
        generalize e_H9 : upd _ l6 _ = H9
        obtain ⟨s9, e9⟩ := al3 e_H9 hl6
        clear e_H9
        (try dsimp only at e9)
        obtain ⟨w1', w2'⟩ := way1 (ez ▸ lp.q)
        have ln : (ZA ++ [z1, z2] ++ [farP z1 z2]).length = zs.length + 1 := by
          rw [ez]
          simp
        refine k _ l6 (ZA ++ [z1, z2] ++ [farP z1 z2]) (M8.same s9) f6 ⟨rs ++ [t], ?_, ?_⟩ ⟨w1', by omega, by omega⟩ (w2'.trans (by rw [ez])) ln
        · rw [e9, List.map_append]
          rfl
        · rw [← ez]
          exact paired_append (Paired.imp pr fun _ _ h => SpR.same h (S8.trans s9)) (.cons ⟨q1, q2, s9 _ _ (s8 _ _ e7), ((FrQ.same f1 s7).same s8).same s9, ((FrQ.same f2 s7).same s8).same s9⟩ .nil)
      · have h : ¬ d1 = 1 := by simpa using h
        obtain ⟨ZB, ez⟩ : ∃ ZB, zs = z2 :: z1 :: ZB := by
          rcases wy with ⟨h', _⟩ | ⟨_, h⟩
          · omega
          · exact h
        refine ⟨_, rfl, D, _, rfl, .inl ⟨SqL.of eD, fun t ht => ?_⟩⟩
        generalize e_H7 : upd _ t _ = H7
        obtain ⟨s7, e7⟩ := al3 e_H7 ht
        clear e_H7
        (try dsimp only at e7)
        refine ⟨sz, fun l5 hl5 => ?_⟩
        generalize e_H8 : upd _ l5 _ = H8
        obtain ⟨s8, e8⟩ := al3 e_H8 hl5
        clear e_H8
        (try dsimp only at e8)
        have S8 := (Se.trans s7).trans s8
        refine ⟨_, rfl, l5, l, _, _, rfl, rfl, e8, S8 _ _ el, szle (by rw [List.length_map]; show 1 + rs.length ≤ _; omega), fun l6 hl6 => ?_⟩
        have M8 := M2.same S8
        have f6 := M8.free hp hl6
        generalize e_H9 : upd _ l6 _ = H9
        obtain ⟨s9, e9⟩ := al3 e_H9 hl6
        clear e_H9
        (try dsimp only at e9)
        obtain ⟨w1', w2'⟩ := way2 (ez ▸ lp.q)
        have ln : (farP z1 z2 :: z2 :: z1 :: ZB).length = zs.length + 1 := by rw [ez]; rfl
        refine k _ l6 (farP z1 z2 :: z2 :: z1 :: ZB) (M8.same s9) f6 ⟨t :: rs, ?_, ?_⟩ ⟨w1', by omega, by omega⟩ (w2'.trans (by rw [ez])) ln
        · rw [e9]
          rfl
        · rw [← ez]
          exact .cons ⟨q1, q2, s9 _ _ (s8 _ _ e7), ((FrQ.same f1 s7).same s8).same s9, ((FrQ.same f2 s7).same s8).same s9⟩ (Paired.imp pr fun _ _ h => SpR.same h (S8.trans s9))
end
end K16

set_option Elab.async false
set_option linter.all false
set_option maxRecDepth 100000
set_option maxHeartbeats 4000000
set_option exponentiation.threshold 10000
namespace K16
open PySem L2 Lb
open C8 (pss_cut)
theorem pairwise_last {R : Pt → Pt → Prop} {A : List Pt} {z z' : Pt} (h : (A ++ [z]).Pairwise R) (k : ∀ x ∈ A, R x z → R x z') : (A ++ [z']).Pairwise R := by
  simp only [List.pairwise_append, List.pairwise_cons, List.mem_singleton, forall_eq, List.Pairwise.nil] at h ⊢
  exact ⟨h.1, h.2.1.imp (fun h y hy => absurd hy List.not_mem_nil) id, fun x hx => k x hx (h.2.2 x hx)⟩
theorem pairwise_first {R : Pt → Pt → Prop} {B : List Pt} {z z' : Pt} (h : (z :: B).Pairwise R) (k : ∀ x ∈ B, R z x → R z' x) : (z' :: B).Pairwise R := by
  simp only [List.pairwise_cons] at h ⊢
  exact ⟨fun x hx => k x hx (h.1 x hx), h.2⟩
theorem other1 {n m : Nat} {A : List Pt} {z : Pt} {y : Q2} (h : LQ n (A ++ [z])) (hnm : n ≤ m) (h0 : 0 < z.1.1) (ly : Low m y) (le : val z.2 ≤ val y) : LQ m (A ++ [(z.1, y)]) := by
  have pz := h.ptN hnm z (by simp)
  refine LQ.of (fun x hx => ?_) (asc_iff.mpr (pairwise_last (asc_iff.mp (h.up 0 (.inl rfl))) fun x _ hr => hr)) (asc_iff.mpr (pairwise_last (asc_iff.mp (h.up 1 (.inr rfl))) fun x _ hr => ?_)) ?_
  · rcases List.mem_append.mp hx with hx | hx
    · exact h.ptN hnm x (List.mem_append_left _ hx)
    · rw [List.mem_singleton.mp hx]
      exact ⟨pz.x, ly⟩
  · have hr : val (sd 1 x) < val z.2 := hr
    show val (sd 1 x) < val y
    grind
  · rcases List.mem_append.mp h.org with ho | ho
    · exact List.mem_append_left _ ho
    · rw [← List.mem_singleton.mp ho] at h0
      exact absurd h0 (by decide)
theorem other2 {n m : Nat} {B : List Pt} {z : Pt} {x' : Q2} (h : LQ n (z :: B)) (hnm : n ≤ m) (h0 : z.1.1 < 0) (lx : Low m x') (le : val x' ≤ val z.1) : LQ m ((x', z.2) :: B) := by
  have pz := h.ptN hnm z (by simp)
  refine LQ.of (fun x hx => ?_) (asc_iff.mpr (pairwise_first (asc_iff.mp (h.up 0 (.inl rfl))) fun x _ hr => ?_)) (asc_iff.mpr (pairwise_first (asc_iff.mp (h.up 1 (.inr rfl))) fun x _ hr => hr)) ?_
  · rcases List.mem_cons.mp hx with hx | hx
    · rw [hx]
      exact ⟨lx, pz.y⟩
    · exact h.ptN hnm x (List.mem_cons_of_mem _ hx)
  · have hr : val z.1 < val (sd 0 x) := hr
    show val x' < val (sd 0 x)
    grind
  · rcases List.mem_cons.mp h.org with ho | ho
    · rw [← ho] at h0
      exact absurd h0 (by decide)
    · exact List.mem_cons_of_mem _ ho
theorem rd_nn {t b : Int} (ht : 0 ≤ t) (hb : 0 < b) : 0 ≤ val (rd t b) := by
  obtain ⟨h1, _, h3, h4⟩ := rd_spec (t := t) (show b ≠ 0 by omega)
  have hD : 0 < rdD t b := by
    rcases Int.lt_or_le 0 (rdD t b) with h | h
    · exact h
    · have := Int.mul_le_mul_of_nonneg_right h (Int.le_of_lt h1)
      rw [Int.zero_mul] at this
      omega
  have hT : 0 ≤ rdT t b := by
    rcases Int.lt_or_le (rdT t b) 0 with h | h
    · have := Int.mul_lt_mul_of_pos_left h hD
      rw [Int.mul_zero] at this
      omega
    · exact h
  have := (val_le (x := (0, 1)) (y := rd t b) (by decide) h1).mp (by
    show (0 : Int) * _ ≤ rdT t b * 1
    omega)
  rw [val_zero] at this
  exact this
theorem split_last {α : Type} {l : List α} (h : 1 ≤ l.length) : ∃ A a, l = A ++ [a] ∧ A.length = l.length - 1 := by
  refine ⟨l.dropLast, l.getLast (by intro e; rw [e] at h; simp at h), (List.dropLast_concat_getLast _).symm, List.length_dropLast⟩
theorem paired_split1 {α β : Type} {R : α → β → Prop} {x : β} : ∀ {A : List β} {as : List α}, Paired R as (A ++ [x]) → ∃ RA a, as = RA ++ [a] ∧ Paired R RA A ∧ R a x
  | [], _ :: [], .cons h1 .nil => ⟨[], _, rfl, .nil, h1⟩
  | _ :: A, _ :: _, .cons h1 h => by
    obtain ⟨RA, a, e, h2, h3⟩ := paired_split1 (A := A) h
    exact ⟨_ :: RA, a, by rw [e]; rfl, .cons h1 h2, h3⟩
theorem cut_but {xs : List V} {x : V} : cutV (xs ++ [x]) none (some (-1)) = xs := by
  unfold cutV
  have e : HT.sIx (xs ++ [x]).length (xs ++ [x]).length (some (-1)) = xs.length := by
    show (if (-1 : Int) < 0 then ((-1 : Int) + ((xs ++ [x]).length : Int)).toNat else min (-1 : Int).toNat (xs ++ [x]).length) = xs.length
    rw [if_pos (by decide), List.length_append]
    show (-1 + ((xs.length + 1 : Nat) : Int)).toNat = _
    omega
  rw [e, HT.sIx_none, List.drop_zero, Nat.sub_zero]
  exact List.take_left
def sp_other : Sp := fun vs H Q _ => ∃ (p l : Addr) (zs : List Pt), vs = [.ref p, .ref l] ∧ PotAt H p ∧ l ≠ p ∧ Spots H l zs ∧ LP 22 zs ∧
  ∀ H' l' zs', Mov p H H' → H l' = none → Spots H' l' zs' → LP 45 zs' → Q (.ref l') H'
section
variable {P : Program} {w : World} {K : PySem.W.Frag} {mg : Str → Option Value} {base : Heap} {a : Ad}
theorem ok_other (T : Txt K mg a) : FnOk P w K mg base CX0 4 a.f_other a.d_other ["_law_pot_here", "_law_points_here"] sp_other := by
  refine T.F_other.ok sc_other (fun vs H Q E h => ?_) (fun cdv A outer s H vs Q E hr h => ?_)
  · obtain ⟨p, l, zs, rfl, _⟩ := h
    rfl
  · obtain ⟨p, l, zs, rfl, hp, nl, hl, lp, k⟩ := h
    refine ⟨_, (pss_cons (ps_set (i := 2) sc_other.nd rfl (by first | exact Or.inl rfl | exact Or.inr rfl) (pe_call (ok_low T) (hr.mono (by decide)) (by rfl) T.m_low T.F_low.kp (b_low T) .nil pass0 (pa_cons (pe_call (ok_draw T) (hr.mono (by decide)) (by rfl) T.m_draw T.F_draw.kp (b_draw T) .nil pass0 (pa_cons (pv 0) (pa_cons pe_int pa_nil))) (pa_cons (pe_op op_add pe_int (pe_call (ok_draw T) (hr.mono (by decide)) (by rfl) T.m_draw T.F_draw.kp (b_draw T) .nil pass0 (pa_cons (pv 0) (pa_cons pe_int pa_nil)))) pa_nil))))
 (pss_cons (ps_if (pt_cmpR op_gt (pe_ix (ix_tupK (K := K) rfl) (pe_ix (ix_tupK (K := K) rfl) (pe_ix (ix_listK (K := K) rfl) (pv 1) (pe_un un_neg pe_int) (fun _ _ => rfl)) pe_int (fun _ _ => rfl)) pe_int (fun _ _ => rfl)) pe_int (nomark _)) (pss_one (ps_ret (pe_op op_cat (pe_slice (sl_listK (K := K) rfl) (pv 1) po_none (po_some (pe_un un_neg pe_int))) (pe_lst (pa_cons (pe_tup (pa_cons (pe_ix (ix_tupK (K := K) rfl) (pe_ix (ix_listK (K := K) rfl) (pv 1) (pe_un un_neg pe_int) (fun _ _ => rfl)) pe_int (fun _ _ => rfl)) (pa_cons (pe_call (ok_plus T) (hr.mono (by decide)) (by rfl) T.m_plus T.F_plus.kp (b_plus T) .nil pass0 (pa_cons (pe_ix (ix_tupK (K := K) rfl) (pe_ix (ix_listK (K := K) rfl) (pv 1) (pe_un un_neg pe_int) (fun _ _ => rfl)) pe_int (fun _ _ => rfl)) (pa_cons (pv 2) pa_nil))) pa_nil))) pa_nil))))) pss_nil)
 (pss_one (ps_ret (pe_op op_cat (pe_lst (pa_cons (pe_tup (pa_cons (pe_call (ok_minus T) (hr.mono (by decide)) (by rfl) T.m_minus T.F_minus.kp (b_minus T) .nil pass0 (pa_cons (pe_ix (ix_tupK (K := K) rfl) (pe_ix (ix_listK (K := K) rfl) (pv 1) pe_int (fun _ _ => rfl)) pe_int (fun _ _ => rfl)) (pa_cons (pv 2) pa_nil))) (pa_cons (pe_ix (ix_tupK (K := K) rfl) (pe_ix (ix_listK (K := K) rfl) (pv 1) pe_int (fun _ _ => rfl)) pe_int (fun _ _ => rfl)) pa_nil))) pa_nil)) (pe_slice (sl_listK (K := K) rfl) (pv 1) (po_some pe_int) po_none)))))), ?_⟩
    have l2 := lp.l2
    have l20 := lp.l20
    refine ⟨_, rfl, p, _, rfl, hp, by decide, by unfold Bd; decide, fun H1 d1 m1 a0 a1 => ?_⟩
    refine ⟨_, rfl, p, _, rfl, m1.pot, by decide, by unfold Bd; decide, fun H2 d2 m2 b0 b1 => ⟨_, _, rfl, rfl, ?_⟩⟩
    have bd1 : Bd 2 d1 := show d1.natAbs < 2 ^ 2 by omega
    have bd2 : Bd 2 (1 + d2) := show (1 + d2).natAbs < 2 ^ 2 by omega
    refine ⟨_, _, rfl, by omega, bd1.mono (by decide), bd2.mono (by decide), fun H3 qb s3 fb => ?_⟩
    have lb : Low 2 (rd d1 (1 + d2)) := rd_low (by omega) bd1 bd2
    have vb : 0 ≤ val (rd d1 (1 + d2)) := rd_nn a0 (by omega)
    generalize rd d1 (1 + d2) = by_ at *
    have M3 := (m1.trans m2).same s3
    have hl3 := ((hl.mov m1 hp nl).mov m2 m1.pot nl).same s3
    obtain ⟨rs, el, pr⟩ := id hl3.ex
    have lrs := Paired.len pr
    obtain ⟨ZA, z, ez, nzA⟩ := split_last (l := zs) (by omega)
    have pr' := pr
    rw [ez] at pr'
    obtain ⟨RA, r, er, prA, wz⟩ := paired_split1 pr'
    obtain ⟨qx, qy, erow, fx, fy⟩ := id wz
    have pz := lp.q.ptN (Nat.le_refl 22) z (by rw [ez]; simp)
    have lrA : RA.length = zs.length - 1 := (Paired.len prA).trans nzA
    have al : atI (rs.map V.ref) (-1) = some (.ref r) := by rw [atI_last (j := zs.length - 1) (by rw [List.length_map]; omega), List.getElem?_map, er, ← lrA]; simp
    refine ⟨_, rfl, _, rfl, _, _, _, _, rfl, rfl, SqL.of el, al, _, _, _, _, rfl, rfl, SqT.of erow, at0, _, _, _, _, rfl, rfl, SqT.of fx, at0, _, _, rfl, rfl, _, rfl, ite2 (fun h => ?_) (fun h => ?_)⟩
    · have h : 0 < z.1.1 := by simpa using h
      refine ⟨_, rfl, _, rfl, _, rfl, l, _, rfl, SqL.of el, fun l1 hl1 => ?_⟩
      generalize e_H4 : upd _ l1 _ = H4
      obtain ⟨s4, e4⟩ := al3 e_H4 hl1
      clear e_H4
      (try dsimp only at e4)
      rw [er, List.map_append, show ([r].map V.ref : List V) = [.ref r] from rfl, cut_but] at e4
      refine ⟨_, rfl, _, rfl, _, _, _, _, rfl, rfl, SqL.of (s4 _ _ el), al, _, _, _, _, rfl, rfl, SqT.of (s4 _ _ erow), at0, ?_⟩
      refine ⟨_, rfl, _, rfl, _, _, _, _, rfl, rfl, SqL.of (s4 _ _ el), al, _, _, _, _, rfl, rfl, SqT.of (s4 _ _ erow), at1, _, rfl, qy, qb, z.2, by_, 22, rfl, fy.same s4, FrQ.same fb s4, pz.y, lb.mono (by decide), by decide, fun H5 q5 s5 f5 => ⟨sz, fun t ht => ?_⟩⟩
      generalize e_H6 : upd _ t _ = H6
      obtain ⟨s6, e6⟩ := al3 e_H6 ht
      clear e_H6
      (try dsimp only at e6)
      refine ⟨sz, fun l2' hl2' => ?_⟩
      generalize e_H7 : upd _ l2' _ = H7
      obtain ⟨s7, e7⟩ := al3 e_H7 hl2'
      clear e_H7
      (try dsimp only at e7)
      have S7 := ((s4.trans s5).trans s6).trans s7
      refine ⟨l1, l2', _, _, rfl, rfl, s7 _ _ (s6 _ _ (s5 _ _ e4)), e7, szle (by rw [List.length_map]; show RA.length + 1 ≤ _; omega), fun l6 hl6 => ?_⟩
      have M7 := M3.same S7
      have f6 := M7.free hp hl6
      generalize e_H8 : upd _ l6 _ = H8
      obtain ⟨s8, e8⟩ := al3 e_H8 hl6
      clear e_H8
      (try dsimp only at e8)
      have S8 := S7.trans s8
      have T8 := (s6.trans s7).trans s8
      have e6' := s8 _ _ (s7 _ _ e6)
      refine k _ l6 (ZA ++ [(z.1, plusF z.2 by_)]) (M7.same s8) f6 ⟨RA ++ [t], by rw [e8, List.map_append]; rfl, paired_append (Paired.imp prA fun _ _ h => SpR.same h S8) (.cons ⟨qx, q5, e6', fx.same S8, FrQ.same f5 T8⟩ .nil)⟩ ⟨other1 (ez ▸ lp.q) (by decide) h (add_low pz.y (lb.mono (show 2 ≤ 22 by decide)) (by decide)) ?_, ?_, ?_⟩
      · rw [show val (plusF z.2 by_) = val z.2 + val by_ from val_add pz.y.pos lb.pos]
        grind
      · rw [List.length_append]
        show 2 ≤ ZA.length + 1
        omega
      · rw [List.length_append]
        show ZA.length + 1 ≤ 20
        omega
    · have h : ¬ 0 < z.1.1 := by simpa using h
      obtain ⟨y, ZB, ez2⟩ : ∃ y ZB, zs = y :: ZB := by
        cases zs with
        | nil => exact absurd l2 (by simp)
        | cons y ZB => exact ⟨y, ZB, rfl⟩
      have hy0 : zs[0]? = some y := by rw [ez2]; rfl
      have hzl : zs[zs.length - 1]? = some z := by rw [← nzA, ez]; simp
      have py := lp.q.ptN (Nat.le_refl 22) y (List.mem_of_getElem? hy0)
      have hlt := (lp.q.up 0 (.inl rfl)).lt (show 0 < zs.length - 1 by omega) hy0 hzl
      have hy : y.1.1 < 0 := by
        have h1 : ¬ 0 < val z.1 := fun q => h ((val_pos pz.x.pos).mpr q)
        have h2 : val y.1 < val z.1 := hlt
        exact (val_negl py.x.pos).mpr (by grind)
      have pr2 := pr
      rw [ez2] at pr2
      obtain ⟨ry, RB, er2, wy, prB⟩ : ∃ ry RB, rs = ry :: RB ∧ SpR H3 ry y ∧ Paired (SpR H3) RB ZB := by
        cases pr2 with
        | cons h1 h2 => exact ⟨_, _, rfl, h1, h2⟩
      obtain ⟨qx0, qy0, erow0, fx0, fy0⟩ := id wy
      have al0 : atI (rs.map V.ref) 0 = some (.ref ry) := at_ref (i := 0) (by rw [er2]; rfl)
      refine ⟨_, rfl, _, _, _, _, rfl, rfl, SqL.of el, al0, _, _, _, _, rfl, rfl, SqT.of erow0, at0, _, rfl, qx0, qb, y.1, by_, 22, rfl, fx0, fb, py.x, lb.mono (by decide), by decide, fun H5 q5 s5 f5 => ?_⟩
      refine ⟨_, rfl, _, _, _, _, rfl, rfl, SqL.of (s5 _ _ el), al0, _, _, _, _, rfl, rfl, SqT.of (s5 _ _ erow0), at1, sz, fun t ht => ?_⟩
      generalize e_H6 : upd _ t _ = H6
      obtain ⟨s6, e6⟩ := al3 e_H6 ht
      clear e_H6
      (try dsimp only at e6)
      refine ⟨sz, fun l2' hl2' => ?_⟩
      generalize e_H7 : upd _ l2' _ = H7
      obtain ⟨s7, e7⟩ := al3 e_H7 hl2'
      clear e_H7
      (try dsimp only at e7)
      have S7 := (s5.trans s6).trans s7
      refine ⟨_, rfl, _, rfl, l, _, rfl, SqL.of (S7 _ _ el), fun l3 hl3 => ?_⟩
      generalize e_H8 : upd _ l3 _ = H8
      obtain ⟨s8, e8⟩ := al3 e_H8 hl3
      clear e_H8
      (try dsimp only at e8)
      rw [show cutV (rs.map V.ref) (some 1) none = RB.map V.ref from (cut_from (k := 1) (by rw [List.length_map]; omega)).trans (by rw [er2]; rfl)] at e8
      have lB : RB.length + 1 = rs.length := by rw [er2]; rfl
      refine ⟨l2', l3, _, _, rfl, rfl, s8 _ _ e7, e8, szle (by rw [List.length_map]; show 1 + RB.length ≤ _; omega), fun l6 hl6 => ?_⟩
      have S8 := S7.trans s8
      have M8 := M3.same S8
      have f6 := M8.free hp hl6
      generalize e_H9 : upd _ l6 _ = H9
      obtain ⟨s9, e9⟩ := al3 e_H9 hl6
      clear e_H9
      (try dsimp only at e9)
      have S9 := S8.trans s9
      have T9 := ((s6.trans s7).trans s8).trans s9
      have e6' := s9 _ _ (s8 _ _ (s7 _ _ e6))
      have lZ : ZB.length + 1 = zs.length := by rw [ez2]; rfl
      refine k _ l6 ((minusF y.1 by_, y.2) :: ZB) (M8.same s9) f6 ⟨t :: RB, by rw [e9]; rfl, .cons ⟨q5, qy0, e6', FrQ.same f5 T9, fy0.same S9⟩ (Paired.imp prB fun _ _ h => SpR.same h S9)⟩ ⟨other2 (ez2 ▸ lp.q) (by decide) hy (minus_low py.x (lb.mono (show 2 ≤ 22 by decide))) ?_, ?_, ?_⟩
      · rw [show val (minusF y.1 by_) = val y.1 - val by_ from val_sub py.x.pos lb.pos]
        grind
      · rw [List.length_cons]
        omega
      · rw [List.length_cons]
        omega
end
end K16

set_option Elab.async false
set_option linter.all false
set_option maxRecDepth 100000
set_option maxHeartbeats 4000000
set_option exponentiation.threshold 10000
namespace K16
open PySem L2 Lb
open C8 (pss_cut)
theorem gd_of {n : Nat} {zs : List Pt} (lp : LP n zs) (hn : n ≤ 700) : Gd n zs := ⟨lp.q.ptN (Nat.le_refl n), hn, lp.q.up 0 (.inl rfl), lp.q.up 1 (.inr rfl), lp.l2, Nat.le_trans lp.l20 (by decide)⟩
theorem cor_len {zs : List Pt} : (corners zs).length ≤ zs.length := by
  have := cornersUpto_len zs (zs.length - 2)
  unfold corners
  omega
theorem eqv_self_q2 (xs : List Q2) : PyData.eqv (.list (xs.map q2D)) (.list (xs.map q2D)) = true := by
  rw [eqv_list eqv_q2]
  exact decide_eq_true rfl
theorem eqv_self_pt (xs : List Pt) : PyData.eqv (.list (xs.map ptD)) (.list (xs.map ptD)) = true := by
  rw [eqv_list eqv_pt]
  exact decide_eq_true rfl
theorem shq (xs : List Q2) : SeqAt.shaped (.list (xs.map q2D)) = true := shaped_of (lay_list lay_q2 xs) (Nat.le_trans (dep_list (k := 1) (fun x => Nat.le_of_eq (dep_q2 x)) xs) (by decide))
theorem shp (xs : List Pt) : SeqAt.shaped (.list (xs.map ptD)) = true := shaped_of (lay_list lay_pt xs) (Nat.le_trans (dep_list (k := 2) (fun x => Nat.le_of_eq (dep_pt x)) xs) (by decide))
theorem dpLq {K : PySem.W.Frag} {H : Hp} {l : Addr} {rs : List Addr} {xs : List Q2} (e : H l = some (.lst (rs.map V.ref))) (p : Paired (FrQ H) rs xs) : Dp K H (.ref l) (.list (xs.map q2D)) :=
  .lst (SqL.of e) (dpAll (R := FrQ) (fun _ _ => dpQ) p)
theorem rb (b : Bool) : (PyData.bool b).showable = true ∧ (PyData.bool b).shown.length ≤ sizeLine ∧ (PyData.bool b).depth ≤ 60 := by
  cases b <;> decide +kernel
def sp_is (A C : Addr) : Sp := fun vs H Q _ => ∃ (c l : Addr) (zs : List Pt) (n : Nat), vs = [.ref c, .ref l] ∧ Cu A C H c zs ∧ Spots H l zs ∧ LP n zs ∧ n ≤ 700 ∧ ∀ H', Same H H' → Q (.bl true) H'
section
variable {P : Program} {w : World} {K : PySem.W.Frag} {mg : Str → Option Value} {base : Heap} {a : Ad}
theorem ok_is (T : Txt K mg a) : FnG P w K mg base CX0 12 a.f_is a.d_is ["_law_made", "_law_points_here"] (sp_is a.c_Amount a.c_Curve) := by
  refine okG T.F_is sc_is (fun vs H Q E h => ?_) (fun cdv A outer s H vs Q E gu hr h => ?_)
  · obtain ⟨c, l, zs, n, rfl, _⟩ := h
    rfl
  · obtain ⟨c, l, zs, n, rfl, hc, hl, lp, hn, k⟩ := h
    refine ⟨_, (pss_cons (ps_par (i := 2) (j := 3) rfl sc_is.nd rfl rfl (by decide) rfl rfl (pa_cons (pe_call (ok_corners T) (hr.mono (by decide)) (by rfl) T.m_corners T.F_corners.kp (b_corners T) .nil pass0 (pa_cons (pv 1) pa_nil)) (pa_cons (pe_call (ok_slope T) (hr.mono (by decide)) (by rfl) T.m_slope T.F_slope.kp (b_slope T) .nil pass0 (pa_cons (pe_ix (ix_listK (K := K) rfl) (pv 1) pe_int (fun _ _ => rfl)) (pa_cons (pe_ix (ix_listK (K := K) rfl) (pv 1) pe_int (fun _ _ => rfl)) pa_nil))) pa_nil)) (by rfl))
 (pss_cons (ps_par (i := 4) (j := 5) rfl sc_is.nd rfl rfl (by decide) rfl rfl (pa_cons (pe_meth0 (pv 0) T.cl2 T.mCor (ok_Curvecorners T) (hr.mono (by decide)) (b_Curvecorners T) .nil pass0) (pa_cons (pe_meth0 (pv 0) T.cl2 T.mPts (ok_Curvepoints T) (hr.mono (by decide)) (b_Curvepoints T) .nil pass0) pa_nil)) (by rfl))
 (pss_cons (ps_if (pt_cmpR (op_neD hr.units) (pe_lc (own := [("_law_one", 6)]) (by rfl) sc_is.nd (pi_listK (K := K) rfl (pv 4)) (blkOk_by (own := [("_law_one", 6)]) (N := ["_law_made", "_law_points_here", "_law_bends", "_law_slope_here", "_law_told", "_law_listed", "_law_one", "_law_bend", "_law_part", "_law_pair", "_law_due", "_law_rate"]) (sc := defScope s_is) (by decide +kernel)) (fun _ _ _ _ _ => (pg_name (i := 6) sc_is.nd rfl (by first | exact Or.inl rfl | exact Or.inr rfl))) (fun _ _ _ _ _ => pts_nil) (fun _ _ _ _ _ => (pe_call (ok_read T) (hr.mono (by decide)) (by rfl) T.m_read T.F_read.kp (b_read T) .nil pass0 (pa_cons (pv 6) pa_nil)))) (pe_lc (own := [("_law_bend", 7)]) (by rfl) sc_is.nd (pi_listK (K := K) rfl (pv 2)) (blkOk_by (own := [("_law_bend", 7)]) (N := ["_law_made", "_law_points_here", "_law_bends", "_law_slope_here", "_law_told", "_law_listed", "_law_one", "_law_bend", "_law_part", "_law_pair", "_law_due", "_law_rate"]) (sc := defScope s_is) (by decide +kernel)) (fun _ _ _ _ _ => (pg_name (i := 7) sc_is.nd rfl (by first | exact Or.inl rfl | exact Or.inr rfl))) (fun _ _ _ _ _ => pts_nil) (fun _ _ _ _ _ => (pe_ix (ix_tupK (K := K) rfl) (pv 7) pe_int (fun _ _ => rfl)))) (nomark _)) (pss_one (ps_ret pe_bl)) pss_nil)
 (pss_cons (ps_if (pt_cmpR (op_neD hr.units) (pe_lc (own := [("_law_pair", 9)]) (by rfl) sc_is.nd (pi_listK (K := K) rfl (pv 5)) (blkOk_by (own := [("_law_pair", 9)]) (N := ["_law_made", "_law_points_here", "_law_bends", "_law_slope_here", "_law_told", "_law_listed", "_law_one", "_law_bend", "_law_part", "_law_pair", "_law_due", "_law_rate"]) (sc := defScope s_is) (by decide +kernel)) (fun _ _ _ _ _ => (pg_name (i := 9) sc_is.nd rfl (by first | exact Or.inl rfl | exact Or.inr rfl))) (fun _ _ _ _ _ => pts_nil) (fun _ _ _ _ _ => (pe_callTy (call_tuple_ofK (K := K) rfl) (by rfl) T.b_tuple (by decide +kernel) (pa_cons (pe_lc (own := [("_law_part", 8)]) (by rfl) sc_is.nd (pi_tupK (K := K) rfl (pv 9)) (blkOk_any (own := [("_law_part", 8)]) (N := ["_law_made", "_law_points_here", "_law_bends", "_law_slope_here", "_law_told", "_law_listed", "_law_one", "_law_bend", "_law_part", "_law_pair", "_law_due", "_law_rate"]) (by decide +kernel)) (fun _ _ _ _ _ => (pg_name (i := 8) sc_is.nd rfl (by first | exact Or.inl rfl | exact Or.inr rfl))) (fun _ _ _ _ _ => pts_nil) (fun _ _ _ _ _ => (pe_call (ok_read T) (hr.mono (by decide)) (by rfl) T.m_read T.F_read.kp (b_read T) .nil pass0 (pa_cons (pv 8) pa_nil)))) pa_nil)))) (pv 1) (nomark _)) (pss_one (ps_ret pe_bl)) pss_nil)
 (pss_cons (ps_if (PW.pt (pw_or (pt_not (pt_val (pe_callB (call_isiK' (K := K) rfl) (by rfl) T.b_isinstance (by decide +kernel) (pa_cons (pv 4) (pa_cons (pe_bltn (v := .ty "list") (by rfl) T.b_list (by decide +kernel) rfl) pa_nil))))) (pw_or1 (pt_not (pt_val (pe_callB (cr_allK (K := K) rfl rfl) (by rfl) T.b_all (by decide +kernel) (pa_cons (pe_lc (own := [("_law_pair", 9)]) (by rfl) sc_is.nd (pi_listK (K := K) rfl (pv 5)) (blkOk_by (own := [("_law_pair", 9)]) (N := ["_law_made", "_law_points_here", "_law_bends", "_law_slope_here", "_law_told", "_law_listed", "_law_one", "_law_bend", "_law_part", "_law_pair", "_law_due", "_law_rate"]) (sc := defScope s_is) (by decide +kernel)) (fun _ _ _ _ _ => (pg_name (i := 9) sc_is.nd rfl (by first | exact Or.inl rfl | exact Or.inr rfl))) (fun _ _ _ _ _ => pts_nil) (fun _ _ _ _ _ => (pe_callB (call_isiK' (K := K) rfl) (by rfl) T.b_isinstance (by decide +kernel) (pa_cons (pv 9) (pa_cons (pe_bltn (v := .ty "tuple") (by rfl) T.b_tuple (by decide +kernel) rfl) pa_nil))))) pa_nil))))))) (pss_one (ps_ret pe_bl)) pss_nil)
 (pss_cut (ps_set (i := 10) sc_is.nd rfl (by first | exact Or.inl rfl | exact Or.inr rfl) (pe_ifExp (pt_cmpR (op_neD hr.units) (pv 2) (pe_lst pa_nil) (nomark _)) pe_non (pe_call (ok_over T) (hr.mono (by decide)) (by rfl) T.m_over T.F_over.kp (b_over T) .nil pass0 (pa_cons (pe_tup (pa_cons pe_int (pa_cons pe_int pa_nil))) (pa_cons (pv 3) pa_nil)))))
 (pss_cut (ps_set (i := 11) sc_is.nd rfl (by first | exact Or.inl rfl | exact Or.inr rfl) (pe_prop (pv 0) T.cl2 T.p_conductance (ok_Curveconductance T) (hr.mono (by decide)) (b_Curveconductance T) .nil pass0 rfl))
 (pss_cons (ps_expr (pe_bm PySem.F.plainAttrs_list PySem.F.slot_list_append PySem.F.type_list_append mt_append (pv 4) (pa_cons pe_non pa_nil)))
 (pss_cons (ps_expr (pe_bm0 PySem.F.plainAttrs_list PySem.F.slot_list_clear PySem.F.type_list_clear mt_clear (pv 5)))
 (pss_cons (ps_if (PW.pt (pw_or (pt_cmpR op_ne (pe_callB (call_repr (K := K) rfl gu hr.units) (by rfl) T.b_repr (by decide +kernel) (pa_cons (pe_prop (pv 0) T.cl2 T.p_is_straight (ok_Curveis_straight T) (hr.mono (by decide)) (b_Curveis_straight T) .nil pass0 rfl) pa_nil)) (pe_callB (call_repr (K := K) rfl gu hr.units) (by rfl) T.b_repr (by decide +kernel) (pa_cons (pe_cmpR (op_eqD hr.units) (pv 2) (pe_lst pa_nil) (nomark _)) pa_nil)) (nomark _)) (pw_or1 (pt_cmpR (op_neD hr.units) (pe_cmpR op_isN (pv 11) pe_non (nomark _)) (pe_cmpR op_isN (pv 10) pe_non (nomark _)) (nomark _))))) (pss_one (ps_ret pe_bl)) pss_nil)
 (pss_one (ps_ret (pe_or (pe_cmpR op_isN (pv 11) pe_non (nomark _)) (pe_one (pe_and (pe_callB (call_isiK' (K := K) rfl) (by rfl) T.b_isinstance (by decide +kernel) (pa_cons (pv 11) (pa_cons (pe_glob (v := .ref a.c_Amount) rfl T.mA rfl) pa_nil))) (pe_one (pe_cmpR (op_eqD hr.units) (pe_call (ok_read T) (hr.mono (by decide)) (by rfl) T.m_read T.F_read.kp (b_read T) .nil pass0 (pa_cons (pv 11) pa_nil)) (pv 10) (nomark _)))))))))))))))))), ?_⟩
    have g := gd_of lp hn
    have l2 := lp.l2
    have l20 := lp.l20
    have lcor := cor_len (zs := zs)
    obtain ⟨dx, l0, ec, _⟩ := hc.ex
    obtain ⟨rs, el, pr⟩ := id hl.ex
    have lrs := Paired.len pr
    refine ⟨_, rfl, l, zs, n, rfl, hl, g, fun H1 b s1 hb cb => ?_⟩
    obtain ⟨z0, hz0⟩ : ∃ z, zs[0]? = some z := ⟨_, List.getElem?_eq_getElem (by omega)⟩
    obtain ⟨z1, hz1⟩ : ∃ z, zs[1]? = some z := ⟨_, List.getElem?_eq_getElem (by omega)⟩
    obtain ⟨r0, h0, w0⟩ := Paired.at_r pr hz0
    obtain ⟨r1, h1, w1⟩ := Paired.at_r pr hz1
    have p0 := g.p z0 (List.mem_of_getElem? hz0)
    have p1 := g.p z1 (List.mem_of_getElem? hz1)
    have u0 := g.up 0 z0 z1 hz0 hz1
    have u1 := g.up1 0 z0 z1 hz0 hz1
    refine ⟨_, rfl, _, _, _, _, rfl, rfl, SqL.of (s1 _ _ el), at_ref (i := 0) h0, _, rfl, _, _, _, _, rfl, rfl, SqL.of (s1 _ _ el), at_ref (i := 1) h1, r0, r1, z0, z1, n, rfl, w0.same s1, w1.same s1, p0, p1, hn, u0, fun H2 qs s2 fs => ⟨_, _, rfl, ?_⟩⟩
    have S2 := s1.trans s2
    have eslope : slope z0 z1 = slopeAt zs 0 := by unfold slopeAt; rw [getD_of hz0, getD_of hz1]
    have slow := slope_low p0 p1 u0
    have sne := slope_ne p0 p1 u0 u1
    rw [eslope] at fs slow sne
    obtain ⟨bs, eb, pb⟩ := id (cb.same s2).ex
    have lbs := Paired.len pb
    -- told, listed
    refine ⟨_, rfl, c, dx, _, rfl, S2 _ _ ec, cu_no _ (by decide +kernel), c, zs, n, rfl, hc.same S2, g, fun H3 tl ts s3 htl etl pt => ?_⟩
    refine ⟨_, rfl, c, dx, _, rfl, s3 _ _ (S2 _ _ ec), cu_no _ (by decide +kernel), c, zs, rfl, (hc.same S2).same s3, by omega, fun H4 li s4 hli cr => ⟨_, _, rfl, ?_⟩⟩
    have S24 := s3.trans s4
    have etl3 := etl
    have etl := s4 _ _ etl
    have pt := Paired.imp pt fun _ _ h => AmQ.same h s4
    obtain ⟨ls, eli, pl⟩ := cr.ex
    have lts := Paired.len pt
    have lls := Paired.len pl
    rw [List.length_map] at lts
    -- the corners, read
    refine ⟨_, rfl, tl, rfl, ⟨_, SqL.of etl⟩, fun D1 hD1 => ?_⟩
    refine lc_list (K := K) (a := tl) (xs := ts.map V.ref) (fun i H' => Same H4 H' ∧ ∃ as : List Addr, H' D1 = some (.lst (as.map V.ref)) ∧ Paired (FrQ H') as (((corners zs).map (·.1)).take i)) ⟨Lb.Same.upd hD1, [], upd_same, .nil⟩ (fun i H' _ b => SqL.of (b.1 _ _ etl)) ?_ ?_
    · rintro i v H' hi ⟨s', as, eD, pa⟩
      obtain ⟨t, rfl, ht⟩ := ref_at hi
      obtain ⟨x, hx, am⟩ := Paired.at_ pt ht
      refine ⟨rfl, _, rfl, t, x, rfl, AmQ.same am s', fun H5 q s5 f5 => ?_⟩
      have la := Paired.len pa
      rw [List.length_take, List.length_map] at la
      have N : NL H5 (upd H5 D1 (.lst (as.map V.ref ++ [V.ref q]))) := NL.upd (s5 _ _ eD)
      refine ⟨_, s5 _ _ eD, szlt (by rw [List.length_map]; omega), Lb.Same.updl (s'.trans s5) hD1, as ++ [q], by rw [upd_same, List.map_append]; rfl, ?_⟩
      rw [← take_snoc hx]
      exact paired_snoc (Paired.imp pa fun _ _ h => (FrQ.same h s5).nl N) (FrQ.nl f5 N)
    rintro H5 ⟨s5, as1, eD1, pa1⟩
    rw [show (ts.map V.ref).length = ((corners zs).map (·.1)).length by rw [List.length_map, List.length_map, lts], List.take_length] at pa1
    have S25 := S24.trans s5
    refine ⟨_, rfl, b, rfl, ⟨_, SqL.of (S25 _ _ eb)⟩, fun D2 hD2 => ?_⟩
    refine lc_list (K := K) (a := b) (xs := bs.map V.ref) (fun i H' => Same H5 H' ∧ ∃ as : List Addr, H' D2 = some (.lst (as.map V.ref)) ∧ Paired (FrQ H') as (((corners zs).map (·.1)).take i)) ⟨Lb.Same.upd hD2, [], upd_same, .nil⟩ (fun i H' _ b => SqL.of (b.1 _ _ (S25 _ _ eb))) ?_ ?_
    · rintro i v H' hi ⟨s', as, eD, pa⟩
      obtain ⟨t, rfl, ht⟩ := ref_at hi
      obtain ⟨x, hx, px, qx, et, fx, _⟩ := Paired.at_ pb ht
      refine ⟨rfl, _, rfl, _, _, _, _, rfl, rfl, SqT.of (s' _ _ (S25 _ _ et)), at0, ?_⟩
      have la := Paired.len pa
      rw [List.length_take, List.length_map] at la
      have N : NL H' (upd H' D2 (.lst (as.map V.ref ++ [V.ref px]))) := NL.upd eD
      refine ⟨_, eD, szlt (by rw [List.length_map]; omega), Lb.Same.updl s' hD2, as ++ [px], by rw [upd_same, List.map_append]; rfl, ?_⟩
      rw [← take_snoc (show ((corners zs).map (·.1))[i]? = some x.1 by rw [List.getElem?_map, hx]; rfl)]
      exact paired_snoc (Paired.imp pa fun _ _ h => FrQ.nl h N) (FrQ.nl (FrQ.same fx (S25.trans s')) N)
    rintro H6 ⟨s6, as2, eD2, pa2⟩
    rw [show (bs.map V.ref).length = ((corners zs).map (·.1)).length by rw [List.length_map, List.length_map, lbs], List.take_length] at pa2
    have S26 := S25.trans s6
    refine ⟨_, _, dpLq (s6 _ _ eD1) (Paired.imp pa1 fun _ _ h => FrQ.same h s6), dpLq eD2 pa2, shq _, shq _, _, rfl, ?_⟩
    rw [eqv_self_q2]
    refine iteF ?_
    -- the points, read
    have S46 := s5.trans s6
    have pl6 := Paired.imp pl fun _ _ h => RowA.same h S46
    have eli6 := S46 _ _ eli
    refine ⟨_, rfl, li, rfl, ⟨_, SqL.of eli6⟩, fun D3 hD3 => ?_⟩
    refine lc_list (K := K) (a := li) (xs := ls.map V.ref) (fun i H' => Same H6 H' ∧ ∃ as : List Addr, H' D3 = some (.lst (as.map V.ref)) ∧ Paired (SpR H') as (zs.take i)) ⟨Lb.Same.upd hD3, [], upd_same, .nil⟩ (fun i H' _ b => SqL.of (b.1 _ _ eli6)) ?_ ?_
    · rintro i v H' hi ⟨s', as, eD, pa⟩
      obtain ⟨r, rfl, hr'⟩ := ref_at hi
      obtain ⟨z, hz, q1, q2, er, a1, a2⟩ := Paired.at_ pl6 hr'
      have er' := s' _ _ er
      refine ⟨rfl, _, rfl, r, rfl, ⟨_, SqT.of er'⟩, fun D4 hD4 => ?_⟩
      refine lc_tup (K := K) (a := r) (xs := [.ref q1, .ref q2]) (fun j H'' => Same H' H'' ∧ ∃ as' : List Addr, H'' D4 = some (.lst (as'.map V.ref)) ∧ Paired (FrQ H'') as' ([z.1, z.2].take j)) ⟨Lb.Same.upd hD4, [], upd_same, .nil⟩ (fun i H' _ b => SqT.of (b.1 _ _ er')) ?_ ?_
      · rintro j v H'' hj ⟨s'', as', eD', pa'⟩
        obtain ⟨q, x, rfl, am, hx, hj2⟩ : ∃ q x, v = .ref q ∧ AmQ a.c_Amount H6 q x ∧ [z.1, z.2][j]? = some x ∧ j < 2 := by
          match j, hj with
          | 0, hj => exact ⟨q1, z.1, (Option.some.inj hj).symm, a1, rfl, by decide⟩
          | 1, hj => exact ⟨q2, z.2, (Option.some.inj hj).symm, a2, rfl, by decide⟩
          | j + 2, hj => simp at hj
        refine ⟨rfl, _, rfl, q, x, rfl, (AmQ.same am s').same s'', fun Ha t sa ft => ?_⟩
        have la := Paired.len pa'
        rw [List.length_take] at la
        have N : NL Ha (upd Ha D4 (.lst (as'.map V.ref ++ [V.ref t]))) := NL.upd (sa _ _ eD')
        refine ⟨_, sa _ _ eD', szlt (by rw [List.length_map]; omega), Lb.Same.updl (s''.trans sa) hD4, as' ++ [t], by rw [upd_same, List.map_append]; rfl, ?_⟩
        rw [← take_snoc hx]
        exact paired_snoc (Paired.imp pa' fun _ _ h => (FrQ.same h sa).nl N) (FrQ.nl ft N)
      rintro Hb ⟨sb, as', eD4, pa'⟩
      obtain ⟨t1, t2, rfl, f1, f2⟩ := pair2 pa'
      refine ⟨D4, _, rfl, .inl ⟨SqL.of eD4, fun t ht => ?_⟩⟩
      generalize e_Hc : upd _ t _ = Hc
      obtain ⟨sc, ec_⟩ := al3 e_Hc ht
      clear e_Hc
      (try dsimp only at ec_)
      have S := sb.trans sc
      have la := Paired.len pa
      rw [List.length_take] at la
      have N : NL Hc (upd Hc D3 (.lst (as.map V.ref ++ [V.ref t]))) := NL.upd (S _ _ eD)
      refine ⟨_, S _ _ eD, szlt (by rw [List.length_map]; omega), Lb.Same.updl (s'.trans S) hD3, as ++ [t], by rw [upd_same, List.map_append]; rfl, ?_⟩
      rw [← take_snoc hz]
      exact paired_snoc (Paired.imp pa fun _ _ h => (SpR.same h S).nl N) (SpR.nl ⟨t1, t2, ec_, FrQ.same f1 sc, FrQ.same f2 sc⟩ N)
    rintro H7 ⟨s7, as3, eD3, pa3⟩
    rw [show (ls.map V.ref).length = zs.length by rw [List.length_map, lls], List.take_length] at pa3
    have S27 := S26.trans s7
    refine ⟨_, rfl, _, _, dpS ⟨as3, eD3, pa3⟩, dpS ((hl.same S2).same S27), shp _, shp _, _, rfl, ?_⟩
    rw [eqv_self_pt]
    refine iteF ?_
    -- what kinds they are of
    have etl7 := s7 _ _ (s6 _ _ (s5 _ _ etl))
    have eli7 := s7 _ _ eli6
    refine ⟨_, rfl, _, _, _, _, true, rfl, .ty _, .base (.lst etl7), kit_ty (by decide +kernel), true, rfl, iteF ?_⟩
    refine ⟨_, rfl, li, rfl, ⟨_, SqL.of eli7⟩, fun D5 hD5 => ?_⟩
    refine lc_list (K := K) (a := li) (xs := ls.map V.ref) (fun i H' => Same H7 H' ∧ H' D5 = some (.lst ((List.replicate i true).map V.bl))) ⟨Lb.Same.upd hD5, upd_same⟩ (fun i H' _ b => SqL.of (b.1 _ _ eli7)) ?_ ?_
    · rintro i v H' hi ⟨s', eD⟩
      obtain ⟨r, rfl, hr'⟩ := ref_at hi
      obtain ⟨z, hz, q1, q2, er, _⟩ := Paired.at_ pl6 hr'
      have hi' := (List.getElem?_eq_some_iff.mp hr').1
      refine ⟨rfl, _, rfl, _, _, _, _, true, rfl, .ty _, .base (.tup (s' _ _ (s7 _ _ er))), kit_ty (by decide +kernel), _, eD, ?_, Lb.Same.updl s' hD5, ?_⟩
      · rw [List.length_map, List.length_replicate]
        exact szlt (by omega)
      · rw [upd_same, List.replicate_succ', List.map_append]
        rfl
    rintro H8 ⟨s8, eD5⟩
    refine ⟨D5, _, rfl, SqL.of eD5, ?_⟩
    rw [all_replicate_true]
    refine ⟨true, rfl, iteF ?_⟩
    -- due
    have S28 := S27.trans s8
    refine ⟨fun σ H' => ∃ (due : V) (u6 u7 u8 u9 u11 : Option V), σ = [some (.ref c), some (.ref l), some (.ref b), some (.ref qs), some (.ref tl), some (.ref li), u6, u7, u8, u9, some due, u11] ∧ Same H8 H' ∧ ((corners zs = [] ∧ ∃ qd, due = .ref qd ∧ FrQ H' qd (overF (1, 1) (slopeAt zs 0))) ∨ (corners zs ≠ [] ∧ due = .non)), ?_, ?_⟩
    · refine ⟨_, rfl, sz, fun e he => ?_⟩
      have se := Lb.Same.upd (o := .lst []) he
      have dE : Dp K (upd H8 e (.lst [])) (.ref e) (.list (([] : List Pt).map ptD)) := .lst (SqL.of upd_same) .nil
      refine ⟨_, _, dpS (((cb.same s2).same S28).same se), dE, shp _, shp _, _, rfl, ?_⟩
      rw [eqv_list eqv_pt]
      by_cases hcor : corners zs = []
      · rw [decide_eq_true hcor]
        refine iteF ?_
        refine ⟨sz, fun tt htt => ?_⟩
        have st := Lb.Same.upd (o := .tup [V.int 1, V.int 1]) htt
        refine ⟨_, rfl, tt, qs, (1, 1), slopeAt zs 0, 4 * n + 2, rfl, upd_same, ((FrQ.same fs S28).same se).same st, ?_, slow, by omega, sne, fun H9 qd s9 fd => ?_⟩
        · exact ⟨show (1 : Nat) < 2 ^ (4 * n + 2) from Nat.one_lt_two_pow (by omega), show (1 : Nat) < 2 ^ (4 * n + 2) from Nat.one_lt_two_pow (by omega), by decide, by decide⟩
        exact ⟨_, _, _, _, _, _, rfl, (se.trans st).trans s9, .inl ⟨hcor, qd, rfl, fd⟩⟩
      · rw [decide_eq_false hcor]
        refine iteT ?_
        exact ⟨_, _, _, _, _, _, rfl, se, .inr ⟨hcor, rfl⟩⟩
    rintro σ H9 ⟨due, u6, u7, u8, u9, u11, rfl, s9, hdue⟩
    -- rate
    have S29 := S28.trans s9
    refine ⟨fun σ H' => ∃ (rate : V) (u6 u7 u8 u9 : Option V), σ = [some (.ref c), some (.ref l), some (.ref b), some (.ref qs), some (.ref tl), some (.ref li), u6, u7, u8, u9, some due, some rate] ∧ Same H9 H' ∧ ((corners zs = [] ∧ ∃ qr, rate = .ref qr ∧ AmQ a.c_Amount H' qr (overF (1, 1) (slopeAt zs 0))) ∨ (corners zs ≠ [] ∧ rate = .non)), ?_, ?_⟩
    · exact ⟨_, rfl, c, dx, _, rfl, S29 _ _ (S2 _ _ ec), c, zs, n, rfl, (hc.same S2).same S29, g, fun hne H10 s10 => ⟨_, _, _, _, _, rfl, s10, .inr ⟨hne, rfl⟩⟩, fun heq H10 qr s10 ar => ⟨_, _, _, _, _, rfl, s10, .inl ⟨heq, qr, rfl, ar⟩⟩⟩
    rintro σ H10 ⟨rate, u6, u7, u8, u9, rfl, s10, hrate⟩
    have S810 := s9.trans s10
    have S210 := S28.trans S810
    have etlA := S810 _ _ (s8 _ _ etl7)
    have eliA := S810 _ _ (s8 _ _ eli7)
    have ntl : li ≠ tl := (ne_of_none etl3 hli).symm
    refine ⟨_, rfl, .inl ⟨rfl, _, SqL.of etlA⟩, tl, _, _, rfl, rfl, etlA, szlt (by rw [List.length_map]; omega), ?_⟩
    have SA : Same H2 (upd H10 tl (.lst (ts.map V.ref ++ [V.non]))) := Lb.Same.updl S210 htl
    have NA : NL H10 (upd H10 tl (.lst (ts.map V.ref ++ [V.non]))) := NL.upd etlA
    have eliB : upd H10 tl (.lst (ts.map V.ref ++ [V.non])) li = some (.lst (ls.map V.ref)) := by rw [upd_ne ntl]; exact eliA
    generalize upd H10 tl (.lst (ts.map V.ref ++ [V.non])) = HA at *
    refine ⟨_, rfl, .inl ⟨rfl, _, SqL.of eliB⟩, li, _, rfl, rfl, eliB, ?_⟩
    have SB : Same H2 (upd HA li (.lst [])) := Lb.Same.updl SA (Lb.Same.free s3 hli)
    have NB : NL H10 (upd HA li (.lst [])) := NA.trans (NL.upd eliB)
    generalize upd HA li (.lst []) = HB at *
    refine ⟨_, rfl, c, dx, _, rfl, SB _ _ (S2 _ _ ec), c, zs, n, rfl, (hc.same S2).same SB, g, fun HC sC => ?_⟩
    obtain ⟨r1', r2', r3'⟩ := rb (decide (corners zs = []))
    refine ⟨_, _, rfl, .bl _, r1', r2', r3', _, rfl, sz, fun e he => ?_⟩
    have se := Lb.Same.upd (o := .lst []) he
    have dE : Dp K (upd HC e (.lst [])) (.ref e) (.list (([] : List Pt).map ptD)) := .lst (SqL.of upd_same) .nil
    refine ⟨_, _, dpS ((((cb.same s2).same SB).same sC).same se), dE, shp _, shp _, ?_⟩
    rw [eqv_list eqv_pt]
    refine ⟨_, _, rfl, .bl _, r1', r2', r3', rfl, _, rfl, ?_⟩
    rw [decide_eq_true rfl]
    refine iteF ?_
    have SE := ((S2.trans SB).trans sC).trans se
    have NE := (NB.trans (NL.of sC)).trans (NL.of se)
    rcases hrate with ⟨hcor, qr, rfl, ar⟩ | ⟨hcor, rfl⟩
    · obtain ⟨qd, rfl, fd⟩ : ∃ qd, due = .ref qd ∧ FrQ H9 qd (overF (1, 1) (slopeAt zs 0)) := by
        rcases hdue with ⟨_, qd, e, f⟩ | ⟨hne, _⟩
        · exact ⟨qd, e, f⟩
        · exact absurd hcor hne
      have arE := AmAt.nl ar NE
      obtain ⟨dr, er⟩ := id arE
      refine ⟨_, rfl, rfl, _, rfl, rfl, _, _, .bl _, .bl _, rfl, rfl, _, rfl, ?_⟩
      refine iteF ?_
      refine ⟨_, rfl, rfl, false, rfl, iteF ?_⟩
      refine ⟨_, rfl, _, _, _, _, true, rfl, .own _, .base (T.I.ty T.cl er), Inst.kSelf, true, rfl, iteT ?_⟩
      refine ⟨_, rfl, qr, _, rfl, arE, fun HD q sD fq => ?_⟩
      refine ⟨_, rfl, _, _, dpQ fq, dpQ (((FrQ.same fd s10).nl NE).same sD), shaped_of (lay_q2 _) (by rw [dep_q2]; decide), shaped_of (lay_q2 _) (by rw [dep_q2]; decide), ?_⟩
      rw [eqv_q2, decide_eq_true rfl]
      exact k _ (SE.trans sD)
    · obtain rfl : due = .non := by
        rcases hdue with ⟨h, _⟩ | ⟨_, e⟩
        · exact absurd h hcor
        · exact e
      refine ⟨_, rfl, rfl, _, rfl, rfl, _, _, .bl _, .bl _, rfl, rfl, _, rfl, ?_⟩
      refine iteF ?_
      refine ⟨_, rfl, rfl, true, rfl, iteT ?_⟩
      exact k _ SE
end
end K16

set_option Elab.async false
set_option linter.all false
set_option maxRecDepth 100000
set_option maxHeartbeats 4000000
set_option exponentiation.threshold 10000
namespace K16
open PySem L2 Lb
open C8 (pss_cut)
def sp_pair_right (A C : Addr) : Sp := fun vs H Q _ => ∃ (c1 c2 : Addr) (zs1 zs2 : List Pt) (n1 n2 : Nat) (k : Bool), vs = [.ref c1, .ref c2, .bl k] ∧ Cu A C H c1 zs1 ∧ Cu A C H c2 zs2 ∧ Gd n1 zs1 ∧ Gd n2 zs2 ∧ k = decide (formOf zs1 = formOf zs2) ∧
  ∀ H', Same H H' → Q (.bl true) H'
section
variable {P : Program} {w : World} {K : PySem.W.Frag} {mg : Str → Option Value} {base : Heap} {a : Ad}
theorem ok_pair_right (T : Txt K mg a) : FnG P w K mg base CX0 12 a.f_pair_right a.d_pair_right ["_law_one", "_law_other_here", "_law_is_same"] (sp_pair_right a.c_Amount a.c_Curve) := by
  refine okG T.F_pair_right sc_pair_right (fun vs H Q E h => ?_) (fun cdv A outer s H vs Q E gu hr h => ?_)
  · obtain ⟨c1, c2, zs1, zs2, n1, n2, k, rfl, _⟩ := h
    rfl
  · obtain ⟨c1, c2, zs1, zs2, n1, n2, k, rfl, hc1, hc2, g1, g2, hk, q⟩ := h
    refine ⟨_, (pss_cons (ps_set (i := 3) sc_pair_right.nd rfl (by first | exact Or.inl rfl | exact Or.inr rfl) (pe_lst (pa_cons (pe_cmpR (op_ownCmp (n := 10) (C := a.c_Curve) (K := K) rfl (fun _ _ => rfl) T.cEqC.at_ T.cEqC.fn ((ok_Curve_eq_ T).raw (b_Curve_eq_ T) .nil) (hr.mono (by decide)) pass0) (pv 0) (pv 1) (nomark _)) (pa_cons (pe_cmpR (op_ownCmp (n := 10) (C := a.c_Curve) (K := K) rfl (fun _ _ => rfl) T.cEqC.at_ T.cEqC.fn ((ok_Curve_eq_ T).raw (b_Curve_eq_ T) .nil) (hr.mono (by decide)) pass0) (pv 1) (pv 0) (nomark _)) (pa_cons (pe_cmpR (op_ownNe (n := 10) (C := a.c_Curve) (K := K) rfl T.cNeC T.J.cm T.cEqC.at_ T.cEqC.fn ((ok_Curve_eq_ T).raw (b_Curve_eq_ T) .nil) (hr.mono (by decide)) pass0) (pv 0) (pv 1) (nomark _)) (pa_cons (pe_cmpR (op_ownNe (n := 10) (C := a.c_Curve) (K := K) rfl T.cNeC T.J.cm T.cEqC.at_ T.cEqC.fn ((ok_Curve_eq_ T).raw (b_Curve_eq_ T) .nil) (hr.mono (by decide)) pass0) (pv 1) (pv 0) (nomark _)) pa_nil))))))
 (pss_one (ps_ret (pe_cmpR op_eq (pe_callB (call_repr (K := K) rfl gu hr.units) (by rfl) T.b_repr (by decide +kernel) (pa_cons (pv 3) pa_nil)) (pe_callB (call_repr (K := K) rfl gu hr.units) (by rfl) T.b_repr (by decide +kernel) (pa_cons (pe_lst (pa_cons (pv 2) (pa_cons (pv 2) (pa_cons (pe_not (pv 2)) (pa_cons (pe_not (pv 2)) pa_nil))))) pa_nil)) (nomark _))))), ?_⟩
    obtain ⟨dx1, l1, ec1, _⟩ := hc1.ex
    obtain ⟨dx2, l2, ec2, _⟩ := hc2.ex
    have hk' : decide (formOf zs2 = formOf zs1) = k := by rw [hk]; exact decide_eq_decide.mpr ⟨fun h => h.symm, fun h => h.symm⟩
    refine ⟨_, rfl, _, rfl, c1, dx1, _, _, rfl, ec1, T.J.ty T.cl2 ec2, Inst.nSelf, c1, .ref c2, zs1, n1, rfl, hc1, g1, .inl ⟨c2, zs2, n2, rfl, hc2, g2, fun H1 s1 => ?_⟩⟩
    rw [← hk]
    refine ⟨_, rfl, _, rfl, c2, dx2, _, _, rfl, s1 _ _ ec2, T.J.ty T.cl2 (s1 _ _ ec1), Inst.nSelf, c2, .ref c1, zs2, n2, rfl, hc2.same s1, g2, .inl ⟨c1, zs1, n1, rfl, hc1.same s1, g1, fun H2 s2 => ?_⟩⟩
    rw [hk']
    have S2 := s1.trans s2
    refine ⟨_, rfl, _, rfl, c1, dx1, _, _, rfl, S2 _ _ ec1, T.J.ty T.cl2 (S2 _ _ ec2), Inst.nSelf, c1, .ref c2, zs1, n1, rfl, hc1.same S2, g1, .inl ⟨c2, zs2, n2, rfl, hc2.same S2, g2, fun H3 s3 => ⟨_, rfl, ?_⟩⟩⟩
    rw [← hk]
    have S3 := S2.trans s3
    refine ⟨_, rfl, _, rfl, c2, dx2, _, _, rfl, S3 _ _ ec2, T.J.ty T.cl2 (S3 _ _ ec1), Inst.nSelf, c2, .ref c1, zs2, n2, rfl, hc2.same S3, g2, .inl ⟨c1, zs1, n1, rfl, hc1.same S3, g1, fun H4 s4 => ⟨_, rfl, sz, fun t ht => ?_⟩⟩⟩
    rw [hk']
    have S4 := S3.trans s4
    generalize e_H5 : upd _ t _ = H5
    obtain ⟨s5, e5⟩ := al3 e_H5 ht
    clear e_H5
    (try dsimp only at e5)
    obtain ⟨o1, o2, o3⟩ := bools_ok [k, k, !k, !k] (show 4 ≤ 1000 by decide)
    have dpl : ∀ {b : Addr} {H' : Hp}, H' b = some (.lst [V.bl k, V.bl k, V.bl (!k), V.bl (!k)]) → Dp K H' (.ref b) (.list ([k, k, !k, !k].map PyData.bool)) := fun e => .lst (SqL.of e) (.cons (.bl _) (.cons (.bl _) (.cons (.bl _) (.cons (.bl _) .nil))))
    refine ⟨_, rfl, _, _, rfl, dpl e5, o1, o2, o3, ?_⟩
    refine ⟨_, rfl, _, rfl, _, rfl, _, rfl, _, rfl, _, rfl, sz, fun t2 ht2 => ?_⟩
    generalize e_H6 : upd _ t2 _ = H6
    obtain ⟨s6, e6⟩ := al3 e_H6 ht2
    clear e_H6
    (try dsimp only at e6)
    refine ⟨_, _, rfl, dpl e6, o1, o2, o3, rfl, ?_⟩
    rw [decide_eq_true rfl]
    exact q _ ((S4.trans s5).trans s6)
end
end K16

set_option Elab.async false
set_option linter.all false
set_option maxRecDepth 100000
set_option maxHeartbeats 4000000
set_option exponentiation.threshold 10000
namespace K16
open PySem L2 Lb
open C8 (pss_cut)
def wb : Nat → Nat
  | 0 => 22
  | i + 1 => 3 * wb i + 2
theorem LP.mono {n m : Nat} {zs : List Pt} (h : LP n zs) (k : n ≤ m) : LP m zs := ⟨LQ.of (h.q.ptN k) (h.q.up 0 (.inl rfl)) (h.q.up 1 (.inr rfl)) h.q.org, h.l2, h.l20⟩
theorem wb_le {i : Nat} (h : i ≤ 2) : wb i ≤ 210 := by
  rcases (show i = 0 ∨ i = 1 ∨ i = 2 by omega) with rfl | rfl | rfl <;> decide
theorem wb_le3 {i : Nat} (h : i ≤ 3) : wb i ≤ 700 := by
  rcases (show i = 0 ∨ i = 1 ∨ i = 2 ∨ i = 3 by omega) with rfl | rfl | rfl | rfl <;> decide
theorem PtP.row {A : Addr} {H : Hp} {r : Addr} {z : Pt} (h : RowA A H r z) : PtP A H (.ref r) z :=
  let ⟨p, q, e, a, b⟩ := h
  ⟨r, _, _, rfl, e, .inr ⟨p, rfl, a⟩, .inr ⟨q, rfl, b⟩⟩
theorem any_replicate_false (n : Nat) : (List.replicate n false).any id = false := by simp
def sp_right : Sp := fun vs H Q _ => ∃ (p : Addr), vs = [.ref p] ∧ PotAt H p ∧ ∀ H', Mov p H H' → Q (.bl true) H'
section
variable {P : Program} {w : World} {K : PySem.W.Frag} {mg : Str → Option Value} {base : Heap} {a : Ad}
theorem ok_right (T : Txt K mg a) : FnG P w K mg base CX0 14 a.f_right a.d_right ["_law_pot_here"] sp_right := by
  refine okG T.F_right sc_right (fun vs H Q E h => ?_) (fun cdv A outer s H vs Q E gu hr h => ?_)
  · obtain ⟨p, rfl, _⟩ := h
    rfl
  · obtain ⟨p, rfl, hp, k⟩ := h
    refine ⟨_, (pss_cons (ps_set (i := 1) sc_right.nd rfl (by first | exact Or.inl rfl | exact Or.inr rfl) (pe_call (ok_points T) (hr.mono (by decide)) (by rfl) T.m_points T.F_points.kp (b_points T) .nil pass0 (pa_cons (pv 0) pa_nil)))
 (pss_cons (ps_set (i := 2) sc_right.nd rfl (by first | exact Or.inl rfl | exact Or.inr rfl) (pv 1))
 (pss_cons (ps_for PassesOwn.never rfl (pi_range1 rfl T.b_range (pa_cons (pe_op op_add pe_int (pe_call (ok_draw T) (hr.mono (by decide)) (by rfl) T.m_draw T.F_draw.kp (b_draw T) .nil pass0 (pa_cons (pv 0) (pa_cons pe_int pa_nil)))) pa_nil)) (pg_name (i := 3) sc_right.nd rfl (by first | exact Or.inl rfl | exact Or.inr rfl)) (pss_one (ps_set (i := 2) sc_right.nd rfl (by first | exact Or.inl rfl | exact Or.inr rfl) (pe_call (ok_more T) (hr.mono (by decide)) (by rfl) T.m_more T.F_more.kp (b_more T) .nil pass0 (pa_cons (pv 0) (pa_cons (pv 2) pa_nil))))))
 (pss_cons (ps_set (i := 4) sc_right.nd rfl (by first | exact Or.inl rfl | exact Or.inr rfl) (pe_call (ok_other T) (hr.mono (by decide)) (by rfl) T.m_other T.F_other.kp (b_other T) .nil pass0 (pa_cons (pv 0) (pa_cons (pv 1) pa_nil))))
 (pss_cons (ps_set (i := 5) sc_right.nd rfl (by first | exact Or.inl rfl | exact Or.inr rfl) (pe_callTy call_list_of (by rfl) T.b_list (by decide +kernel) (pa_cons (pe_call (ok_passed T) (hr.mono (by decide)) (by rfl) T.m_passed T.F_passed.kp (b_passed T) .nil pass0 (pa_cons (pv 0) (pa_cons (pv 1) pa_nil))) pa_nil)))
 (pss_cons (ps_asg (pe_tup (pa_cons (pe_make T.mkC (ok_Curve_init_ T) (hr.mono (by decide)) (by rfl) T.mC (b_Curve_init_ T) .nil pass0 (pa_cons (pv 5) pa_nil)) (pa_cons (pe_make T.mkC (ok_Curve_init_ T) (hr.mono (by decide)) (by rfl) T.mC (b_Curve_init_ T) .nil pass0 (pa_cons (pe_call (ok_passed T) (hr.mono (by decide)) (by rfl) T.m_passed T.F_passed.kp (b_passed T) .nil pass0 (pa_cons (pv 0) (pa_cons (pv 2) pa_nil))) pa_nil)) (pa_cons (pe_make T.mkC (ok_Curve_init_ T) (hr.mono (by decide)) (by rfl) T.mC (b_Curve_init_ T) .nil pass0 (pa_cons (pe_call (ok_passed T) (hr.mono (by decide)) (by rfl) T.m_passed T.F_passed.kp (b_passed T) .nil pass0 (pa_cons (pv 0) (pa_cons (pv 4) pa_nil))) pa_nil)) pa_nil)))) (pg_tupK (K := K) (n := 3) rfl rfl (pgs_cons (pg_name (i := 6) sc_right.nd rfl (by first | exact Or.inl rfl | exact Or.inr rfl)) (pgs_cons (pg_name (i := 7) sc_right.nd rfl (by first | exact Or.inl rfl | exact Or.inr rfl)) (pgs_cons (pg_name (i := 8) sc_right.nd rfl (by first | exact Or.inl rfl | exact Or.inr rfl)) pgs_nil)))))
 (pss_cons (ps_expr (pe_bm0 PySem.F.plainAttrs_list PySem.F.slot_list_clear PySem.F.type_list_clear mt_clear (pv 5)))
 (pss_cons (ps_for PassesOwn.never rfl (pi_range1 rfl T.b_range (pa_cons pe_int pa_nil)) (pg_name (i := 3) sc_right.nd rfl (by first | exact Or.inl rfl | exact Or.inr rfl)) (pss_one (ps_if (pt_not (pt_val (pe_callB (cr_allK (K := K) rfl rfl) (by rfl) T.b_all (by decide +kernel) (pa_cons (pe_lst (pa_cons (pe_callG (ok_is T) gu (hr.mono (by decide)) (by rfl) T.m_is T.F_is.kp (b_is T) .nil pass0 (pa_cons (pv 6) (pa_cons (pv 1) pa_nil))) (pa_cons (pe_callG (ok_is T) gu (hr.mono (by decide)) (by rfl) T.m_is T.F_is.kp (b_is T) .nil pass0 (pa_cons (pv 7) (pa_cons (pv 2) pa_nil))) (pa_cons (pe_callG (ok_is T) gu (hr.mono (by decide)) (by rfl) T.m_is T.F_is.kp (b_is T) .nil pass0 (pa_cons (pv 8) (pa_cons (pv 4) pa_nil))) pa_nil)))) pa_nil)))) (pss_one (ps_ret pe_bl)) pss_nil)))
 (pss_cons (ps_if (PW.pt (pw_or (pt_not (pt_val (pe_callG (ok_pair_right T) gu (hr.mono (by decide)) (by rfl) T.m_pair_right T.F_pair_right.kp (b_pair_right T) .nil pass0 (pa_cons (pv 6) (pa_cons (pv 7) (pa_cons pe_bl pa_nil)))))) (pw_or1 (pt_not (pt_val (pe_callG (ok_pair_right T) gu (hr.mono (by decide)) (by rfl) T.m_pair_right T.F_pair_right.kp (b_pair_right T) .nil pass0 (pa_cons (pv 6) (pa_cons (pv 6) (pa_cons pe_bl pa_nil))))))))) (pss_one (ps_ret pe_bl)) pss_nil)
 (pss_cons (ps_if (pt_not (pt_val (pe_callG (ok_pair_right T) gu (hr.mono (by decide)) (by rfl) T.m_pair_right T.F_pair_right.kp (b_pair_right T) .nil pass0 (pa_cons (pv 8) (pa_cons (pv 7) (pa_cons (pe_cmpR (op_eqD hr.units) (pe_call (ok_shape T) (hr.mono (by decide)) (by rfl) T.m_shape T.F_shape.kp (b_shape T) .nil pass0 (pa_cons (pv 4) pa_nil)) (pe_call (ok_shape T) (hr.mono (by decide)) (by rfl) T.m_shape T.F_shape.kp (b_shape T) .nil pass0 (pa_cons (pv 1) pa_nil)) (nomark _)) pa_nil)))))) (pss_one (ps_ret pe_bl)) pss_nil)
 (pss_cut (ps_set (i := 9) sc_right.nd rfl (by first | exact Or.inl rfl | exact Or.inr rfl) (pe_lst (pa_cons pe_non (pa_cons pe_int (pa_cons pe_int (pa_cons pe_str (pa_cons (pv 1) (pa_cons (pe_meth0 (pv 6) T.cl2 T.mPts (ok_Curvepoints T) (hr.mono (by decide)) (b_Curvepoints T) .nil pass0) (pa_cons (pe_prop (pv 6) T.cl2 T.p_conductance (ok_Curveconductance T) (hr.mono (by decide)) (b_Curveconductance T) .nil pass0 rfl) (pa_cons (pe_meth0 (pv 6) T.cl2 T.mCor (ok_Curvecorners T) (hr.mono (by decide)) (b_Curvecorners T) .nil pass0) pa_nil))))))))))
 (pss_cons (ps_set (i := 10) sc_right.nd rfl (by first | exact Or.inl rfl | exact Or.inr rfl) (pe_meth0 (pv 6) T.cl2 T.mPts (ok_Curvepoints T) (hr.mono (by decide)) (b_Curvepoints T) .nil pass0))
 (pss_cons (ps_set (i := 11) sc_right.nd rfl (by first | exact Or.inl rfl | exact Or.inr rfl) (pe_make T.mkC (ok_Curve_init_ T) (hr.mono (by decide)) (by rfl) T.mC (b_Curve_init_ T) .nil pass0 (pa_cons (pv 10) pa_nil)))
 (pss_cons (ps_expr (pe_bm PySem.F.plainAttrs_list PySem.F.slot_list_append PySem.F.type_list_append mt_append (pv 10) (pa_cons (pe_tup (pa_cons (pe_make T.mkA (ok_Amount_init_ T) (hr.mono (by decide)) (by rfl) T.mA (b1_Amount_init_ T).choose_spec.2 (b1_Amount_init_ T).choose_spec.1 pass0 (pa_cons (pe_op op_pow pe_int pe_int) pa_nil)) (pa_cons (pe_make T.mkA (ok_Amount_init_ T) (hr.mono (by decide)) (by rfl) T.mA (b1_Amount_init_ T).choose_spec.2 (b1_Amount_init_ T).choose_spec.1 pass0 (pa_cons (pe_op op_pow pe_int pe_int) pa_nil)) pa_nil))) pa_nil)))
 (pss_one (ps_ret (pe_and (pe_not (pe_callB (cr_anyK (K := K) rfl rfl) (by rfl) T.b_any (by decide +kernel) (pa_cons (pe_lc (own := [("_law_one", 12)]) (by rfl) sc_right.nd (pi_listK (K := K) rfl (pv 9)) (blkOk_by (own := [("_law_one", 12)]) (N := ["_law_pot_here", "_law_points_here", "_law_wider", "_law_turn", "_law_near", "_law_handed", "_law_made", "_law_same", "_law_other_here", "_law_odd", "_law_told", "_law_again", "_law_one"]) (sc := defScope s_right) (by decide +kernel)) (fun _ _ _ _ _ => (pg_name (i := 12) sc_right.nd rfl (by first | exact Or.inl rfl | exact Or.inr rfl))) (fun _ _ _ _ _ => pts_nil) (fun _ _ _ _ _ => (pe_cmpR (op_ownCmp (n := 10) (C := a.c_Curve) (K := K) rfl (fun _ _ => rfl) T.cEqC.at_ T.cEqC.fn ((ok_Curve_eq_ T).raw (b_Curve_eq_ T) .nil) (hr.mono (by decide)) pass0) (pv 6) (pv 12) (nomark _)))) pa_nil))) (pe_one (pe_callG (ok_is T) gu (hr.mono (by decide)) (by rfl) T.m_is T.F_is.kp (b_is T) .nil pass0 (pa_cons (pv 11) (pa_cons (pv 1) pa_nil))))))))))))))))))))), ?_⟩
    refine ⟨_, rfl, p, rfl, hp, fun H1 l zs m1 fl hl lp l9 => ?_⟩
    have nl : l ≠ p := PotAt.ne_ref hp fl
    refine ⟨_, rfl, ?_⟩
    refine ⟨_, rfl, p, _, rfl, m1.pot, by decide, by unfold Bd; decide, fun H2 d m2 d0 d1 => ⟨_, _, rfl, rfl, ?_⟩⟩
    have M2 := m1.trans m2
    have hl2 := hl.mov m2 m1.pot nl
    obtain ⟨d, rfl⟩ := Int.eq_ofNat_of_zero_le d0
    refine ⟨((d + 1 : Nat) : Int), congrArg (fun z => [V.int z]) (by omega), by omega, by omega, ?_⟩
    refine for_range (n := d + 1) (fun i σ H' => ∃ (u3 : Option V) (lw : Addr) (ws : List Pt), σ = [some (.ref p), some (.ref l), some (.ref lw), u3, none, none, none, none, none, none, none, none, none] ∧ Mov p H H' ∧ lw ≠ p ∧ Spots H' l zs ∧ Spots H' lw ws ∧ LP (wb i) ws ∧ formOf ws = formOf zs ∧ ws.length ≤ 9 + i)
      ⟨_, l, zs, rfl, M2, nl, hl2, hl2, lp, rfl, l9⟩ ?_ ?_
    · rintro i σ H3 hi ⟨u3, lw, ws, rfl, M3, nlw, hl3, hw3, lpw, fw, lw9⟩
      refine ⟨_, rfl, _, rfl, p, lw, ws, wb i, rfl, M3.pot, nlw, hw3, lpw, wb_le (by omega), by omega, fun H4 lw' ws' m4 f4 hw4 lp4 fw4 ln4 => ?_⟩
      exact ⟨_, lw', ws', rfl, M3.trans m4, PotAt.ne_ref M3.pot f4, hl3.mov m4 M3.pot nl, hw4, lp4, fw4.trans fw, by omega⟩
    rintro σ H3 ⟨u3, lw, ws, rfl, M3, nlw, hl3, hw3, lpw, fw, lw9⟩
    have wn := wb_le3 (i := d + 1) (by omega)
    generalize wb (d + 1) = nw at *
    -- near
    refine ⟨_, rfl, _, rfl, p, l, zs, rfl, M3.pot, nl, hl3, lp, fun H4 ln ns m4 f4 hn4 lpn => ?_⟩
    have nln : ln ≠ p := PotAt.ne_ref M3.pot f4
    have M4 := M3.trans m4
    have hl4 := hl3.mov m4 M3.pot nl
    have hw4 := hw3.mov m4 M3.pot nlw
    -- handed
    refine ⟨_, rfl, _, rfl, p, l, zs, 22, rfl, M4.pot, nl, hl4, lp, by decide, fun H5 h1 vs1 qs1 m5 f5 e5 pw1 pts1 wO1 lv1 => ?_⟩
    have M5 := M4.trans m5
    have hl5 := hl4.mov m5 M4.pot nl
    have hw5 := hw4.mov m5 M4.pot nlw
    have hn5 := hn4.mov m5 M4.pot nln
    refine ⟨h1, vs1, rfl, e5.imp SqL.of SqT.of, fun hd hhd => ?_⟩
    generalize e_H6 : upd _ hd _ = H6
    obtain ⟨s6, e6⟩ := al3 e_H6 hhd
    clear e_H6
    (try dsimp only at e6)
    have M6 := M5.same s6
    have nhd : hd ≠ p := M5.ne hhd
    have pw6 := Paired.imp pw1 fun _ _ h => PtP.same h s6
    have hl6 := hl5.same s6
    have hw6 := hw5.same s6
    have hn6 := hn5.same s6
    -- made
    refine ⟨_, rfl, fun c1 dx1 hc1 hdx1 ne1 => ?_⟩
    have ms1 := made_same (C := a.c_Curve) hc1 hdx1
    refine ⟨c1, dx1, hd, vs1, qs1, 22, rfl, .inl (ms1 _ _ e6), Paired.imp pw6 fun _ _ h => PtP.same h ms1, pts1, upd_same, fun H7 l1 kp1 fl1 cr1 ec1 => ⟨rfl, ?_⟩⟩
    have s7 : Same H6 H7 := fun y o hy => kp1 y o (ne_of_none hy hc1) (ms1 _ _ hy)
    have fl1' := ms1.free' fl1
    rw [wO1] at cr1
    have cu1 : CuAt a.c_Amount a.c_Curve H7 c1 l1 zs := ⟨⟨dx1, ec1⟩, cr1⟩
    have M7 := M6.same s7
    have nl1 : l1 ≠ p := M6.ne fl1'
    have nl1h : hd ≠ l1 := ne_of_none e6 fl1'
    have e7 := s7 _ _ e6
    -- same
    refine ⟨_, rfl, _, rfl, p, lw, ws, nw, rfl, M7.pot, nlw, hw6.same s7, lpw, wn, fun H8 h2 vs2 qs2 m8 f8 e8 pw2 pts2 wO2 lv2 => ?_⟩
    have M8 := M7.trans m8
    have cu1 := cu1.mov m8 M7.pot nl1
    have e8h := m8.keep _ _ nhd e7
    have hl8 := (hl6.same s7).mov m8 M7.pot nl
    have hw8 := (hw6.same s7).mov m8 M7.pot nlw
    have hn8 := (hn6.same s7).mov m8 M7.pot nln
    refine fun c2 dx2 hc2 hdx2 ne2 => ?_
    have ms2 := made_same (C := a.c_Curve) hc2 hdx2
    refine ⟨c2, dx2, h2, vs2, qs2, nw, rfl, e8.imp (ms2 _ _) (ms2 _ _), Paired.imp pw2 fun _ _ h => PtP.same h ms2, pts2, upd_same, fun H9 l2 kp2 fl2 cr2 ec2 => ⟨rfl, ?_⟩⟩
    have s9 : Same H8 H9 := fun y o hy => kp2 y o (ne_of_none hy hc2) (ms2 _ _ hy)
    have fl2' := ms2.free' fl2
    rw [wO2] at cr2
    have cu2 : CuAt a.c_Amount a.c_Curve H9 c2 l2 ws := ⟨⟨dx2, ec2⟩, cr2⟩
    have cu1 := cu1.same s9
    have M9 := M8.same s9
    have nl2 : l2 ≠ p := M8.ne fl2'
    have nl2h : hd ≠ l2 := ne_of_none e8h fl2'
    have e9h := s9 _ _ e8h
    -- the other one
    refine ⟨_, rfl, _, rfl, p, ln, ns, 45, rfl, M9.pot, nln, hn8.same s9, lpn, by decide, fun HA h3 vs3 qs3 mA fA eA pw3 pts3 wO3 lv3 => ?_⟩
    have MA := M9.trans mA
    have cu1 := cu1.mov mA M9.pot nl1
    have cu2 := cu2.mov mA M9.pot nl2
    have eAh := mA.keep _ _ nhd e9h
    have hlA := (hl8.same s9).mov mA M9.pot nl
    have hwA := (hw8.same s9).mov mA M9.pot nlw
    have hnA := (hn8.same s9).mov mA M9.pot nln
    refine fun c3 dx3 hc3 hdx3 ne3 => ?_
    have ms3 := made_same (C := a.c_Curve) hc3 hdx3
    refine ⟨c3, dx3, h3, vs3, qs3, 45, rfl, eA.imp (ms3 _ _) (ms3 _ _), Paired.imp pw3 fun _ _ h => PtP.same h ms3, pts3, upd_same, fun HB l3 kp3 fl3 cr3 ec3 => ⟨rfl, ?_⟩⟩
    have sB : Same HA HB := fun y o hy => kp3 y o (ne_of_none hy hc3) (ms3 _ _ hy)
    have fl3' := ms3.free' fl3
    rw [wO3] at cr3
    have cu3 : CuAt a.c_Amount a.c_Curve HB c3 l3 ns := ⟨⟨dx3, ec3⟩, cr3⟩
    have cu1 := cu1.same sB
    have cu2 := cu2.same sB
    have MB := MA.same sB
    have nl3h : hd ≠ l3 := ne_of_none eAh fl3'
    have eBh := sB _ _ eAh
    refine ⟨sz, fun tt htt => ?_⟩
    generalize e_HC : upd _ tt _ = HC
    obtain ⟨sC, eC⟩ := al3 e_HC htt
    clear e_HC
    (try dsimp only at eC)
    refine ⟨tt, _, rfl, SqT.of eC, rfl, _, _, rfl, _, _, rfl, _, _, rfl, rfl, ?_⟩
    -- what was handed in is emptied
    have MC := MB.same sC
    have eCh := sC _ _ eBh
    have fhd := M5.free hp hhd
    have lhd : ∀ {b : Addr} {xs : List Pt}, Spots H5 b xs → b ≠ hd := fun h => let ⟨_, e, _⟩ := h.ex; ne_of_none e hhd
    have n1 := lhd hl5
    have n2 := lhd hw5
    have n3 := lhd hn5
    have hlC := (hlA.same sB).same sC
    have hwC := (hwA.same sB).same sC
    have hnC := (hnA.same sB).same sC
    have cu1 := cu1.same sC
    have cu2 := cu2.same sC
    have cu3 := cu3.same sC
    refine ⟨_, rfl, .inl ⟨rfl, _, SqL.of eCh⟩, hd, _, rfl, rfl, eCh, ?_⟩
    have ND : NL HC (upd HC hd (.lst [])) := NL.upd eCh
    have kD : ∀ {b : Addr} {o : HO}, b ≠ hd → HC b = some o → (upd HC hd (.lst [])) b = some o := fun n h => by
      rw [upd_ne n]
      exact h
    have sD : ∀ {b : Addr} {xs : List Pt}, b ≠ hd → Spots HC b xs → Spots (upd HC hd (.lst [])) b xs := fun n h => let ⟨q, e, pq⟩ := h.ex; ⟨q, kD n e, Paired.imp pq fun _ _ h => h.nl ND⟩
    have MD : Mov p H (upd HC hd (.lst [])) := Mov.updl MC fhd nhd
    have hlD := sD n1 hlC
    have hwD := sD n2 hwC
    have hnD := sD n3 hnC
    have cu1 := (cu1.nl ND fun _ h => kD nl1h.symm h)
    have cu2 := (cu2.nl ND fun _ h => kD nl2h.symm h)
    have cu3 := (cu3.nl ND fun _ h => kD nl3h.symm h)
    clear ND kD sD
    generalize upd HC hd (.lst []) = HD at *
    -- twice
    refine ⟨2, rfl, by decide, by decide, ?_⟩
    refine for_range (n := 2) (fun i σ H' => ∃ (u3 : Option V), σ = [some (.ref p), some (.ref l), some (.ref lw), u3, some (.ref ln), some (.ref hd), some (.ref c1), some (.ref c2), some (.ref c3), none, none, none, none] ∧ Same HD H') ⟨_, rfl, Same.refl _⟩ ?_ ?_
    · rintro i σ H' hi ⟨u3, rfl, s'⟩
      refine ⟨_, rfl, _, rfl, c1, l, zs, 22, rfl, cu1.cu.same s', hlD.same s', lp, by decide, fun Ha sa => ?_⟩
      have S1 := s'.trans sa
      refine ⟨_, rfl, _, rfl, c2, lw, ws, nw, rfl, cu2.cu.same S1, hwD.same S1, lpw, wn, fun Hb sb => ?_⟩
      have S2 := S1.trans sb
      refine ⟨_, rfl, _, rfl, c3, ln, ns, 45, rfl, cu3.cu.same S2, hnD.same S2, lpn, by decide, fun Hc sc => ⟨sz, fun t ht => ?_⟩⟩
      have S3 := (S2.trans sc).trans (Lb.Same.upd (o := .lst [V.bl true, V.bl true, V.bl true]) ht)
      refine ⟨t, [true, true, true], rfl, SqL.of upd_same, true, rfl, iteF ?_⟩
      exact ⟨_, rfl, S3⟩
    rintro σ HE ⟨u3, rfl, sE⟩
    -- equal ones
    have g1 := gd_of lp (by decide)
    have g2 := gd_of lpw wn
    have g3 := gd_of lpn (by decide)
    refine ⟨_, rfl, _, rfl, c1, c2, zs, ws, _, _, true, rfl, cu1.cu.same sE, cu2.cu.same sE, g1, g2, (decide_eq_true fw.symm).symm, fun HF sF => ⟨true, rfl, iteF ?_⟩⟩
    have SF := sE.trans sF
    refine ⟨_, rfl, _, rfl, c1, c1, zs, zs, _, _, true, rfl, cu1.cu.same SF, cu1.cu.same SF, g1, g1, (decide_eq_true rfl).symm, fun HG sG => ⟨true, rfl, iteF ?_⟩⟩
    have SG := SF.trans sG
    -- the other one
    refine ⟨_, rfl, _, rfl, _, rfl, ln, ns, _, rfl, hnD.same SG, g3, fun HI t3 sI d3 d3' => ?_⟩
    have SI := SG.trans sI
    refine ⟨_, rfl, l, zs, _, rfl, hlD.same SI, g1, fun HJ t1 sJ d1 d1' => ?_⟩
    have SJ := SI.trans sJ
    refine ⟨_, _, d3' _ sJ, d1, shaped_sh _, shaped_sh _, ?_⟩
    rw [eqv_sh]
    refine ⟨c3, c2, ns, ws, _, _, _, rfl, cu3.cu.same SJ, cu2.cu.same SJ, g3, g2, by rw [fw], fun HK sK => ⟨true, rfl, iteF ?_⟩⟩
    have SK := SJ.trans sK
    -- what no curve is equal to
    have l20 := lp.l20
    refine ⟨fun σ H' => ∃ (o : Addr) (ys : List V) (u3 : Option V), σ = [some (.ref p), some (.ref l), some (.ref lw), u3, some (.ref ln), some (.ref hd), some (.ref c1), some (.ref c2), some (.ref c3), some (.ref o), none, none, none] ∧ Same HK H' ∧ H' o = some (.lst ys) ∧ ys.length = 8 ∧ ∀ v ∈ ys, NotC K a.c_Curve H' v, ?_, ?_⟩
    · have cuK := cu1.cu.same SK
      obtain ⟨dk, lk, ek, _⟩ := cuK.ex
      obtain ⟨rl, el, _⟩ := (hlD.same SK).ex
      refine ⟨_, rfl, _, rfl, c1, dk, _, rfl, ek, cu_no _ (by decide +kernel), c1, zs, rfl, cuK, by omega, fun HL li sL fli crL => ?_⟩
      obtain ⟨rli, eli, _⟩ := crL.ex
      have end_ : ∀ (HM : Hp) (rate : V), Same HL HM → NotC K a.c_Curve HM rate → ∀ (HN : Hp) (q : Addr) (rs : List Addr), Same HM HN → HN q = some (.lst (rs.map V.ref)) → ∀ o, HN o = none →
          ∀ v ∈ ([.non, .int 0, .int 1, .str "", .ref l, .ref li, rate, .ref q] : List V), NotC K a.c_Curve (upd HN o (.lst [.non, .int 0, .int 1, .str "", .ref l, .ref li, rate, .ref q])) v := by
        intro HM rate sM nr HN q rs sN eq o ho v hv
        have so := Lb.Same.upd (o := .lst [.non, .int 0, .int 1, .str "", .ref l, .ref li, rate, .ref q]) ho
        have J := T.J
        simp only [List.mem_cons, List.not_mem_nil, or_false] at hv
        rcases hv with rfl | rfl | rfl | rfl | rfl | rfl | rfl | rfl
        · exact ⟨_, .non, J.kNone, J.nNone⟩
        · exact ⟨_, .int _, J.kInt, J.nInt⟩
        · exact ⟨_, .int _, J.kInt, J.nInt⟩
        · exact ⟨_, .str _, J.kStr, J.nStr⟩
        · exact ⟨_, .lst (so _ _ (sN _ _ (sM _ _ (sL _ _ el)))), J.kList, J.nList⟩
        · exact ⟨_, .lst (so _ _ (sN _ _ (sM _ _ eli))), J.kList, J.nList⟩
        · exact NotC.same (sN.trans so) nr
        · exact ⟨_, .lst (so _ _ eq), J.kList, J.nList⟩
      refine ⟨_, rfl, c1, dk, _, rfl, sL _ _ ek, c1, zs, _, rfl, cuK.same sL, g1, fun hne HM sM => ?_, fun heq HM qr sM ar => ?_⟩
      · have S2 := sL.trans sM
        refine ⟨_, rfl, c1, dk, _, rfl, S2 _ _ ek, cu_no _ (by decide +kernel), c1, zs, _, rfl, cuK.same S2, g1, fun HN q rs sN fq eq pq => ⟨sz, fun o ho => ?_⟩⟩
        exact ⟨_, _, _, rfl, (S2.trans sN).trans (Lb.Same.upd ho), upd_same, rfl, end_ HM _ sM ⟨_, .non, T.J.kNone, T.J.nNone⟩ HN q rs sN eq o ho⟩
      · have S2 := sL.trans sM
        obtain ⟨dr, er⟩ := id ar
        refine ⟨_, rfl, c1, dk, _, rfl, S2 _ _ ek, cu_no _ (by decide +kernel), c1, zs, _, rfl, cuK.same S2, g1, fun HN q rs sN fq eq pq => ⟨sz, fun o ho => ?_⟩⟩
        exact ⟨_, _, _, rfl, (S2.trans sN).trans (Lb.Same.upd ho), upd_same, rfl, end_ HM _ sM ⟨_, T.I.ty T.cl er, T.kAC, T.nAC⟩ HN q rs sN eq o ho⟩
    rintro σ HO ⟨o, ys, u3, rfl, sO, eo, ly, hys⟩
    have SO := SK.trans sO
    have cuO := cu1.cu.same SO
    obtain ⟨dk, lk, ek, _⟩ := id cuO.ex
    refine ⟨_, rfl, c1, dk, _, rfl, ek, cu_no _ (by decide +kernel), c1, zs, rfl, cuO, by omega, fun HP tl sP ftl crP => ?_⟩
    obtain ⟨rt, et, pt⟩ := crP.ex
    -- a curve of the points that were told
    refine ⟨_, rfl, fun c4 dx4 hc4 hdx4 ne4 => ?_⟩
    have ms4 := made_same (C := a.c_Curve) hc4 hdx4
    have pts4 := pts_of (f := fun _ => true) (show 22 ≤ 700 by decide) lp (by
      obtain ⟨z, hz, h0⟩ := lp_some lp
      exact ⟨z, List.mem_filter.mpr ⟨hz, rfl⟩, h0⟩)
    rw [filt_all (f := fun _ => true) (l := zs) fun _ _ => rfl] at pts4
    have prow : Paired (PtP a.c_Amount (upd (upd HP dx4 (.own c4)) c4 (.ins a.c_Curve dx4 []))) (rt.map V.ref) zs := by
      have : ∀ {rs : List Addr} {xs : List Pt}, Paired (RowA a.c_Amount HP) rs xs → Paired (PtP a.c_Amount HP) (rs.map V.ref) xs := by
        intro rs xs h
        induction h with
        | nil => exact .nil
        | cons h1 _ ih => exact .cons (PtP.row h1) ih
      exact Paired.imp (this pt) fun _ _ h => PtP.same h ms4
    refine ⟨c4, dx4, tl, _, zs, 22, rfl, .inl (ms4 _ _ et), prow, pts4, upd_same, fun HQ l4 kp4 fl4 cr4 ec4 => ⟨rfl, ?_⟩⟩
    have sQ : Same HP HQ := fun y o hy => kp4 y o (ne_of_none hy hc4) (ms4 _ _ hy)
    have fl4' := ms4.free' fl4
    rw [(withO_self lp.q.ex).1] at cr4
    have cu4 : CuAt a.c_Amount a.c_Curve HQ c4 l4 zs := ⟨⟨dx4, ec4⟩, cr4⟩
    have nl4 : tl ≠ l4 := ne_of_none et fl4'
    have etQ := sQ _ _ et
    -- what was told is changed
    have b19 : Bd 8000 ((10 : Int) ^ (19 : Int).toNat) := (show Bd 70 ((10 : Int) ^ (19 : Int).toNat) by unfold Bd; decide +kernel).mono (by decide)
    refine ⟨_, rfl, .inl ⟨rfl, _, SqL.of etQ⟩, _, _, rfl, rfl, ⟨by decide, by decide, by decide⟩, fun x1 dx1' hx1 hdx1' nex1 => ⟨x1, dx1', _, 1, rfl, by decide, b19, bd_one, upd_same, fun HR kpR eR => ⟨rfl, ?_⟩⟩⟩
    obtain ⟨sR, _⟩ := made_am hx1 hdx1' nex1 kpR eR
    refine ⟨_, _, rfl, rfl, ⟨by decide, by decide, by decide⟩, fun x2 dx2' hx2 hdx2' nex2 => ⟨x2, dx2', _, 1, rfl, by decide, b19, bd_one, upd_same, fun HS kpS eS => ⟨rfl, sz, fun t ht => ?_⟩⟩⟩
    obtain ⟨sS, _⟩ := made_am hx2 hdx2' nex2 kpS eS
    generalize e_HT : upd _ t _ = HT
    obtain ⟨sT, eT⟩ := al3 e_HT ht
    clear e_HT
    (try dsimp only at eT)
    have etT := sT _ _ (sS _ _ (sR _ _ etQ))
    have lrt := Paired.len pt
    refine ⟨tl, _, _, rfl, rfl, etT, szlt (by rw [List.length_map]; omega), ?_⟩
    have SOT := (((sP.trans sQ).trans sR).trans sS).trans sT
    have SU : Same HO (upd HT tl (.lst (rt.map V.ref ++ [V.ref t]))) := Lb.Same.updl SOT ftl
    have NU : NL HT (upd HT tl (.lst (rt.map V.ref ++ [V.ref t]))) := NL.upd etT
    have cu4 := ((((cu4.same sR).same sS).same sT).nl NU fun _ h => by rw [upd_ne nl4.symm]; exact h)
    generalize upd HT tl (.lst (rt.map V.ref ++ [V.ref t])) = HU at *
    have cuU := cuO.same SU
    have eoU := SU _ _ eo
    refine ⟨_, rfl, o, rfl, ⟨_, SqL.of eoU⟩, fun D hD => ?_⟩
    refine lc_list (K := K) (a := o) (xs := ys) (fun i H' => Same HU H' ∧ H' D = some (.lst ((List.replicate i false).map V.bl))) ⟨Lb.Same.upd hD, upd_same⟩ (fun i H' _ b => SqL.of (b.1 _ _ eoU)) ?_ ?_
    · rintro i v H' hi ⟨s', eD⟩
      have nc := NotC.same (SU.trans s') (hys v (List.mem_of_getElem? hi))
      obtain ⟨ty, h1, h2, h3⟩ := id nc
      have hi' := (List.getElem?_eq_some_iff.mp hi).1
      refine ⟨rfl, _, rfl, _, rfl, c1, dk, _, _, rfl, s' _ _ (SU _ _ ek), h1, h3, c1, v, zs, _, rfl, cuU.same s', g1, .inr ⟨nc, ?_⟩⟩
      refine ⟨_, eD, ?_, Lb.Same.updl s' hD, ?_⟩
      · rw [List.length_map, List.length_replicate]
        exact szlt (by omega)
      · rw [upd_same, List.replicate_succ', List.map_append]
        rfl
    rintro HV ⟨sV, eD⟩
    refine ⟨D, _, rfl, SqL.of eD, ?_⟩
    rw [any_replicate_false]
    refine ⟨_, rfl, _, rfl, iteT ?_⟩
    have SHV := (SO.trans SU).trans sV
    refine ⟨_, rfl, _, rfl, c4, l, zs, 22, rfl, cu4.cu.same sV, hlD.same SHV, lp, by decide, fun HW sW => ?_⟩
    exact k _ ((MD.same SHV).same sW)
end
end K16

set_option Elab.async false
set_option linter.all false
set_option maxRecDepth 100000
set_option maxHeartbeats 4000000
set_option exponentiation.threshold 10000
namespace K16
open PySem L2 Lb
open C8 (pss_cut)
abbrev FF : Int := (10 : Int) ^ (17 : Int).toNat
def mkP (l : List (Int × Int)) : List Pt := l.map fun p => ((p.1, 1), (p.2, 1))
theorem lowB {n : Int} (h : n.natAbs < 2 ^ 70) : Low 70 ((n, 1) : Q2) := ⟨h, (show (1 : Nat) < 2 ^ 70 by decide), by show (0 : Int) < 1; decide, by simp⟩
theorem mk_low {l : List (Int × Int)} (h : ∀ p ∈ l, p.1.natAbs < 2 ^ 70 ∧ p.2.natAbs < 2 ^ 70) : ∀ z ∈ mkP l, PtN 70 z := by
  intro z hz
  obtain ⟨p, hp, rfl⟩ := List.mem_map.mp hz
  exact ⟨lowB (h p hp).1, lowB (h p hp).2⟩
theorem mk_asc {l : List (Int × Int)} (h : l.Pairwise fun p q => p.1 < q.1 ∧ p.2 < q.2) : Asc 0 (mkP l) ∧ Asc 1 (mkP l) := by
  constructor
  · refine asc_iff.mpr (List.pairwise_map.mpr (h.imp fun {p q} hh => ?_))
    exact (val_lt (x := (p.1, 1)) (y := (q.1, 1)) (show (0 : Int) < 1 by decide) (show (0 : Int) < 1 by decide)).mp (by show p.1 * 1 < q.1 * 1; omega)
  · refine asc_iff.mpr (List.pairwise_map.mpr (h.imp fun {p q} hh => ?_))
    exact (val_lt (x := (p.2, 1)) (y := (q.2, 1)) (show (0 : Int) < 1 by decide) (show (0 : Int) < 1 by decide)).mp (by show p.2 * 1 < q.2 * 1; omega)
theorem mk_gd {l : List (Int × Int)} (h1 : ∀ p ∈ l, p.1.natAbs < 2 ^ 70 ∧ p.2.natAbs < 2 ^ 70) (h2 : l.Pairwise fun p q => p.1 < q.1 ∧ p.2 < q.2) (h3 : 2 ≤ l.length) (h4 : l.length ≤ 200) : Gd 70 (mkP l) :=
  ⟨mk_low h1, by decide, (mk_asc h2).1, (mk_asc h2).2, by unfold mkP; rw [List.length_map]; exact h3, by unfold mkP; rw [List.length_map]; exact h4⟩
theorem mk_pts {l : List (Int × Int)} (h1 : ∀ p ∈ l, p.1.natAbs < 2 ^ 70 ∧ p.2.natAbs < 2 ^ 70) (h2 : l.Pairwise fun p q => p.1 < q.1 ∧ p.2 < q.2) (h3 : ∀ p ∈ l, sg p.1 = sg p.2) (h5 : ∃ p ∈ l, p.1 ≠ 0) (h4 : l.length ≤ 80) : Pts 70 (mkP l) := by
  refine ⟨fun z hz => ?_, by decide, fun i z z' hz hz' => ?_, ?_, by unfold mkP; rw [List.length_map]; exact h4⟩
  · obtain ⟨p, hp, rfl⟩ := List.mem_map.mp hz
    exact ⟨lowB (h1 p hp).1, lowB (h1 p hp).2, h3 p hp⟩
  · have l1 := mk_low h1 z (List.mem_of_getElem? hz)
    have l2 := mk_low h1 z' (List.mem_of_getElem? hz')
    exact ⟨ltq_of l1.x l2.x ((mk_asc h2).1 i z z' hz hz'), ltq_of l1.y l2.y ((mk_asc h2).2 i z z' hz hz')⟩
  · obtain ⟨p, hp, h0⟩ := h5
    exact ⟨_, List.mem_map_of_mem hp, h0⟩
abbrev lB : List (Int × Int) := [(FF, FF - 1), (2 * FF, 2 * FF - 3)]
abbrev lE : List (Int × Int) := [(FF, FF - 1), (2 * FF, 2 * FF - 2)]
abbrev lS : List (Int × Int) := [(FF, FF - 1)]
theorem ptsB : Pts 70 (mkP lB) := mk_pts (by decide +kernel) (by decide +kernel) (by decide +kernel) ⟨_, List.mem_cons_self, by decide +kernel⟩ (by decide +kernel)
theorem ptsE : Pts 70 (mkP lE) := mk_pts (by decide +kernel) (by decide +kernel) (by decide +kernel) ⟨_, List.mem_cons_self, by decide +kernel⟩ (by decide +kernel)
theorem ptsS : Pts 70 (mkP lS) := mk_pts (by decide +kernel) (by decide +kernel) (by decide +kernel) ⟨_, List.mem_cons_self, by decide +kernel⟩ (by decide +kernel)
theorem gdB : Gd 70 (mkP ((0, 0) :: lB)) := mk_gd (by decide +kernel) (by decide +kernel) (by decide +kernel) (by decide +kernel)
theorem gdE : Gd 70 (mkP ((0, 0) :: lE)) := mk_gd (by decide +kernel) (by decide +kernel) (by decide +kernel) (by decide +kernel)
theorem gdS : Gd 70 (mkP ((0, 0) :: lS)) := mk_gd (by decide +kernel) (by decide +kernel) (by decide +kernel) (by decide +kernel)
theorem wB : withO (mkP lB) = mkP ((0, 0) :: lB) := by decide +kernel
theorem wE : withO (mkP lE) = mkP ((0, 0) :: lE) := by decide +kernel
theorem wS : withO (mkP lS) = mkP ((0, 0) :: lS) := by decide +kernel
theorem corB : corners (mkP ((0, 0) :: lB)) = [((FF, 1), (FF - 1, 1))] := by decide +kernel
theorem corE : corners (mkP ((0, 0) :: lE)) = [] := by decide +kernel
theorem fBE : decide (formOf (mkP ((0, 0) :: lB)) = formOf (mkP ((0, 0) :: lE))) = false := by decide +kernel
theorem fES : decide (formOf (mkP ((0, 0) :: lE)) = formOf (mkP ((0, 0) :: lS))) = true := by decide +kernel
theorem fBS : decide (formOf (mkP ((0, 0) :: lB)) = formOf (mkP ((0, 0) :: lS))) = false := by decide +kernel
theorem conE : overF (1, 1) (slopeAt (mkP ((0, 0) :: lE)) 0) = (FF, FF - 1) := by decide +kernel
def sp_far_right : Sp := fun vs H Q _ => vs = [] ∧ ∀ H', Same H H' → Q (.bl true) H'
section
variable {P : Program} {w : World} {K : PySem.W.Frag} {mg : Str → Option Value} {base : Heap} {a : Ad}
theorem ok_far_right (T : Txt K mg a) : FnG P w K mg base CX0 12 a.f_far_right a.d_far_right [] sp_far_right := by
  refine okG T.F_far_right sc_far_right (fun vs H Q E h => ?_) (fun cdv A outer s H vs Q E gu hr h => ?_)
  · obtain ⟨rfl, _⟩ := h
    rfl
  · obtain ⟨rfl, k⟩ := h
    refine ⟨_, (pss_cons (ps_set (i := 0) sc_far_right.nd rfl (by first | exact Or.inl rfl | exact Or.inr rfl) (pe_op op_pow pe_int pe_int))
 (pss_cons (ps_set (i := 1) sc_far_right.nd rfl (by first | exact Or.inl rfl | exact Or.inr rfl) (pe_make T.mkC (ok_Curve_init_ T) (hr.mono (by decide)) (by rfl) T.mC (b_Curve_init_ T) .nil pass0 (pa_cons (pe_lst (pa_cons (pe_tup (pa_cons (pv 0) (pa_cons (pe_op op_sub (pv 0) pe_int) pa_nil))) (pa_cons (pe_tup (pa_cons (pe_op op_mulX pe_int (pv 0)) (pa_cons (pe_op op_sub (pe_op op_mulX pe_int (pv 0)) pe_int) pa_nil))) pa_nil))) pa_nil)))
 (pss_cons (ps_par (i := 2) (j := 3) rfl sc_far_right.nd rfl rfl (by decide) rfl rfl (pa_cons (pe_make T.mkC (ok_Curve_init_ T) (hr.mono (by decide)) (by rfl) T.mC (b_Curve_init_ T) .nil pass0 (pa_cons (pe_lst (pa_cons (pe_tup (pa_cons (pv 0) (pa_cons (pe_op op_sub (pv 0) pe_int) pa_nil))) (pa_cons (pe_tup (pa_cons (pe_op op_mulX pe_int (pv 0)) (pa_cons (pe_op op_sub (pe_op op_mulX pe_int (pv 0)) pe_int) pa_nil))) pa_nil))) pa_nil)) (pa_cons (pe_make T.mkC (ok_Curve_init_ T) (hr.mono (by decide)) (by rfl) T.mC (b_Curve_init_ T) .nil pass0 (pa_cons (pe_lst (pa_cons (pe_tup (pa_cons (pv 0) (pa_cons (pe_op op_sub (pv 0) pe_int) pa_nil))) pa_nil)) pa_nil)) pa_nil)) (by rfl))
 (pss_cons (ps_set (i := 4) sc_far_right.nd rfl (by first | exact Or.inl rfl | exact Or.inr rfl) (pe_lst (pa_cons (pe_prop (pv 1) T.cl2 T.p_is_straight (ok_Curveis_straight T) (hr.mono (by decide)) (b_Curveis_straight T) .nil pass0 rfl) (pa_cons (pe_prop (pv 2) T.cl2 T.p_is_straight (ok_Curveis_straight T) (hr.mono (by decide)) (b_Curveis_straight T) .nil pass0 rfl) (pa_cons (pe_cmpR (op_ownCmp (n := 10) (C := a.c_Curve) (K := K) rfl (fun _ _ => rfl) T.cEqC.at_ T.cEqC.fn ((ok_Curve_eq_ T).raw (b_Curve_eq_ T) .nil) (hr.mono (by decide)) pass0) (pv 1) (pv 2) (nomark _)) (pa_cons (pe_cmpR (op_ownCmp (n := 10) (C := a.c_Curve) (K := K) rfl (fun _ _ => rfl) T.cEqC.at_ T.cEqC.fn ((ok_Curve_eq_ T).raw (b_Curve_eq_ T) .nil) (hr.mono (by decide)) pass0) (pv 2) (pv 3) (nomark _)) (pa_cons (pe_cmpR (op_ownCmp (n := 10) (C := a.c_Curve) (K := K) rfl (fun _ _ => rfl) T.cEqC.at_ T.cEqC.fn ((ok_Curve_eq_ T).raw (b_Curve_eq_ T) .nil) (hr.mono (by decide)) pass0) (pv 1) (pv 3) (nomark _)) pa_nil)))))))
 (pss_cons (ps_if (pt_cmpR op_ne (pe_callB (call_repr (K := K) rfl gu hr.units) (by rfl) T.b_repr (by decide +kernel) (pa_cons (pv 4) pa_nil)) (pe_callB (call_repr (K := K) rfl gu hr.units) (by rfl) T.b_repr (by decide +kernel) (pa_cons (pe_lst (pa_cons pe_bl (pa_cons pe_bl (pa_cons pe_bl (pa_cons pe_bl (pa_cons pe_bl pa_nil)))))) pa_nil)) (nomark _)) (pss_one (ps_ret pe_bl)) pss_nil)
 (pss_cons (ps_if (pt_cmpR (op_neD hr.units) (pe_lc (own := [("_law_one", 5)]) (by rfl) sc_far_right.nd (pi_listK (K := K) rfl (pe_meth0 (pv 1) T.cl2 T.mCor (ok_Curvecorners T) (hr.mono (by decide)) (b_Curvecorners T) .nil pass0)) (blkOk_by (own := [("_law_one", 5)]) (N := ["_law_far", "_law_bent", "_law_even", "_law_same", "_law_told", "_law_one"]) (sc := defScope s_far_right) (by decide +kernel)) (fun _ _ _ _ _ => (pg_name (i := 5) sc_far_right.nd rfl (by first | exact Or.inl rfl | exact Or.inr rfl))) (fun _ _ _ _ _ => pts_nil) (fun _ _ _ _ _ => (pe_call (ok_read T) (hr.mono (by decide)) (by rfl) T.m_read T.F_read.kp (b_read T) .nil pass0 (pa_cons (pv 5) pa_nil)))) (pe_lst (pa_cons (pe_tup (pa_cons (pv 0) (pa_cons pe_int pa_nil))) pa_nil)) (nomark _)) (pss_one (ps_ret pe_bl)) pss_nil)
 (pss_one (ps_ret (pe_and (pe_cmpR (op_eqD hr.units) (pe_call (ok_read T) (hr.mono (by decide)) (by rfl) T.m_read T.F_read.kp (b_read T) .nil pass0 (pa_cons (pe_prop (pv 2) T.cl2 T.p_conductance (ok_Curveconductance T) (hr.mono (by decide)) (b_Curveconductance T) .nil pass0 rfl) pa_nil)) (pe_tup (pa_cons (pv 0) (pa_cons (pe_op op_sub (pv 0) pe_int) pa_nil))) (nomark _)) (pe_one (pe_cmpR op_isN (pe_prop (pv 1) T.cl2 T.p_conductance (ok_Curveconductance T) (hr.mono (by decide)) (b_Curveconductance T) .nil pass0 rfl) pe_non (nomark _)))))))))))), ?_⟩
    refine ⟨_, _, rfl, rfl, ⟨by decide, by decide, by decide⟩, ?_⟩
    have bf : Bd 70 FF := by unfold Bd; decide +kernel
    have b2 : Bd 70 2 := by unfold Bd; decide +kernel
    refine ⟨_, rfl, _, rfl, _, _, rfl, rfl, sz, fun t11 ht11 => ?_⟩
    generalize e_A1 : upd _ t11 _ = A1
    obtain ⟨sA1, eA1⟩ := al3 e_A1 ht11
    clear e_A1
    (try dsimp only at eA1)
    refine ⟨_, rfl, _, _, rfl, rfl, b2.cm bf (by decide), _, rfl, _, _, rfl, rfl, b2.cm bf (by decide), _, _, rfl, rfl, sz, fun t12 ht12 => ?_⟩
    generalize e_B1 : upd _ t12 _ = B1
    obtain ⟨sB1, eB1⟩ := al3 e_B1 ht12
    clear e_B1
    (try dsimp only at eB1)
    refine ⟨sz, fun l1 hl1 => ?_⟩
    generalize e_C1 : upd _ l1 _ = C1
    obtain ⟨sC1, eC1⟩ := al3 e_C1 hl1
    clear e_C1
    (try dsimp only at eC1)
    have SC1 := (sA1.trans sB1).trans sC1
    refine fun c1 dx1 hc1 hdx1 ne1 => ?_
    have ms1 := made_same (C := a.c_Curve) hc1 hdx1
    refine ⟨c1, dx1, l1, _, mkP lB, 70, rfl, .inl (ms1 _ _ eC1), .cons ⟨t11, _, _, rfl, ms1 _ _ (sC1 _ _ (sB1 _ _ eA1)), .inl ⟨rfl, rfl⟩, .inl ⟨rfl, rfl⟩⟩ (.cons ⟨t12, _, _, rfl, ms1 _ _ (sC1 _ _ eB1), .inl ⟨rfl, rfl⟩, .inl ⟨rfl, rfl⟩⟩ .nil), ptsB, upd_same, fun D1 p1 kp1 fl1 cr1 ec1 => ⟨rfl, ?_⟩⟩
    have sD1 : Same C1 D1 := fun y o hy => kp1 y o (ne_of_none hy hc1) (ms1 _ _ hy)
    rw [wB] at cr1
    have cu1 : Cu a.c_Amount a.c_Curve D1 c1 (mkP ((0, 0) :: lB)) := ⟨dx1, p1, ec1, cr1⟩
    have SD1 := SC1.trans sD1
    refine ⟨_, rfl, _, rfl, _, _, rfl, rfl, sz, fun t21 ht21 => ?_⟩
    generalize e_A2 : upd _ t21 _ = A2
    obtain ⟨sA2, eA2⟩ := al3 e_A2 ht21
    clear e_A2
    (try dsimp only at eA2)
    refine ⟨_, rfl, _, _, rfl, rfl, b2.cm bf (by decide), _, rfl, _, _, rfl, rfl, b2.cm bf (by decide), _, _, rfl, rfl, sz, fun t22 ht22 => ?_⟩
    generalize e_B2 : upd _ t22 _ = B2
    obtain ⟨sB2, eB2⟩ := al3 e_B2 ht22
    clear e_B2
    (try dsimp only at eB2)
    refine ⟨sz, fun l2 hl2 => ?_⟩
    generalize e_C2 : upd _ l2 _ = C2
    obtain ⟨sC2, eC2⟩ := al3 e_C2 hl2
    clear e_C2
    (try dsimp only at eC2)
    have SC2 := (sA2.trans sB2).trans sC2
    refine fun c2 dx2 hc2 hdx2 ne2 => ?_
    have ms2 := made_same (C := a.c_Curve) hc2 hdx2
    refine ⟨c2, dx2, l2, _, mkP lE, 70, rfl, .inl (ms2 _ _ eC2), .cons ⟨t21, _, _, rfl, ms2 _ _ (sC2 _ _ (sB2 _ _ eA2)), .inl ⟨rfl, rfl⟩, .inl ⟨rfl, rfl⟩⟩ (.cons ⟨t22, _, _, rfl, ms2 _ _ (sC2 _ _ eB2), .inl ⟨rfl, rfl⟩, .inl ⟨rfl, rfl⟩⟩ .nil), ptsE, upd_same, fun D2 p2 kp2 fl2 cr2 ec2 => ⟨rfl, ?_⟩⟩
    have sD2 : Same C2 D2 := fun y o hy => kp2 y o (ne_of_none hy hc2) (ms2 _ _ hy)
    rw [wE] at cr2
    have cu2 : Cu a.c_Amount a.c_Curve D2 c2 (mkP ((0, 0) :: lE)) := ⟨dx2, p2, ec2, cr2⟩
    have SD2 := SC2.trans sD2
    refine ⟨_, rfl, _, rfl, _, _, rfl, rfl, sz, fun t31 ht31 => ?_⟩
    generalize e_A3 : upd _ t31 _ = A3
    obtain ⟨sA3, eA3⟩ := al3 e_A3 ht31
    clear e_A3
    (try dsimp only at eA3)
    refine ⟨sz, fun l3 hl3 => ?_⟩
    generalize e_C3 : upd _ l3 _ = C3
    obtain ⟨sC3, eC3⟩ := al3 e_C3 hl3
    clear e_C3
    (try dsimp only at eC3)
    have SC3 := sA3.trans sC3
    refine fun c3 dx3 hc3 hdx3 ne3 => ?_
    have ms3 := made_same (C := a.c_Curve) hc3 hdx3
    refine ⟨c3, dx3, l3, _, mkP lS, 70, rfl, .inl (ms3 _ _ eC3), .cons ⟨t31, _, _, rfl, ms3 _ _ (sC3 _ _ eA3), .inl ⟨rfl, rfl⟩, .inl ⟨rfl, rfl⟩⟩ .nil, ptsS, upd_same, fun D3 p3 kp3 fl3 cr3 ec3 => ⟨rfl, ?_⟩⟩
    have sD3 : Same C3 D3 := fun y o hy => kp3 y o (ne_of_none hy hc3) (ms3 _ _ hy)
    rw [wS] at cr3
    have cu3 : Cu a.c_Amount a.c_Curve D3 c3 (mkP ((0, 0) :: lS)) := ⟨dx3, p3, ec3, cr3⟩
    have SD3 := SC3.trans sD3
    refine ⟨_, _, rfl, ?_⟩
    have cu1 := (cu1.same SD2).same SD3
    have cu2 := cu2.same SD3
    have SH := (SD1.trans SD2).trans SD3
    obtain ⟨x1, p1', ec1, _⟩ := id cu1.ex
    obtain ⟨x2, p2', ec2, _⟩ := id cu2.ex
    obtain ⟨x3, p3', ec3, _⟩ := id cu3.ex
    refine ⟨_, rfl, c1, x1, _, rfl, ec1, c1, _, 70, rfl, cu1, gdB, fun E1 s1 => ?_⟩
    rw [show decide (corners (mkP ((0, 0) :: lB)) = []) = false by rw [corB]; rfl]
    refine ⟨_, rfl, c2, x2, _, rfl, s1 _ _ ec2, c2, _, 70, rfl, cu2.same s1, gdE, fun E2 s2 => ?_⟩
    rw [show decide (corners (mkP ((0, 0) :: lE)) = []) = true by rw [corE]; rfl]
    have S2 := s1.trans s2
    refine ⟨_, rfl, _, rfl, c1, x1, _, _, rfl, S2 _ _ ec1, T.J.ty T.cl2 (S2 _ _ ec2), Inst.nSelf, c1, .ref c2, _, 70, rfl, cu1.same S2, gdB, .inl ⟨c2, _, 70, rfl, cu2.same S2, gdE, fun E3 s3 => ?_⟩⟩
    rw [fBE]
    have S3 := S2.trans s3
    refine ⟨_, rfl, _, rfl, c2, x2, _, _, rfl, S3 _ _ ec2, T.J.ty T.cl2 (S3 _ _ ec3), Inst.nSelf, c2, .ref c3, _, 70, rfl, cu2.same S3, gdE, .inl ⟨c3, _, 70, rfl, cu3.same S3, gdS, fun E4 s4 => ?_⟩⟩
    rw [fES]
    have S4 := S3.trans s4
    refine ⟨_, rfl, _, rfl, c1, x1, _, _, rfl, S4 _ _ ec1, T.J.ty T.cl2 (S4 _ _ ec3), Inst.nSelf, c1, .ref c3, _, 70, rfl, cu1.same S4, gdB, .inl ⟨c3, _, 70, rfl, cu3.same S4, gdS, fun E5 s5 => ⟨sz, fun t ht => ?_⟩⟩⟩
    rw [fBS]
    have S5 := S4.trans s5
    generalize e_E6 : upd _ t _ = E6
    obtain ⟨s6, e6⟩ := al3 e_E6 ht
    clear e_E6
    (try dsimp only at e6)
    obtain ⟨o1, o2, o3⟩ := bools_ok [false, true, false, true, false] (by decide)
    have dpl : ∀ {b : Addr} {H' : Hp}, H' b = some (.lst [V.bl false, V.bl true, V.bl false, V.bl true, V.bl false]) → Dp K H' (.ref b) (.list ([false, true, false, true, false].map PyData.bool)) := fun e => .lst (SqL.of e) (.cons (.bl _) (.cons (.bl _) (.cons (.bl _) (.cons (.bl _) (.cons (.bl _) .nil)))))
    refine ⟨_, rfl, _, _, rfl, dpl e6, o1, o2, o3, ?_⟩
    refine ⟨sz, fun t2 ht2 => ?_⟩
    generalize e_E7 : upd _ t2 _ = E7
    obtain ⟨s7, e7⟩ := al3 e_E7 ht2
    clear e_E7
    (try dsimp only at e7)
    refine ⟨_, _, rfl, dpl e7, o1, o2, o3, rfl, _, rfl, ?_⟩
    rw [decide_eq_true rfl]
    refine iteF ?_
    have S7 := (S5.trans s6).trans s7
    -- the corner
    refine ⟨_, rfl, c1, x1, _, rfl, S7 _ _ ec1, cu_no _ (by decide +kernel), c1, _, 70, rfl, cu1.same S7, gdB, fun E8 q rs s8 fq eq pq => ?_⟩
    rw [corB] at pq
    have S8 := S7.trans s8
    have lq := Paired.len pq
    refine ⟨q, rfl, ⟨_, SqL.of eq⟩, fun D hD => ?_⟩
    refine lc_list (K := K) (a := q) (xs := rs.map V.ref) (fun i H' => Same E8 H' ∧ ∃ as : List Addr, H' D = some (.lst (as.map V.ref)) ∧ Paired (FrQ H') as ([((FF, 1) : Q2)].take i)) ⟨Lb.Same.upd hD, [], upd_same, .nil⟩ (fun i H' _ b => SqL.of (b.1 _ _ eq)) ?_ ?_
    · rintro i v H' hi ⟨s', as, eD, pa⟩
      obtain ⟨t', rfl, ht'⟩ := ref_at hi
      obtain ⟨x, hx, am⟩ := Paired.at_ pq ht'
      refine ⟨rfl, _, rfl, t', x, rfl, AmQ.same am s', fun H5 q' s5' f5 => ?_⟩
      have la := Paired.len pa
      rw [List.length_take] at la
      have N : NL H5 (upd H5 D (.lst (as.map V.ref ++ [V.ref q']))) := NL.upd (s5' _ _ eD)
      refine ⟨_, s5' _ _ eD, szlt (by rw [List.length_map]; exact Nat.le_trans (Nat.le_of_eq la) (Nat.le_trans (Nat.min_le_right _ _) (by decide))), Lb.Same.updl (s'.trans s5') hD, as ++ [q'], by rw [upd_same, List.map_append]; rfl, ?_⟩
      rw [← take_snoc (show [((FF, 1) : Q2)][i]? = some x from hx)]
      exact paired_snoc (Paired.imp pa fun _ _ h => (FrQ.same h s5').nl N) (FrQ.nl f5 N)
    rintro E9 ⟨s9, as, eD, pa⟩
    rw [show (rs.map V.ref).length = [((FF, 1) : Q2)].length by rw [List.length_map, lq]; rfl, List.take_length] at pa
    refine ⟨_, rfl, sz, fun t3 ht3 => ?_⟩
    generalize e_EA : upd _ t3 _ = EA
    obtain ⟨sA, eA⟩ := al3 e_EA ht3
    clear e_EA
    (try dsimp only at eA)
    refine ⟨sz, fun l4 hl4 => ?_⟩
    generalize e_EB : upd _ l4 _ = EB
    obtain ⟨sB, eB⟩ := al3 e_EB hl4
    clear e_EB
    (try dsimp only at eB)
    have dR : Dp K EB (.ref l4) (.list ([((FF, 1) : Q2)].map q2D)) := .lst (SqL.of eB) (.cons (dpQ (x := (FF, 1)) (sB _ _ eA)) .nil)
    refine ⟨_, _, dpLq (sB _ _ (sA _ _ eD)) (Paired.imp pa fun _ _ h => (FrQ.same h sA).same sB), dR, shq _, shq _, _, rfl, ?_⟩
    rw [eqv_self_q2]
    refine iteF ?_
    have SB := ((S8.trans s9).trans sA).trans sB
    -- the conductances
    refine ⟨_, rfl, c2, x2, _, rfl, SB _ _ ec2, c2, _, 70, rfl, cu2.same SB, gdE, fun hne => absurd corE hne, fun _ EC qr sC ar => ?_⟩
    rw [conE] at ar
    refine ⟨qr, _, rfl, ar, fun ED q' sD f' => ?_⟩
    refine ⟨_, rfl, _, rfl, _, _, rfl, rfl, sz, fun t5 ht5 => ?_⟩
    generalize e_EE : upd _ t5 _ = EE
    obtain ⟨sE, eE⟩ := al3 e_EE ht5
    clear e_EE
    (try dsimp only at eE)
    refine ⟨_, _, dpQ (f'.same sE), dpQ (x := (FF, FF - 1)) eE, shaped_of (lay_q2 _) (by rw [dep_q2]; decide), shaped_of (lay_q2 _) (by rw [dep_q2]; decide), ?_⟩
    rw [eqv_q2, decide_eq_true rfl]
    refine ⟨_, rfl, iteT ?_⟩
    have SE := ((SB.trans sC).trans sD).trans sE
    exact ⟨_, rfl, c1, x1, _, rfl, SE _ _ ec1, c1, _, 70, rfl, cu1.same SE, gdB, fun _ EF sF => ⟨rfl, k _ ((SH.trans SE).trans sF)⟩, fun h => absurd h (by rw [corB]; exact fun z => nomatch z)⟩
end
end K16

set_option Elab.async false
set_option linter.all false
set_option maxRecDepth 100000
set_option maxHeartbeats 4000000
set_option exponentiation.threshold 10000
namespace K16
open PySem L2 Lb
open C8 (pss_cut)
/-- the law -/
def sp_law (K : PySem.W.Frag) : Sp := fun vs H Q _ => ∃ (a : Addr) (ns : List Int), vs = [.ref a] ∧ SqL K H a (ns.map V.int) ∧ ns.length ≤ 63 ∧ ∀ H', Q (.bl true) H'
section
variable {P : Program} {w : World} {K : PySem.W.Frag} {mg : Str → Option Value} {base : Heap} {a : Ad}
theorem ok_law (T : Txt K mg a) : FnG P w K mg base CX0 16 a.f_law a.d_law ["_law_script"] (sp_law K) := by
  refine okG T.F_law sc_law (fun vs H Q E h => ?_) (fun cdv A outer s H vs Q E gu hr h => ?_)
  · obtain ⟨sc, ns, rfl, _⟩ := h
    rfl
  · obtain ⟨sc, ns, rfl, hS, hlen, k⟩ := h
    refine ⟨_, (pss_cons (ps_if (pt_not (pt_val (pe_call0G (ok_far_right T) gu (hr.mono (by decide)) (by rfl) T.m_far_right T.F_far_right.kp (b_far_right T) .nil pass0 ))) (pss_one (ps_ret pe_bl)) pss_nil)
 (pss_cons (ps_for PassesOwn.never rfl (pi_range1 rfl T.b_range (pa_cons (pe_callB (call_max2 rfl) (by rfl) T.b_max (by decide +kernel) (pa_cons pe_int (pa_cons (pe_callB (call_min2 rfl) (by rfl) T.b_min (by decide +kernel) (pa_cons pe_int (pa_cons (pe_callB (call_lenK (K := K) rfl) (by rfl) T.b_len (by decide +kernel) (pa_cons (pv 0) pa_nil)) pa_nil))) pa_nil))) pa_nil)) (pg_name (i := 1) sc_law.nd rfl (by first | exact Or.inl rfl | exact Or.inr rfl)) (pss_cons (ps_set (i := 2) sc_law.nd rfl (by first | exact Or.inl rfl | exact Or.inr rfl) (pe_call (ok_pot T) (hr.mono (by decide)) (by rfl) T.m_pot T.F_pot.kp (b_pot T) .nil pass0 (pa_cons (pv 0) (pa_cons (pv 1) pa_nil))))
 (pss_one (ps_if (pt_not (pt_val (pe_callB (cr_allK (K := K) rfl rfl) (by rfl) T.b_all (by decide +kernel) (pa_cons (pe_lc (own := [("_law_turn", 3)]) (by rfl) sc_law.nd (pi_range1 rfl T.b_range (pa_cons pe_int pa_nil)) (blkOk_by (own := [("_law_turn", 3)]) (N := ["_law_script", "_law_k", "_law_pot_here", "_law_turn"]) (sc := defScope s_law) (by decide +kernel)) (fun _ _ _ _ _ => (pg_name (i := 3) sc_law.nd rfl (by first | exact Or.inl rfl | exact Or.inr rfl))) (fun _ _ _ _ _ => pts_nil) (fun _ _ _ _ _ => (pe_callG (ok_right T) gu (hr.mono (by decide)) (by rfl) T.m_right T.F_right.kp (b_right T) .nil pass0 (pa_cons (pv 2) pa_nil)))) pa_nil)))) (pss_one (ps_ret pe_bl)) pss_nil))))
 (pss_one (ps_ret pe_bl)))), ?_⟩
    refine ⟨rfl, fun H1 s1 => ⟨true, rfl, iteF ?_⟩⟩
    refine ⟨_, rfl, _, _, rfl, .inl (Same.seq s1 hS), _, _, rfl, _, _, rfl, ?_⟩
    have hn : ∃ n : Nat, n ≤ 4 ∧ (if (if (((ns.map V.int).length : Nat) : Int) < 4 then (((ns.map V.int).length : Nat) : Int) else 4) > 1 then (if (((ns.map V.int).length : Nat) : Int) < 4 then (((ns.map V.int).length : Nat) : Int) else 4) else 1) = (n : Int) := by
      rw [List.length_map]
      refine ⟨(if (if ns.length < 4 then ns.length else 4) > 1 then (if ns.length < 4 then ns.length else 4) else 1), ?_, ?_⟩
      · split <;> (try split) <;> omega
      · split <;> split <;> (try split) <;> (try split) <;> omega
    obtain ⟨n, hn4, en⟩ := hn
    rw [en]
    refine ⟨_, rfl, (by omega), (by omega), ?_⟩
    refine for_range (n := n) (fun i σ H' => ∃ (u1 u2 u3 : Option V), σ = [some (.ref sc), u1, u2, u3] ∧ Same H H') ⟨_, _, _, rfl, s1⟩ ?_ ?_
    · rintro i σ H' hi ⟨u1, u2, u3, rfl, s'⟩
      refine ⟨_, rfl, _, rfl, sc, ns, i, by simp, Same.seq s' hS, hlen, by omega, fun H2 p s2 hp pot => ?_⟩
      refine ⟨3, rfl, by decide, by decide, fun D hD => ?_⟩
      have nD : D ≠ p := PotAt.ne_ref pot hD
      refine lc_range (lo := 0) (n := 3) (fun j H'' => Mov p H2 H'' ∧ H'' D = some (.lst ((List.replicate j true).map V.bl))) ⟨Lb.Mov.updl (Mov.refl pot) hD nD, upd_same⟩ ?_ ?_
      · rintro j H'' hj ⟨m, eD⟩
        refine ⟨rfl, _, rfl, p, rfl, m.pot, fun H3 m3 => ?_⟩
        refine ⟨_, m3.keep _ _ nD eD, ?_, Lb.Mov.updl (m.trans m3) hD nD, ?_⟩
        · rw [List.length_map, List.length_replicate]
          exact szlt (by omega)
        · rw [upd_same, List.replicate_succ', List.map_append]
          rfl
      · rintro H3 ⟨m, eD⟩
        refine ⟨D, _, rfl, SqL.of eD, ?_⟩
        rw [all_replicate_true]
        refine ⟨true, rfl, iteF ?_⟩
        exact ⟨_, _, _, rfl, fun b o e => m.keep b o (ne_of_none (s' _ _ e) hp) (s2 _ _ (s' _ _ e))⟩
    rintro σ H2 _
    exact k _
end
end K16

set_option Elab.async false
set_option linter.all false
set_option maxRecDepth 100000
namespace K16
open PySem L2 Lb
set_option maxHeartbeats 0 in
theorem all_mk {l : PySem.W.OpenLaw} {w : World} {K : PySem.W.Frag} {h : Heap} {mg : Str → Option Value} (X : K.In h) (G : h.Ns mainGlobals mg) {fa : Addr} (hfa : mg "law" = some (.ref fa))
    {c_Amount : Addr}
    {c_Curve : Addr}
    {p_top : Addr}
    {p_bottom : Addr}
    {p_sign : Addr}
    {p_straight : Addr}
    {p_cond : Addr}
    {f_is_integer : Addr} {od_0 an_0 : Option Addr} {sl_0 : Array (Option Value)} {oc_0 kV_0 dc_0 pm_0 cd_0 ct_0 : Value}
    {f_is_amount : Addr} {od_1 an_1 : Option Addr} {sl_1 : Array (Option Value)} {oc_1 kV_1 dc_1 pm_1 cd_1 ct_1 : Value}
    {f_amount_of : Addr} {od_2 an_2 : Option Addr} {sl_2 : Array (Option Value)} {oc_2 kV_2 dc_2 pm_2 cd_2 ct_2 : Value}
    {f_Amount_init_ : Addr} {od_3 an_3 : Option Addr} {sl_3 : Array (Option Value)} {oc_3 kV_3 dc_3 pm_3 cd_3 ct_3 : Value}
    {T_3 : Addr} {o_3 : Obj} {dn_3 : Nat} {its_3 : List Value}
    {f_Amounttop : Addr} {od_4 an_4 : Option Addr} {sl_4 : Array (Option Value)} {oc_4 kV_4 dc_4 pm_4 cd_4 ct_4 : Value}
    {rest_4 : List Value}
    {f_Amountbottom : Addr} {od_5 an_5 : Option Addr} {sl_5 : Array (Option Value)} {oc_5 kV_5 dc_5 pm_5 cd_5 ct_5 : Value}
    {rest_5 : List Value}
    {f_Amountsign : Addr} {od_6 an_6 : Option Addr} {sl_6 : Array (Option Value)} {oc_6 kV_6 dc_6 pm_6 cd_6 ct_6 : Value}
    {rest_6 : List Value}
    {f_Amount_sub_ : Addr} {od_7 an_7 : Option Addr} {sl_7 : Array (Option Value)} {oc_7 kV_7 dc_7 pm_7 cd_7 ct_7 : Value}
    {f_Amount_rsub_ : Addr} {od_8 an_8 : Option Addr} {sl_8 : Array (Option Value)} {oc_8 kV_8 dc_8 pm_8 cd_8 ct_8 : Value}
    {f_Amountover : Addr} {od_9 an_9 : Option Addr} {sl_9 : Array (Option Value)} {oc_9 kV_9 dc_9 pm_9 cd_9 ct_9 : Value}
    {f_Amount_eq_ : Addr} {od_10 an_10 : Option Addr} {sl_10 : Array (Option Value)} {oc_10 kV_10 dc_10 pm_10 cd_10 ct_10 : Value}
    {f_Amount_lt_ : Addr} {od_11 an_11 : Option Addr} {sl_11 : Array (Option Value)} {oc_11 kV_11 dc_11 pm_11 cd_11 ct_11 : Value}
    {f_is_point : Addr} {od_12 an_12 : Option Addr} {sl_12 : Array (Option Value)} {oc_12 kV_12 dc_12 pm_12 cd_12 ct_12 : Value}
    {f_is_origin : Addr} {od_13 an_13 : Option Addr} {sl_13 : Array (Option Value)} {oc_13 kV_13 dc_13 pm_13 cd_13 ct_13 : Value}
    {f_checked : Addr} {od_14 an_14 : Option Addr} {sl_14 : Array (Option Value)} {oc_14 kV_14 dc_14 pm_14 cd_14 ct_14 : Value}
    {f_rises : Addr} {od_15 an_15 : Option Addr} {sl_15 : Array (Option Value)} {oc_15 kV_15 dc_15 pm_15 cd_15 ct_15 : Value}
    {f_with_origin : Addr} {od_16 an_16 : Option Addr} {sl_16 : Array (Option Value)} {oc_16 kV_16 dc_16 pm_16 cd_16 ct_16 : Value}
    {f_drop_for_one : Addr} {od_17 an_17 : Option Addr} {sl_17 : Array (Option Value)} {oc_17 kV_17 dc_17 pm_17 cd_17 ct_17 : Value}
    {f_bends : Addr} {od_18 an_18 : Option Addr} {sl_18 : Array (Option Value)} {oc_18 kV_18 dc_18 pm_18 cd_18 ct_18 : Value}
    {f_form : Addr} {od_19 an_19 : Option Addr} {sl_19 : Array (Option Value)} {oc_19 kV_19 dc_19 pm_19 cd_19 ct_19 : Value}
    {f_Curve_init_ : Addr} {od_20 an_20 : Option Addr} {sl_20 : Array (Option Value)} {oc_20 kV_20 dc_20 pm_20 cd_20 ct_20 : Value}
    {f_Curvepoints : Addr} {od_21 an_21 : Option Addr} {sl_21 : Array (Option Value)} {oc_21 kV_21 dc_21 pm_21 cd_21 ct_21 : Value}
    {f_Curvecorners : Addr} {od_22 an_22 : Option Addr} {sl_22 : Array (Option Value)} {oc_22 kV_22 dc_22 pm_22 cd_22 ct_22 : Value}
    {f_Curveis_straight : Addr} {od_23 an_23 : Option Addr} {sl_23 : Array (Option Value)} {oc_23 kV_23 dc_23 pm_23 cd_23 ct_23 : Value}
    {rest_23 : List Value}
    {f_Curveconductance : Addr} {od_24 an_24 : Option Addr} {sl_24 : Array (Option Value)} {oc_24 kV_24 dc_24 pm_24 cd_24 ct_24 : Value}
    {rest_24 : List Value}
    {f_Curve_eq_ : Addr} {od_25 an_25 : Option Addr} {sl_25 : Array (Option Value)} {oc_25 kV_25 dc_25 pm_25 cd_25 ct_25 : Value}
    {f_pot : Addr} {od_26 an_26 : Option Addr} {sl_26 : Array (Option Value)} {oc_26 kV_26 dc_26 pm_26 cd_26 ct_26 : Value}
    {f_draw : Addr} {od_27 an_27 : Option Addr} {sl_27 : Array (Option Value)} {oc_27 kV_27 dc_27 pm_27 cd_27 ct_27 : Value}
    {f_low : Addr} {od_28 an_28 : Option Addr} {sl_28 : Array (Option Value)} {oc_28 kV_28 dc_28 pm_28 cd_28 ct_28 : Value}
    {f_plus : Addr} {od_29 an_29 : Option Addr} {sl_29 : Array (Option Value)} {oc_29 kV_29 dc_29 pm_29 cd_29 ct_29 : Value}
    {f_minus : Addr} {od_30 an_30 : Option Addr} {sl_30 : Array (Option Value)} {oc_30 kV_30 dc_30 pm_30 cd_30 ct_30 : Value}
    {f_times : Addr} {od_31 an_31 : Option Addr} {sl_31 : Array (Option Value)} {oc_31 kV_31 dc_31 pm_31 cd_31 ct_31 : Value}
    {f_over : Addr} {od_32 an_32 : Option Addr} {sl_32 : Array (Option Value)} {oc_32 kV_32 dc_32 pm_32 cd_32 ct_32 : Value}
    {f_amount : Addr} {od_33 an_33 : Option Addr} {sl_33 : Array (Option Value)} {oc_33 kV_33 dc_33 pm_33 cd_33 ct_33 : Value}
    {f_read : Addr} {od_34 an_34 : Option Addr} {sl_34 : Array (Option Value)} {oc_34 kV_34 dc_34 pm_34 cd_34 ct_34 : Value}
    {f_step : Addr} {od_35 an_35 : Option Addr} {sl_35 : Array (Option Value)} {oc_35 kV_35 dc_35 pm_35 cd_35 ct_35 : Value}
    {f_points : Addr} {od_36 an_36 : Option Addr} {sl_36 : Array (Option Value)} {oc_36 kV_36 dc_36 pm_36 cd_36 ct_36 : Value}
    {f_slope : Addr} {od_37 an_37 : Option Addr} {sl_37 : Array (Option Value)} {oc_37 kV_37 dc_37 pm_37 cd_37 ct_37 : Value}
    {f_corners : Addr} {od_38 an_38 : Option Addr} {sl_38 : Array (Option Value)} {oc_38 kV_38 dc_38 pm_38 cd_38 ct_38 : Value}
    {f_shape : Addr} {od_39 an_39 : Option Addr} {sl_39 : Array (Option Value)} {oc_39 kV_39 dc_39 pm_39 cd_39 ct_39 : Value}
    {f_passed : Addr} {od_40 an_40 : Option Addr} {sl_40 : Array (Option Value)} {oc_40 kV_40 dc_40 pm_40 cd_40 ct_40 : Value}
    {f_more : Addr} {od_41 an_41 : Option Addr} {sl_41 : Array (Option Value)} {oc_41 kV_41 dc_41 pm_41 cd_41 ct_41 : Value}
    {f_other : Addr} {od_42 an_42 : Option Addr} {sl_42 : Array (Option Value)} {oc_42 kV_42 dc_42 pm_42 cd_42 ct_42 : Value}
    {f_is : Addr} {od_43 an_43 : Option Addr} {sl_43 : Array (Option Value)} {oc_43 kV_43 dc_43 pm_43 cd_43 ct_43 : Value}
    {f_pair_right : Addr} {od_44 an_44 : Option Addr} {sl_44 : Array (Option Value)} {oc_44 kV_44 dc_44 pm_44 cd_44 ct_44 : Value}
    {f_right : Addr} {od_45 an_45 : Option Addr} {sl_45 : Array (Option Value)} {oc_45 kV_45 dc_45 pm_45 cd_45 ct_45 : Value}
    {f_far_right : Addr} {od_46 an_46 : Option Addr} {sl_46 : Array (Option Value)} {oc_46 kV_46 dc_46 pm_46 cd_46 ct_46 : Value}
    {f_law : Addr} {od_47 an_47 : Option Addr} {sl_47 : Array (Option Value)} {oc_47 kV_47 dc_47 pm_47 cd_47 ct_47 : Value}
    {fo_sub ro_sub : Option Value}
    {tkFlow : Tok}
    {tkDrop : Tok}
    {tkMost : Tok}
    (aC_Amount : PySem.W.nsIn K mainGlobals "Amount" = some (some (.ref c_Amount)))
    (aC_Curve : PySem.W.nsIn K mainGlobals "Curve" = some (some (.ref c_Curve)))
    (a_is_integer : PySem.W.nsIn K mainGlobals "is_integer" = some (some (.ref f_is_integer)))
    (l_is_integer : K.lookup f_is_integer = some ⟨oc_0, od_0, .func (PySem.W.fnOf "is_integer" "is_integer" (defArgs s_is_integer) (defBody s_is_integer) (defScope s_is_integer) .none kV_0 dc_0 pm_0 an_0 cd_0 ct_0), sl_0⟩)
    (k1_is_integer : PySem.W.codeIn K cd_0 "is_integer" = true)
    (k2_is_integer : PySem.W.keepIn K (.ref f_is_integer) = true)
    (a_is_amount : PySem.W.nsIn K mainGlobals "is_amount" = some (some (.ref f_is_amount)))
    (l_is_amount : K.lookup f_is_amount = some ⟨oc_1, od_1, .func (PySem.W.fnOf "is_amount" "is_amount" (defArgs s_is_amount) (defBody s_is_amount) (defScope s_is_amount) .none kV_1 dc_1 pm_1 an_1 cd_1 ct_1), sl_1⟩)
    (k1_is_amount : PySem.W.codeIn K cd_1 "is_amount" = true)
    (k2_is_amount : PySem.W.keepIn K (.ref f_is_amount) = true)
    (a_amount_of : PySem.W.nsIn K mainGlobals "amount_of" = some (some (.ref f_amount_of)))
    (l_amount_of : K.lookup f_amount_of = some ⟨oc_2, od_2, .func (PySem.W.fnOf "amount_of" "amount_of" (defArgs s_amount_of) (defBody s_amount_of) (defScope s_amount_of) .none kV_2 dc_2 pm_2 an_2 cd_2 ct_2), sl_2⟩)
    (k1_amount_of : PySem.W.codeIn K cd_2 "amount_of" = true)
    (k2_amount_of : PySem.W.keepIn K (.ref f_amount_of) = true)
    (a_Amount_init_ : PySem.W.findIn K (.ref c_Amount) "__init__" = some (some (.ref f_Amount_init_)))
    (i_Amount_init_ : PySem.W.isFn K (.ref f_Amount_init_) = true)
    (l_Amount_init_ : K.lookup f_Amount_init_ = some ⟨oc_3, od_3, .func (PySem.W.fnOf "__init__" "Amount.__init__" (defArgs s_Amount_init_) (defBody s_Amount_init_) (defScope s_Amount_init_) (.ref T_3) kV_3 dc_3 pm_3 an_3 cd_3 ct_3), sl_3⟩)
    (k1_Amount_init_ : PySem.W.codeIn K cd_3 "Amount.__init__" = true)
    (k2_Amount_init_ : PySem.W.keepIn K (.ref f_Amount_init_) = true)
    (dl_Amount_init_ : K.lookup T_3 = some o_3)
    (do_Amount_init_ : o_3.data = .seq its_3.toArray dn_3)
    (dv_Amount_init_ : Vals [.int 1] its_3)
    (pa_Amounttop : PySem.W.findIn K (.ref c_Amount) "top" = some (some (.ref p_top)))
    (pg_Amounttop : PySem.W.specialIn K (.ref p_top) "__get__" = some (some (.builtin "property.__get__")))
    (pt_Amounttop : PySem.W.takesIn K (.ref p_top) = some true)
    (pr_Amounttop : PySem.W.recIn K p_top "property" = some (.ref f_Amounttop :: rest_4))
    (l_Amounttop : K.lookup f_Amounttop = some ⟨oc_4, od_4, .func (PySem.W.fnOf "top" "Amount.top" (defArgs s_Amounttop) (defBody s_Amounttop) (defScope s_Amounttop) .none kV_4 dc_4 pm_4 an_4 cd_4 ct_4), sl_4⟩)
    (k1_Amounttop : PySem.W.codeIn K cd_4 "Amount.top" = true)
    (k2_Amounttop : PySem.W.keepIn K (.ref f_Amounttop) = true)
    (pa_Amountbottom : PySem.W.findIn K (.ref c_Amount) "bottom" = some (some (.ref p_bottom)))
    (pg_Amountbottom : PySem.W.specialIn K (.ref p_bottom) "__get__" = some (some (.builtin "property.__get__")))
    (pt_Amountbottom : PySem.W.takesIn K (.ref p_bottom) = some true)
    (pr_Amountbottom : PySem.W.recIn K p_bottom "property" = some (.ref f_Amountbottom :: rest_5))
    (l_Amountbottom : K.lookup f_Amountbottom = some ⟨oc_5, od_5, .func (PySem.W.fnOf "bottom" "Amount.bottom" (defArgs s_Amountbottom) (defBody s_Amountbottom) (defScope s_Amountbottom) .none kV_5 dc_5 pm_5 an_5 cd_5 ct_5), sl_5⟩)
    (k1_Amountbottom : PySem.W.codeIn K cd_5 "Amount.bottom" = true)
    (k2_Amountbottom : PySem.W.keepIn K (.ref f_Amountbottom) = true)
    (pa_Amountsign : PySem.W.findIn K (.ref c_Amount) "sign" = some (some (.ref p_sign)))
    (pg_Amountsign : PySem.W.specialIn K (.ref p_sign) "__get__" = some (some (.builtin "property.__get__")))
    (pt_Amountsign : PySem.W.takesIn K (.ref p_sign) = some true)
    (pr_Amountsign : PySem.W.recIn K p_sign "property" = some (.ref f_Amountsign :: rest_6))
    (l_Amountsign : K.lookup f_Amountsign = some ⟨oc_6, od_6, .func (PySem.W.fnOf "sign" "Amount.sign" (defArgs s_Amountsign) (defBody s_Amountsign) (defScope s_Amountsign) .none kV_6 dc_6 pm_6 an_6 cd_6 ct_6), sl_6⟩)
    (k1_Amountsign : PySem.W.codeIn K cd_6 "Amount.sign" = true)
    (k2_Amountsign : PySem.W.keepIn K (.ref f_Amountsign) = true)
    (a_Amount_sub_ : PySem.W.findIn K (.ref c_Amount) "__sub__" = some (some (.ref f_Amount_sub_)))
    (i_Amount_sub_ : PySem.W.isFn K (.ref f_Amount_sub_) = true)
    (l_Amount_sub_ : K.lookup f_Amount_sub_ = some ⟨oc_7, od_7, .func (PySem.W.fnOf "__sub__" "Amount.__sub__" (defArgs s_Amount_sub_) (defBody s_Amount_sub_) (defScope s_Amount_sub_) .none kV_7 dc_7 pm_7 an_7 cd_7 ct_7), sl_7⟩)
    (k1_Amount_sub_ : PySem.W.codeIn K cd_7 "Amount.__sub__" = true)
    (k2_Amount_sub_ : PySem.W.keepIn K (.ref f_Amount_sub_) = true)
    (a_Amount_rsub_ : PySem.W.findIn K (.ref c_Amount) "__rsub__" = some (some (.ref f_Amount_rsub_)))
    (i_Amount_rsub_ : PySem.W.isFn K (.ref f_Amount_rsub_) = true)
    (l_Amount_rsub_ : K.lookup f_Amount_rsub_ = some ⟨oc_8, od_8, .func (PySem.W.fnOf "__rsub__" "Amount.__rsub__" (defArgs s_Amount_rsub_) (defBody s_Amount_rsub_) (defScope s_Amount_rsub_) .none kV_8 dc_8 pm_8 an_8 cd_8 ct_8), sl_8⟩)
    (k1_Amount_rsub_ : PySem.W.codeIn K cd_8 "Amount.__rsub__" = true)
    (k2_Amount_rsub_ : PySem.W.keepIn K (.ref f_Amount_rsub_) = true)
    (a_Amountover : PySem.W.findIn K (.ref c_Amount) "over" = some (some (.ref f_Amountover)))
    (i_Amountover : PySem.W.isFn K (.ref f_Amountover) = true)
    (l_Amountover : K.lookup f_Amountover = some ⟨oc_9, od_9, .func (PySem.W.fnOf "over" "Amount.over" (defArgs s_Amountover) (defBody s_Amountover) (defScope s_Amountover) .none kV_9 dc_9 pm_9 an_9 cd_9 ct_9), sl_9⟩)
    (k1_Amountover : PySem.W.codeIn K cd_9 "Amount.over" = true)
    (k2_Amountover : PySem.W.keepIn K (.ref f_Amountover) = true)
    (a_Amount_eq_ : PySem.W.findIn K (.ref c_Amount) "__eq__" = some (some (.ref f_Amount_eq_)))
    (i_Amount_eq_ : PySem.W.isFn K (.ref f_Amount_eq_) = true)
    (l_Amount_eq_ : K.lookup f_Amount_eq_ = some ⟨oc_10, od_10, .func (PySem.W.fnOf "__eq__" "Amount.__eq__" (defArgs s_Amount_eq_) (defBody s_Amount_eq_) (defScope s_Amount_eq_) .none kV_10 dc_10 pm_10 an_10 cd_10 ct_10), sl_10⟩)
    (k1_Amount_eq_ : PySem.W.codeIn K cd_10 "Amount.__eq__" = true)
    (k2_Amount_eq_ : PySem.W.keepIn K (.ref f_Amount_eq_) = true)
    (a_Amount_lt_ : PySem.W.findIn K (.ref c_Amount) "__lt__" = some (some (.ref f_Amount_lt_)))
    (i_Amount_lt_ : PySem.W.isFn K (.ref f_Amount_lt_) = true)
    (l_Amount_lt_ : K.lookup f_Amount_lt_ = some ⟨oc_11, od_11, .func (PySem.W.fnOf "__lt__" "Amount.__lt__" (defArgs s_Amount_lt_) (defBody s_Amount_lt_) (defScope s_Amount_lt_) .none kV_11 dc_11 pm_11 an_11 cd_11 ct_11), sl_11⟩)
    (k1_Amount_lt_ : PySem.W.codeIn K cd_11 "Amount.__lt__" = true)
    (k2_Amount_lt_ : PySem.W.keepIn K (.ref f_Amount_lt_) = true)
    (a_is_point : PySem.W.nsIn K mainGlobals "_is_point" = some (some (.ref f_is_point)))
    (l_is_point : K.lookup f_is_point = some ⟨oc_12, od_12, .func (PySem.W.fnOf "_is_point" "_is_point" (defArgs s_is_point) (defBody s_is_point) (defScope s_is_point) .none kV_12 dc_12 pm_12 an_12 cd_12 ct_12), sl_12⟩)
    (k1_is_point : PySem.W.codeIn K cd_12 "_is_point" = true)
    (k2_is_point : PySem.W.keepIn K (.ref f_is_point) = true)
    (a_is_origin : PySem.W.nsIn K mainGlobals "_is_origin" = some (some (.ref f_is_origin)))
    (l_is_origin : K.lookup f_is_origin = some ⟨oc_13, od_13, .func (PySem.W.fnOf "_is_origin" "_is_origin" (defArgs s_is_origin) (defBody s_is_origin) (defScope s_is_origin) .none kV_13 dc_13 pm_13 an_13 cd_13 ct_13), sl_13⟩)
    (k1_is_origin : PySem.W.codeIn K cd_13 "_is_origin" = true)
    (k2_is_origin : PySem.W.keepIn K (.ref f_is_origin) = true)
    (a_checked : PySem.W.nsIn K mainGlobals "_checked" = some (some (.ref f_checked)))
    (l_checked : K.lookup f_checked = some ⟨oc_14, od_14, .func (PySem.W.fnOf "_checked" "_checked" (defArgs s_checked) (defBody s_checked) (defScope s_checked) .none kV_14 dc_14 pm_14 an_14 cd_14 ct_14), sl_14⟩)
    (k1_checked : PySem.W.codeIn K cd_14 "_checked" = true)
    (k2_checked : PySem.W.keepIn K (.ref f_checked) = true)
    (a_rises : PySem.W.nsIn K mainGlobals "_rises" = some (some (.ref f_rises)))
    (l_rises : K.lookup f_rises = some ⟨oc_15, od_15, .func (PySem.W.fnOf "_rises" "_rises" (defArgs s_rises) (defBody s_rises) (defScope s_rises) .none kV_15 dc_15 pm_15 an_15 cd_15 ct_15), sl_15⟩)
    (k1_rises : PySem.W.codeIn K cd_15 "_rises" = true)
    (k2_rises : PySem.W.keepIn K (.ref f_rises) = true)
    (a_with_origin : PySem.W.nsIn K mainGlobals "_with_origin" = some (some (.ref f_with_origin)))
    (l_with_origin : K.lookup f_with_origin = some ⟨oc_16, od_16, .func (PySem.W.fnOf "_with_origin" "_with_origin" (defArgs s_with_origin) (defBody s_with_origin) (defScope s_with_origin) .none kV_16 dc_16 pm_16 an_16 cd_16 ct_16), sl_16⟩)
    (k1_with_origin : PySem.W.codeIn K cd_16 "_with_origin" = true)
    (k2_with_origin : PySem.W.keepIn K (.ref f_with_origin) = true)
    (a_drop_for_one : PySem.W.nsIn K mainGlobals "_drop_for_one" = some (some (.ref f_drop_for_one)))
    (l_drop_for_one : K.lookup f_drop_for_one = some ⟨oc_17, od_17, .func (PySem.W.fnOf "_drop_for_one" "_drop_for_one" (defArgs s_drop_for_one) (defBody s_drop_for_one) (defScope s_drop_for_one) .none kV_17 dc_17 pm_17 an_17 cd_17 ct_17), sl_17⟩)
    (k1_drop_for_one : PySem.W.codeIn K cd_17 "_drop_for_one" = true)
    (k2_drop_for_one : PySem.W.keepIn K (.ref f_drop_for_one) = true)
    (a_bends : PySem.W.nsIn K mainGlobals "_bends" = some (some (.ref f_bends)))
    (l_bends : K.lookup f_bends = some ⟨oc_18, od_18, .func (PySem.W.fnOf "_bends" "_bends" (defArgs s_bends) (defBody s_bends) (defScope s_bends) .none kV_18 dc_18 pm_18 an_18 cd_18 ct_18), sl_18⟩)
    (k1_bends : PySem.W.codeIn K cd_18 "_bends" = true)
    (k2_bends : PySem.W.keepIn K (.ref f_bends) = true)
    (a_form : PySem.W.nsIn K mainGlobals "_form" = some (some (.ref f_form)))
    (l_form : K.lookup f_form = some ⟨oc_19, od_19, .func (PySem.W.fnOf "_form" "_form" (defArgs s_form) (defBody s_form) (defScope s_form) .none kV_19 dc_19 pm_19 an_19 cd_19 ct_19), sl_19⟩)
    (k1_form : PySem.W.codeIn K cd_19 "_form" = true)
    (k2_form : PySem.W.keepIn K (.ref f_form) = true)
    (a_Curve_init_ : PySem.W.findIn K (.ref c_Curve) "__init__" = some (some (.ref f_Curve_init_)))
    (i_Curve_init_ : PySem.W.isFn K (.ref f_Curve_init_) = true)
    (l_Curve_init_ : K.lookup f_Curve_init_ = some ⟨oc_20, od_20, .func (PySem.W.fnOf "__init__" "Curve.__init__" (defArgs s_Curve_init_) (defBody s_Curve_init_) (defScope s_Curve_init_) .none kV_20 dc_20 pm_20 an_20 cd_20 ct_20), sl_20⟩)
    (k1_Curve_init_ : PySem.W.codeIn K cd_20 "Curve.__init__" = true)
    (k2_Curve_init_ : PySem.W.keepIn K (.ref f_Curve_init_) = true)
    (a_Curvepoints : PySem.W.findIn K (.ref c_Curve) "points" = some (some (.ref f_Curvepoints)))
    (i_Curvepoints : PySem.W.isFn K (.ref f_Curvepoints) = true)
    (l_Curvepoints : K.lookup f_Curvepoints = some ⟨oc_21, od_21, .func (PySem.W.fnOf "points" "Curve.points" (defArgs s_Curvepoints) (defBody s_Curvepoints) (defScope s_Curvepoints) .none kV_21 dc_21 pm_21 an_21 cd_21 ct_21), sl_21⟩)
    (k1_Curvepoints : PySem.W.codeIn K cd_21 "Curve.points" = true)
    (k2_Curvepoints : PySem.W.keepIn K (.ref f_Curvepoints) = true)
    (a_Curvecorners : PySem.W.findIn K (.ref c_Curve) "corners" = some (some (.ref f_Curvecorners)))
    (i_Curvecorners : PySem.W.isFn K (.ref f_Curvecorners) = true)
    (l_Curvecorners : K.lookup f_Curvecorners = some ⟨oc_22, od_22, .func (PySem.W.fnOf "corners" "Curve.corners" (defArgs s_Curvecorners) (defBody s_Curvecorners) (defScope s_Curvecorners) .none kV_22 dc_22 pm_22 an_22 cd_22 ct_22), sl_22⟩)
    (k1_Curvecorners : PySem.W.codeIn K cd_22 "Curve.corners" = true)
    (k2_Curvecorners : PySem.W.keepIn K (.ref f_Curvecorners) = true)
    (pa_Curveis_straight : PySem.W.findIn K (.ref c_Curve) "is_straight" = some (some (.ref p_straight)))
    (pg_Curveis_straight : PySem.W.specialIn K (.ref p_straight) "__get__" = some (some (.builtin "property.__get__")))
    (pt_Curveis_straight : PySem.W.takesIn K (.ref p_straight) = some true)
    (pr_Curveis_straight : PySem.W.recIn K p_straight "property" = some (.ref f_Curveis_straight :: rest_23))
    (l_Curveis_straight : K.lookup f_Curveis_straight = some ⟨oc_23, od_23, .func (PySem.W.fnOf "is_straight" "Curve.is_straight" (defArgs s_Curveis_straight) (defBody s_Curveis_straight) (defScope s_Curveis_straight) .none kV_23 dc_23 pm_23 an_23 cd_23 ct_23), sl_23⟩)
    (k1_Curveis_straight : PySem.W.codeIn K cd_23 "Curve.is_straight" = true)
    (k2_Curveis_straight : PySem.W.keepIn K (.ref f_Curveis_straight) = true)
    (pa_Curveconductance : PySem.W.findIn K (.ref c_Curve) "conductance" = some (some (.ref p_cond)))
    (pg_Curveconductance : PySem.W.specialIn K (.ref p_cond) "__get__" = some (some (.builtin "property.__get__")))
    (pt_Curveconductance : PySem.W.takesIn K (.ref p_cond) = some true)
    (pr_Curveconductance : PySem.W.recIn K p_cond "property" = some (.ref f_Curveconductance :: rest_24))
    (l_Curveconductance : K.lookup f_Curveconductance = some ⟨oc_24, od_24, .func (PySem.W.fnOf "conductance" "Curve.conductance" (defArgs s_Curveconductance) (defBody s_Curveconductance) (defScope s_Curveconductance) .none kV_24 dc_24 pm_24 an_24 cd_24 ct_24), sl_24⟩)
    (k1_Curveconductance : PySem.W.codeIn K cd_24 "Curve.conductance" = true)
    (k2_Curveconductance : PySem.W.keepIn K (.ref f_Curveconductance) = true)
    (a_Curve_eq_ : PySem.W.findIn K (.ref c_Curve) "__eq__" = some (some (.ref f_Curve_eq_)))
    (i_Curve_eq_ : PySem.W.isFn K (.ref f_Curve_eq_) = true)
    (l_Curve_eq_ : K.lookup f_Curve_eq_ = some ⟨oc_25, od_25, .func (PySem.W.fnOf "__eq__" "Curve.__eq__" (defArgs s_Curve_eq_) (defBody s_Curve_eq_) (defScope s_Curve_eq_) .none kV_25 dc_25 pm_25 an_25 cd_25 ct_25), sl_25⟩)
    (k1_Curve_eq_ : PySem.W.codeIn K cd_25 "Curve.__eq__" = true)
    (k2_Curve_eq_ : PySem.W.keepIn K (.ref f_Curve_eq_) = true)
    (a_pot : PySem.W.nsIn K mainGlobals "_law_pot" = some (some (.ref f_pot)))
    (l_pot : K.lookup f_pot = some ⟨oc_26, od_26, .func (PySem.W.fnOf "_law_pot" "_law_pot" (defArgs s_pot) (defBody s_pot) (defScope s_pot) .none kV_26 dc_26 pm_26 an_26 cd_26 ct_26), sl_26⟩)
    (k1_pot : PySem.W.codeIn K cd_26 "_law_pot" = true)
    (k2_pot : PySem.W.keepIn K (.ref f_pot) = true)
    (a_draw : PySem.W.nsIn K mainGlobals "_law_draw" = some (some (.ref f_draw)))
    (l_draw : K.lookup f_draw = some ⟨oc_27, od_27, .func (PySem.W.fnOf "_law_draw" "_law_draw" (defArgs s_draw) (defBody s_draw) (defScope s_draw) .none kV_27 dc_27 pm_27 an_27 cd_27 ct_27), sl_27⟩)
    (k1_draw : PySem.W.codeIn K cd_27 "_law_draw" = true)
    (k2_draw : PySem.W.keepIn K (.ref f_draw) = true)
    (a_low : PySem.W.nsIn K mainGlobals "_law_low" = some (some (.ref f_low)))
    (l_low : K.lookup f_low = some ⟨oc_28, od_28, .func (PySem.W.fnOf "_law_low" "_law_low" (defArgs s_low) (defBody s_low) (defScope s_low) .none kV_28 dc_28 pm_28 an_28 cd_28 ct_28), sl_28⟩)
    (k1_low : PySem.W.codeIn K cd_28 "_law_low" = true)
    (k2_low : PySem.W.keepIn K (.ref f_low) = true)
    (a_plus : PySem.W.nsIn K mainGlobals "_law_plus" = some (some (.ref f_plus)))
    (l_plus : K.lookup f_plus = some ⟨oc_29, od_29, .func (PySem.W.fnOf "_law_plus" "_law_plus" (defArgs s_plus) (defBody s_plus) (defScope s_plus) .none kV_29 dc_29 pm_29 an_29 cd_29 ct_29), sl_29⟩)
    (k1_plus : PySem.W.codeIn K cd_29 "_law_plus" = true)
    (k2_plus : PySem.W.keepIn K (.ref f_plus) = true)
    (a_minus : PySem.W.nsIn K mainGlobals "_law_minus" = some (some (.ref f_minus)))
    (l_minus : K.lookup f_minus = some ⟨oc_30, od_30, .func (PySem.W.fnOf "_law_minus" "_law_minus" (defArgs s_minus) (defBody s_minus) (defScope s_minus) .none kV_30 dc_30 pm_30 an_30 cd_30 ct_30), sl_30⟩)
    (k1_minus : PySem.W.codeIn K cd_30 "_law_minus" = true)
    (k2_minus : PySem.W.keepIn K (.ref f_minus) = true)
    (a_times : PySem.W.nsIn K mainGlobals "_law_times" = some (some (.ref f_times)))
    (l_times : K.lookup f_times = some ⟨oc_31, od_31, .func (PySem.W.fnOf "_law_times" "_law_times" (defArgs s_times) (defBody s_times) (defScope s_times) .none kV_31 dc_31 pm_31 an_31 cd_31 ct_31), sl_31⟩)
    (k1_times : PySem.W.codeIn K cd_31 "_law_times" = true)
    (k2_times : PySem.W.keepIn K (.ref f_times) = true)
    (a_over : PySem.W.nsIn K mainGlobals "_law_over" = some (some (.ref f_over)))
    (l_over : K.lookup f_over = some ⟨oc_32, od_32, .func (PySem.W.fnOf "_law_over" "_law_over" (defArgs s_over) (defBody s_over) (defScope s_over) .none kV_32 dc_32 pm_32 an_32 cd_32 ct_32), sl_32⟩)
    (k1_over : PySem.W.codeIn K cd_32 "_law_over" = true)
    (k2_over : PySem.W.keepIn K (.ref f_over) = true)
    (a_amount : PySem.W.nsIn K mainGlobals "_law_amount" = some (some (.ref f_amount)))
    (l_amount : K.lookup f_amount = some ⟨oc_33, od_33, .func (PySem.W.fnOf "_law_amount" "_law_amount" (defArgs s_amount) (defBody s_amount) (defScope s_amount) .none kV_33 dc_33 pm_33 an_33 cd_33 ct_33), sl_33⟩)
    (k1_amount : PySem.W.codeIn K cd_33 "_law_amount" = true)
    (k2_amount : PySem.W.keepIn K (.ref f_amount) = true)
    (a_read : PySem.W.nsIn K mainGlobals "_law_read" = some (some (.ref f_read)))
    (l_read : K.lookup f_read = some ⟨oc_34, od_34, .func (PySem.W.fnOf "_law_read" "_law_read" (defArgs s_read) (defBody s_read) (defScope s_read) .none kV_34 dc_34 pm_34 an_34 cd_34 ct_34), sl_34⟩)
    (k1_read : PySem.W.codeIn K cd_34 "_law_read" = true)
    (k2_read : PySem.W.keepIn K (.ref f_read) = true)
    (a_step : PySem.W.nsIn K mainGlobals "_law_step" = some (some (.ref f_step)))
    (l_step : K.lookup f_step = some ⟨oc_35, od_35, .func (PySem.W.fnOf "_law_step" "_law_step" (defArgs s_step) (defBody s_step) (defScope s_step) .none kV_35 dc_35 pm_35 an_35 cd_35 ct_35), sl_35⟩)
    (k1_step : PySem.W.codeIn K cd_35 "_law_step" = true)
    (k2_step : PySem.W.keepIn K (.ref f_step) = true)
    (a_points : PySem.W.nsIn K mainGlobals "_law_points" = some (some (.ref f_points)))
    (l_points : K.lookup f_points = some ⟨oc_36, od_36, .func (PySem.W.fnOf "_law_points" "_law_points" (defArgs s_points) (defBody s_points) (defScope s_points) .none kV_36 dc_36 pm_36 an_36 cd_36 ct_36), sl_36⟩)
    (k1_points : PySem.W.codeIn K cd_36 "_law_points" = true)
    (k2_points : PySem.W.keepIn K (.ref f_points) = true)
    (a_slope : PySem.W.nsIn K mainGlobals "_law_slope" = some (some (.ref f_slope)))
    (l_slope : K.lookup f_slope = some ⟨oc_37, od_37, .func (PySem.W.fnOf "_law_slope" "_law_slope" (defArgs s_slope) (defBody s_slope) (defScope s_slope) .none kV_37 dc_37 pm_37 an_37 cd_37 ct_37), sl_37⟩)
    (k1_slope : PySem.W.codeIn K cd_37 "_law_slope" = true)
    (k2_slope : PySem.W.keepIn K (.ref f_slope) = true)
    (a_corners : PySem.W.nsIn K mainGlobals "_law_corners" = some (some (.ref f_corners)))
    (l_corners : K.lookup f_corners = some ⟨oc_38, od_38, .func (PySem.W.fnOf "_law_corners" "_law_corners" (defArgs s_corners) (defBody s_corners) (defScope s_corners) .none kV_38 dc_38 pm_38 an_38 cd_38 ct_38), sl_38⟩)
    (k1_corners : PySem.W.codeIn K cd_38 "_law_corners" = true)
    (k2_corners : PySem.W.keepIn K (.ref f_corners) = true)
    (a_shape : PySem.W.nsIn K mainGlobals "_law_shape" = some (some (.ref f_shape)))
    (l_shape : K.lookup f_shape = some ⟨oc_39, od_39, .func (PySem.W.fnOf "_law_shape" "_law_shape" (defArgs s_shape) (defBody s_shape) (defScope s_shape) .none kV_39 dc_39 pm_39 an_39 cd_39 ct_39), sl_39⟩)
    (k1_shape : PySem.W.codeIn K cd_39 "_law_shape" = true)
    (k2_shape : PySem.W.keepIn K (.ref f_shape) = true)
    (a_passed : PySem.W.nsIn K mainGlobals "_law_passed" = some (some (.ref f_passed)))
    (l_passed : K.lookup f_passed = some ⟨oc_40, od_40, .func (PySem.W.fnOf "_law_passed" "_law_passed" (defArgs s_passed) (defBody s_passed) (defScope s_passed) .none kV_40 dc_40 pm_40 an_40 cd_40 ct_40), sl_40⟩)
    (k1_passed : PySem.W.codeIn K cd_40 "_law_passed" = true)
    (k2_passed : PySem.W.keepIn K (.ref f_passed) = true)
    (a_more : PySem.W.nsIn K mainGlobals "_law_more" = some (some (.ref f_more)))
    (l_more : K.lookup f_more = some ⟨oc_41, od_41, .func (PySem.W.fnOf "_law_more" "_law_more" (defArgs s_more) (defBody s_more) (defScope s_more) .none kV_41 dc_41 pm_41 an_41 cd_41 ct_41), sl_41⟩)
    (k1_more : PySem.W.codeIn K cd_41 "_law_more" = true)
    (k2_more : PySem.W.keepIn K (.ref f_more) = true)
    (a_other : PySem.W.nsIn K mainGlobals "_law_other" = some (some (.ref f_other)))
    (l_other : K.lookup f_other = some ⟨oc_42, od_42, .func (PySem.W.fnOf "_law_other" "_law_other" (defArgs s_other) (defBody s_other) (defScope s_other) .none kV_42 dc_42 pm_42 an_42 cd_42 ct_42), sl_42⟩)
    (k1_other : PySem.W.codeIn K cd_42 "_law_other" = true)
    (k2_other : PySem.W.keepIn K (.ref f_other) = true)
    (a_is : PySem.W.nsIn K mainGlobals "_law_is" = some (some (.ref f_is)))
    (l_is : K.lookup f_is = some ⟨oc_43, od_43, .func (PySem.W.fnOf "_law_is" "_law_is" (defArgs s_is) (defBody s_is) (defScope s_is) .none kV_43 dc_43 pm_43 an_43 cd_43 ct_43), sl_43⟩)
    (k1_is : PySem.W.codeIn K cd_43 "_law_is" = true)
    (k2_is : PySem.W.keepIn K (.ref f_is) = true)
    (a_pair_right : PySem.W.nsIn K mainGlobals "_law_pair_right" = some (some (.ref f_pair_right)))
    (l_pair_right : K.lookup f_pair_right = some ⟨oc_44, od_44, .func (PySem.W.fnOf "_law_pair_right" "_law_pair_right" (defArgs s_pair_right) (defBody s_pair_right) (defScope s_pair_right) .none kV_44 dc_44 pm_44 an_44 cd_44 ct_44), sl_44⟩)
    (k1_pair_right : PySem.W.codeIn K cd_44 "_law_pair_right" = true)
    (k2_pair_right : PySem.W.keepIn K (.ref f_pair_right) = true)
    (a_right : PySem.W.nsIn K mainGlobals "_law_right" = some (some (.ref f_right)))
    (l_right : K.lookup f_right = some ⟨oc_45, od_45, .func (PySem.W.fnOf "_law_right" "_law_right" (defArgs s_right) (defBody s_right) (defScope s_right) .none kV_45 dc_45 pm_45 an_45 cd_45 ct_45), sl_45⟩)
    (k1_right : PySem.W.codeIn K cd_45 "_law_right" = true)
    (k2_right : PySem.W.keepIn K (.ref f_right) = true)
    (a_far_right : PySem.W.nsIn K mainGlobals "_law_far_right" = some (some (.ref f_far_right)))
    (l_far_right : K.lookup f_far_right = some ⟨oc_46, od_46, .func (PySem.W.fnOf "_law_far_right" "_law_far_right" (defArgs s_far_right) (defBody s_far_right) (defScope s_far_right) .none kV_46 dc_46 pm_46 an_46 cd_46 ct_46), sl_46⟩)
    (k1_far_right : PySem.W.codeIn K cd_46 "_law_far_right" = true)
    (k2_far_right : PySem.W.keepIn K (.ref f_far_right) = true)
    (a_law : PySem.W.nsIn K mainGlobals "law" = some (some (.ref f_law)))
    (l_law : K.lookup f_law = some ⟨oc_47, od_47, .func (PySem.W.fnOf "law" "law" (defArgs s_law) (defBody s_law) (defScope s_law) .none kV_47 dc_47 pm_47 an_47 cd_47 ct_47), sl_47⟩)
    (k1_law : PySem.W.codeIn K cd_47 "law" = true)
    (k2_law : PySem.W.keepIn K (.ref f_law) = true)
    (pgA : PySem.W.plainGet K c_Amount Str.empty = true)
    (hdA : PySem.W.hasDictIn K c_Amount = true)
    (poA : PySem.W.plainOver K c_Amount = true)
    (saA : PySem.W.findIn K (.ref c_Amount) "__setattr__" = some (some (.builtin "object.__setattr__")))
    (nTA : PySem.W.findIn K (.ref c_Amount) "_top" = some none)
    (nBA : PySem.W.findIn K (.ref c_Amount) "_bottom" = some none)
    (mkA_ : PySem.W.makesIn K c_Amount = true)
    (kcA : PySem.W.keepIn K (.ref c_Amount) = true)
    (gcd_ : PySem.W.nsIn K mainGlobals "gcd" = some (some (.builtin "math.gcd")))
    (ca_ : PySem.W.findIn K (.ref c_Amount) "__class__" = some (some (.builtin "object.__class__")))
    (cn_ : PySem.W.specialIn K (.builtin "object.__class__") "__get__" = some (some (.builtin "getset_descriptor.__get__")))
    (ct_ : PySem.W.takesIn K (.builtin "object.__class__") = some true)
    (cm_ : PySem.W.mroIn K c_Amount (.type "object") = some true)
    (ic_ : PySem.W.isClsIn K c_Amount = true)
    (it_ : PySem.W.typeIn K (.ref c_Amount) = some (.type "type"))
    (sb_NoneType : PySem.W.subIn K (.type "NoneType") (.ref c_Amount) = some false)
    (sb_bool : PySem.W.subIn K (.type "bool") (.ref c_Amount) = some false)
    (sb_int : PySem.W.subIn K (.type "int") (.ref c_Amount) = some false)
    (sb_str : PySem.W.subIn K (.type "str") (.ref c_Amount) = some false)
    (sb_list : PySem.W.subIn K (.type "list") (.ref c_Amount) = some false)
    (sb_tuple : PySem.W.subIn K (.type "tuple") (.ref c_Amount) = some false)
    (sb_dict : PySem.W.subIn K (.type "dict") (.ref c_Amount) = some false)
    (sf_ : PySem.W.selfFirst K c_Amount = true)
    (s2_ : PySem.W.subIn K (.ref c_Amount) (.type "int") = some false)
    (o1_sub : PySem.W.findIn K (.ref c_Amount) (PySem.dunder (PySem.Operator.info PySem.Operator.Sub).2) = some (some (.ref f_Amount_sub_)))
    (o2_sub : PySem.W.findIn K (.ref c_Amount) (PySem.dunderR (PySem.Operator.info PySem.Operator.Sub).2) = some (some (.ref f_Amount_rsub_)))
    (o3_sub : PySem.W.findIn K (.type "int") (PySem.dunder (PySem.Operator.info PySem.Operator.Sub).2) = some fo_sub)
    (o4_sub : PySem.W.findIn K (.type "int") (PySem.dunderR (PySem.Operator.info PySem.Operator.Sub).2) = some ro_sub)
    (gl_Flow : PySem.W.nsIn K mainGlobals "FLOW" = some (some (.int 0 tkFlow)))
    (gl_Drop : PySem.W.nsIn K mainGlobals "DROP" = some (some (.int 1 tkDrop)))
    (gl_Most : PySem.W.nsIn K mainGlobals "MOST_POINTS" = some (some (.int 80 tkMost)))
    (pgC : PySem.W.plainGet K c_Curve Str.empty = true)
    (hdC : PySem.W.hasDictIn K c_Curve = true)
    (poC : PySem.W.plainOver K c_Curve = true)
    (saC : PySem.W.findIn K (.ref c_Curve) "__setattr__" = some (some (.builtin "object.__setattr__")))
    (nPC : PySem.W.findIn K (.ref c_Curve) "_points" = some none)
    (mkC_ : PySem.W.makesIn K c_Curve = true)
    (kcC : PySem.W.keepIn K (.ref c_Curve) = true)
    (neA_ : PySem.W.findIn K (.ref c_Amount) "__ne__" = some (some (.builtin "object.__ne__")))
    (neC_ : PySem.W.findIn K (.ref c_Curve) "__ne__" = some (some (.builtin "object.__ne__")))
    (caC_ : PySem.W.findIn K (.ref c_Curve) "__class__" = some (some (.builtin "object.__class__")))
    (cmC_ : PySem.W.mroIn K c_Curve (.type "object") = some true)
    (icC_ : PySem.W.isClsIn K c_Curve = true)
    (itC_ : PySem.W.typeIn K (.ref c_Curve) = some (.type "type"))
    (sbC_NoneType : PySem.W.subIn K (.type "NoneType") (.ref c_Curve) = some false)
    (sbC_bool : PySem.W.subIn K (.type "bool") (.ref c_Curve) = some false)
    (sbC_int : PySem.W.subIn K (.type "int") (.ref c_Curve) = some false)
    (sbC_str : PySem.W.subIn K (.type "str") (.ref c_Curve) = some false)
    (sbC_list : PySem.W.subIn K (.type "list") (.ref c_Curve) = some false)
    (sbC_tuple : PySem.W.subIn K (.type "tuple") (.ref c_Curve) = some false)
    (sbC_dict : PySem.W.subIn K (.type "dict") (.ref c_Curve) = some false)
    (sAC_ : PySem.W.subIn K (.ref c_Amount) (.ref c_Curve) = some false)
    (sCC_ : PySem.W.subIn K (.ref c_Curve) (.ref c_Curve) = some true)
    (z_len : PySem.W.nsIn K mainGlobals "len" = some none)
    (z_abs : PySem.W.nsIn K mainGlobals "abs" = some none)
    (z_max : PySem.W.nsIn K mainGlobals "max" = some none)
    (z_min : PySem.W.nsIn K mainGlobals "min" = some none)
    (z_int : PySem.W.nsIn K mainGlobals "int" = some none)
    (z_divmod : PySem.W.nsIn K mainGlobals "divmod" = some none)
    (z_all : PySem.W.nsIn K mainGlobals "all" = some none)
    (z_any : PySem.W.nsIn K mainGlobals "any" = some none)
    (z_repr : PySem.W.nsIn K mainGlobals "repr" = some none)
    (z_isinstance : PySem.W.nsIn K mainGlobals "isinstance" = some none)
    (z_range : PySem.W.nsIn K mainGlobals "range" = some none)
    (z_bool : PySem.W.nsIn K mainGlobals "bool" = some none)
    (z_list : PySem.W.nsIn K mainGlobals "list" = some none)
    (z_tuple : PySem.W.nsIn K mainGlobals "tuple" = some none)
    (z_enumerate : PySem.W.nsIn K mainGlobals "enumerate" = some none)
    (z_zip : PySem.W.nsIn K mainGlobals "zip" = some none) :
    ∃ fd : FuncData, (∀ (s : Shared) (v : Value), BindsTo s fd ⟨[v], []⟩ [("_law_script", v)]) ∧ ∀ base : Heap, K.In base → base.Ns mainGlobals mg → FnG l.prog w K mg base CX0 16 fa fd ["_law_script"] (sp_law K) := by
  have e := (PySem.W.mg_of X G a_law).symm.trans hfa
  cases e
  have T : Txt K mg { f_is_integer := f_is_integer, d_is_integer := PySem.W.fnOf "is_integer" "is_integer" (defArgs s_is_integer) (defBody s_is_integer) (defScope s_is_integer) .none kV_0 dc_0 pm_0 an_0 cd_0 ct_0, f_is_amount := f_is_amount, d_is_amount := PySem.W.fnOf "is_amount" "is_amount" (defArgs s_is_amount) (defBody s_is_amount) (defScope s_is_amount) .none kV_1 dc_1 pm_1 an_1 cd_1 ct_1, f_amount_of := f_amount_of, d_amount_of := PySem.W.fnOf "amount_of" "amount_of" (defArgs s_amount_of) (defBody s_amount_of) (defScope s_amount_of) .none kV_2 dc_2 pm_2 an_2 cd_2 ct_2, f_Amount_init_ := f_Amount_init_, d_Amount_init_ := PySem.W.fnOf "__init__" "Amount.__init__" (defArgs s_Amount_init_) (defBody s_Amount_init_) (defScope s_Amount_init_) (.ref T_3) kV_3 dc_3 pm_3 an_3 cd_3 ct_3, f_Amounttop := f_Amounttop, d_Amounttop := PySem.W.fnOf "top" "Amount.top" (defArgs s_Amounttop) (defBody s_Amounttop) (defScope s_Amounttop) .none kV_4 dc_4 pm_4 an_4 cd_4 ct_4, f_Amountbottom := f_Amountbottom, d_Amountbottom := PySem.W.fnOf "bottom" "Amount.bottom" (defArgs s_Amountbottom) (defBody s_Amountbottom) (defScope s_Amountbottom) .none kV_5 dc_5 pm_5 an_5 cd_5 ct_5, f_Amountsign := f_Amountsign, d_Amountsign := PySem.W.fnOf "sign" "Amount.sign" (defArgs s_Amountsign) (defBody s_Amountsign) (defScope s_Amountsign) .none kV_6 dc_6 pm_6 an_6 cd_6 ct_6, f_Amount_sub_ := f_Amount_sub_, d_Amount_sub_ := PySem.W.fnOf "__sub__" "Amount.__sub__" (defArgs s_Amount_sub_) (defBody s_Amount_sub_) (defScope s_Amount_sub_) .none kV_7 dc_7 pm_7 an_7 cd_7 ct_7, f_Amount_rsub_ := f_Amount_rsub_, d_Amount_rsub_ := PySem.W.fnOf "__rsub__" "Amount.__rsub__" (defArgs s_Amount_rsub_) (defBody s_Amount_rsub_) (defScope s_Amount_rsub_) .none kV_8 dc_8 pm_8 an_8 cd_8 ct_8, f_Amountover := f_Amountover, d_Amountover := PySem.W.fnOf "over" "Amount.over" (defArgs s_Amountover) (defBody s_Amountover) (defScope s_Amountover) .none kV_9 dc_9 pm_9 an_9 cd_9 ct_9, f_Amount_eq_ := f_Amount_eq_, d_Amount_eq_ := PySem.W.fnOf "__eq__" "Amount.__eq__" (defArgs s_Amount_eq_) (defBody s_Amount_eq_) (defScope s_Amount_eq_) .none kV_10 dc_10 pm_10 an_10 cd_10 ct_10, f_Amount_lt_ := f_Amount_lt_, d_Amount_lt_ := PySem.W.fnOf "__lt__" "Amount.__lt__" (defArgs s_Amount_lt_) (defBody s_Amount_lt_) (defScope s_Amount_lt_) .none kV_11 dc_11 pm_11 an_11 cd_11 ct_11, f_is_point := f_is_point, d_is_point := PySem.W.fnOf "_is_point" "_is_point" (defArgs s_is_point) (defBody s_is_point) (defScope s_is_point) .none kV_12 dc_12 pm_12 an_12 cd_12 ct_12, f_is_origin := f_is_origin, d_is_origin := PySem.W.fnOf "_is_origin" "_is_origin" (defArgs s_is_origin) (defBody s_is_origin) (defScope s_is_origin) .none kV_13 dc_13 pm_13 an_13 cd_13 ct_13, f_checked := f_checked, d_checked := PySem.W.fnOf "_checked" "_checked" (defArgs s_checked) (defBody s_checked) (defScope s_checked) .none kV_14 dc_14 pm_14 an_14 cd_14 ct_14, f_rises := f_rises, d_rises := PySem.W.fnOf "_rises" "_rises" (defArgs s_rises) (defBody s_rises) (defScope s_rises) .none kV_15 dc_15 pm_15 an_15 cd_15 ct_15, f_with_origin := f_with_origin, d_with_origin := PySem.W.fnOf "_with_origin" "_with_origin" (defArgs s_with_origin) (defBody s_with_origin) (defScope s_with_origin) .none kV_16 dc_16 pm_16 an_16 cd_16 ct_16, f_drop_for_one := f_drop_for_one, d_drop_for_one := PySem.W.fnOf "_drop_for_one" "_drop_for_one" (defArgs s_drop_for_one) (defBody s_drop_for_one) (defScope s_drop_for_one) .none kV_17 dc_17 pm_17 an_17 cd_17 ct_17, f_bends := f_bends, d_bends := PySem.W.fnOf "_bends" "_bends" (defArgs s_bends) (defBody s_bends) (defScope s_bends) .none kV_18 dc_18 pm_18 an_18 cd_18 ct_18, f_form := f_form, d_form := PySem.W.fnOf "_form" "_form" (defArgs s_form) (defBody s_form) (defScope s_form) .none kV_19 dc_19 pm_19 an_19 cd_19 ct_19, f_Curve_init_ := f_Curve_init_, d_Curve_init_ := PySem.W.fnOf "__init__" "Curve.__init__" (defArgs s_Curve_init_) (defBody s_Curve_init_) (defScope s_Curve_init_) .none kV_20 dc_20 pm_20 an_20 cd_20 ct_20, f_Curvepoints := f_Curvepoints, d_Curvepoints := PySem.W.fnOf "points" "Curve.points" (defArgs s_Curvepoints) (defBody s_Curvepoints) (defScope s_Curvepoints) .none kV_21 dc_21 pm_21 an_21 cd_21 ct_21, f_Curvecorners := f_Curvecorners, d_Curvecorners := PySem.W.fnOf "corners" "Curve.corners" (defArgs s_Curvecorners) (defBody s_Curvecorners) (defScope s_Curvecorners) .none kV_22 dc_22 pm_22 an_22 cd_22 ct_22, f_Curveis_straight := f_Curveis_straight, d_Curveis_straight := PySem.W.fnOf "is_straight" "Curve.is_straight" (defArgs s_Curveis_straight) (defBody s_Curveis_straight) (defScope s_Curveis_straight) .none kV_23 dc_23 pm_23 an_23 cd_23 ct_23, f_Curveconductance := f_Curveconductance, d_Curveconductance := PySem.W.fnOf "conductance" "Curve.conductance" (defArgs s_Curveconductance) (defBody s_Curveconductance) (defScope s_Curveconductance) .none kV_24 dc_24 pm_24 an_24 cd_24 ct_24, f_Curve_eq_ := f_Curve_eq_, d_Curve_eq_ := PySem.W.fnOf "__eq__" "Curve.__eq__" (defArgs s_Curve_eq_) (defBody s_Curve_eq_) (defScope s_Curve_eq_) .none kV_25 dc_25 pm_25 an_25 cd_25 ct_25, f_pot := f_pot, d_pot := PySem.W.fnOf "_law_pot" "_law_pot" (defArgs s_pot) (defBody s_pot) (defScope s_pot) .none kV_26 dc_26 pm_26 an_26 cd_26 ct_26, f_draw := f_draw, d_draw := PySem.W.fnOf "_law_draw" "_law_draw" (defArgs s_draw) (defBody s_draw) (defScope s_draw) .none kV_27 dc_27 pm_27 an_27 cd_27 ct_27, f_low := f_low, d_low := PySem.W.fnOf "_law_low" "_law_low" (defArgs s_low) (defBody s_low) (defScope s_low) .none kV_28 dc_28 pm_28 an_28 cd_28 ct_28, f_plus := f_plus, d_plus := PySem.W.fnOf "_law_plus" "_law_plus" (defArgs s_plus) (defBody s_plus) (defScope s_plus) .none kV_29 dc_29 pm_29 an_29 cd_29 ct_29, f_minus := f_minus, d_minus := PySem.W.fnOf "_law_minus" "_law_minus" (defArgs s_minus) (defBody s_minus) (defScope s_minus) .none kV_30 dc_30 pm_30 an_30 cd_30 ct_30, f_times := f_times, d_times := PySem.W.fnOf "_law_times" "_law_times" (defArgs s_times) (defBody s_times) (defScope s_times) .none kV_31 dc_31 pm_31 an_31 cd_31 ct_31, f_over := f_over, d_over := PySem.W.fnOf "_law_over" "_law_over" (defArgs s_over) (defBody s_over) (defScope s_over) .none kV_32 dc_32 pm_32 an_32 cd_32 ct_32, f_amount := f_amount, d_amount := PySem.W.fnOf "_law_amount" "_law_amount" (defArgs s_amount) (defBody s_amount) (defScope s_amount) .none kV_33 dc_33 pm_33 an_33 cd_33 ct_33, f_read := f_read, d_read := PySem.W.fnOf "_law_read" "_law_read" (defArgs s_read) (defBody s_read) (defScope s_read) .none kV_34 dc_34 pm_34 an_34 cd_34 ct_34, f_step := f_step, d_step := PySem.W.fnOf "_law_step" "_law_step" (defArgs s_step) (defBody s_step) (defScope s_step) .none kV_35 dc_35 pm_35 an_35 cd_35 ct_35, f_points := f_points, d_points := PySem.W.fnOf "_law_points" "_law_points" (defArgs s_points) (defBody s_points) (defScope s_points) .none kV_36 dc_36 pm_36 an_36 cd_36 ct_36, f_slope := f_slope, d_slope := PySem.W.fnOf "_law_slope" "_law_slope" (defArgs s_slope) (defBody s_slope) (defScope s_slope) .none kV_37 dc_37 pm_37 an_37 cd_37 ct_37, f_corners := f_corners, d_corners := PySem.W.fnOf "_law_corners" "_law_corners" (defArgs s_corners) (defBody s_corners) (defScope s_corners) .none kV_38 dc_38 pm_38 an_38 cd_38 ct_38, f_shape := f_shape, d_shape := PySem.W.fnOf "_law_shape" "_law_shape" (defArgs s_shape) (defBody s_shape) (defScope s_shape) .none kV_39 dc_39 pm_39 an_39 cd_39 ct_39, f_passed := f_passed, d_passed := PySem.W.fnOf "_law_passed" "_law_passed" (defArgs s_passed) (defBody s_passed) (defScope s_passed) .none kV_40 dc_40 pm_40 an_40 cd_40 ct_40, f_more := f_more, d_more := PySem.W.fnOf "_law_more" "_law_more" (defArgs s_more) (defBody s_more) (defScope s_more) .none kV_41 dc_41 pm_41 an_41 cd_41 ct_41, f_other := f_other, d_other := PySem.W.fnOf "_law_other" "_law_other" (defArgs s_other) (defBody s_other) (defScope s_other) .none kV_42 dc_42 pm_42 an_42 cd_42 ct_42, f_is := f_is, d_is := PySem.W.fnOf "_law_is" "_law_is" (defArgs s_is) (defBody s_is) (defScope s_is) .none kV_43 dc_43 pm_43 an_43 cd_43 ct_43, f_pair_right := f_pair_right, d_pair_right := PySem.W.fnOf "_law_pair_right" "_law_pair_right" (defArgs s_pair_right) (defBody s_pair_right) (defScope s_pair_right) .none kV_44 dc_44 pm_44 an_44 cd_44 ct_44, f_right := f_right, d_right := PySem.W.fnOf "_law_right" "_law_right" (defArgs s_right) (defBody s_right) (defScope s_right) .none kV_45 dc_45 pm_45 an_45 cd_45 ct_45, f_far_right := f_far_right, d_far_right := PySem.W.fnOf "_law_far_right" "_law_far_right" (defArgs s_far_right) (defBody s_far_right) (defScope s_far_right) .none kV_46 dc_46 pm_46 an_46 cd_46 ct_46, f_law := fa, d_law := PySem.W.fnOf "law" "law" (defArgs s_law) (defBody s_law) (defScope s_law) .none kV_47 dc_47 pm_47 an_47 cd_47 ct_47, c_Amount := c_Amount, c_Curve := c_Curve, p_top := p_top, p_bottom := p_bottom, p_sign := p_sign, p_straight := p_straight, p_cond := p_cond } := {
    F_is_integer := fun_mk (st := s_is_integer) l_is_integer k1_is_integer k2_is_integer,
    m_is_integer := PySem.W.mg_of X G a_is_integer,
    F_is_amount := fun_mk (st := s_is_amount) l_is_amount k1_is_amount k2_is_amount,
    m_is_amount := PySem.W.mg_of X G a_is_amount,
    F_amount_of := fun_mk (st := s_amount_of) l_amount_of k1_amount_of k2_amount_of,
    m_amount_of := PySem.W.mg_of X G a_amount_of,
    F_Amount_init_ := ⟨⟨_, _, _, _, _, _, _, _, _, _, rfl, l_Amount_init_, k1_Amount_init_, .inr ⟨by simp, _, _, _, _, rfl, dl_Amount_init_, do_Amount_init_, dv_Amount_init_⟩, .inl rfl⟩, k2_Amount_init_⟩,
    F_Amounttop := fun_mk (st := s_Amounttop) l_Amounttop k1_Amounttop k2_Amounttop,
    F_Amountbottom := fun_mk (st := s_Amountbottom) l_Amountbottom k1_Amountbottom k2_Amountbottom,
    F_Amountsign := fun_mk (st := s_Amountsign) l_Amountsign k1_Amountsign k2_Amountsign,
    F_Amount_sub_ := fun_mk (st := s_Amount_sub_) l_Amount_sub_ k1_Amount_sub_ k2_Amount_sub_,
    F_Amount_rsub_ := fun_mk (st := s_Amount_rsub_) l_Amount_rsub_ k1_Amount_rsub_ k2_Amount_rsub_,
    F_Amountover := fun_mk (st := s_Amountover) l_Amountover k1_Amountover k2_Amountover,
    F_Amount_eq_ := fun_mk (st := s_Amount_eq_) l_Amount_eq_ k1_Amount_eq_ k2_Amount_eq_,
    F_Amount_lt_ := fun_mk (st := s_Amount_lt_) l_Amount_lt_ k1_Amount_lt_ k2_Amount_lt_,
    F_is_point := fun_mk (st := s_is_point) l_is_point k1_is_point k2_is_point,
    m_is_point := PySem.W.mg_of X G a_is_point,
    F_is_origin := fun_mk (st := s_is_origin) l_is_origin k1_is_origin k2_is_origin,
    m_is_origin := PySem.W.mg_of X G a_is_origin,
    F_checked := fun_mk (st := s_checked) l_checked k1_checked k2_checked,
    m_checked := PySem.W.mg_of X G a_checked,
    F_rises := fun_mk (st := s_rises) l_rises k1_rises k2_rises,
    m_rises := PySem.W.mg_of X G a_rises,
    F_with_origin := fun_mk (st := s_with_origin) l_with_origin k1_with_origin k2_with_origin,
    m_with_origin := PySem.W.mg_of X G a_with_origin,
    F_drop_for_one := fun_mk (st := s_drop_for_one) l_drop_for_one k1_drop_for_one k2_drop_for_one,
    m_drop_for_one := PySem.W.mg_of X G a_drop_for_one,
    F_bends := fun_mk (st := s_bends) l_bends k1_bends k2_bends,
    m_bends := PySem.W.mg_of X G a_bends,
    F_form := fun_mk (st := s_form) l_form k1_form k2_form,
    m_form := PySem.W.mg_of X G a_form,
    F_Curve_init_ := fun_mk (st := s_Curve_init_) l_Curve_init_ k1_Curve_init_ k2_Curve_init_,
    F_Curvepoints := fun_mk (st := s_Curvepoints) l_Curvepoints k1_Curvepoints k2_Curvepoints,
    F_Curvecorners := fun_mk (st := s_Curvecorners) l_Curvecorners k1_Curvecorners k2_Curvecorners,
    F_Curveis_straight := fun_mk (st := s_Curveis_straight) l_Curveis_straight k1_Curveis_straight k2_Curveis_straight,
    F_Curveconductance := fun_mk (st := s_Curveconductance) l_Curveconductance k1_Curveconductance k2_Curveconductance,
    F_Curve_eq_ := fun_mk (st := s_Curve_eq_) l_Curve_eq_ k1_Curve_eq_ k2_Curve_eq_,
    F_pot := fun_mk (st := s_pot) l_pot k1_pot k2_pot,
    m_pot := PySem.W.mg_of X G a_pot,
    F_draw := fun_mk (st := s_draw) l_draw k1_draw k2_draw,
    m_draw := PySem.W.mg_of X G a_draw,
    F_low := fun_mk (st := s_low) l_low k1_low k2_low,
    m_low := PySem.W.mg_of X G a_low,
    F_plus := fun_mk (st := s_plus) l_plus k1_plus k2_plus,
    m_plus := PySem.W.mg_of X G a_plus,
    F_minus := fun_mk (st := s_minus) l_minus k1_minus k2_minus,
    m_minus := PySem.W.mg_of X G a_minus,
    F_times := fun_mk (st := s_times) l_times k1_times k2_times,
    m_times := PySem.W.mg_of X G a_times,
    F_over := fun_mk (st := s_over) l_over k1_over k2_over,
    m_over := PySem.W.mg_of X G a_over,
    F_amount := fun_mk (st := s_amount) l_amount k1_amount k2_amount,
    m_amount := PySem.W.mg_of X G a_amount,
    F_read := fun_mk (st := s_read) l_read k1_read k2_read,
    m_read := PySem.W.mg_of X G a_read,
    F_step := fun_mk (st := s_step) l_step k1_step k2_step,
    m_step := PySem.W.mg_of X G a_step,
    F_points := fun_mk (st := s_points) l_points k1_points k2_points,
    m_points := PySem.W.mg_of X G a_points,
    F_slope := fun_mk (st := s_slope) l_slope k1_slope k2_slope,
    m_slope := PySem.W.mg_of X G a_slope,
    F_corners := fun_mk (st := s_corners) l_corners k1_corners k2_corners,
    m_corners := PySem.W.mg_of X G a_corners,
    F_shape := fun_mk (st := s_shape) l_shape k1_shape k2_shape,
    m_shape := PySem.W.mg_of X G a_shape,
    F_passed := fun_mk (st := s_passed) l_passed k1_passed k2_passed,
    m_passed := PySem.W.mg_of X G a_passed,
    F_more := fun_mk (st := s_more) l_more k1_more k2_more,
    m_more := PySem.W.mg_of X G a_more,
    F_other := fun_mk (st := s_other) l_other k1_other k2_other,
    m_other := PySem.W.mg_of X G a_other,
    F_is := fun_mk (st := s_is) l_is k1_is k2_is,
    m_is := PySem.W.mg_of X G a_is,
    F_pair_right := fun_mk (st := s_pair_right) l_pair_right k1_pair_right k2_pair_right,
    m_pair_right := PySem.W.mg_of X G a_pair_right,
    F_right := fun_mk (st := s_right) l_right k1_right k2_right,
    m_right := PySem.W.mg_of X G a_right,
    F_far_right := fun_mk (st := s_far_right) l_far_right k1_far_right k2_far_right,
    m_far_right := PySem.W.mg_of X G a_far_right,
    F_law := fun_mk (st := s_law) l_law k1_law k2_law,
    m_law := PySem.W.mg_of X G a_law,
    cl := ⟨pgA, hdA, poA, saA⟩,
    nT := nTA,
    nB := nBA,
    mA := PySem.W.mg_of X G aC_Amount,
    mkA := ⟨mkA_, a_Amount_init_, i_Amount_init_, kcA⟩,
    m_gcd := PySem.W.mg_of X G gcd_,
    I := ⟨ca_, cn_, ct_, cm_, (kit_own ic_ it_ sb_NoneType).1, (kit_own ic_ it_ sb_bool).1, (kit_own ic_ it_ sb_int).1, (kit_own ic_ it_ sb_str).1, (kit_own ic_ it_ sb_list).1, (kit_own ic_ it_ sb_tuple).1, (kit_own ic_ it_ sb_dict).1, (kit_own ic_ it_ sb_NoneType).2, (kit_own ic_ it_ sb_bool).2, (kit_own ic_ it_ sb_int).2, (kit_own ic_ it_ sb_str).2, (kit_own ic_ it_ sb_list).2, (kit_own ic_ it_ sb_tuple).2, (kit_own ic_ it_ sb_dict).2⟩,
    p_top := ⟨pa_Amounttop, pg_Amounttop, pt_Amounttop, ⟨_, pr_Amounttop⟩⟩,
    p_bottom := ⟨pa_Amountbottom, pg_Amountbottom, pt_Amountbottom, ⟨_, pr_Amountbottom⟩⟩,
    p_sign := ⟨pa_Amountsign, pg_Amountsign, pt_Amountsign, ⟨_, pr_Amountsign⟩⟩,
    oSub := { first := sf_, at_ := o1_sub, fn := i_Amount_sub_, rat := o2_sub, rfn := i_Amount_rsub_, i1 := ⟨_, o3_sub⟩, i2 := ⟨_, o4_sub⟩, ss1 := sb_int, ss2 := s2_ },
    cLt := ⟨a_Amount_lt_, i_Amount_lt_⟩,
    cEq := ⟨a_Amount_eq_, i_Amount_eq_⟩,
    mOver := ⟨a_Amountover, i_Amountover, k2_Amountover⟩,
    gFlow := ⟨tkFlow, PySem.W.mg_of X G gl_Flow⟩,
    gDrop := ⟨tkDrop, PySem.W.mg_of X G gl_Drop⟩,
    gMost := ⟨tkMost, PySem.W.mg_of X G gl_Most⟩,
    cl2 := ⟨pgC, hdC, poC, saC⟩,
    nP := nPC,
    mC := PySem.W.mg_of X G aC_Curve,
    mkC := ⟨mkC_, a_Curve_init_, i_Curve_init_, kcC⟩,
    mPts := ⟨a_Curvepoints, i_Curvepoints, k2_Curvepoints⟩,
    mCor := ⟨a_Curvecorners, i_Curvecorners, k2_Curvecorners⟩,
    cNe := neA_,
    cNeC := neC_,
    cEqC := ⟨a_Curve_eq_, i_Curve_eq_⟩,
    J := ⟨caC_, cn_, ct_, cmC_, (kit_own icC_ itC_ sbC_NoneType).1, (kit_own icC_ itC_ sbC_bool).1, (kit_own icC_ itC_ sbC_int).1, (kit_own icC_ itC_ sbC_str).1, (kit_own icC_ itC_ sbC_list).1, (kit_own icC_ itC_ sbC_tuple).1, (kit_own icC_ itC_ sbC_dict).1, (kit_own icC_ itC_ sbC_NoneType).2, (kit_own icC_ itC_ sbC_bool).2, (kit_own icC_ itC_ sbC_int).2, (kit_own icC_ itC_ sbC_str).2, (kit_own icC_ itC_ sbC_list).2, (kit_own icC_ itC_ sbC_tuple).2, (kit_own icC_ itC_ sbC_dict).2⟩,
    kAC := (Lb.kit_two icC_ itC_ sAC_ sCC_).1,
    nAC := (Lb.kit_two icC_ itC_ sAC_ sCC_).2,
    p_is_straight := ⟨pa_Curveis_straight, pg_Curveis_straight, pt_Curveis_straight, ⟨_, pr_Curveis_straight⟩⟩,
    p_conductance := ⟨pa_Curveconductance, pg_Curveconductance, pt_Curveconductance, ⟨_, pr_Curveconductance⟩⟩,
    b_len := PySem.W.mg_none_of X G z_len,
    b_abs := PySem.W.mg_none_of X G z_abs,
    b_max := PySem.W.mg_none_of X G z_max,
    b_min := PySem.W.mg_none_of X G z_min,
    b_int := PySem.W.mg_none_of X G z_int,
    b_divmod := PySem.W.mg_none_of X G z_divmod,
    b_all := PySem.W.mg_none_of X G z_all,
    b_any := PySem.W.mg_none_of X G z_any,
    b_repr := PySem.W.mg_none_of X G z_repr,
    b_isinstance := PySem.W.mg_none_of X G z_isinstance,
    b_range := PySem.W.mg_none_of X G z_range,
    b_bool := PySem.W.mg_none_of X G z_bool,
    b_list := PySem.W.mg_none_of X G z_list,
    b_tuple := PySem.W.mg_none_of X G z_tuple,
    b_enumerate := PySem.W.mg_none_of X G z_enumerate,
    b_zip := PySem.W.mg_none_of X G z_zip }
  exact ⟨_, fun s v => (BindsTo.of_eq rfl : BindsTo s (PySem.W.fnOf "law" "law" (defArgs s_law) (defBody s_law) (defScope s_law) .none kV_47 dc_47 pm_47 an_47 cd_47 ct_47) ⟨[v], []⟩ [("_law_script", v)]), fun base _ _ => ok_law T⟩
theorem walk {l : PySem.W.OpenLaw} {q : Program} {loose : List Str} {XP : (Str → Option Value) → Heap → Prop} {YP : World → Heap → Prop} {d : DefRec} {K : Params → PySem.W.Frag} (hn : l.most = some 63) (hdf : d.params.defaults = [])
    (hY : ∀ (w : World) (h : Heap), YP w h → (K w.params).In h)
    (F : ∀ (w : World) (mg : Str → Option Value) (fa : Addr) (h : Heap), (K w.params).In h → h.Ns mainGlobals mg → mg d.name = some (.ref fa) →
      ∃ fd : FuncData, (∀ (s : Shared) (u : Value), BindsTo s fd ⟨[u], []⟩ [("_law_script", u)]) ∧ ∀ base : Heap, (K w.params).In base → base.Ns mainGlobals mg → FnG l.prog w (K w.params) mg base CX0 16 fa fd ["_law_script"] (sp_law (K w.params))) :
    PySem.W.WalkO q loose XP YP l.row.toRowW d [] (fun f vs => PySem.call f vs) :=
  walkG (n := 63) (k := 16) (x := "_law_script") (sp := fun K => sp_law K) hn (by decide) hdf ⟨rfl, by decide, by decide⟩ hY F (fun K H a ns hl _ hS => ⟨a, ns, rfl, hS, hl, fun _ => rfl⟩)
end K16

open PySem PySem.W PyProof.Rows in
set_option maxRecDepth 100000 in
set_option maxHeartbeats 0 in
theorem PySem.Challenge.cw_surepipes_k16_corners_and_equal_curves_holds : PySem.Challenge.rw_surepipes_k16_corners_and_equal_curves.Holds := by
  w_on; o_law; k_head; (case hw => w_witness2)
  k_fill
  refine K16.walk (l := PySem.Challenge.rw_surepipes_k16_corners_and_equal_curves) rfl rfl (fun w h Y => PySem.W.kIn_of Y) ?F
  case F =>
    intro w mg fa h KX G hmg
    refine' K16.all_mk KX G hmg ?aC_Amount ?aC_Curve ?a_is_integer ?l_is_integer ?k1_is_integer ?k2_is_integer ?a_is_amount ?l_is_amount ?k1_is_amount ?k2_is_amount ?a_amount_of ?l_amount_of ?k1_amount_of ?k2_amount_of ?a_Amount_init_ ?i_Amount_init_ ?l_Amount_init_ ?k1_Amount_init_ ?k2_Amount_init_ ?dl_Amount_init_ ?do_Amount_init_ ?dv_Amount_init_ ?pa_Amounttop ?pg_Amounttop ?pt_Amounttop ?pr_Amounttop ?l_Amounttop ?k1_Amounttop ?k2_Amounttop ?pa_Amountbottom ?pg_Amountbottom ?pt_Amountbottom ?pr_Amountbottom ?l_Amountbottom ?k1_Amountbottom ?k2_Amountbottom ?pa_Amountsign ?pg_Amountsign ?pt_Amountsign ?pr_Amountsign ?l_Amountsign ?k1_Amountsign ?k2_Amountsign ?a_Amount_sub_ ?i_Amount_sub_ ?l_Amount_sub_ ?k1_Amount_sub_ ?k2_Amount_sub_ ?a_Amount_rsub_ ?i_Amount_rsub_ ?l_Amount_rsub_ ?k1_Amount_rsub_ ?k2_Amount_rsub_ ?a_Amountover ?i_Amountover ?l_Amountover ?k1_Amountover ?k2_Amountover ?a_Amount_eq_ ?i_Amount_eq_ ?l_Amount_eq_ ?k1_Amount_eq_ ?k2_Amount_eq_ ?a_Amount_lt_ ?i_Amount_lt_ ?l_Amount_lt_ ?k1_Amount_lt_ ?k2_Amount_lt_ ?a_is_point ?l_is_point ?k1_is_point ?k2_is_point ?a_is_origin ?l_is_origin ?k1_is_origin ?k2_is_origin ?a_checked ?l_checked ?k1_checked ?k2_checked ?a_rises ?l_rises ?k1_rises ?k2_rises ?a_with_origin ?l_with_origin ?k1_with_origin ?k2_with_origin ?a_drop_for_one ?l_drop_for_one ?k1_drop_for_one ?k2_drop_for_one ?a_bends ?l_bends ?k1_bends ?k2_bends ?a_form ?l_form ?k1_form ?k2_form ?a_Curve_init_ ?i_Curve_init_ ?l_Curve_init_ ?k1_Curve_init_ ?k2_Curve_init_ ?a_Curvepoints ?i_Curvepoints ?l_Curvepoints ?k1_Curvepoints ?k2_Curvepoints ?a_Curvecorners ?i_Curvecorners ?l_Curvecorners ?k1_Curvecorners ?k2_Curvecorners ?pa_Curveis_straight ?pg_Curveis_straight ?pt_Curveis_straight ?pr_Curveis_straight ?l_Curveis_straight ?k1_Curveis_straight ?k2_Curveis_straight ?pa_Curveconductance ?pg_Curveconductance ?pt_Curveconductance ?pr_Curveconductance ?l_Curveconductance ?k1_Curveconductance ?k2_Curveconductance ?a_Curve_eq_ ?i_Curve_eq_ ?l_Curve_eq_ ?k1_Curve_eq_ ?k2_Curve_eq_ ?a_pot ?l_pot ?k1_pot ?k2_pot ?a_draw ?l_draw ?k1_draw ?k2_draw ?a_low ?l_low ?k1_low ?k2_low ?a_plus ?l_plus ?k1_plus ?k2_plus ?a_minus ?l_minus ?k1_minus ?k2_minus ?a_times ?l_times ?k1_times ?k2_times ?a_over ?l_over ?k1_over ?k2_over ?a_amount ?l_amount ?k1_amount ?k2_amount ?a_read ?l_read ?k1_read ?k2_read ?a_step ?l_step ?k1_step ?k2_step ?a_points ?l_points ?k1_points ?k2_points ?a_slope ?l_slope ?k1_slope ?k2_slope ?a_corners ?l_corners ?k1_corners ?k2_corners ?a_shape ?l_shape ?k1_shape ?k2_shape ?a_passed ?l_passed ?k1_passed ?k2_passed ?a_more ?l_more ?k1_more ?k2_more ?a_other ?l_other ?k1_other ?k2_other ?a_is ?l_is ?k1_is ?k2_is ?a_pair_right ?l_pair_right ?k1_pair_right ?k2_pair_right ?a_right ?l_right ?k1_right ?k2_right ?a_far_right ?l_far_right ?k1_far_right ?k2_far_right ?a_law ?l_law ?k1_law ?k2_law ?pgA ?hdA ?poA ?saA ?nTA ?nBA ?mkA_ ?kcA ?gcd_ ?ca_ ?cn_ ?ct_ ?cm_ ?ic_ ?it_ ?sb_NoneType ?sb_bool ?sb_int ?sb_str ?sb_list ?sb_tuple ?sb_dict ?sf_ ?s2_ ?o1_sub ?o2_sub ?o3_sub ?o4_sub ?gl_Flow ?gl_Drop ?gl_Most ?pgC ?hdC ?poC ?saC ?nPC ?mkC_ ?kcC ?neA_ ?neC_ ?caC_ ?cmC_ ?icC_ ?itC_ ?sbC_NoneType ?sbC_bool ?sbC_int ?sbC_str ?sbC_list ?sbC_tuple ?sbC_dict ?sAC_ ?sCC_ ?z_len ?z_abs ?z_max ?z_min ?z_int ?z_divmod ?z_all ?z_any ?z_repr ?z_isinstance ?z_range ?z_bool ?z_list ?z_tuple ?z_enumerate ?z_zip
    (case aC_Amount => k_is)
    (case aC_Curve => k_is)
    (case a_is_integer => k_is)
    (case l_is_integer => k_is)
    (case k1_is_integer => k_is)
    (case k2_is_integer => k_is)
    (case a_is_amount => k_is)
    (case l_is_amount => k_is)
    (case k1_is_amount => k_is)
    (case k2_is_amount => k_is)
    (case a_amount_of => k_is)
    (case l_amount_of => k_is)
    (case k1_amount_of => k_is)
    (case k2_amount_of => k_is)
    (case a_Amount_init_ => k_is)
    (case i_Amount_init_ => k_is)
    (case l_Amount_init_ => k_is)
    (case k1_Amount_init_ => k_is)
    (case k2_Amount_init_ => k_is)
    (case dl_Amount_init_ => k_is)
    (case do_Amount_init_ => rfl)
    (case dv_Amount_init_ => exact .cons ⟨_, rfl⟩ .nil)
    (case pa_Amounttop => k_is)
    (case pg_Amounttop => k_is)
    (case pt_Amounttop => k_is)
    (case pr_Amounttop => k_is)
    (case l_Amounttop => k_is)
    (case k1_Amounttop => k_is)
    (case k2_Amounttop => k_is)
    (case pa_Amountbottom => k_is)
    (case pg_Amountbottom => k_is)
    (case pt_Amountbottom => k_is)
    (case pr_Amountbottom => k_is)
    (case l_Amountbottom => k_is)
    (case k1_Amountbottom => k_is)
    (case k2_Amountbottom => k_is)
    (case pa_Amountsign => k_is)
    (case pg_Amountsign => k_is)
    (case pt_Amountsign => k_is)
    (case pr_Amountsign => k_is)
    (case l_Amountsign => k_is)
    (case k1_Amountsign => k_is)
    (case k2_Amountsign => k_is)
    (case a_Amount_sub_ => k_is)
    (case i_Amount_sub_ => k_is)
    (case l_Amount_sub_ => k_is)
    (case k1_Amount_sub_ => k_is)
    (case k2_Amount_sub_ => k_is)
    (case a_Amount_rsub_ => k_is)
    (case i_Amount_rsub_ => k_is)
    (case l_Amount_rsub_ => k_is)
    (case k1_Amount_rsub_ => k_is)
    (case k2_Amount_rsub_ => k_is)
    (case a_Amountover => k_is)
    (case i_Amountover => k_is)
    (case l_Amountover => k_is)
    (case k1_Amountover => k_is)
    (case k2_Amountover => k_is)
    (case a_Amount_eq_ => k_is)
    (case i_Amount_eq_ => k_is)
    (case l_Amount_eq_ => k_is)
    (case k1_Amount_eq_ => k_is)
    (case k2_Amount_eq_ => k_is)
    (case a_Amount_lt_ => k_is)
    (case i_Amount_lt_ => k_is)
    (case l_Amount_lt_ => k_is)
    (case k1_Amount_lt_ => k_is)
    (case k2_Amount_lt_ => k_is)
    (case a_is_point => k_is)
    (case l_is_point => k_is)
    (case k1_is_point => k_is)
    (case k2_is_point => k_is)
    (case a_is_origin => k_is)
    (case l_is_origin => k_is)
    (case k1_is_origin => k_is)
    (case k2_is_origin => k_is)
    (case a_checked => k_is)
    (case l_checked => k_is)
    (case k1_checked => k_is)
    (case k2_checked => k_is)
    (case a_rises => k_is)
    (case l_rises => k_is)
    (case k1_rises => k_is)
    (case k2_rises => k_is)
    (case a_with_origin => k_is)
    (case l_with_origin => k_is)
    (case k1_with_origin => k_is)
    (case k2_with_origin => k_is)
    (case a_drop_for_one => k_is)
    (case l_drop_for_one => k_is)
    (case k1_drop_for_one => k_is)
    (case k2_drop_for_one => k_is)
    (case a_bends => k_is)
    (case l_bends => k_is)
    (case k1_bends => k_is)
    (case k2_bends => k_is)
    (case a_form => k_is)
    (case l_form => k_is)
    (case k1_form => k_is)
    (case k2_form => k_is)
    (case a_Curve_init_ => k_is)
    (case i_Curve_init_ => k_is)
    (case l_Curve_init_ => k_is)
    (case k1_Curve_init_ => k_is)
    (case k2_Curve_init_ => k_is)
    (case a_Curvepoints => k_is)
    (case i_Curvepoints => k_is)
    (case l_Curvepoints => k_is)
    (case k1_Curvepoints => k_is)
    (case k2_Curvepoints => k_is)
    (case a_Curvecorners => k_is)
    (case i_Curvecorners => k_is)
    (case l_Curvecorners => k_is)
    (case k1_Curvecorners => k_is)
    (case k2_Curvecorners => k_is)
    (case pa_Curveis_straight => k_is)
    (case pg_Curveis_straight => k_is)
    (case pt_Curveis_straight => k_is)
    (case pr_Curveis_straight => k_is)
    (case l_Curveis_straight => k_is)
    (case k1_Curveis_straight => k_is)
    (case k2_Curveis_straight => k_is)
    (case pa_Curveconductance => k_is)
    (case pg_Curveconductance => k_is)
    (case pt_Curveconductance => k_is)
    (case pr_Curveconductance => k_is)
    (case l_Curveconductance => k_is)
    (case k1_Curveconductance => k_is)
    (case k2_Curveconductance => k_is)
    (case a_Curve_eq_ => k_is)
    (case i_Curve_eq_ => k_is)
    (case l_Curve_eq_ => k_is)
    (case k1_Curve_eq_ => k_is)
    (case k2_Curve_eq_ => k_is)
    (case a_pot => k_is)
    (case l_pot => k_is)
    (case k1_pot => k_is)
    (case k2_pot => k_is)
    (case a_draw => k_is)
    (case l_draw => k_is)
    (case k1_draw => k_is)
    (case k2_draw => k_is)
    (case a_low => k_is)
    (case l_low => k_is)
    (case k1_low => k_is)
    (case k2_low => k_is)
    (case a_plus => k_is)
    (case l_plus => k_is)
    (case k1_plus => k_is)
    (case k2_plus => k_is)
    (case a_minus => k_is)
    (case l_minus => k_is)
    (case k1_minus => k_is)
    (case k2_minus => k_is)
    (case a_times => k_is)
    (case l_times => k_is)
    (case k1_times => k_is)
    (case k2_times => k_is)
    (case a_over => k_is)
    (case l_over => k_is)
    (case k1_over => k_is)
    (case k2_over => k_is)
    (case a_amount => k_is)
    (case l_amount => k_is)
    (case k1_amount => k_is)
    (case k2_amount => k_is)
    (case a_read => k_is)
    (case l_read => k_is)
    (case k1_read => k_is)
    (case k2_read => k_is)
    (case a_step => k_is)
    (case l_step => k_is)
    (case k1_step => k_is)
    (case k2_step => k_is)
    (case a_points => k_is)
    (case l_points => k_is)
    (case k1_points => k_is)
    (case k2_points => k_is)
    (case a_slope => k_is)
    (case l_slope => k_is)
    (case k1_slope => k_is)
    (case k2_slope => k_is)
    (case a_corners => k_is)
    (case l_corners => k_is)
    (case k1_corners => k_is)
    (case k2_corners => k_is)
    (case a_shape => k_is)
    (case l_shape => k_is)
    (case k1_shape => k_is)
    (case k2_shape => k_is)
    (case a_passed => k_is)
    (case l_passed => k_is)
    (case k1_passed => k_is)
    (case k2_passed => k_is)
    (case a_more => k_is)
    (case l_more => k_is)
    (case k1_more => k_is)
    (case k2_more => k_is)
    (case a_other => k_is)
    (case l_other => k_is)
    (case k1_other => k_is)
    (case k2_other => k_is)
    (case a_is => k_is)
    (case l_is => k_is)
    (case k1_is => k_is)
    (case k2_is => k_is)
    (case a_pair_right => k_is)
    (case l_pair_right => k_is)
    (case k1_pair_right => k_is)
    (case k2_pair_right => k_is)
    (case a_right => k_is)
    (case l_right => k_is)
    (case k1_right => k_is)
    (case k2_right => k_is)
    (case a_far_right => k_is)
    (case l_far_right => k_is)
    (case k1_far_right => k_is)
    (case k2_far_right => k_is)
    (case a_law => k_is)
    (case l_law => k_is)
    (case k1_law => k_is)
    (case k2_law => k_is)
    (case pgA => k_is)
    (case hdA => k_is)
    (case poA => k_is)
    (case saA => k_is)
    (case nTA => k_is)
    (case nBA => k_is)
    (case mkA_ => k_is)
    (case kcA => k_is)
    (case gcd_ => k_is)
    (case ca_ => k_is)
    (case cn_ => k_is)
    (case ct_ => k_is)
    (case cm_ => k_is)
    (case ic_ => k_is)
    (case it_ => k_is)
    (case sb_NoneType => k_is)
    (case sb_bool => k_is)
    (case sb_int => k_is)
    (case sb_str => k_is)
    (case sb_list => k_is)
    (case sb_tuple => k_is)
    (case sb_dict => k_is)
    (case sf_ => k_is)
    (case s2_ => k_is)
    (case o1_sub => k_is)
    (case o2_sub => k_is)
    (case o3_sub => k_is)
    (case o4_sub => k_is)
    (case gl_Flow => k_is)
    (case gl_Drop => k_is)
    (case gl_Most => k_is)
    (case pgC => k_is)
    (case hdC => k_is)
    (case poC => k_is)
    (case saC => k_is)
    (case nPC => k_is)
    (case mkC_ => k_is)
    (case kcC => k_is)
    (case neA_ => k_is)
    (case neC_ => k_is)
    (case caC_ => k_is)
    (case cmC_ => k_is)
    (case icC_ => k_is)
    (case itC_ => k_is)
    (case sbC_NoneType => k_is)
    (case sbC_bool => k_is)
    (case sbC_int => k_is)
    (case sbC_str => k_is)
    (case sbC_list => k_is)
    (case sbC_tuple => k_is)
    (case sbC_dict => k_is)
    (case sAC_ => k_is)
    (case sCC_ => k_is)
    (case z_len => k_is)
    (case z_abs => k_is)
    (case z_max => k_is)
    (case z_min => k_is)
    (case z_int => k_is)
    (case z_divmod => k_is)
    (case z_all => k_is)
    (case z_any => k_is)
    (case z_repr => k_is)
    (case z_isinstance => k_is)
    (case z_range => k_is)
    (case z_bool => k_is)
    (case z_list => k_is)
    (case z_tuple => k_is)
    (case z_enumerate => k_is)
    (case z_zip => k_is)
#print axioms PySem.Challenge.cw_surepipes_k16_corners_and_equal_curves_holds

