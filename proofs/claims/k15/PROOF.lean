import PyProof.Rows.All
import Wide.All
import OpenK.AllK
import Wide.FinOn
import HandS.ForMost
import HandS.OwnEq
import HandS.SlotsOwn
import HandS.Property
import HandS.Gcd
import HandS.WideBits
import HandS.Style
import HandS.FStr
import HandS.IsInst
import HandS.RaiseMore
import HandS.Codes
import HandS.Defaults
import KE.RegKCallOwn
import PyProof.ReprRoads
import HandS.ClsMeth
import HandS.Star
import HandS.MakeKwOnly
import HandS.MakeKw
import HandS.StrMore
import KE.GoesMore
import KE.GoesEnum
import HandS.Walk
import PySem.Challenge.RW_surepipes_k15_whole_curves_at_flows_and
set_option Elab.async false
set_option linter.all false
set_option maxRecDepth 100000
set_option maxHeartbeats 4000000
namespace Lb
open PySem PySem.Spec PyProof.Rows L2
open SlX (cmpback)

/-! own operators of plain instances -/
section
variable {X : Cx} {CX : CXT} {pins : List (Addr × Obj)} {σ : L2.St} {H : Hp} {s : Shared} {a C dx p g : Addr} {f : Str} {n : Nat} {sp : Sp} {E : XK} {v : V} {u : Value}

/-- what a comparison sees as the type of a value -/
theorem looks_ty {x : V} {u t : Value} (I : Inv X pins σ H s) (rx : RelV x u) (ty : TyOf X.K H x t) : PySem.W.Looks (model X.prog X.w) s.heap (typeOf u) t := by
  obtain ⟨P, k, hp, _⟩ := kit_of I rx (.base ty)
  exact k.ty _ _ I.kIn hp

/-- the instance as the library takes it -/
theorem inst_at {fs : List (Str × V)} (I : Inv X pins σ H s) (e : H a = some (.ins C dx fs)) : ∃ od, PySem.W.InstAt s.heap a (PySem.W.instObj C dx) C (some od) := by
  obtain ⟨mA, O, _⟩ := ins_get I.hok e
  obtain ⟨od, J, _⟩ := O.look
  exact ⟨od, J⟩

/-- x OP y by the def of the class of x for OP -/
def rOwnOp (K : PySem.W.Frag) (C : Addr) (sp : Sp) (E : XK) : R2 := fun x y H Q =>
  ∃ a dx fs t, x = .ref a ∧ H a = some (.ins C dx fs) ∧ TyOf K H y t ∧ PySem.W.notFirst K C t = true ∧ sp [x, y] H Q E
theorem op_ownCmp {K : PySem.W.Frag} {op : CmpOp} (hK : X.K = K) (hop : ∀ a b, compareOp op a b = richCompare op a b)
    (hs : PySem.W.findIn K (.ref C) (cmpInfo op).2.1 = some (some (.ref g))) (hf : PySem.W.isFn K (.ref g) = true)
    (F : FnR X.prog X.w X.K X.mg X.base CX n g sp) (hr : Room n X.A) (hx : Passes CX X E) : OpR X (compareOp op) (rOwnOp K C sp E) := by
  subst hK
  intro pins s σ H x y v u Q I rx ry h
  obtain ⟨a, dx, fs, t, rfl, ha, ty, hn, q⟩ := h
  cases (show v = Value.ref a from rx)
  obtain ⟨od, J⟩ := inst_at I ha
  obtain ⟨m, hF⟩ := I.fr
  rw [hop]
  refine PySem.W.cmp_K (op := op) (tb := t) hr.units0 hF I.ok.mod.kin J (looks_ty I ry ty) hn hs hf ?_
  refine wpAny_mono (wpAny_call (SlX.run_at (us := [.ref a, u]) (ws := [.ref a, y]) F hr I.env0 hx I (.cons rfl (.cons ry .nil)) q)) (fun w s' z => ?_) fun _ _ x => x
  obtain ⟨z', H', I', rz, qz⟩ := z
  exact cmpback rz ⟨z', H', I', rz, qz⟩

/-- x != y where the class of x has __eq__ alone: its answer turned -/
theorem ne_try {K : PySem.W.Frag} {prog : Program} {w : World} {A : Around} {EE : Value → Shared → Prop} {s : Shared} {x C f : Addr} {ox : Obj} {od : Option Obj} {b : Value} {Q : Option Value → Shared → Prop}
    (hu : A.units + 1 < cLine) (KX : K.In s.heap) (J : PySem.W.InstAt s.heap x ox C od)
    (hne : PySem.W.findIn K (.ref C) "__ne__" = some (some (.builtin "object.__ne__"))) (hm : PySem.W.mroIn K C (.type "object") = some true)
    (he : PySem.W.findIn K (.ref C) "__eq__" = some (some (.ref f))) (hf : PySem.W.isFn K (.ref f) = true)
    (h : wpAny (model prog w) A.in1 (call (.ref f) [.ref x, b]) (fun v s' => ∃ k, v = .bool k ∧ Q (some (.bool (!k))) s') EE s) :
    wpAny (model prog w) A (tryCompare (.ref x) "__ne__" b) Q EE s := by
  have hb := PySem.F.cmp_object.ne.bind
  simp only [tryCompare, callSpecialIfBound?, bindSpecialIfBound?]
  refine wpAny_bind (wpAny_holding (wpAny_bind (wpAny_bind (wpAny_bind (J.type.here ((PySem.W.looks_findIn KX hne).here ?_))))))
  refine wpAny_bind (wpAny_askSetting (wpAny_ite ?_))
  have body : wpAny (model prog w) A (call (.builtin "object.__ne__") ([.ref x] ++ [b])) (fun v s' => ∃ k, v = .bool k ∧ Q (some (.bool k)) s') EE s := by
    refine wpAny_call (codeAny_call_builtin PySem.F.cmp_object.ne.plain PySem.F.cmpEntry_ne
      (PySem.W.check_slot PySem.F.cmpKind_ne PySem.F.cmpSplit_ne (J.type.andThen (PySem.W.looks_mroIn KX hm)) (PySem.F.cmpArgs_ne _ _) ?_))
    unfold Builtin.«object.__ne__»
    refine wpAny_bind (m := slotArgs "__ne__" 1 _) (wpAny_pure ?_)
    refine wpAny_bind (m := cRoomFor _ _) (wpAny_cRoomFor hu ?_)
    refine wpAny_bind (m := callSpecialIfBound? (.ref x) (Str.ofString "__eq__") [b]) (PySem.W.ifBound_K KX J he hf (wpAny_mono h (fun v s' z => ?_) fun _ _ e => e))
    obtain ⟨k, rfl, q⟩ := z
    refine wpAny_bind (wpAny_truthy_bool ?_)
    exact wpAny_pure ⟨!k, rfl, q⟩
  have fin : wpAny (model prog w) A (call (.builtin "object.__ne__") ([.ref x] ++ [b]) >>= fun v => pure (some v)) (fun r s' => ∃ k, r = some (.bool k) ∧ Q (some (.bool k)) s') EE s :=
    wpAny_bind (wpAny_mono body (fun v s' ⟨k, e, q⟩ => wpAny_pure ⟨k, by rw [e], q⟩) fun _ _ e => e)
  have fin2 : wpAny (model prog w) A (call (.builtin "object.__ne__") ([.ref x] ++ [b]) >>= fun v => pure (some v)) (fun r s' => wpAny (model prog w) A (match r with
      | some .notImplemented | none => pure none
      | some v => pure (some v)) Q EE s') EE s := wpAny_mono fin (fun r s' ⟨k, e, q⟩ => by subst e; exact wpAny_pure q) fun _ _ e => e
  split
  · exact wpAny_bind ((PySem.W.Looks.of_pure (hb _)).here (wpAny_pure (by exact fin2)))
  · exact wpAny_tryCatch (wpAny_bind ((PySem.W.Looks.of_pure (hb _)).here (wpAny_pure (by exact fin2))))

/-- how a promise at a bool is handed back -/
def rOwnNe (K : PySem.W.Frag) (C : Addr) (sp : Sp) (E : XK) : R2 := fun x y H Q =>
  ∃ a dx fs t, x = .ref a ∧ H a = some (.ins C dx fs) ∧ TyOf K H y t ∧ PySem.W.notFirst K C t = true ∧ sp [x, y] H (fun z H' => ∃ k, z = .bl k ∧ Q (.bl (!k)) H') E
theorem op_ownNe {K : PySem.W.Frag} (hK : X.K = K) (hne : PySem.W.findIn K (.ref C) "__ne__" = some (some (.builtin "object.__ne__"))) (hm : PySem.W.mroIn K C (.type "object") = some true)
    (hs : PySem.W.findIn K (.ref C) "__eq__" = some (some (.ref g))) (hf : PySem.W.isFn K (.ref g) = true)
    (F : FnR X.prog X.w X.K X.mg X.base CX n g sp) (hr : Room (n + 1) X.A) (hx : Passes CX X E) : OpR X (compareOp .NotEq) (rOwnNe K C sp E) := by
  subst hK
  intro pins s σ H x y v u Q I rx ry h
  obtain ⟨a, dx, fs, t, rfl, ha, ty, hn, q⟩ := h
  cases (show v = Value.ref a from rx)
  obtain ⟨od, J⟩ := inst_at I ha
  have KX := I.kIn
  have hb := looks_ty I ry ty
  have hu := hr.units
  have body : wpAny (model X.prog X.w) X.A.in1 (call (.ref g) [.ref a, u]) (fun v s' => ∃ k, v = .bool k ∧ EP X pins σ Q (.bool (!k)) s') X.xe s := by
    refine wpAny_mono (wpAny_call (SlX.run_at (us := [.ref a, u]) (ws := [.ref a, y]) F hr.in1 I.env0.in1 hx I (.cons rfl (.cons ry .nil)) q)) (fun w s' z => ?_) fun _ _ x => x
    obtain ⟨z', H', I', rz, k, ez, qz⟩ := z
    subst ez
    exact ⟨k, rz, .bl (!k), H', I', rfl, qz⟩
  have one : wpAny (model X.prog X.w) X.A (tryCompare (.ref a) "__ne__" u) (fun r s' => ∃ v, r = some v ∧ EP X pins σ Q v s') X.xe s :=
    ne_try (by omega) KX J hne hm hs hf (wpAny_mono body (fun v s' ⟨k, e, q⟩ => ⟨k, e, _, rfl, q⟩) fun _ _ e => e)
  show wpAny (model X.prog X.w) X.A (richCompare .NotEq (.ref a) u) (EP X pins σ Q) X.xe s
  unfold richCompare
  simp only [oneThing_ref]
  refine wpAny_holding (wpAny_bind (wpAny_cRoomFor hr.units0 ?_))
  refine wpAny_bind (J.type.here (wpAny_bind (hb.here ?_)))
  split
  · rename_i q'
    have e : PySem.W.subIn X.K t (.ref C) = some false := by
      rcases Bool.or_eq_true_iff.mp hn with e | e
      · rw [beq_iff_eq.mp e] at q'; simp at q'
      · exact beq_iff_eq.mp e
    refine wpAny_bind ((PySem.W.looks_subIn KX e).here ?_)
    simp only [Bool.false_eq_true, if_false]
    refine wpAny_bind (wpAny_mono one (fun r s' z => ?_) fun _ _ e => e)
    obtain ⟨v, rfl, hq⟩ := z
    exact wpAny_pure hq
  · refine wpAny_bind (wpAny_pure ?_)
    simp only [Bool.false_eq_true, if_false]
    refine wpAny_bind (wpAny_mono one (fun r s' z => ?_) fun _ _ e => e)
    obtain ⟨v, rfl, hq⟩ := z
    exact wpAny_pure hq

/-- str(x), x an instance whose class has __str__ -/
def rOwnTx (C : Addr) (sp : Sp) (E : XK) : List V → Hp → VK → Prop := fun xs H Q =>
  ∃ a dx fs, xs = [.ref a] ∧ H a = some (.ins C dx fs) ∧ sp xs H (fun z H' => ∃ y, z = .str y ∧ Q z H') E
theorem call_strOwn (hs : PySem.W.findIn X.K (.ref C) "__str__" = some (some (.ref g))) (hf : PySem.W.isFn X.K (.ref g) = true)
    (F : FnR X.prog X.w X.K X.mg X.base CX n g sp) (hr : Room (n + 2) X.A) (hx : Passes CX X E) : CallR X (.type "str") (rOwnTx C sp E) := by
  intro pins s σ H xs us Q I r h
  obtain ⟨a, dx, fs, rfl, ha, q⟩ := h
  obtain ⟨u, rfl, ru⟩ := vals1 r
  cases (show u = Value.ref a from ru)
  obtain ⟨od, J⟩ := inst_at I ha
  have hu := hr.units
  have hr2 : Room n X.A.in1.in1 := (show Room (n + 1) X.A.in1 from Room.in1 hr).in1
  refine PySem.W.kso_call (by show X.A.units + 1 + 1 < cLine; omega) I.kIn J hs hf ?_
  refine wpAny_mono (wpAny_call (SlX.run_at (us := [.ref a]) (ws := [.ref a]) F hr2 I.env0.in1.in1 hx I (.cons rfl .nil) q)) (fun w s' z => ?_) fun _ _ x => x
  obtain ⟨z', H', I', rz, y, ez, qz⟩ := z
  subst ez
  obtain ⟨t, rfl⟩ := (show ∃ t, w = Value.str y t from rz)
  exact ⟨.str y, H', I', ⟨t, rfl⟩, qz⟩
/-- repr(x), x an instance whose class has __repr__ -/
theorem call_reprOwn (hs : PySem.W.findIn X.K (.ref C) "__repr__" = some (some (.ref g))) (hf : PySem.W.isFn X.K (.ref g) = true)
    (F : FnR X.prog X.w X.K X.mg X.base CX n g sp) (hr : Room (n + 1) X.A) (hx : Passes CX X E) : CallR X (.builtin "repr") (rOwnTx C sp E) := by
  intro pins s σ H xs us Q I r h
  obtain ⟨a, dx, fs, rfl, ha, q⟩ := h
  obtain ⟨u, rfl, ru⟩ := vals1 r
  cases (show u = Value.ref a from ru)
  obtain ⟨od, J⟩ := inst_at I ha
  have hu := hr.units
  refine Calls.call_function_entry PySem.F.kind_repr PySem.F.plain_repr PySem.F.entry_repr (PySem.F.args_repr1 _) ?_
  unfold Builtin.«repr»
  refine wpAny_bind (m := oneArg "repr" _) (wpAny_pure ?_)
  refine wpAny_bind (m := cRoomFor _ _) (wpAny_cRoomFor (by show X.A.units + 1 < cLine; omega) ?_)
  refine wpAny_bind (wpAny_bind (J.type.here ((PySem.W.looks_findIn I.kIn hs).here ?_)))
  refine wpAny_bind (m := callSpecialIfBound? (.ref a) (Str.ofString "__repr__")) (PySem.W.ifBound_K I.kIn J hs hf ?_)
  refine wpAny_mono (wpAny_call (SlX.run_at (us := [.ref a]) (ws := [.ref a]) F hr.in1 I.env0.in1 hx I (.cons rfl .nil) q)) (fun w s' z => ?_) fun _ _ x => x
  obtain ⟨z', H', I', rz, y, ez, qz⟩ := z
  subst ez
  obtain ⟨t, rfl⟩ := (show ∃ t, w = Value.str y t from rz)
  refine wpAny_bind (wpAny_isInstance (T := "str") (b := true) rfl isSubtype_str_str ?_)
  exact wpAny_pure ⟨_, rfl, .str y, H', I', ⟨t, rfl⟩, qz⟩
end
end Lb

set_option Elab.async false
set_option linter.all false
set_option maxRecDepth 100000
set_option maxHeartbeats 4000000
namespace Lb
open PySem PySem.Spec PyProof.Rows L2
open SlX (cmpback)

/-! repr of data: wants that no repr is running -/
mutual
theorem dp_plain {K : PySem.W.Frag} {H : Hp} : ∀ (d : PyData) (v : V), Dp K H v d → d.hasDict = false
  | .none, _, _ => by simp only [PyData.hasDict]
  | .bool _, _, _ => by simp only [PyData.hasDict]
  | .int _, _, _ => by simp only [PyData.hasDict]
  | .str _, _, _ => by simp only [PyData.hasDict]
  | .list ds, _, h => by
    cases h with
    | lst _ q => simp only [PyData.hasDict]; exact dp_plains ds _ q
  | .tuple ds, _, h => by
    cases h with
    | tup _ q => simp only [PyData.hasDict]; exact dp_plains ds _ q
  | .dict _, _, h => by cases h
theorem dp_plains {K : PySem.W.Frag} {H : Hp} : ∀ (ds : List PyData) (vs : List V), DpAll K H vs ds → PyData.hasDictAll ds = false
  | [], _, _ => by simp only [PyData.hasDictAll]
  | d :: ds, _, h => by
    cases h with
    | cons h1 h2 => simp only [PyData.hasDictAll, dp_plain d _ h1, dp_plains ds _ h2, Bool.or_self]
end
section
variable {X : Cx}
def rRepr (K : PySem.W.Frag) : List V → Hp → VK → Prop := fun xs H Q =>
  ∃ x d, xs = [x] ∧ Dp K H x d ∧ d.showable = true ∧ d.shown.length ≤ sizeLine ∧ d.depth ≤ 60 ∧ Q (.str d.shown) H
theorem call_repr {K : PySem.W.Frag} (hK : X.K = K) (hg : X.A.guards = some []) (hu : X.A.units + 64 < cLine) : CallR X (.builtin "repr") (rRepr K) := by
  subst hK
  intro pins s σ H xs us Q I r h
  obtain ⟨x, d, rfl, hd, hs, hz, hdp, q⟩ := h
  obtain ⟨u, rfl, ru⟩ := vals1 r
  have hpl := dp_plain d x hd
  obtain ⟨as, rd⟩ := Dp.reads I d x u hd ru
  cases x with
  | non =>
    cases hd
    cases (show u = Value.none from ru)
    exact PySem.P.repr_of_none ⟨.str _, H, I.tok _, ⟨_, rfl⟩, q⟩
  | bl b =>
    cases hd
    cases (show u = Value.bool b from ru)
    exact PySem.P.repr_of_bool ⟨.str _, H, I.tok _, ⟨_, rfl⟩, q⟩
  | int i =>
    cases hd
    obtain ⟨t, rfl⟩ := (show ∃ t, u = Value.int i t from ru)
    have hi : i.natAbs.log2 < 1920 := of_decide_eq_true (by simpa only [PyData.showable] using hs)
    exact PySem.P.repr_of_int hi ⟨.str _, H, I.tok _, ⟨_, rfl⟩, q⟩
  | str y =>
    cases hd
    obtain ⟨t, rfl⟩ := (show ∃ t, u = Value.str y t from ru)
    exact PySem.P.repr_of_str ⟨.str _, H, I.tok _, ⟨_, rfl⟩, q⟩ hz
  | byt y => cases hd
  | flt y => cases hd
  | ty y => cases hd
  | ref a =>
    cases (show u = Value.ref a from ru)
    refine PySem.repr_of_reads' rd hs (PyData.noDict_hsm hpl) hg (by omega) (fun _ _ e => e) (fun h' w tk k => ?_) hz
    exact ⟨.str _, H, I.kept k, ⟨_, rfl⟩, q⟩

/-! the layer's rules with the written part told apart (within a comprehension the context is another) -/
variable {K : PySem.W.Frag}
theorem ix_listK (hK : X.K = K) : IxR X (rIxL K) := by subst hK; exact ix_list
theorem ix_tupK (hK : X.K = K) : IxR X (rIxT K) := by subst hK; exact ix_tup
theorem sl_listK (hK : X.K = K) : SlR X (rSlL K) := by subst hK; exact sl_list
theorem call_lenK (hK : X.K = K) : CallR X (.builtin "len") (fun xs H Q => ∃ p ys, xs = [.ref p] ∧ (SqL K H p ys ∨ SqT K H p ys) ∧ Q (.int ys.length) H) := by subst hK; exact call_len_seq
theorem call_isiK' (hK : X.K = K) : CallR X (.builtin "isinstance") (rIsi K) := by subst hK; exact call_isi
theorem cr_allK (hK : X.K = K) (hc : X.calm = true) : CallR X (.builtin "all") (rAll K) := by subst hK; exact cr_all hc
theorem cr_anyK (hK : X.K = K) (hc : X.calm = true) : CallR X (.builtin "any") (rAny K) := by subst hK; exact cr_any hc
theorem pe_fldK {e : Expr} {f : Str} {pos : Pos} {ta : TE} (hK : X.K = K) (he : PE X e ta) (hb : attributeBase e f X.env (eval e X.env) = eval e X.env) : PE X (.Attribute e f pos) (tFld K ta f) := by subst hK; exact pe_fld he hb
theorem ps_fldK {o value : Expr} {f : Str} {pos pos' : Pos} {ta tv : TE} (hK : X.K = K) (ha : PE X o ta) (hv : PE X value tv) (hs : swapsWith value (some (.Attribute o f pos')) pos.line X.env = pure false) :
    PS X (.Assign [.Attribute o f pos'] value pos) (sFld K ta tv f) := by subst hK; exact ps_fld ha hv hs
theorem pg_tupK {pos : Pos} {es : List Expr} {k : Nat} {t : TGs} {n : Nat} (hK : X.K = K) (hc : X.calm = true) (h : PGs X es t)
    (hn : (assignEach es X.env).length = n := by rfl) (hst : (assignEach es X.env).findIdx? (·.1) = none := by rfl) : PG X (.Tuple es k pos) (gTup K n t) := by subst hK; exact pg_tup hc h hn hst
theorem pi_listK {tg l : Expr} {tl : TE} (hK : X.K = K) (hl : PE X l tl) : PI X tg l (iList K tl) := by subst hK; exact pi_list hl
end
end Lb

set_option Elab.async false
set_option linter.all false
set_option maxRecDepth 100000
set_option maxHeartbeats 4000000
namespace Lb
open PySem PySem.Spec PyProof.Rows L2

/-! defs that may show data (repr): they are called where no repr runs -/
structure FnG (P : Program) (w : World) (K : PySem.W.Frag) (mg : Str → Option Value) (base : Heap) (CX : CXT)
    (k : Nat) (f : Addr) (fd : FuncData) (ps : List Str) (sp : Sp) : Prop where
  len : ∀ vs H Q E, sp vs H Q E → vs.length = ps.length
  run : ∀ (A : Around) (outer : List Env) (s : Shared) (H : Hp) (args : Args) (us : List Value) (vs : List V) (Q : VK) (E : XK),
    A.guards = some [] → Room k A → Env0 P w K mg base A outer s H → BindsTo s fd args (ps.zip us) → Vals vs us → sp vs H Q E →
    codeAny (model P w) A (.call (.ref f) args) (CR CX outer P w H s Q E) s

section
variable {P : Program} {w : World} {K : PySem.W.Frag} {mg : Str → Option Value} {base : Heap} {CX : CXT} {k j : Nat} {f : Addr} {fd : FuncData} {ps : List Str} {sp : Sp}
theorem FnG.of (F : FnOk P w K mg base CX k f fd ps sp) : FnG P w K mg base CX k f fd ps sp :=
  ⟨F.len, fun A outer s H args us vs Q E _ hr e0 hb r hs => F.run A outer s H args us vs Q E hr e0 hb r hs⟩
theorem FnG.mono (F : FnG P w K mg base CX j f fd ps sp) (h : j ≤ k) : FnG P w K mg base CX k f fd ps sp :=
  ⟨F.len, fun A outer s H args us vs Q E g hr => F.run A outer s H args us vs Q E g (hr.mono h)⟩
/-- the rule for the body of such a def -/
theorem okG {x qual : Str} {st : Stmt} {N : List Str} (F : Fun K x qual st f fd) (S : FnScope N ps (defScope st))
    (len : ∀ vs H Q E, sp vs H Q E → vs.length = ps.length)
    (hbody : ∀ (cdv : Value) (A : Around) (outer : List Env) (s : Shared) (H : Hp) (vs : List V) (Q : VK) (E : XK),
      (A.deeper (envOfC qual (defScope st) s.heap.objs.size f cdv)).guards = some [] →
      Room k (A.deeper (envOfC qual (defScope st) s.heap.objs.size f cdv)) → sp vs H Q E →
      ∃ t, PSs (cxOf CX P w K mg base N qual (defScope st) f cdv A outer s H E).nox (defBody st) t ∧
        t { nx := fun _ H' => Q .non H', rt := Q } (start N vs) H) :
    FnG P w K mg base CX (k + 1) f fd ps sp := by
  obtain ⟨oc, od, kV, doc, pm, an, cdv, ct, osl, rfl, lk, hcd⟩ := F.ex
  refine ⟨len, fun A outer s H args us vs Q E hgu hr e0 hb r hsp => ?_⟩
  have hl := len vs H Q E hsp
  have KX : K.In s.heap := e0.mod.kin.keeps fun b o e => (e0.bs b o e).1
  have lim : s.heap.NoLimit := e0.mod.nolimit.keeps fun b o e => (e0.bs b o e).1
  have hkind : ∀ y ∈ ps.zip us, (defScope st).names.lookup y.1 = some .local ∨
      ((defScope st).names.lookup y.1 = some .cell ∧ ((cellsFrom (s.heap.objs.size + 1) (defScope st).names []).lookup y.1).isSome = true) := by
    rintro ⟨n, v⟩ hy
    rcases S.par n (List.of_mem_zip hy).1 with q | q
    · exact .inl q
    · exact .inr ⟨q, PySem.W.cellsFrom_some _ _ _ (.inl q)⟩
  refine codeAny_call_function hr.depth (KX _ _ lk) rfl S.co S.gen rfl (PySem.W.codeRec_of KX hcd) (hb _ _ _ _ ?_)
  refine wpAny_newFunctionEnv_cells S.kind hkind fun env he s1 y => ?_
  subst he
  refine ⟨lim.keeps y.toInCall.keep, codeAny_func ?_⟩
  have hgd : (A.deeper (envOfC qual (defScope st) s.heap.objs.size f cdv)).guards = some [] := by
    first
      | exact hgu
      | simpa [Around.deeper] using hgu
  obtain ⟨t, ht, hq⟩ := hbody cdv A outer s H vs Q E hgd (hr.deeper _) hsp
  have I := inv_start (CX := CX) (E := E) S hr.hd e0 hl r y
  have fin : ∀ {σ' : L2.St} {H' : Hp} {s' : Shared} {v : V} {u : Value},
      Inv (cxOf CX P w K mg base N qual (defScope st) f cdv A outer s H E) [] σ' H' s' → RelV v u → Q v H' → CE outer P w H s Q u s' :=
    fun {σ' H' s' v u} J rv q => ⟨v, H', J.os, J.bare, J.base, J.hok, rv, q⟩
  refine wpAny_mono (ht.nox.run [] s1 (start N vs) H _ I hq) (fun fl s' hs => ?_) fun _ _ hs => hs
  cases fl with
  | ret u =>
    obtain ⟨v, σ', H', J, rv, q⟩ := hs
    exact fin J rv q
  | next =>
    obtain ⟨σ', H', J, q⟩ := hs
    exact fin (v := V.non) (u := Value.none) J rfl q
  | brk => exact hs.elim fun _ h => h.elim fun _ h => h.2.elim
  | cont => exact hs.elim fun _ h => h.elim fun _ h => h.2.elim
end

section
variable {X : Cx} {CX : CXT} {k : Nat} {f : Addr} {fd : FuncData} {ps : List Str} {sp : Sp} {dvs : List V} {ds : List Value} {E : XK} {x : Str} {p pos : Pos} {e : Expr} {es : List Expr} {t : TA}
theorem run_fnG {pins : List (Addr × Obj)} {σ : L2.St} {H : Hp} {s : Shared} {Q : VK} {us : List Value} {vs : List V} (F : FnG X.prog X.w X.K X.mg X.base CX k f fd ps sp) (gu : X.A.guards = some [])
    (hr : Room k X.A) (hb : Binds X.K fd ps ds) (hd : Vals dvs ds) (hx : Passes CX X E) (I : Inv X pins σ H s) (r : Vals vs us) (h : sp (vs ++ dvs) H Q E) :
    wpAny (model X.prog X.w) X.A (call (.ref f) us) (EP X pins σ Q) X.xe s := by
  have r2 := r.append hd
  have hl : (us ++ ds).length = ps.length := r2.length ▸ F.len _ H Q E h
  have code := F.run X.A X.stack s H ⟨us, []⟩ (us ++ ds) (vs ++ dvs) Q E gu hr I.env0 (hb s us I.kIn hl) r2 h
  refine wpAny_call (codeAny_mono code fun r s' hq => ?_)
  rcases r with er | fl
  · first | exact hx pins σ H s er s' I hq | (cases er <;> first | exact I.after hq | exact hq.elim)
  · first | (cases fl <;> first | exact I.after hq | exact hq.elim) | exact hx pins σ H s fl s' I hq
theorem pe_callG (F : FnG X.prog X.w X.K X.mg X.base CX k f fd ps sp) (gu : X.A.guards = some []) (hr : Room k X.A) (hg : Gl X x) (hm : X.mg x = some (.ref f))
    (hk : PySem.W.keepIn X.K (.ref f) = true) (hb : Binds X.K fd ps ds) (hd : Vals dvs ds) (hx : Passes CX X E) (ha : PA X (e :: es) t)
    (hdb : (x == ("__debug__" : Str)) = false := by decide) (he : starEach (e :: es) X.env = (false, eval e X.env) :: starEach es X.env := by rfl)
    (hpl : (backTo pos (starEach es X.env)).any (·.1) = false := by rfl) : PE X (.Call (.Name x p) (e :: es) [] pos) (tCall sp dvs E t) := by
  refine ⟨fun pins s σ H Q I h => wpAny_Call_Name_kw (ld_glob I hg hm ?_ hdb)⟩
  refine PySem.W.callWith_K (h₀ := X.base) I.ok.mod.kin hk (thn (ha.run pos pins s σ H _ I h) fun us s1 q => ?_) he hpl
  obtain ⟨vs, H1, I1, r, q⟩ := q
  exact ⟨I1.kIn, run_fnG F gu hr hb hd hx I1 r q⟩
theorem pe_call0G (F : FnG X.prog X.w X.K X.mg X.base CX k f fd ps sp) (gu : X.A.guards = some []) (hr : Room k X.A) (hg : Gl X x) (hm : X.mg x = some (.ref f))
    (hk : PySem.W.keepIn X.K (.ref f) = true) (hb : Binds X.K fd ps ds) (hd : Vals dvs ds) (hx : Passes CX X E)
    (hdb : (x == ("__debug__" : Str)) = false := by decide) : PE X (.Call (.Name x p) [] [] pos) (tCall sp dvs E tNil) :=
  ⟨fun pins s σ H Q I h => wpAny_Call_Name_kw (ld_glob I hg hm (PySem.W.callWith_K0 I.kIn hk (run_fnG (us := []) F gu hr hb hd hx I .nil h)) hdb)⟩
end

/-- the law's call: like the layer's own end, for such a def -/
theorem law_callG {P : Program} {w : World} {K : PySem.W.Frag} {mg mb : Str → Option Value} {CX : CXT} {k : Nat} {fa a : Addr} {fd : FuncData} {x : Str} {sp : Sp} {s1 : Shared} {vs : List Value} {ns : List Int}
    (KX : K.In s1.heap) (hns : s1.heap.Ns mainGlobals mg) (hb : s1.heap.Ns builtinsNs mb) (hbb : ∀ x : Str, x ≠ "__name__" → mb x = bootBuiltins x) (hlim : s1.heap.NoLimit) (hg : s1.gens = #[])
    (ha : s1.heap.get? a = some { cls := .type "list", data := .seq vs.toArray }) (hi : IntsAre vs ns) (hl : ns.length ≤ sizeLine) (hr : Room k callerA)
    (F : ∀ base : Heap, K.In base → base.Ns mainGlobals mg → FnG P w K mg base CX k fa fd [x] sp) (hbind : ∀ (s : Shared) (u : Value), BindsTo s fd ⟨[u], []⟩ [(x, u)])
    (hsp : ∀ H : Hp, Only H → SqL K H a (ns.map V.int) → sp [.ref a] H (fun v _ => v = .bl true) fun _ _ _ => False)
    (hCX : ∀ H e s', CX [] H s1 (fun _ _ _ => False) e s' → False) :
    codeAny (model P w) callerA (.call (.ref fa) ⟨[.ref a], []⟩) (fun r s' => r = .ok (.ret (.bool true)) ∧ OldK s1.heap s'.heap ∧ s'.os = s1.os ∧ AllBare s'.gens) s1 := by
  have rv := vals_ints hi
  have core : ∀ H : Hp, Only H → SqL K H a (ns.map V.int) → HOk P w H s1.heap → (∀ b u, H b = some u → b = a) → (∀ u, H a = some u → K.lookup a = none) →
      codeAny (model P w) callerA (.call (.ref fa) ⟨[.ref a], []⟩) (fun r s' => r = .ok (.ret (.bool true)) ∧ OldK s1.heap s'.heap ∧ s'.os = s1.os ∧ AllBare s'.gens) s1 := by
    intro H hO hS hok hA hK
    have free_of : ∀ {b : Addr} {o : Obj}, s1.heap.get? b = some o → (∀ z : Data, o.data = z → ∃ es ep, z = .dict es ep) → H b = none := by
      intro b o e d
      cases q : H b with
      | none => rfl
      | some u =>
        cases hA b u q
        rw [ha] at e
        cases e
        obtain ⟨es, ep, z⟩ := d _ rfl
        cases z
    have nsK : ∀ {b : Addr} {m : Str → Option Value}, s1.heap.Ns b m → (hidT s1.heap H).Ns b m := by
      rintro b m ⟨o, es, ep, e, d, r⟩
      exact ⟨o, es, ep, hidT_get e (free_of e fun z hz => ⟨es, ep, hz ▸ d⟩), d, r⟩
    have hKb : K.In (hidT s1.heap H) := by
      intro b o e
      refine hidT_get (KX b o e) ?_
      cases q : H b with
      | none => rfl
      | some u =>
        cases hA b u q
        rw [hK u q] at e
        cases e
    have hM : Mod K mg (hidT s1.heap H) := by
      obtain ⟨mc, c1, c2⟩ := hlim
      exact ⟨hKb, nsK hns, ⟨mb, nsK hb, hbb⟩, ⟨mc, nsK c1, c2⟩⟩
    have e0 : Env0 P w K mg (hidT s1.heap H) callerA [] s1 H :=
      ⟨rfl, hM, fun b o e => of_hidT e, Nat.le_of_eq (hidT_size _ _), trivial, fun b hb => (List.not_mem_nil hb).elim, hok, .of_eq hg⟩
    have code := (F _ hKb (nsK hns)).run callerA [] s1 H ⟨[.ref a], []⟩ [.ref a] [.ref a] _ _ rfl hr e0 (hbind s1 (.ref a)) (.cons rfl .nil) (hsp H hO hS)
    refine codeAny_mono code fun r s' h => ?_
    cases r with
    | error e => exact (hCX H e s' h).elim
    | ok fl =>
      cases fl with
      | ret u =>
        obtain ⟨v, H', os, bare, un, hok', r', q⟩ := h
        cases (show v = .bl true from q)
        cases (show u = Value.bool true from r')
        refine ⟨rfl, .of_keep fun b o e => ?_, os, bare⟩
        rcases hO b with z | ⟨ob, xs, z⟩
        · exact un.keep b o e z (fun z => List.not_mem_nil z) (fun z => List.not_mem_nil z)
        · obtain ⟨e1, _⟩ := hok b _ z
          obtain ⟨e2, _⟩ := hok' b _ (un.frzs b ob _ z)
          rw [e] at e1
          cases e1
          exact e2
      | next => exact h.elim
      | brk => exact h.elim
      | cont => exact h.elim
  cases hk : K.lookup a with
  | some o =>
    have e := KX a o hk
    rw [ha] at e
    cases e
    refine core (fun _ => none) (fun _ => .inl rfl) (.inr ⟨_, vs.toArray, _, hk, rfl, rfl, rfl, ?_, ?_⟩) (fun b u z => nomatch (show (none : Option HO) = some u from z)) (fun b u z => nomatch (show (none : Option HO) = some u from z)) (fun u z => nomatch (show (none : Option HO) = some u from z))
    · rw [List.size_toArray, hi.length]
      exact hl
    · simpa using rv
  | none =>
    have at_ : ∀ {b : Addr} {u : HO}, (if b = a then some (HO.frz { cls := .type "list", data := .seq vs.toArray } (.lst (ns.map V.int))) else none) = some u →
        b = a ∧ u = HO.frz { cls := .type "list", data := .seq vs.toArray } (.lst (ns.map V.int)) := by
      intro b u e
      by_cases hb : b = a
      · rw [if_pos hb] at e
        exact ⟨hb, (Option.some.inj e).symm⟩
      · rw [if_neg hb] at e
        cases e
    refine core (fun b => if b = a then some (.frz { cls := .type "list", data := .seq vs.toArray } (.lst (ns.map V.int))) else none) (fun b => ?_)
      (.inl (.inr ⟨{ cls := .type "list", data := .seq vs.toArray }, if_pos rfl⟩)) (fun b u e => ?_) (fun b u e => (at_ e).1) (fun _ _ => hk)
    · by_cases hb : b = a
      · exact .inr ⟨_, _, if_pos hb⟩
      · exact .inl (if_neg hb)
    · obtain ⟨rfl, rfl⟩ := at_ e
      exact ⟨ha, by rw [List.length_map]; exact hl, vs, _, rv, ha⟩

theorem walkG {l : PySem.W.OpenLaw} {n k : Nat} {q : Program} {loose : List Str} {XP : (Str → Option Value) → Heap → Prop} {YP : World → Heap → Prop} {d : DefRec} {K : Params → PySem.W.Frag} {sp : PySem.W.Frag → Sp} {x : Str}
    (hn : l.most = some n) (hn2 : n ≤ sizeLine) (hdf : d.params.defaults = []) (hr : Room k callerA)
    (hY : ∀ (w : World) (h : Heap), YP w h → (K w.params).In h)
    (F : ∀ (w : World) (mg : Str → Option Value) (fa : Addr) (h : Heap), (K w.params).In h → h.Ns mainGlobals mg → mg d.name = some (.ref fa) →
      ∃ fd : FuncData, (∀ (s : Shared) (u : Value), BindsTo s fd ⟨[u], []⟩ [(x, u)]) ∧
        ∀ base : Heap, (K w.params).In base → base.Ns mainGlobals mg → FnG l.prog w (K w.params) mg base CX0 k fa fd [x] (sp (K w.params)))
    (hsp : ∀ (K : PySem.W.Frag) (H : Hp) (a : Addr) (ns : List Int), ns.length ≤ n → Only H → SqL K H a (ns.map V.int) → sp K [.ref a] H (fun v _ => v = .bl true) fun _ _ _ => False) :
    PySem.W.WalkO q loose XP YP l.row.toRowW d [] (fun f vs => PySem.call f vs) := by
  refine Att.attach_call hn hdf fun w s0 s1 mg mb fa o pm cd doc a vs ns G Y ho hd hcd hmg hobj hints hlen hg => ?_
  obtain ⟨fd, hb, hF⟩ := F w mg fa _ (hY w _ Y) G.T.g hmg
  exact law_callG (hY w _ Y) G.T.g G.T.b G.T.builtins G.T.nolimit hg hobj hints (Nat.le_trans hlen hn2) hr hF hb (fun H hO hS => hsp _ H a ns hlen hO hS) fun _ _ _ z => z
end Lb

set_option Elab.async false
set_option linter.all false
set_option maxRecDepth 100000
set_option maxHeartbeats 4000000
namespace Lb
open PySem PySem.Spec PyProof.Rows L2

/-! sizes of ints -/
/-- fewer than n bits -/
def Bd (n : Nat) (x : Int) : Prop := x.natAbs < 2 ^ n
theorem Bd.mono {n m : Nat} {x : Int} (h : Bd n x) (k : n ≤ m) : Bd m x := Nat.lt_of_lt_of_le h (Nat.pow_le_pow_right (by decide) k)
theorem Bd.mul {n m : Nat} {x y : Int} (h : Bd n x) (k : Bd m y) : Bd (n + m) (x * y) := by
  unfold Bd at *
  rw [Int.natAbs_mul, Nat.pow_add]
  exact Nat.mul_lt_mul'' h k
theorem Bd.add {n : Nat} {x y : Int} (h : Bd n x) (k : Bd n y) : Bd (n + 1) (x + y) := by
  unfold Bd at *
  have := Int.natAbs_add_le x y
  rw [Nat.pow_succ]
  omega
theorem Bd.neg {n : Nat} {x : Int} (h : Bd n x) : Bd n (-x) := by
  unfold Bd at *
  rw [Int.natAbs_neg]
  exact h
theorem Bd.sub {n : Nat} {x y : Int} (h : Bd n x) (k : Bd n y) : Bd (n + 1) (x - y) := by
  rw [Int.sub_eq_add_neg]
  exact h.add k.neg
theorem Bd.le {n : Nat} {x y : Int} (h : Bd n x) (k : y.natAbs ≤ x.natAbs) : Bd n y := Nat.lt_of_le_of_lt k h
theorem Bd.of {n : Nat} {x : Int} (h : x.natAbs < 2 ^ n) : Bd n x := h
theorem Bd.cm {n m : Nat} {x y : Int} (h : Bd n x) (k : Bd m y) (l : n + m ≤ 134217728) : CMulX x y := mulx_ok h k l
theorem Bd.log {n : Nat} {x : Int} (h : Bd n x) (p : 0 < n) : x.natAbs.log2 < n := PySem.Flt.log2_lt_of p h
theorem Bd.cd {n : Nat} {x y : Int} (h : Bd n y) (p : 0 < y) (l : n ≤ 8999) : CDivW x y := wide_div p (h.mono (Nat.le_succ n)) (Nat.succ_pos n) (by omega)
/-- a divisor of few bits is divided by C itself -/
theorem divp_small {i j : Int} (p : 0 < j) (h : Bd 8000 j) : CDivP i j := by
  refine ⟨p, ?_⟩
  have hj : (j == 0) = false := by simpa using (show j ≠ 0 by omega)
  have hl := h.log (by decide)
  have h1 : (j.natAbs.log2) / 30 + 1 ≤ 300 := by omega
  show (decide ((if j == 0 then 0 else j.natAbs.log2 / 30 + 1) > 300) && _) = false
  rw [hj]
  simp only [Bool.false_eq_true, if_false]
  rw [decide_eq_false (by omega), Bool.false_and]

/-! the pot: two ints, turned by each draw -/
def PotAt (H : Hp) (p : Addr) : Prop := ∃ a b : Int, H p = some (.lst [.int a, .int b]) ∧ 0 ≤ a ∧ 0 ≤ b ∧ b ≤ 2147483629
/-- all but p is kept -/
structure Mov (p : Addr) (H H' : Hp) : Prop where
  keep : ∀ b o, b ≠ p → H b = some o → H' b = some o
  pot : PotAt H' p
theorem Mov.trans {p : Addr} {H H1 H2 : Hp} (a : Mov p H H1) (b : Mov p H1 H2) : Mov p H H2 := ⟨fun c o n e => b.keep c o n (a.keep c o n e), b.pot⟩
theorem Mov.same {p : Addr} {H H1 H2 : Hp} (a : Mov p H H1) (b : Same H1 H2) : Mov p H H2 :=
  ⟨fun c o n e => b _ _ (a.keep c o n e), let ⟨x, y, e, r⟩ := a.pot; ⟨x, y, b _ _ e, r⟩⟩
theorem Same.mov {p : Addr} {H H1 : Hp} (a : Same H H1) (q : PotAt H p) : Mov p H H1 :=
  ⟨fun c o _ e => a _ _ e, let ⟨x, y, e, r⟩ := q; ⟨x, y, a _ _ e, r⟩⟩
theorem Mov.refl {p : Addr} {H : Hp} (q : PotAt H p) : Mov p H H := ⟨fun _ _ _ e => e, q⟩
theorem Mov.tup {p b : Addr} {H H1 : Hp} {xs : List V} (a : Mov p H H1) (q : PotAt H p) (e : H b = some (.tup xs)) : H1 b = some (.tup xs) :=
  a.keep _ _ (let ⟨_, _, e', _⟩ := q; ne_of e e' (fun z => nomatch z)) e
theorem Mov.ins {p b C dx : Addr} {H H1 : Hp} {fs : List (Str × V)} (a : Mov p H H1) (q : PotAt H p) (e : H b = some (.ins C dx fs)) : H1 b = some (.ins C dx fs) :=
  a.keep _ _ (let ⟨_, _, e', _⟩ := q; ne_of e e' (fun z => nomatch z)) e
theorem Mov.free {p b : Addr} {H H1 : Hp} (a : Mov p H H1) (q : PotAt H p) (e : H1 b = none) : H b = none := by
  cases z : H b with
  | none => rfl
  | some o =>
    by_cases hb : b = p
    · subst hb
      obtain ⟨_, _, e', _⟩ := a.pot
      rw [e] at e'
      cases e'
    · rw [a.keep b o hb z] at e
      cases e
theorem Same.upd {H : Hp} {p : Addr} {o : HO} (h : H p = none) : Same H (upd H p o) := fun a u e => by
  rw [upd_ne (ne_of_none e h)]
  exact e
theorem SqL.mov {K : PySem.W.Frag} {p a : Addr} {H H1 : Hp} {xs : List V} (m : Mov p H H1) (n : a ≠ p) (h : SqL K H a xs) : SqL K H1 a xs := by
  rcases h with (h | ⟨o, h⟩) | h
  · exact .inl (.inl (m.keep _ _ n h))
  · exact .inl (.inr ⟨o, m.keep _ _ n h⟩)
  · exact .inr h
theorem SqT.same {K : PySem.W.Frag} {a : Addr} {H H1 : Hp} {xs : List V} (m : Same H H1) (h : SqT K H a xs) : SqT K H1 a xs := by
  rcases h with (h | ⟨o, h⟩) | h
  · exact .inl (.inl (m _ _ h))
  · exact .inl (.inr ⟨o, m _ _ h⟩)
  · exact .inr h
/-- a written list's size -/
theorem sz {n : Nat} (h : Nat.ble n 1000 = true := by rfl) : n ≤ sizeLine :=
  Nat.le_trans (Nat.le_of_ble_eq_true h) (by decide)
theorem szlt {n : Nat} (k : n ≤ 10000) : n < sizeLine := Nat.lt_of_le_of_lt k (by decide)
theorem szle {n : Nat} (k : n ≤ 10000) : n ≤ sizeLine := Nat.le_of_lt (szlt k)
end Lb

set_option Elab.async false
set_option linter.all false
set_option maxRecDepth 100000
set_option maxHeartbeats 4000000
namespace Lb
open PySem PySem.Spec PyProof.Rows L2

/-- // by any divisor but 0, of few bits -/
def CDivX (_ j : Int) : Prop := j ≠ 0 ∧ j.natAbs.log2 < 9000
theorem op_fdivX {X : Cx} : OpR X (binaryOp .FloorDiv) (rI CDivX fun i j => .int (i.fdiv j)) :=
  opI fun i j _ _ _ _ _ hc q => floordiv_int hc.1 q (.inl (PyProof.noPylong_of_log2 hc.2))
theorem Bd.cx {n : Nat} {x y : Int} (h : Bd n y) (p : y ≠ 0) (l : n ≤ 8999) : CDivX x y :=
  ⟨p, Nat.lt_of_lt_of_le ((h.mono (Nat.le_succ n)).log (Nat.succ_pos n)) (by omega)⟩

/-! two lists, item by item -/
theorem Paired.imp {α β : Type} {F G : α → β → Prop} : ∀ {xs : List α} {ys : List β}, Paired F xs ys → (∀ a b, F a b → G a b) → Paired G xs ys
  | _, _, .nil, _ => .nil
  | _, _, .cons r t, f => .cons (f _ _ r) (Paired.imp t f)
theorem Paired.snoc {α β : Type} {F : α → β → Prop} {a : α} {b : β} (h : F a b) : ∀ {xs : List α} {ys : List β}, Paired F xs ys → Paired F (xs ++ [a]) (ys ++ [b])
  | _, _, .nil => .cons h .nil
  | _, _, .cons r t => .cons r (Paired.snoc h t)
theorem Paired.at_ {α β : Type} {F : α → β → Prop} : ∀ {xs : List α} {ys : List β} {i : Nat} {a : α}, Paired F xs ys → xs[i]? = some a → ∃ b, ys[i]? = some b ∧ F a b
  | _, _, i, _, .nil, e => by simp at e
  | _, _, 0, a, .cons r t, e => by simp at e; subst e; exact ⟨_, rfl, r⟩
  | _, _, i + 1, a, .cons r t, e => by
    obtain ⟨b, h1, h2⟩ := Paired.at_ (i := i) (a := a) t (by simpa using e)
    exact ⟨b, by simpa using h1, h2⟩
theorem Paired.at_r {α β : Type} {F : α → β → Prop} : ∀ {xs : List α} {ys : List β} {i : Nat} {b : β}, Paired F xs ys → ys[i]? = some b → ∃ a, xs[i]? = some a ∧ F a b
  | _, _, i, _, .nil, e => by simp at e
  | _, _, 0, a, .cons r t, e => by simp at e; subst e; exact ⟨_, rfl, r⟩
  | _, _, i + 1, a, .cons r t, e => by
    obtain ⟨b, h1, h2⟩ := Paired.at_r (i := i) (b := a) t (by simpa using e)
    exact ⟨b, by simpa using h1, h2⟩
theorem Paired.len {α β : Type} {F : α → β → Prop} : ∀ {xs : List α} {ys : List β}, Paired F xs ys → xs.length = ys.length
  | _, _, .nil => rfl
  | _, _, .cons _ t => congrArg Nat.succ (Paired.len t)
/-- a tuple of two ints -/
def Fr (H : Hp) (q : Addr) (t b : Int) : Prop := H q = some (.tup [.int t, .int b])
abbrev Rows (H : Hp) (as : List Addr) (fr : List (Int × Int)) : Prop := Paired (fun a x => Fr H a x.1 x.2) as fr
theorem Rows.same {H H' : Hp} {as : List Addr} {fr : List (Int × Int)} (r : Rows H as fr) (s : Same H H') : Rows H' as fr := Paired.imp r fun _ _ h => s _ _ h
theorem Rows.mov {p : Addr} {H H' : Hp} {as : List Addr} {fr : List (Int × Int)} (r : Rows H as fr) (m : Mov p H H') (hp : PotAt H p) : Rows H' as fr := Paired.imp r fun _ _ h => m.tup hp h
/-- a test with a known answer -/
theorem iteP {c A B : Prop} [Decidable c] (hc : c) (h : A) : if c then A else B := by rw [if_pos hc]; exact h
theorem iteN {c A B : Prop} [Decidable c] (hc : ¬ c) (h : B) : if c then A else B := by rw [if_neg hc]; exact h
theorem al3 {H H2 : Hp} {p : Addr} {o : HO} (e : upd H p o = H2) (h : H p = none) : Same H H2 ∧ H2 p = some o := by
  subst e
  exact ⟨Lb.Same.upd h, upd_same⟩
theorem Rows.snoc {H : Hp} {as : List Addr} {fr : List (Int × Int)} {q : Addr} {t b : Int} (r : Rows H as fr) (f : H q = some (.tup [.int t, .int b])) : Rows H (as ++ [q]) (fr ++ [(t, b)]) := Paired.snoc (F := fun (a : Addr) (x : Int × Int) => Fr H a x.1 x.2) (b := (t, b)) f r
theorem Rows.nil {H : Hp} : Rows H [] [] := Paired.nil
theorem Mov.ne {p l : Addr} {H H1 : Hp} (m : Mov p H H1) (h : H1 l = none) : l ≠ p := by
  obtain ⟨_, _, e, _⟩ := m.pot
  exact (ne_of_none e h).symm
/-- a list of another length is not the pot -/
theorem PotAt.ne {p l : Addr} {H : Hp} {xs : List V} (m : PotAt H p) (h : H l = some (.lst xs)) (n : xs.length ≠ 2) : l ≠ p := by
  rintro rfl
  obtain ⟨_, _, e, _⟩ := m
  rw [h] at e
  injection e with e
  injection e with e
  rw [e] at n
  exact n rfl
/-- a new object is changed -/
theorem Same.updl {H H2 : Hp} {l : Addr} {o : HO} (s : L2.Same H H2) (hl : H l = none) : L2.Same H (L2.upd H2 l o) := fun b u e => by
  rw [upd_ne (ne_of_none e hl)]
  exact s _ _ e
/-- what isinstance and the comparisons ask of the class at C -/
structure Inst (K : PySem.W.Frag) (C : Addr) : Prop where
  ca : PySem.W.findIn K (.ref C) "__class__" = some (some (.builtin "object.__class__"))
  cn : PySem.W.specialIn K (.builtin "object.__class__") "__get__" = some (some (.builtin "getset_descriptor.__get__"))
  ct : PySem.W.takesIn K (.builtin "object.__class__") = some true
  cm : PySem.W.mroIn K C (.type "object") = some true
  kNone : PySem.W.kitOne K (.type "NoneType") (.ref C) = some false
  kBool : PySem.W.kitOne K (.type "bool") (.ref C) = some false
  kInt : PySem.W.kitOne K (.type "int") (.ref C) = some false
  kStr : PySem.W.kitOne K (.type "str") (.ref C) = some false
  kList : PySem.W.kitOne K (.type "list") (.ref C) = some false
  kTup : PySem.W.kitOne K (.type "tuple") (.ref C) = some false
  kDict : PySem.W.kitOne K (.type "dict") (.ref C) = some false
  nNone : PySem.W.notFirst K C (.type "NoneType") = true
  nBool : PySem.W.notFirst K C (.type "bool") = true
  nInt : PySem.W.notFirst K C (.type "int") = true
  nStr : PySem.W.notFirst K C (.type "str") = true
  nList : PySem.W.notFirst K C (.type "list") = true
  nTup : PySem.W.notFirst K C (.type "tuple") = true
  nDict : PySem.W.notFirst K C (.type "dict") = true
theorem Inst.kSelf {K : PySem.W.Frag} {C : Addr} : PySem.W.kitOne K (.ref C) (.ref C) = some true := by
  unfold PySem.W.kitOne
  rw [if_pos (beq_self_eq_true _)]
theorem Inst.nSelf {K : PySem.W.Frag} {C : Addr} : PySem.W.notFirst K C (.ref C) = true := by
  unfold PySem.W.notFirst
  rw [beq_self_eq_true, Bool.true_or]
theorem Inst.ty {K : PySem.W.Frag} {C x dx : Addr} {H : Hp} {fs : List (Str × V)} (I : Inst K C) (cl : Cls K C) (e : H x = some (.ins C dx fs)) : TyOf K H (.ref x) (.ref C) := .ins e cl I.ca I.cn I.ct I.cm
theorem kit_own {K : PySem.W.Frag} {C : Addr} {T : String} (h1 : PySem.W.isClsIn K C = true) (h2 : PySem.W.typeIn K (.ref C) = some (.type "type")) (h3 : PySem.W.subIn K (.type T) (.ref C) = some false) :
    PySem.W.kitOne K (.type T) (.ref C) = some false ∧ PySem.W.notFirst K C (.type T) = true := by
  have ne : (Value.type T == Value.ref C) = false := Bool.eq_false_iff.mpr fun q => nomatch beq_iff_eq.mp q
  constructor
  · unfold PySem.W.kitOne
    rw [ne, if_neg (by decide)]
    unfold PySem.W.kitCls
    have h1' : (PySem.W.clsIn K C).isSome = true := h1
    dsimp only
    rw [h1', h2]
    rw [if_pos (by simp)]
    exact h3
  · unfold PySem.W.notFirst
    rw [h3]
    simp
/-- a def of the class by its special name -/
structure OwnM (K : PySem.W.Frag) (C : Addr) (x : Str) (f : Addr) : Prop where
  at_ : PySem.W.findIn K (.ref C) x = some (some (.ref f))
  fn : PySem.W.isFn K (.ref f) = true
/-- a value that is plainly no instance of the class at C: how isinstance and the comparisons see it -/
def NotC (K : PySem.W.Frag) (C : Addr) (H : Hp) (y : V) : Prop := ∃ t, TyOf K H y t ∧ PySem.W.kitOne K t (.ref C) = some false ∧ PySem.W.notFirst K C t = true
end Lb

set_option Elab.async false
set_option linter.all false
set_option maxRecDepth 100000
set_option maxHeartbeats 4000000
namespace Lb
open PySem PySem.Spec PyProof.Rows L2

/-! lists of bools, shown -/
theorem dp_bools {K : PySem.W.Frag} {H : Hp} : ∀ bs : List Bool, DpAll K H (bs.map V.bl) (bs.map PyData.bool)
  | [] => .nil
  | b :: r => .cons (.bl b) (dp_bools r)
theorem show_bools : ∀ bs : List Bool, PyData.showableAll (bs.map PyData.bool) = true
  | [] => by simp only [List.map_nil, PyData.showableAll]
  | b :: r => by simp only [List.map_cons, PyData.showableAll, PyData.showable, show_bools r, Bool.and_self]
theorem depth_bools : ∀ bs : List Bool, PyData.depthAll (bs.map PyData.bool) ≤ 1
  | [] => by simp only [List.map_nil, PyData.depthAll]; omega
  | b :: r => by
    have := depth_bools r
    simp only [List.map_cons, PyData.depthAll, PyData.depth]
    omega
theorem len_bools : ∀ bs : List Bool, ((PyData.shownAll (bs.map PyData.bool)).map (·.length)).sum ≤ 5 * bs.length ∧ (PyData.shownAll (bs.map PyData.bool)).length = bs.length
  | [] => by simp only [List.map_nil, PyData.shownAll]; exact ⟨Nat.le_refl _, rfl⟩
  | b :: r => by
    obtain ⟨h1, h2⟩ := len_bools r
    simp only [List.map_cons, PyData.shownAll, List.sum_cons, List.length_cons, h2]
    refine ⟨?_, trivial⟩
    have : (PyData.shown (.bool b)).length ≤ 5 := by
      simp only [PyData.shown]
      cases b <;> decide +kernel
    omega
theorem bools_ok (bs : List Bool) (n : bs.length ≤ 1000) : (PyData.list (bs.map PyData.bool)).showable = true ∧ (PyData.list (bs.map PyData.bool)).shown.length ≤ sizeLine ∧ (PyData.list (bs.map PyData.bool)).depth ≤ 60 := by
  refine ⟨?_, ?_, ?_⟩
  · simp only [PyData.showable, show_bools]
  · have e := listText_len_le (PyData.shownAll (bs.map PyData.bool))
    obtain ⟨h1, h2⟩ := len_bools bs
    simp only [PyData.shown]
    have : sizeLine = 16777216 := by decide
    omega
  · have := depth_bools bs
    simp only [PyData.depth]
    omega
theorem TyOf.same {K : PySem.W.Frag} {H H' : Hp} {y : V} {t : Value} (s : L2.Same H H') (h : TyOf K H y t) : TyOf K H' y t := by
  cases h with
  | non => exact .non
  | bl x => exact .bl x
  | int i => exact .int i
  | str x => exact .str x
  | flt x => exact .flt x
  | lst e => exact .lst (s _ _ e)
  | frz e => exact .frz (s _ _ e)
  | tup e => exact .tup (s _ _ e)
  | dK e => exact .dK (s _ _ e)
  | dT e => exact .dT (s _ _ e)
  | ins e cl a b c d => exact .ins (s _ _ e) cl a b c d
theorem NotC.same {K : PySem.W.Frag} {C : Addr} {H H' : Hp} {y : V} (s : L2.Same H H') (h : NotC K C H y) : NotC K C H' y := by
  obtain ⟨t, a, b, c⟩ := h
  exact ⟨t, TyOf.same s a, b, c⟩
theorem map_replicate_bl (n : Nat) (b : Bool) : (List.replicate n b).map V.bl = List.replicate n (V.bl b) := by simp
theorem all_replicate_true (n : Nat) : (List.replicate n true).all id = true := by simp
end Lb

set_option Elab.async false
set_option linter.all false
set_option maxRecDepth 100000
set_option maxHeartbeats 4000000
namespace Lb
open PySem PySem.Spec PyProof.Rows L2

/-- for i, x in enumerate(xs) -/
theorem for_enum {K : PySem.W.Frag} {a : Addr} {xs : List V} {g : TG} {tb : TS} {D : Ends} {σ : L2.St} {H : Hp} (Pv : Nat → L2.St → Hp → Prop) (h0 : Pv 0 σ H) (hq : ∀ i σ H, Pv i σ H → SqL K H a xs)
    (hs : ∀ (i : Nat) (x : V) (T : Addr) (σ : L2.St) (H : Hp), xs[i]? = some x → Pv i σ H → H T = none → g (.ref T) σ (L2.upd H T (.tup [.int (i : Nat), x])) fun σ2 H2 => tb { D with nx := Pv (i + 1), ct := Pv (i + 1), bk := D.nx } σ2 H2)
    (hd : ∀ σ H, Pv xs.length σ H → D.nx σ H) :
    ∃ W : Nat → Nat → L2.St → Hp → Prop, (∃ m, W 0 m σ H) ∧ ∀ i m σ H, W i m σ H →
      ((Ite K a).stop i H ∧ D.nx σ H) ∨ ((Ite K a).go i H ∧ ∃ N : L2.St → Hp → Prop, (∀ σ' H', N σ' H' → ∃ m', m' < m ∧ W (i + 1) m' σ' H') ∧
        ∀ v H', (Ite K a).yld i H v H' → g v σ H' fun σ2 H2 => tb { D with nx := N, ct := N, bk := D.nx } σ2 H2) := by
  refine ⟨fun i m σ H => m = xs.length - i ∧ i ≤ xs.length ∧ Pv i σ H, ⟨xs.length, rfl, Nat.zero_le _, h0⟩, ?_⟩
  rintro i m σ H ⟨rfl, hi, p⟩
  have q := hq i σ H p
  rcases Nat.lt_or_ge i xs.length with h | h
  · have hx : xs[i]? = some xs[i] := List.getElem?_eq_getElem h
    refine .inr ⟨⟨xs, _, q, hx⟩, Pv (i + 1), fun σ' H' p' => ⟨xs.length - (i + 1), by omega, rfl, h, p'⟩, ?_⟩
    rintro v H' ⟨T, x, rfl, hT, rfl, f⟩
    exact hs i x T σ H (f xs q) p hT
  · have e : i = xs.length := by omega
    subst e
    exact .inl ⟨⟨xs, q, Nat.le_refl _⟩, hd σ H p⟩

/-! a list that is being made at D, above the heap H0 -/
structure Blt {α : Type} (R : Hp → Addr → α → Prop) (H0 : Hp) (D : Addr) (done : List α) (H : Hp) : Prop where
  same : L2.Same H0 H
  ex : ∃ bs : List Addr, H D = some (.lst (bs.map V.ref)) ∧ Paired (R H) bs done
theorem Blt.start {α : Type} {R : Hp → Addr → α → Prop} {H0 : Hp} {D : Addr} (h : H0 D = none) : Blt R H0 D [] (L2.upd H0 D (.lst [])) :=
  ⟨Lb.Same.upd h, [], upd_same, .nil⟩
/-- one more item, made on the way from H to H2 -/
theorem Blt.step {α : Type} {R : Hp → Addr → α → Prop} {H0 H H2 : Hp} {D r : Addr} {done : List α} {x : α} (b : Blt R H0 D done H) (hD : H0 D = none) (s : L2.Same H H2)
    (keep : ∀ H H' a x, R H a x → (∀ o, H a = some o → H' a = some o) → R H' a x) (nl : ∀ H a x l, R H a x → H a = some (.lst l) → False) (hr : R H2 r x) :
    ∃ acc, H2 D = some (.lst acc) ∧ acc.length = done.length ∧ Blt R H0 D (done ++ [x]) (L2.upd H2 D (.lst (acc ++ [V.ref r]))) := by
  obtain ⟨s0, bs, e, p⟩ := b
  have e2 := s _ _ e
  have ch : ∀ a y, R H2 a y → R (L2.upd H2 D (.lst (bs.map V.ref ++ [V.ref r]))) a y := by
    intro a y h
    refine keep _ _ a y h fun o ho => ?_
    have na : a ≠ D := by
      rintro rfl
      exact nl _ _ _ _ h e2
    rw [upd_ne na]
    exact ho
  refine ⟨_, e2, by rw [List.length_map, Paired.len p], Same.updl (s0.trans s) hD, bs ++ [r], by rw [upd_same, List.map_append]; rfl, ?_⟩
  exact Paired.snoc (ch _ _ hr) (Paired.imp p fun a y h => ch _ _ (keep _ _ a y h fun o ho => s _ _ ho))

/-! an element of a list of ints -/
theorem inV_ints (z : Int) : ∀ ns : List Int, inV (.int z) (ns.map V.int) = decide (z ∈ ns)
  | [] => by simp [inV]
  | n :: r => by
    have ih := inV_ints z r
    unfold inV at ih ⊢
    rw [List.map_cons, List.any_cons, ih]
    have : eqV (.int n) (.int z) = decide (z = n) := by
      by_cases h : z = n
      · subst h; simp [eqV]
      · have h' : ¬ n = z := fun e => h e.symm
        simp [eqV, h, h']
    rw [this]
    by_cases h : z = n <;> simp [h]
theorem flat_ints : ∀ ns : List Int, (ns.map V.int).all flatV = true
  | [] => rfl
  | n :: r => by rw [List.map_cons, List.all_cons, flat_ints r]; rfl
end Lb

set_option Elab.async false
set_option linter.all false
set_option maxRecDepth 100000
set_option maxHeartbeats 4000000
namespace Lb
open PySem PySem.Spec PyProof.Rows L2
open SlX (cmpback)

/-! own operators between an instance and an int, or two instances -/
/-- what the text holds of an operator of a class beside ints: its def at g, the turned one at r -/
structure OwnBin (K : PySem.W.Frag) (C : Addr) (op : Operator) (g r : Addr) : Prop where
  first : PySem.W.selfFirst K C = true
  at_ : PySem.W.findIn K (.ref C) (PySem.dunder op.info.2) = some (some (.ref g))
  fn : PySem.W.isFn K (.ref g) = true
  rat : PySem.W.findIn K (.ref C) (dunderR op.info.2) = some (some (.ref r))
  rfn : PySem.W.isFn K (.ref r) = true
  i1 : ∃ fo, PySem.W.findIn K (.type "int") (PySem.dunder op.info.2) = some fo
  i2 : ∃ ro, PySem.W.findIn K (.type "int") (dunderR op.info.2) = some ro
  ss1 : PySem.W.subIn K (.type "int") (.ref C) = some false
  ss2 : PySem.W.subIn K (.ref C) (.type "int") = some false
  tyC : ∀ T, Value.type T ≠ .ref C := by intro T z; cases z

section
variable {X : Cx} {pins : List (Addr × Obj)} {σ : L2.St} {H : Hp} {s : Shared} {a C dx p g r : Addr} {f : Str} {n : Nat} {sp : Sp} {E : XK} {v : V} {u : Value} {op : Operator}

/-- a def that raises nothing, run in an expression -/
theorem run_at0 {A : Around} {Q : VK} {us : List Value} {ws : List V} (F : FnR X.prog X.w X.K X.mg X.base CX0 n g sp) (hr : Room n A) (e0 : Env0 X.prog X.w X.K X.mg X.base A X.stack s H) (I : Inv X pins σ H s) (r : Vals ws us) (h : sp ws H Q E) :
    codeAny (model X.prog X.w) A (.call (.ref g) ⟨us, []⟩) (fun r s' => match r with | .ok (.ret v) => EP X pins σ Q v s' | _ => False) s := by
  refine codeAny_mono (F A X.stack s H us ws Q E hr e0 r h) fun r s' hq => ?_
  cases r with
  | error e => exact False.elim hq
  | ok fl =>
    cases fl with
    | ret u => exact I.after hq
    | next => exact False.elim hq
    | brk => exact False.elim hq
    | cont => exact False.elim hq
theorem call_at0 {A : Around} {Ex : Value → Shared → Prop} {Q : VK} {us : List Value} {ws : List V} (F : FnR X.prog X.w X.K X.mg X.base CX0 n g sp) (hr : Room n A) (e0 : Env0 X.prog X.w X.K X.mg X.base A X.stack s H) (I : Inv X pins σ H s) (r : Vals ws us) (h : sp ws H Q E) :
    wpAny (model X.prog X.w) A (call (.ref g) us) (EP X pins σ Q) Ex s := by
  refine wpAny_call (codeAny_mono (run_at0 F hr e0 I r h) fun r s' hq => ?_)
  cases r with
  | error e => exact False.elim hq
  | ok fl => cases fl <;> first | exact hq | exact False.elim hq
/-- an operator, wherever it is run -/
def OpRA (X : Cx) (A : Around) (f : Value → Value → Sem Value) (r : R2) : Prop :=
  ∀ (pins : List (Addr × Obj)) (s : Shared) (σ : L2.St) (H : Hp) (x y : V) (v u : Value) (Q : VK) (Ex : Value → Shared → Prop), Inv X pins σ H s → Env0 X.prog X.w X.K X.mg X.base A X.stack s H → RelV x v → RelV y u → r x y H Q →
    wpAny (model X.prog X.w) A (f v u) (EP X pins σ Q) Ex s
theorem OpRA.here {f : Value → Value → Sem Value} {r : R2} (h : OpRA X X.A f r) : OpR X f r := fun pins s σ H x y v u Q I rx ry q => h pins s σ H x y v u Q _ I I.env0 rx ry q
theorem OpRA.or {A : Around} {f : Value → Value → Sem Value} {r r' : R2} (h : OpRA X A f r) (h' : OpRA X A f r') : OpRA X A f (fun x y H Q => r x y H Q ∨ r' x y H Q) := fun pins s σ H x y v u Q Ex I e0 rx ry q =>
  q.elim (h pins s σ H x y v u Q Ex I e0 rx ry) (h' pins s σ H x y v u Q Ex I e0 rx ry)
/-- x OP y, x an instance, y an int or an instance of its class -/
def rBin (C : Addr) (sp : Sp) (E : XK) : R2 := fun x y H Q =>
  ∃ a dx fs, x = .ref a ∧ H a = some (.ins C dx fs) ∧ ((∃ m, y = .int m) ∨ ∃ b dy fy, y = .ref b ∧ H b = some (.ins C dy fy)) ∧ sp [x, y] H Q E
theorem ownBin_at {K : PySem.W.Frag} {A : Around} (hK : X.K = K) (B : OwnBin K C op g r) (F : FnR X.prog X.w X.K X.mg X.base CX0 n g sp) (hr : Room n A) : OpRA X A (binaryOp op) (rBin C sp E) := by
  subst hK
  intro pins s σ H x y v u Q Ex I e0 rx ry h
  obtain ⟨a, dx, fs, rfl, ha, hy, q⟩ := h
  cases (show v = Value.ref a from rx)
  obtain ⟨od, J⟩ := inst_at I ha
  obtain ⟨m, hF⟩ := I.fr
  have one : wpAny (model X.prog X.w) A (call (.ref g) [.ref a, u]) (PySem.W.CmpBack (EP X pins σ Q)) Ex s := by
    refine wpAny_mono (call_at0 (us := [.ref a, u]) (ws := [.ref a, y]) F hr e0 I (.cons rfl (.cons ry .nil)) q) (fun w s' z => ?_) fun _ _ x => x
    obtain ⟨z', H', I', rz, qz⟩ := z
    exact cmpback rz ⟨z', H', I', rz, qz⟩
  rcases hy with ⟨k, rfl⟩ | ⟨b, dy, fy, rfl, hb⟩
  · obtain ⟨t, rfl⟩ := ry
    obtain ⟨fo, h1⟩ := B.i1
    obtain ⟨ro, h2⟩ := B.i2
    exact PySem.W.ksp_binT (T := "int") hF I.ok.mod.kin J rfl B.first B.at_ B.fn B.rat (.inr ⟨_, rfl⟩) h1 h2 B.ss1 one
  · cases (show u = Value.ref b from ry)
    obtain ⟨od', J'⟩ := inst_at I hb
    exact PySem.W.binop_K hF I.ok.mod.kin J J'.type B.first B.at_ B.fn one
/-- n OP y, y an instance: its turned def, where the int's own says nothing -/
def rBinR (C : Addr) (sp : Sp) (E : XK) : R2 := fun x y H Q =>
  ∃ m b dy fy, x = .int m ∧ y = .ref b ∧ H b = some (.ins C dy fy) ∧ sp [y, x] H Q E
/-- what the library says of an int's own operator -/
structure IntBin (op : Operator) (id : String) (nm : String) (f : Int → Int → Sem Fin) : Prop where
  fills : fillsNumberSlot (.type "int") op.info.2 = pure true
  slot : Slot "int" (PySem.dunder op.info.2) id
  entry : entryFor table id = some (Builtin.Int.intBinary nm f)
  args : ∀ x y, argsOk id ⟨[x, y], []⟩
theorem int_no {M : Model} {A : Around} {Ex : Value → Shared → Prop} {Q : Fin → Shared → Prop} {k : Int} {t : Tok} {b : Addr} {nm : String} {fI : Int → Int → Sem Fin} (J : s.heap.get? b = some (PySem.W.instObj C dx))
    (h : Q (.done (.ret .notImplemented)) s) : wpAny M A (Builtin.Int.intBinary nm fI false ⟨[.int k t, .ref b], []⟩) Q Ex s := by
  unfold Builtin.Int.intBinary
  refine wpAny_bind (m := slotArgs _ _ _) (wpAny_pure ?_)
  refine wpAny_bind (m := Builtin.Int.intOfSelf _) (wpAny_pure ?_)
  refine wpAny_bind (m := asInt? _) (wpAny_bind (wpAny_load J (wpAny_pure ?_)))
  exact wpAny_bind (wpAny_rule (wpAny_pure h))
theorem int_add : IntBin .Add "int.__add__" "__add__" (fun x y => retInt (x + y)) := ⟨F.fills_int_add, F.slot_int_add, F.entry_int_add, F.args_int_add_2⟩
theorem int_sub : IntBin .Sub "int.__sub__" "__sub__" (fun x y => retInt (x - y)) := ⟨F.fills_int_sub, F.slot_int_sub, F.entry_int_sub, F.args_int_sub_2⟩
theorem int_mul : IntBin .Mult "int.__mul__" "__mul__" (fun x y => Builtin.intProduct "__mul__" x y) := ⟨F.fills_int_mul, F.slot_int_mul, F.entry_int_mul, F.args_int_mul_2⟩
theorem ownBinR_at {K : PySem.W.Frag} {A : Around} {id nm : String} {fI : Int → Int → Sem Fin} (hK : X.K = K) (L : IntBin op id nm fI) (B : OwnBin K C op g r) (F : FnR X.prog X.w X.K X.mg X.base CX0 n r sp) (hr : Room n A) : OpRA X A (binaryOp op) (rBinR C sp E) := by
  subst hK
  intro pins s σ H x y v u Q Ex I e0 rx ry h
  obtain ⟨k, b, dy, fy, rfl, rfl, hb, q⟩ := h
  obtain ⟨t, rfl⟩ := rx
  cases (show u = Value.ref b from ry)
  obtain ⟨od, J⟩ := inst_at I hb
  have KX := I.kIn
  obtain ⟨cd, rest, hcd, hm⟩ := PySem.W.ksp_first B.first
  have L4 : PySem.W.Looks (model X.prog X.w) s.heap (fillsNumberSlot (.ref C) op.info.2) true := PySem.W.fills_K KX hcd hm B.at_
  have L5 : PySem.W.Looks (model X.prog X.w) s.heap (isSubtype (.ref C) (.type "int")) false := PySem.W.looks_subIn KX B.ss2
  have two : wpAny (model X.prog X.w) A (call (.ref r) [.ref b, .int k t]) (PySem.W.CmpBack (EP X pins σ Q)) Ex s := by
    refine wpAny_mono (call_at0 (us := [.ref b, .int k t]) (ws := [.ref b, .int k]) F hr e0 I (.cons rfl (.cons ⟨t, rfl⟩ .nil)) q) (fun w s' z => ?_) fun _ _ x => x
    obtain ⟨z', H', I', rz, qz⟩ := z
    exact cmpback rz ⟨z', H', I', rz, qz⟩
  have rt := B.rat
  have fl := L.fills
  have sl := L.slot
  rcases hi : op.info with ⟨sym, nm'⟩
  rw [hi] at L4 rt fl sl
  dsimp only at L4 rt fl sl
  have hne : (Value.type "int" == Value.ref C) = false := Bool.eq_false_iff.mpr fun q => by cases beq_iff_eq.mp q
  simp only [binaryOp, hi]
  refine wpAny_holding (wpAny_bind ?_)
  unfold binaryOp1
  refine wpAny_bind (wpAny_of_eq (show typeOf (.int k t) = pure (.type "int") from rfl) (wpAny_bind (J.type.here (wpAny_bind (wpAny_of_eq fl ?_)))))
  simp only [hne, Bool.false_eq_true, if_false]
  refine wpAny_bind (L4.here ?_)
  simp only [Bool.and_self, if_true]
  refine wpAny_bind (L5.here ?_)
  have hpy : numberSlotInPython (.type "int") nm' = pure false := rfl
  simp only [Bool.false_eq_true, if_false, pure_bind, Bool.not_false, Bool.and_self, if_true, hpy]
  simp only [tryMethod]
  refine wpAny_bind (wpAny_bind (wpAny_callSpecial?_slot (typeIs_int _ _ _) sl (wpAny_call_entry sl (typeIs_int _ _ _) L.entry ?_ (L.args _ _))))
  refine int_no J.at_ ⟨_, rfl, ?_⟩
  refine wpAny_pure ?_
  refine wpAny_bind (wpAny_bind (PySem.W.special_fn KX J rt (beq_iff_eq.mp B.rfn) (wpAny_mono two (fun v s' hv => ?_) fun _ _ e => e)))
  cases v <;> first | exact hv.elim | exact wpAny_pure (wpAny_bind (wpAny_rule (wpAny_pure (wpAny_pure hv))))
theorem op_ownBin {K : PySem.W.Frag} (hK : X.K = K) (B : OwnBin K C op g r) (F : FnR X.prog X.w X.K X.mg X.base CX0 n g sp) (hr : Room n X.A) : OpR X (binaryOp op) (rBin C sp E) := (ownBin_at hK B F hr).here
theorem op_ownBinR {K : PySem.W.Frag} {id nm : String} {fI : Int → Int → Sem Fin} (hK : X.K = K) (L : IntBin op id nm fI) (B : OwnBin K C op g r) (F : FnR X.prog X.w X.K X.mg X.base CX0 n r sp) (hr : Room n X.A) : OpR X (binaryOp op) (rBinR C sp E) := (ownBinR_at hK L B F hr).here
/-! -x, abs(x), bool(x) of an instance -/
def rUnOwn (C : Addr) (sp : Sp) (E : XK) : V → Hp → VK → Prop := fun x H Q => ∃ a dx fs, x = .ref a ∧ H a = some (.ins C dx fs) ∧ sp [x] H Q E
theorem un_ownNeg {K : PySem.W.Frag} (hK : X.K = K) (hs : PySem.W.findIn K (.ref C) "__neg__" = some (some (.ref g))) (hf : PySem.W.isFn K (.ref g) = true) (F : FnR X.prog X.w X.K X.mg X.base CX0 n g sp) (hr : Room n X.A) :
    UnR X (unaryOp .USub) (rUnOwn C sp E) := by
  subst hK
  intro pins s σ H x v Q I rx h
  obtain ⟨a, dx, fs, rfl, ha, q⟩ := h
  cases (show v = Value.ref a from rx)
  obtain ⟨od, J⟩ := inst_at I ha
  obtain ⟨m, hF⟩ := I.fr
  exact PySem.W.ksp_neg hF I.ok.mod.kin J hs hf (call_at0 (us := [.ref a]) (ws := [.ref a]) F hr I.env0 I (.cons rfl .nil) q)
def rCallOwn (C : Addr) (sp : Sp) (E : XK) : List V → Hp → VK → Prop := fun xs H Q => ∃ a dx fs, xs = [.ref a] ∧ H a = some (.ins C dx fs) ∧ sp xs H Q E
theorem call_absOwn (hs : PySem.W.findIn X.K (.ref C) "__abs__" = some (some (.ref g))) (hf : PySem.W.isFn X.K (.ref g) = true) (F : FnR X.prog X.w X.K X.mg X.base CX0 n g sp) (hr : Room (n + 1) X.A) :
    CallR X (.builtin "abs") (rCallOwn C sp E) := by
  intro pins s σ H xs us Q I r h
  obtain ⟨a, dx, fs, rfl, ha, q⟩ := h
  obtain ⟨u, rfl, ru⟩ := vals1 r
  cases (show u = Value.ref a from ru)
  obtain ⟨od, J⟩ := inst_at I ha
  refine Calls.call_function_entry kind_abs plain_abs entry_abs (args_abs _) ?_
  unfold Builtin.«abs»
  refine wpAny_bind (m := oneArg "abs" _) (wpAny_pure ?_)
  refine wpAny_bind (PySem.W.special_fn I.kIn J hs (beq_iff_eq.mp hf) ?_)
  refine wpAny_mono (call_at0 (us := [.ref a]) (ws := [.ref a]) F hr.in1 I.env0.in1 I (.cons rfl .nil) q) (fun w s' z => ?_) fun _ _ x => x
  exact wpAny_pure ⟨_, rfl, z⟩
end
/-! sum of a list of instances -/
/-- how the sum goes: N i v H, the sum v of the first i -/
structure SumG (K : PySem.W.Frag) (add : R2) (l : Addr) (as : List Addr) (N : Nat → V → Hp → Prop) : Prop where
  zero : ∀ v H, N 0 v H → v = .int 0
  more : ∀ i v H, N (i + 1) v H → ∃ a, v = .ref a
  list : ∀ i v H, N i v H → SqL K H l (as.map V.ref)
  step : ∀ i v a H, as[i]? = some a → N i v H → add v (.ref a) H (N (i + 1))
theorem turn_fp {X : Cx} {pins : List (Addr × Obj)} {σ : L2.St} {H : Hp} {s : Shared} {it : Addr} {h' : Heap} {t' : Nat} (I : Inv X pins σ H s) (f : FpOk X pins H it) (k : ∀ b o, b ≠ it → s.heap.get? b = some o → h'.get? b = some o) : Inv X pins σ H { s with heap := h', toks := t' } := by
  obtain ⟨f0, f1, f2, f3, f4, f5⟩ := f
  exact I.turned k f0 f1 f3 f4 f5
section
variable {X : Cx} {pins : List (Addr × Obj)} {σ : L2.St} {add : R2} {l : Addr} {as : List Addr} {N : Nat → V → Hp → Prop} {Q : VK}
theorem sum_loop (hc : X.calm = true) (hadd : OpRA X X.A.in1 (binaryOp .Add) add) (G : SumG X.K add l as N) (hQ : ∀ v H, N as.length v H → Q v H) (it S : Addr) (hne : S ≠ it) :
    ∀ (k i : Nat) (s : Shared) (H : Hp) (v : V) (u : Value) (c : Nat) (st : Int), as.length - i = k → i ≤ as.length → Inv X pins σ H s → N i v H → RelV v u → ((st = 0 ∧ ∃ t, u = .int 0 t) ∨ (st = 2 ∧ ∃ a, u = .ref a)) →
      s.heap.IsListIter it l i → s.heap.get? S = some { cls := .type "list", dict := none, data := .seq #[u] c, slots := #[] } → FpOk X pins H it → FpOk X pins H S →
      codeAny (model X.prog X.w) X.A (.builtin "sum.loop" ⟨[.ref it, .ref S, rawInt st, rawInt 0], []⟩) (fun r s' => match r with | .ok (.ret v) => EP X pins σ Q v s' | _ => False) s := by
  intro k
  induction k with
  | zero =>
    intro i s H v u c st hk hi I n rv hu hit hS fi fS
    obtain ⟨its, rl, pl, hsz⟩ := I.list (G.list _ _ _ n)
    have hlen : its.length = as.length := by rw [← rl.length, List.length_map]
    have hin : i = as.length := by omega
    refine codeAny_builtin F.entry_sum_loop ?_
    rw [Around.under_plainId F.plain_sum_loop _]
    show wpAny _ X.A.in1 (seqItems? (.ref S) >>= _) _ _ s
    refine wpAny_bind (wpAny_seqItems hS rfl ?_)
    show wpAny _ X.A.in1 (tryCatch (pyNext (.ref it)) _ >>= _) _ _ s
    refine wpAny_bind (wpAny_tryCatch (wpAny_pyNext_list_end (I.ok.hd hc) hit pl.isList (by rw [List.getElem?_toArray, List.getElem?_eq_none (by omega)]) fun h' he => ?_))
    have I' := turn_fp (t' := s.toks) I fi he
    have q : Q v H := hQ _ _ (hin ▸ n)
    rcases hu with ⟨_, t, rfl⟩ | ⟨_, a, rfl⟩
    · exact wpAny_pure ⟨v, H, I', rv, q⟩
    · exact wpAny_pure ⟨v, H, I', rv, q⟩
  | succ k ih =>
    intro i s H v u c st hk hi I n rv hu hit hS fi fS
    obtain ⟨its, rl, pl, hsz⟩ := I.list (G.list _ _ _ n)
    have hlen : its.length = as.length := by rw [← rl.length, List.length_map]
    have hlt : i < as.length := by omega
    obtain ⟨u2, hu2, rx⟩ := rl.get (i := i) (x := .ref as[i]) (by rw [List.getElem?_map, List.getElem?_eq_getElem hlt]; rfl)
    cases (show u2 = Value.ref as[i] from rx)
    refine codeAny_builtin F.entry_sum_loop ?_
    rw [Around.under_plainId F.plain_sum_loop _]
    show wpAny _ X.A.in1 (seqItems? (.ref S) >>= _) _ _ s
    refine wpAny_bind (wpAny_seqItems hS rfl ?_)
    show wpAny _ X.A.in1 (tryCatch (pyNext (.ref it)) _ >>= _) _ _ s
    refine wpAny_bind (wpAny_tryCatch (wpAny_pyNext_list_item hit pl.isList (x := .ref as[i]) (by rw [List.getElem?_toArray]; exact hu2) fun h' hit' hs => ?_))
    have I' := turn_fp (t' := s.toks) I fi hs.extBut
    have hS' : h'.get? S = some { cls := .type "list", dict := none, data := .seq #[u] c, slots := #[] } := hs.extBut S _ hne hS
    -- both kept while the operator runs
    have fps : ∀ b ∈ [it, S], FpOk X pins H b := by
      intro b hb
      rcases List.mem_cons.mp hb with e | hb
      · exact e ▸ fi
      · exact (List.mem_singleton.mp hb) ▸ fS
    obtain ⟨oi, hoi, hci, hdi⟩ := id hit'
    have IP := I'.pinned (fp := [it, S]) fps (by
      intro b hb
      rcases List.mem_cons.mp hb with e | hb
      · exact ⟨oi, by rw [e]; exact hoi, fun v z => by rw [hdi] at z; cases z⟩
      · exact ⟨_, by rw [List.mem_singleton.mp hb]; exact hS', fun v z => by cases z⟩)
    have main : ∀ (Ex : Value → Shared → Prop), wpAny (model X.prog X.w) X.A.in1 (binaryOp .Add u (.ref as[i])) (fun r s' => ∃ a v' H', r = .ref a ∧ v' = .ref a ∧ Inv X pins σ H' s' ∧ N (i + 1) v' H' ∧ s'.heap.IsListIter it l (i + 1) ∧
        s'.heap.get? S = some { cls := .type "list", dict := none, data := .seq #[u] c, slots := #[] } ∧ FpOk X pins H' it ∧ FpOk X pins H' S) Ex { s with heap := h' } := fun Ex => by
      refine wpAny_mono (hadd _ _ σ H v (.ref as[i]) u (.ref as[i]) (N (i + 1)) Ex IP IP.env0.in1 rv rfl (G.step _ _ _ _ (List.getElem?_eq_getElem hlt) n)) (fun r s' z => ?_) fun _ _ e => e
      obtain ⟨v', H', I2, r2, n2⟩ := z
      obtain ⟨a, rfl⟩ := G.more _ _ _ n2
      have p1 := I2.pin (it, oi) (List.mem_append_right _ (List.mem_append_right _ (mem_pinsAt (by simp) hoi)))
      have p2 := I2.pin (S, _) (List.mem_append_right _ (List.mem_append_right _ (mem_pinsAt (by simp) hS')))
      exact ⟨a, _, H', r2, rfl, I2.unpinned, n2, ⟨oi, p1.1, hci, hdi⟩, p2.1, ⟨p1.2.1, fi.2⟩, ⟨p2.2.1, fS.2⟩⟩
    -- the sum is set
    have last : ∀ (s' : Shared) (H' : Hp) (a : Addr), Inv X pins σ H' s' → N (i + 1) (.ref a) H' → s'.heap.IsListIter it l (i + 1) → s'.heap.get? S = some { cls := .type "list", dict := none, data := .seq #[u] c, slots := #[] } → FpOk X pins H' it → FpOk X pins H' S →
        wpAny (model X.prog X.w) X.A.in1 (updateSeq S (fun _ => #[.ref a]) >>= fun _ => letGo [u, .ref as[i]] [] >>= fun _ => updateSeq S (fun _ => #[.ref a]) >>= fun _ => again (.builtin "sum.loop" ⟨[.ref it, .ref S, rawInt 2, rawInt 0], []⟩))
          (fun fin s' => match fin with | .done f => (match (Except.ok f : Result) with | .ok (.ret v) => EP X pins σ Q v s' | _ => False) | .again c' => c'.quiet = true ∧ codeAny (model X.prog X.w) X.A c' (fun r s' => match r with | .ok (.ret v) => EP X pins σ Q v s' | _ => False) s') (fun _ _ => False) s' := by
      intro s' H' a I2 n2 hit2 hS2 fi2 fS2
      refine wpAny_bind (wpAny_updateSeq hS2 rfl ?_)
      have hS3 := Heap.get?_update_self (Obj.mapSeq fun _ => #[Value.ref a]) hS2 rfl
      refine wpAny_bind (wpAny_letGo ?_)
      refine wpAny_bind (wpAny_updateSeq hS3 rfl ?_)
      have hS4 := Heap.get?_update_self (Obj.mapSeq fun _ => #[Value.ref a]) hS3 rfl
      have keep : ∀ b o, b ≠ S → s'.heap.get? b = some o → ((s'.heap.update S (Obj.mapSeq fun _ => #[Value.ref a])).update S (Obj.mapSeq fun _ => #[Value.ref a])).get? b = some o := fun b o nb e =>
        (Heap.get?_update_other _ _ (Ne.symm nb)).trans ((Heap.get?_update_other _ _ (Ne.symm nb)).trans e)
      have I3 := turn_fp (t' := s'.toks) I2 fS2 keep
      refine wpAny_pure ⟨plainId_quiet F.plain_sum_loop _, ih (i + 1) _ H' (.ref a) (.ref a) _ 2 (by omega) hlt I3 n2 rfl (.inr ⟨rfl, _, rfl⟩) ?_ hS4 fi2 fS2⟩
      obtain ⟨o, e, x, y⟩ := hit2
      exact ⟨o, keep _ _ (Ne.symm hne) e, x, y⟩
    rcases hu with ⟨rfl, t, rfl⟩ | ⟨rfl, a0, rfl⟩
    · refine wpAny_bind (wpAny_rule ?_)
      refine wpAny_bind (wpAny_attempt (wpAny_holding (wpAny_mono (main _) (fun r s' z => ?_) fun _ _ e => e)))
      obtain ⟨a, v', H', rfl, rfl, I2, n2, hit2, hS2, fi2, fS2⟩ := z
      exact last s' H' a I2 n2 hit2 hS2 fi2 fS2
    · refine wpAny_bind (wpAny_attempt (wpAny_holding (wpAny_mono (main _) (fun r s' z => ?_) fun _ _ e => e)))
      obtain ⟨a, v', H', rfl, rfl, I2, n2, hit2, hS2, fi2, fS2⟩ := z
      exact last s' H' a I2 n2 hit2 hS2 fi2 fS2
/-- sum(xs), xs a list of instances -/
def rSumOwn (K : PySem.W.Frag) (add : R2) : List V → Hp → VK → Prop := fun vs H Q => ∃ (l : Addr) (as : List Addr) (N : Nat → V → Hp → Prop), vs = [.ref l] ∧ SumG K add l as N ∧ N 0 (.int 0) H ∧ ∀ v H', N as.length v H' → Q v H'
theorem cr_sumOwn {K : PySem.W.Frag} (hK : X.K = K) (hc : X.calm = true) (hadd : OpRA X X.A.in1 (binaryOp .Add) add) : CallR X (.builtin "sum") (rSumOwn K add) := by
  subst hK
  intro pins s σ H xs us Q I r h
  obtain ⟨l, as, N, rfl, G, n0, q⟩ := h
  obtain ⟨u, rfl, ru⟩ := vals1 r
  cases (show u = Value.ref l from ru)
  obtain ⟨its, rl, pl, hsz⟩ := I.list (G.list _ _ _ n0)
  refine call_function_tree F.kind_sum F.plain_sum F.entry_sum (F.args_sum1 _) ?_
  unfold Builtin.«sum»
  simp only [List.length_cons, List.length_nil]
  rw [if_neg (by decide)]
  refine wpAny_bind (wpAny_of_eq (show Builtin.Builtins.bindParams "sum" ["start"] 0 { } = pure [none] from rfl) ?_)
  refine wpAny_bind (wpAny_pyIter_list pl.isList ?_)
  refine wpAny_bind (wpAny_mkInt ?_)
  refine wpAny_bind (wpAny_pure ?_)
  simp only [List.forIn_cons, List.forIn_nil]
  refine wpAny_bind (wpAny_bind (wpAny_bind (wpAny_isInstance (T := "int") (b := false) (typeIs_int _ _ _) PySem.sub_int_str ?_)))
  simp only [Bool.false_eq_true, if_false]
  refine wpAny_pure (wpAny_bind (wpAny_bind (wpAny_isInstance (T := "int") (b := false) (typeIs_int _ _ _) PySem.sub_int_bytes ?_)))
  simp only [Bool.false_eq_true, if_false]
  refine wpAny_pure (wpAny_bind (wpAny_bind (wpAny_isInstance (T := "int") (b := false) (typeIs_int _ _ _) PySem.sub_int_bytearray ?_)))
  simp only [Bool.false_eq_true, if_false]
  refine wpAny_pure (wpAny_pure ?_)
  refine wpAny_bind (wpAny_newObj_type ?_)
  have k1 : ∀ b o, s.heap.get? b = some o → ((s.heap.push ({ cls := .type "list_iterator", data := .fields #[.ref l, .int 0 0] } : Obj)).push ({ cls := .type "list", dict := none, data := .seq #[Value.int 0 s.toks] } : Obj)).get? b = some o := fun b o e => Heap.get?_push_of_some _ (Heap.get?_push_of_some _ e)
  have e1 : (s.heap.push ({ cls := .type "list_iterator", data := .fields #[.ref l, .int 0 0] } : Obj)).objs.size = s.heap.objs.size + 1 := Heap.size_push ..
  have I1 := I.kept (t' := s.toks + 1) k1
  have n1 : H (s.heap.push ({ cls := .type "list_iterator", data := .fields #[.ref l, .int 0 0] } : Obj)).objs.size = none := I.hok.fresh (by rw [e1]; exact Nat.le_succ _)
  have n2 : H s.heap.objs.size = none := I.hok.fresh (Nat.le_refl _)
  have f1 : FpOk X pins H s.heap.objs.size := I.fpOk (Nat.le_refl _) n2
  have f2 : FpOk X pins H (s.heap.push ({ cls := .type "list_iterator", data := .fields #[.ref l, .int 0 0] } : Obj)).objs.size := I.fpOk (by rw [e1]; exact Nat.le_succ _) n1
  refine wpAny_pure ⟨plainId_quiet F.plain_sum_loop _, codeAny_mono (sum_loop (N := N) (Q := Q) hc hadd G q s.heap.objs.size (s.heap.push ({ cls := .type "list_iterator", data := .fields #[.ref l, .int 0 0] } : Obj)).objs.size (by rw [e1]; exact Nat.succ_ne_self _) as.length 0 _ H (.int 0) (.int 0 s.toks) 0 0 (by omega) (Nat.zero_le _) I1 n0 ⟨_, rfl⟩ (.inl ⟨rfl, _, rfl⟩) ?_ ?_ f1 f2) ?_⟩
  · exact ⟨_, Heap.get?_push_of_some _ (Heap.get?_push_size _ rfl), rfl, rfl⟩
  · exact Heap.get?_push_size _ rfl
  · intro r s' z
    cases r with
    | error e => exact False.elim z
    | ok fl => cases fl <;> first | exact z | exact False.elim z
end
end Lb

set_option Elab.async false
set_option linter.all false
set_option maxRecDepth 100000
set_option maxHeartbeats 4000000
namespace Lb
open PySem PySem.Spec PyProof.Rows L2
section
variable {X : Cx} {CX : CXT} {k : Nat} {f C p g : Addr} {fd : FuncData} {ps ks : List Str} {sp : Sp} {E : XK} {x m : Str} {pos np apos : Pos} {o : Expr} {kws : List Keyword} {ta : TE} {tk : TA} {gf : List Value → List Value → List Value} {gV : List V → List V → List V}
theorem run_kbn {n : Nat} {pins : List (Addr × Obj)} {σ : L2.St} {H : Hp} {s : Shared} {Q : VK} {us ws : List Value} {vs zs : List V} (F : FnOk X.prog X.w X.K X.mg X.base CX k f fd ps sp) (hr : Room k X.A) (hb : KBn X.K fd ps n ks gf gV) (hx : Passes CX X E)
    (I : Inv X pins σ H s) (r : Vals vs us) (rz : Vals zs ws) (l1 : vs.length = n) (l2 : zs.length = ks.length) (h : sp (gV vs zs) H Q E) : wpAny (model X.prog X.w) X.A (call (.ref f) us (ks.zip ws)) (EP X pins σ Q) X.xe s := by
  refine wpAny_call (codeAny_mono (F.run X.A X.stack s H ⟨us, ks.zip ws⟩ (gf us ws) (gV vs zs) Q E hr I.env0 (hb.to s us ws I.kIn (r.length.symm.trans l1) (rz.length.symm.trans l2)) (hb.rel r rz) h) fun r s' hq => ?_)
  cases r with
  | error e => exact hx pins σ H s e s' I hq
  | ok fl =>
    cases fl with
    | ret u => exact I.after hq
    | next => exact False.elim hq
    | brk => exact False.elim hq
    | cont => exact False.elim hq
/-- f(k = v, ..) -/
def tCallK0 (m : Nat) (sp : Sp) (gV : List V → List V → List V) (E : XK) (tk : TA) : TE := fun σ H Q => tk σ H fun zs H2 => zs.length = m ∧ sp (gV [] zs) H2 Q E
theorem pe_callK0 (F : FnOk X.prog X.w X.K X.mg X.base CX k f fd ps sp) (hr : Room k X.A) (hg : Gl X x) (hm : X.mg x = some (.ref f)) (hk : PySem.W.keepIn X.K (.ref f) = true) (hb : KBn X.K fd ps 0 ks gf gV) (hx : Passes CX X E) (hkw : PK X kws tk)
    (hall : (backToKw pos (keywordEach kws X.env)).all (·.1.isSome) = true := by rfl) (hks : (backToKw pos (keywordEach kws X.env)).filterMap (·.1) = ks := by rfl) (hdb : (x == ("__debug__" : Str)) = false := by decide)
    (hpl : ((backTo pos (starEach [] X.env)).any (·.1) || (backToKw pos (keywordEach kws X.env)).any (·.1.isNone)) = false := by rfl) :
    PE X (.Call (.Name x np) [] kws pos) (tCallK0 ks.length sp gV E tk) := by
  refine ⟨fun pins s σ H Q I h => ?_⟩
  refine wpAny_Call_Name_kw (ld_glob I hg hm ?_ hdb)
  refine PySem.W.callWith_KW0 (h₀ := X.base) I.ok.mod.kin hk hall ?_ hpl
  refine thn (hkw.run pos pins s σ H _ I h) fun ws s2 ⟨zs, H2, I2, rz, l2, q2⟩ => ⟨I2.kIn, ?_⟩
  rw [hks]
  exact run_kbn (us := []) (vs := []) F hr hb hx I2 .nil rz rfl l2 q2
/-- o.m(k = v, ..) -/
def tMethK0 (C : Addr) (m : Str) (nk : Nat) (sp : Sp) (gV : List V → List V → List V) (E : XK) (ta : TE) (tk : TA) : TE := fun σ H Q => ta σ H fun x H1 => ∃ a dx fs, x = .ref a ∧ H1 a = some (.ins C dx fs) ∧ fs.lookup m = none ∧ tk σ H1 fun zs H2 => zs.length = nk ∧ sp (gV [.ref a] zs) H2 Q E
theorem pe_methK0 {pl : Sem Bool} (he : PE X o ta) (c : Cls X.K C) (hm : Meth X.K C m f) (F : FnOk X.prog X.w X.K X.mg X.base CX k f fd ps sp) (hr : Room k X.A) (hb : KBn X.K fd ps 1 ks gf gV) (hx : Passes CX X E) (hkw : PK X kws tk)
    (hall : (backToKw pos (keywordEach kws X.env)).all (·.1.isSome) = true := by rfl) (hks : (backToKw pos (keywordEach kws X.env)).filterMap (·.1) = ks := by rfl)
    (hpl : ((backTo pos (starEach [] X.env)).any (·.1) || (backToKw pos (keywordEach kws X.env)).any (·.1.isNone)) = false := by rfl)
    (ht : eval (.Call (.Attribute o m apos) [] kws pos) X.env = (do
      let ov ← eval o X.env
      standAt apos.atName
      let (f, first) ← holding [ov] (getMethod ov m pl)
      callWith pos f first (backTo pos (starEach [] X.env)) (backToKw pos (keywordEach kws X.env))) := by rfl) :
    PE X (.Call (.Attribute o m apos) [] kws pos) (tMethK0 C m ks.length sp gV E ta tk) := by
  refine ⟨fun pins s σ H Q I h => ?_⟩
  refine PySem.W.methodCall_KW (pl := pl) (thn (he.run pins s σ H _ I h) fun u s1 ⟨x, H1, I1, rx, a, dx, fs, ex, ea, l, q⟩ => ?_) ht
  subst ex
  obtain rfl : u = Value.ref a := rx
  refine getmeth_ok I1 ea c hm l ?_
  refine PySem.W.callWith_KW0 (first := [.ref a]) (h₀ := X.base) I.ok.mod.kin hm.kp hall ?_ hpl
  refine thn (hkw.run pos pins s1 σ H1 _ I1 q) fun ws s2 ⟨zs, H2, I2, rz, l2, q2⟩ => ⟨I2.kIn, ?_⟩
  rw [hks]
  exact run_kbn (us := [.ref a]) (vs := [.ref a]) F hr hb hx I2 (.cons rfl .nil) rz rfl l2 q2
/-- C.m(), m a classmethod -/
theorem pe_cmeth0 {mc : Value} {pl : Sem Bool} (he : PE X o ta) (r : ClX.CRead X.K C mc) (c : ClX.CMet X.K C mc m p g) (F : FnR X.prog X.w X.K X.mg X.base CX k g sp) (hr : Room k X.A) (hx : Passes CX X E)
    (ht : eval (.Call (.Attribute o m apos) [] [] pos) X.env = (do
      let ov ← eval o X.env
      standAt apos.atName
      let (f, first) ← holding [ov] (getMethod ov m pl)
      callWith pos f first (backTo pos (starEach [] X.env)) (backToKw pos (keywordEach [] X.env))) := by rfl) :
    PE X (.Call (.Attribute o m apos) [] [] pos) (ClX.tCMeth C sp E ta tNil) := by
  refine ⟨fun pins s σ H Q I h => ?_⟩
  refine PySem.W.methodCall_KW (pl := pl) (thn (he.run pins s σ H _ I h) fun u s1 ⟨x, H1, I1, rx, ex, q⟩ => ?_) ht
  subst ex
  obtain rfl : u = Value.ref C := rx
  refine ClX.getmethcm_ok I1 r c fun s2 I2 => ?_
  have hb := ClX.base_none I1 (Nat.le_refl _)
  refine PySem.W.callWith_M0 (K := X.K) (first := []) ⟨ClX.pin_at I2, I2.kIn⟩ c.fi ?_
  exact ClX.run_cm (us := []) (vs := []) F hr hx I2 .nil q
/-- x(e, ..), x a local that holds a class -/
def tMakeL (i : Nat) (C : Addr) (sp : Sp) (dvs : List V) (E : XK) (t : TA) : TE := fun σ H Q => σ[i]? = some (some (.ref C)) ∧ tMake C sp dvs E t σ H Q
theorem pe_makeL {i : Nat} {e : Expr} {es : List Expr} {t : TA} {ds : List Value} {dvs : List V} (M : Mk X.K C f) (F : FnOk X.prog X.w X.K X.mg X.base CX k f fd ps sp) (hr : Room (k + 1) X.A) (hN : X.N[i]? = some x) (hv : Vis X.env.scope x) (hb : Binds X.K fd ps ds) (hd : Vals dvs ds) (hx : Passes CX X E)
    (ha : PA X (e :: es) t) (hdb : (x == ("__debug__" : Str)) = false := by decide) (hcd : (x == ("__classdict__" : Str)) = false := by decide) (he : starEach (e :: es) X.env = (false, eval e X.env) :: starEach es X.env := by rfl) (hpl : (backTo pos (starEach es X.env)).any (·.1) = false := by rfl) :
    PE X (.Call (.Name x np) (e :: es) [] pos) (tMakeL i C sp dvs E t) := by
  refine ⟨fun pins s σ H Q I h => ?_⟩
  obtain ⟨hs, ht⟩ := h
  refine wpAny_Call_Name_kw (thn ((pe_var (pos := np) hN hv hdb hcd).run pins s σ H (fun v H1 => v = .ref C ∧ H1 = H) I ⟨.ref C, hs, rfl, rfl⟩) fun u s1 ⟨v, H1, I1, r1, q1⟩ => ?_)
  obtain ⟨rfl, rfl⟩ := q1
  cases r1
  refine PySem.W.callWith_K (h₀ := X.base) I.ok.mod.kin M.kp (thn (ha.run pos pins s1 σ _ _ I1 ht) fun us s2 ⟨vs, H2, I2, r, q⟩ => ⟨I2.kIn, ?_⟩) he hpl
  exact run_make M F hr hb hd hx I2 r q
/-! bool(x) -/
theorem call_boolOwn {n : Nat} (hs : PySem.W.findIn X.K (.ref C) "__bool__" = some (some (.ref g))) (hf : PySem.W.isFn X.K (.ref g) = true) (F : FnR X.prog X.w X.K X.mg X.base CX0 n g sp) (hr : Room (n + 2) X.A) :
    CallR X (.type "bool") (fun xs H Q => ∃ a dx fs, xs = [.ref a] ∧ H a = some (.ins C dx fs) ∧ sp xs H (fun z H' => ∃ b, z = .bl b ∧ Q z H') E) := by
  intro pins s σ H xs us Q I r h
  obtain ⟨a, dx, fs, rfl, ha, q⟩ := h
  obtain ⟨u, rfl, ru⟩ := vals1 r
  cases (show u = Value.ref a from ru)
  obtain ⟨od, J⟩ := inst_at I ha
  obtain ⟨m, hF⟩ := I.fr
  have hr2 : Room n X.A.in1.in1 := (show Room (n + 1) X.A.in1 from Room.in1 hr).in1
  have one : wpAny (model X.prog X.w) X.A.in1.in1 (truthy (.ref a)) (fun b s' => EP X pins σ Q (.bool b) s') X.xe s := by
    refine PySem.W.truthy_K hF I.ok.mod.kin J hs hf (wpAny_mono (call_at0 (us := [.ref a]) (ws := [.ref a]) F hr2 I.env0.in1.in1 I (.cons rfl .nil) q) (fun w s' z => ?_) fun _ _ x => x)
    obtain ⟨z', H', I', rz, b, ez, qz⟩ := z
    subst ez
    cases (show w = Value.bool b from rz)
    exact ⟨.bl b, H', I', rfl, qz⟩
  refine callType_codes (T := "bool") (Bi := Builtin.«object.__init__») (Q₁ := fun r s₁ => ∃ b, r = .bool b ∧ EP X pins σ Q r s₁) PySem.F.called_bool (PySem.F.typeCall_bool_1 _) PySem.F.entry_object_init ?_ ?_
  · refine codeAny_call_builtin (by decide +kernel) PySem.F.entry_bool_new (wpAny_of_eq (PySem.F.newCall_bool_1 _) ?_)
    unfold Builtin.«bool.__new__»
    refine wpAny_bind (wpAny_of_eq (show isType (.type "bool") = pure true from rfl) ?_)
    simp only [Bool.not_true, Bool.false_eq_true, if_false]
    refine wpAny_bind (wpAny_of_eq PySem.F.conv_sub_bool ?_)
    simp only [Bool.not_true, Bool.false_eq_true, if_false]
    refine wpAny_bind (m := someArgs _ _ _ _) (wpAny_pure ?_)
    refine wpAny_bind (wpAny_mono one (fun b s₁ z => ?_) fun _ _ e => e)
    exact wpAny_pure ⟨b, rfl, z⟩
  · rintro obj s₁ ⟨b, rfl, hq⟩
    exact ⟨PySem.typeIs_bool _ _, PySem.F.args_object_init_2 _ _, object_init_meets PySem.F.called_bool.init.lookup PySem.F.called_bool.made PySem.F.newNe_bool X.prog X.w X.A.in1 _ s₁ ⟨PySem.typeIs_bool _ _, rfl, hq⟩⟩
end
/-! how a def binds -/
theorem kbn_of {K : PySem.W.Frag} {x qual : Str} {st : Stmt} {f : Addr} {fd : FuncData} {ps ks : List Str} {n : Nat} (F : Fun K x qual st f fd)
    (h : ∀ (kV doc pm : Value) (an : Option Addr) (cdv ct : Value) (us ws : List Value), us.length = n → ws.length = ks.length → bindArgs (PySem.W.fnOf x qual (defArgs st) (defBody st) (defScope st) .none kV doc pm an cdv ct) ⟨us, ks.zip ws⟩ = pure (ps.zip (us ++ ws))) :
    KBn K fd ps n ks (fun us ws => us ++ ws) (fun vs zs => vs ++ zs) := by
  obtain ⟨oc, od, kV, doc, pm, an, cdv, ct, osl, rfl, lk, hcd⟩ := F.ex
  exact ⟨fun s us ws X l1 l2 => BindsTo.of_eq (h kV doc pm an cdv ct us ws l1 l2), fun r1 r2 => r1.append r2⟩
/-- def f(a, *v) that raises nothing -/
theorem star_ok {P : Program} {w : World} {K : PySem.W.Frag} {mg : Str → Option Value} {base : Heap} {x qual : Str} {st : Stmt} {f : Addr} {fd : FuncData} {N ps : List Str} {pv : Str} {k : Nat} {sp : Sp} (F : Fun K x qual st f fd) (S : FnScope N (ps ++ [pv]) (defScope st))
    (hb : ∀ (kV doc pm : Value) (an : Option Addr) (cdv ct : Value) (us rest : List Value), us.length = ps.length → bindArgs (PySem.W.fnOf x qual (defArgs st) (defBody st) (defScope st) .none kV doc pm an cdv ct) ⟨us ++ rest, []⟩ = (newTuple rest >>= fun t => pure (ps.zip us ++ [(pv, t)])))
    (hbody : ∀ (cdv : Value) (A : Around) (outer : List Env) (s : Shared) (H : Hp) (vs : List V) (Q : VK) (E : XK), Room k (A.deeper (envOfC qual (defScope st) s.heap.objs.size f cdv)) → sp vs H Q E →
      ∃ t, PSs (cxOf CX0 P w K mg base N qual (defScope st) f cdv A outer s H E).nox (defBody st) t ∧ t { nx := fun _ H' => Q .non H', rt := Q } (start N vs) H) :
    FnR P w K mg base CX0 (k + 1) f (fun vs H Q E => ∃ ws rest, vs = ws ++ rest ∧ ws.length = ps.length ∧ rest.length ≤ sizeLine ∧ ∀ p, H p = Option.none → sp (ws ++ [V.ref p]) (upd H p (.tup rest)) Q E) := by
  obtain ⟨oc, od, kV, doc, pm, an, cdv, ct, osl, rfl, lk, hcd⟩ := F.ex
  exact StX.fn_star lk hcd S StX.cxUp_none (fun us rest l => hb kV doc pm an cdv ct us rest l) (fun A outer s H vs Q E hr h => let ⟨t, h1, q⟩ := hbody cdv A outer s H vs Q E hr h; ⟨t, h1.nox, q⟩)
end Lb

set_option Elab.async false
set_option linter.all false
set_option maxRecDepth 100000
set_option maxHeartbeats 4000000
namespace Lb
open PySem

/-! the digits of a number, cut -/
def pad : Nat → Nat → List Char
  | 0, _ => []
  | k + 1, r => pad k (r / 10) ++ [Nat.digitChar (r % 10)]
theorem digits_cut {n : Nat} (hn : 0 < n) : ∀ (k r : Nat), r < 10 ^ k → Nat.toDigits 10 (n * 10 ^ k + r) = Nat.toDigits 10 n ++ pad k r
  | 0, r, h => by
    have : r = 0 := by simpa using h
    subst this
    simp [pad]
  | k + 1, r, h => by
    have h1 : r / 10 < 10 ^ k := by
      rw [Nat.pow_succ] at h
      omega
    have ih := digits_cut hn k (r / 10) h1
    have e : n * 10 ^ (k + 1) + r = 10 * (n * 10 ^ k + r / 10) + r % 10 := by
      rw [Nat.pow_succ]
      have := Nat.div_add_mod r 10
      rw [← Nat.mul_assoc]
      omega
    have p : 0 < n * 10 ^ k + r / 10 := Nat.add_pos_left (Nat.mul_pos hn (Nat.pow_pos (by decide))) _
    rw [e, ← Nat.toDigits_append_toDigits (by decide) p (Nat.mod_lt _ (by decide)), ih, Nat.toDigits_of_lt_base (Nat.mod_lt _ (by decide))]
    simp [pad]
theorem pad_zero : ∀ k, pad k 0 = List.replicate k '0'
  | 0 => rfl
  | k + 1 => by
    rw [pad, pad_zero k, List.replicate_succ']
    rfl
theorem pad_eq : ∀ (k r : Nat), 1 ≤ k → r < 10 ^ k → pad k r = List.replicate (k - (Nat.toDigits 10 r).length) '0' ++ Nat.toDigits 10 r
  | 1, r, _, h => by
    have h : r < 10 := by simpa using h
    rw [Nat.toDigits_of_lt_base h]
    simp [pad, Nat.mod_eq_of_lt h]
  | k + 2, r, _, h => by
    have h1 : r / 10 < 10 ^ (k + 1) := by
      rw [Nat.pow_succ] at h
      omega
    have ih := pad_eq (k + 1) (r / 10) (by omega) h1
    rw [pad]
    by_cases h0 : r < 10
    · have : r / 10 = 0 := by omega
      rw [this, pad_zero, Nat.toDigits_of_lt_base h0, Nat.mod_eq_of_lt h0]
      rfl
    · have e : Nat.toDigits 10 r = Nat.toDigits 10 (r / 10) ++ [Nat.digitChar (r % 10)] := by
        rw [← Nat.toDigits_of_lt_base (Nat.mod_lt r (by decide : 10 > 0)), Nat.toDigits_append_toDigits (by decide) (by omega) (Nat.mod_lt _ (by decide)), Nat.div_add_mod]
      rw [ih, e, List.length_append]
      rw [show k + 1 + 1 - ((Nat.toDigits 10 (r / 10)).length + [Nat.digitChar (r % 10)].length) = k + 1 - (Nat.toDigits 10 (r / 10)).length by simp only [List.length_cons, List.length_nil]; omega]
      simp
/-- the text of digits -/
def chS (l : List Char) : Str := ⟨(l.map Char.toNat).toArray⟩
theorem chS_append (a b : List Char) : chS (a ++ b) = chS a ++ chS b := by
  show Str.mk _ = Str.mk _
  congr 1
  simp [chS]
theorem toS (n : Nat) : ((toString (n : Int) : String) : Str) = chS (Nat.toDigits 10 n) := by
  rw [show ((toString (n : Int) : String) : Str) = Str.ofString (toString (n : Int)) from rfl, Str.ofString_eq_toList]
  unfold chS
  congr 3
  show (Int.repr (n : Int)).toList = _
  simp [Int.repr, Nat.repr]
theorem zf {k r : Nat} (hk : 1 ≤ k) (hr : r < 10 ^ k) : Txt.zfill (chS (Nat.toDigits 10 r)) (k : Nat) = chS (pad k r) := by
  have hlen : (chS (Nat.toDigits 10 r)).length = (Nat.toDigits 10 r).length := by
    show (chS (Nat.toDigits 10 r)).cps.size = _
    simp [chS]
  rw [pad_eq k r hk hr]
  unfold Txt.zfill
  rw [hlen]
  by_cases h : ((k : Nat) : Int) ≤ ((Nat.toDigits 10 r).length : Nat)
  · rw [if_pos h, show k - (Nat.toDigits 10 r).length = 0 by omega]
    simp
  · rw [if_neg h]
    have e0 : (chS (Nat.toDigits 10 r)).cps[0]? = ((Nat.toDigits 10 r)[0]?).map Char.toNat := by simp [chS]
    have key : (chS (Nat.toDigits 10 r)).cps[0]? ≠ some 43 ∧ (chS (Nat.toDigits 10 r)).cps[0]? ≠ some 45 := by
      rw [e0]
      cases hd : (Nat.toDigits 10 r)[0]? with
      | none => simp
      | some c =>
        have hc := Nat.isDigit_of_mem_toDigits (by decide) (by decide) (List.mem_of_getElem? hd)
        have : 48 ≤ c.toNat := by
          have := hc
          simp only [Char.isDigit, Bool.and_eq_true, decide_eq_true_eq] at this
          exact UInt32.le_iff_toNat_le.mp this.1
        simp only [Option.map_some, ne_eq, Option.some.injEq]
        omega
    have e : zfilled (chS (Nat.toDigits 10 r)) (Int.toNat k - (Nat.toDigits 10 r).length) = Builtin.Str.padded (chS (Nat.toDigits 10 r)) (Int.toNat k - (Nat.toDigits 10 r).length) 0 48 := by
      unfold zfilled
      split
      · rename_i q; exact absurd q key.1
      · rename_i q; exact absurd q key.2
      · rfl
    rw [e, chS_append]
    unfold Builtin.Str.padded
    show Str.mk _ = Str.mk _
    congr 1
    simp [chS]
def cat : List Str → Str
  | [] => Str.empty
  | x :: r => x ++ cat r
theorem empty_add (x : Str) : Str.empty ++ x = x := by
  show Str.mk _ = Str.mk _
  simp [Str.empty]
theorem add_empty (x : Str) : x ++ Str.empty = x := by
  show Str.mk _ = Str.mk _
  simp [Str.empty]
theorem cat_append (a b : List Str) : cat (a ++ b) = cat a ++ cat b := by
  induction a with
  | nil => exact (empty_add _).symm
  | cons x r ih => rw [List.cons_append, cat, cat, ih, Str.append_assoc]
theorem cat_foldl : ∀ (l : List Str) (x : Str), (⟨l.foldl (fun acc p => acc ++ Str.empty.cps ++ p.cps) x.cps⟩ : Str) = x ++ cat l
  | [], x => (add_empty x).symm
  | y :: r, x => by
    rw [List.foldl_cons]
    have e : x.cps ++ Str.empty.cps ++ y.cps = (x ++ y).cps := by
      show _ = x.cps ++ y.cps
      simp [Str.empty]
    rw [e, cat_foldl r (x ++ y), cat, Str.append_assoc]
theorem join_empty : ∀ l : List Str, Txt.join Str.empty l = cat l
  | [] => rfl
  | x :: r => cat_foldl r x
theorem cat_length : ∀ l : List Str, (cat l).length = (l.map (·.length)).sum
  | [] => rfl
  | x :: r => by rw [cat, Str.length_append, cat_length r, List.map_cons, List.sum_cons]
theorem chS_length (l : List Char) : (chS l).length = l.length := by
  show (chS l).cps.size = _
  simp [chS]
theorem pad_length : ∀ k r, (pad k r).length = k
  | 0, _ => rfl
  | k + 1, r => by rw [pad, List.length_append, pad_length k]; rfl
/-- one turn: the last sixty digits are cut off -/
theorem turn60 {n : Nat} (h : 10 ^ 60 ≤ n) : ((toString (n : Int) : String) : Str) = ((toString ((n / 10 ^ 60 : Nat) : Int) : String) : Str) ++ Txt.zfill ((toString ((n % 10 ^ 60 : Nat) : Int) : String) : Str) (60 : Nat) ∧
    (Txt.zfill ((toString ((n % 10 ^ 60 : Nat) : Int) : String) : Str) (60 : Nat)).length = 60 := by
  have q : 0 < n / 10 ^ 60 := Nat.div_pos h (Nat.pow_pos (by decide))
  have r : n % 10 ^ 60 < 10 ^ 60 := Nat.mod_lt _ (Nat.pow_pos (by decide))
  rw [toS, toS, toS, zf (by decide) r]
  refine ⟨?_, by rw [chS_length, pad_length]⟩
  conv => lhs; rw [← Nat.div_add_mod n (10 ^ 60), Nat.mul_comm]
  rw [digits_cut q 60 _ r, chS_append]
end Lb
namespace Lb
open PySem L2
theorem vals_rev : ∀ {vs : List V} {us : List Value}, Vals vs us → Vals vs.reverse us.reverse
  | [], _, .nil => .nil
  | _ :: _, _, .cons r t => by
    rw [List.reverse_cons, List.reverse_cons]
    exact (vals_rev t).append (.cons r .nil)
theorem kit_of_own {K : PySem.W.Frag} {C : Addr} {T : String} (hm : PySem.W.kitMeta T = true) (h : PySem.W.subIn K (.ref C) (.type T) = some false) : PySem.W.kitOne K (.ref C) (.type T) = some false := by
  have ne : (Value.ref C == Value.type T) = false := Bool.eq_false_iff.mpr fun q => nomatch beq_iff_eq.mp q
  unfold PySem.W.kitOne
  rw [ne, if_neg (by decide)]
  unfold PySem.W.kitCls
  dsimp only
  rw [if_pos hm]
  exact h
end Lb

set_option Elab.async false
set_option linter.all false
set_option maxRecDepth 100000
set_option maxHeartbeats 4000000
set_option exponentiation.threshold 10000
namespace Lb
open PySem L2

/-! fractions in lowest terms -/
abbrev Q2 := Int × Int
theorem bd_one {n : Nat} : Bd (n + 1) 1 := by
  show 1 < 2 ^ (n + 1)
  exact Nat.one_lt_two_pow (Nat.succ_ne_zero n)
def rdD (t b : Int) : Int := if b < 0 then -((Nat.gcd t.natAbs b.natAbs : Nat) : Int) else ((Nat.gcd t.natAbs b.natAbs : Nat) : Int)
def rdT (t b : Int) : Int := t.fdiv (rdD t b)
def rdB (t b : Int) : Int := b.fdiv (rdD t b)
theorem rdT_one (t : Int) : rdT t 1 = t := by
  unfold rdT rdD
  simp [Int.fdiv_one]
theorem rdB_one (t : Int) : rdB t 1 = 1 := by
  unfold rdB rdD
  simp [Int.fdiv_one]
/-- a fraction in lowest terms, its parts below a power of two -/
structure Low (n : Nat) (x : Q2) : Prop where
  t : Bd n x.1
  b : Bd n x.2
  pos : 0 < x.2
  g : x.1.gcd x.2 = 1
theorem Low.mono {n m : Nat} {x : Q2} (h : Low n x) (k : n ≤ m) : Low m x := ⟨h.t.mono k, h.b.mono k, h.pos, h.g⟩
def rd (t b : Int) : Q2 := (rdT t b, rdB t b)
theorem rd_spec {t b : Int} (hb : b ≠ 0) : 0 < rdB t b ∧ (rdT t b).gcd (rdB t b) = 1 ∧ t = (rdD t b) * rdT t b ∧ b = (rdD t b) * rdB t b := by
  have hg : 0 < t.gcd b := Int.gcd_pos_of_ne_zero_right t hb
  obtain ⟨t1, ht⟩ := Int.gcd_dvd_left t b
  obtain ⟨b1, hb1⟩ := Int.gcd_dvd_right t b
  have g1 : t1.gcd b1 = 1 := by
    have h := Int.gcd_mul_left (t.gcd b : Int) t1 b1
    rw [← ht, ← hb1] at h
    have h' : t.gcd b * 1 = t.gcd b * t1.gcd b1 := by simpa using h
    exact (Nat.eq_of_mul_eq_mul_left hg h').symm
  have key : ∀ D x y : Int, D ≠ 0 → t = D * x → b = D * y → t.fdiv D = x ∧ b.fdiv D = y := fun D x y hD h1 h2 => by
    rw [h1, h2]
    exact ⟨Int.mul_fdiv_cancel_left _ hD, Int.mul_fdiv_cancel_left _ hD⟩
  have eg : ((Nat.gcd t.natAbs b.natAbs : Nat) : Int) = (t.gcd b : Int) := rfl
  unfold rdT rdB
  by_cases h : b < 0
  · have eD : rdD t b = -(t.gcd b : Int) := by unfold rdD; rw [if_pos h, eg]
    obtain ⟨e1, e2⟩ := key (rdD t b) (-t1) (-b1) (by omega) (by rw [eD, Int.neg_mul_neg]; exact ht) (by rw [eD, Int.neg_mul_neg]; exact hb1)
    rw [e1, e2]
    have hb2 : b1 < 0 := by
      have : (t.gcd b : Int) * b1 < (t.gcd b : Int) * 0 := by omega
      exact Int.lt_of_mul_lt_mul_left this (by omega)
    refine ⟨by omega, ?_, by rw [eD, Int.neg_mul_neg]; exact ht, by rw [eD, Int.neg_mul_neg]; exact hb1⟩
    rw [Int.neg_gcd, Int.gcd_neg]
    exact g1
  · have eD : rdD t b = (t.gcd b : Int) := by unfold rdD; rw [if_neg h, eg]
    obtain ⟨e1, e2⟩ := key (rdD t b) t1 b1 (by omega) (by rw [eD]; exact ht) (by rw [eD]; exact hb1)
    rw [e1, e2]
    have hb2 : 0 < b1 := by
      have : (t.gcd b : Int) * 0 < (t.gcd b : Int) * b1 := by omega
      exact Int.lt_of_mul_lt_mul_left this (by omega)
    exact ⟨hb2, g1, by rw [eD]; exact ht, by rw [eD]; exact hb1⟩
theorem rd_low {n : Nat} {t b : Int} (hb : b ≠ 0) (h1 : Bd n t) (h2 : Bd n b) : Low n (rd t b) := by
  obtain ⟨p, g, e3, e4⟩ := rd_spec (t := t) (b := b) hb
  have hD : 1 ≤ (rdD t b).natAbs := by
    rcases Nat.eq_zero_or_pos (rdD t b).natAbs with e | e
    · have := Int.natAbs_eq_zero.mp e
      rw [this, Int.zero_mul] at e4
      exact absurd e4 hb
    · exact e
  have le : ∀ z : Int, z.natAbs ≤ (rdD t b * z).natAbs := fun z => by
    rw [Int.natAbs_mul]
    exact Nat.le_mul_of_pos_left _ hD
  exact ⟨h1.le (by conv => rhs; rw [e3]
                   exact le _), h2.le (by conv => rhs; rw [e4]
                                          exact le _), p, g⟩
theorem rd_self {t b : Int} (p : 0 < b) (g : t.gcd b = 1) : rdT t b = t ∧ rdB t b = b := by
  have e : rdD t b = 1 := by
    unfold rdD
    rw [if_neg (by omega)]
    show ((t.gcd b : Nat) : Int) = 1
    omega
  unfold rdT rdB
  rw [e, Int.fdiv_one, Int.fdiv_one]
  exact ⟨rfl, rfl⟩

theorem mul_pos_ne {x y : Int} (h : 0 < x) (k : 0 < y) : x * y ≠ 0 := by
  have := Int.mul_pos h k
  omega
/-- the number -/
def val (x : Q2) : Rat := (x.1 : Rat) / (x.2 : Rat)
theorem ne_cast {b : Int} (h : b ≠ 0) : (b : Rat) ≠ 0 := fun z => h (Rat.intCast_inj.mp (z.trans Rat.intCast_zero.symm))
theorem pos_cast {b : Int} (h : 0 < b) : (0 : Rat) < (b : Rat) := by
  have := Rat.intCast_lt_intCast.mpr h
  simpa using this
theorem val_rd {t b : Int} (hb : b ≠ 0) : val (rd t b) = (t : Rat) / (b : Rat) := by
  obtain ⟨p, g, e3, e4⟩ := rd_spec (t := t) (b := b) hb
  have hD : rdD t b ≠ 0 := fun z => by
    rw [z, Int.zero_mul] at e4
    exact hb e4
  have h1 : (t : Rat) = (rdD t b : Rat) * (rdT t b : Rat) := by
    rw [← Rat.intCast_mul, ← e3]
  have h2 : (b : Rat) = (rdD t b : Rat) * (rdB t b : Rat) := by
    rw [← Rat.intCast_mul, ← e4]
  have h3 := ne_cast hD
  have h4 := ne_cast (show rdB t b ≠ 0 by omega)
  show (rdT t b : Rat) / (rdB t b : Rat) = _
  rw [h1, h2]
  grind
theorem val_lt {x y : Q2} (hx : 0 < x.2) (hy : 0 < y.2) : (x.1 * y.2 < y.1 * x.2) ↔ val x < val y := by
  have px := pos_cast hx
  have py := pos_cast hy
  have e1 : val x * ((x.2 : Rat) * y.2) = (x.1 : Rat) * y.2 := by unfold val; grind
  have e2 : val y * ((x.2 : Rat) * y.2) = (y.1 : Rat) * x.2 := by unfold val; grind
  have pp : (0 : Rat) < (x.2 : Rat) * y.2 := Rat.mul_pos px py
  rw [← Rat.intCast_lt_intCast, Rat.intCast_mul, Rat.intCast_mul, ← e1, ← e2]
  constructor
  · intro h
    exact Rat.lt_of_mul_lt_mul_right h (Rat.le_of_lt pp)
  · intro h
    exact Rat.mul_lt_mul_of_pos_right h pp
theorem val_le {x y : Q2} (hx : 0 < x.2) (hy : 0 < y.2) : (x.1 * y.2 ≤ y.1 * x.2) ↔ val x ≤ val y := by
  rw [← Int.not_lt, val_lt hy hx, Rat.not_lt]
theorem low_eq {t b t' b' : Int} (hb : 0 < b) (hb' : 0 < b') (g : t.gcd b = 1) (g' : t'.gcd b' = 1) (h : t * b' = t' * b) : t = t' ∧ b = b' := by
  have d1 : b ∣ b' := by
    have : b ∣ (b.gcd t : Int) * b' := Int.dvd_gcd_mul_iff_dvd_mul.mpr ⟨t', by grind⟩
    rw [Int.gcd_comm, g] at this
    simpa using this
  have d2 : b' ∣ b := by
    have : b' ∣ (b'.gcd t' : Int) * b := Int.dvd_gcd_mul_iff_dvd_mul.mpr ⟨t, by grind⟩
    rw [Int.gcd_comm, g'] at this
    simpa using this
  have e : b = b' := by
    have h1 := Int.le_of_dvd hb' d1
    have h2 := Int.le_of_dvd hb d2
    omega
  subst e
  refine ⟨?_, rfl⟩
  have : (t - t') * b = 0 := by grind
  rcases Int.mul_eq_zero.mp this with e | e <;> omega
theorem val_inj {n m : Nat} {x y : Q2} (hx : Low n x) (hy : Low m y) (h : val x = val y) : x = y := by
  have px := ne_cast (show x.2 ≠ 0 from by have := hx.pos; omega)
  have py := ne_cast (show y.2 ≠ 0 from by have := hy.pos; omega)
  have e : (x.1 : Rat) * y.2 = (y.1 : Rat) * x.2 := by
    unfold val at h
    grind
  rw [← Rat.intCast_mul, ← Rat.intCast_mul, Rat.intCast_inj] at e
  obtain ⟨h1, h2⟩ := low_eq hx.pos hy.pos hx.g hy.g e
  exact Prod.ext h1 h2
theorem val_add {x y : Q2} (hx : 0 < x.2) (hy : 0 < y.2) : val (rd (x.1 * y.2 + y.1 * x.2) (x.2 * y.2)) = val x + val y := by
  have px := ne_cast (show x.2 ≠ 0 by omega)
  have py := ne_cast (show y.2 ≠ 0 by omega)
  rw [val_rd (mul_pos_ne hx hy), Rat.intCast_add, Rat.intCast_mul, Rat.intCast_mul, Rat.intCast_mul]
  unfold val
  grind
theorem val_sub {x y : Q2} (hx : 0 < x.2) (hy : 0 < y.2) : val (rd (x.1 * y.2 - y.1 * x.2) (x.2 * y.2)) = val x - val y := by
  have px := ne_cast (show x.2 ≠ 0 by omega)
  have py := ne_cast (show y.2 ≠ 0 by omega)
  rw [val_rd (mul_pos_ne hx hy), Rat.intCast_sub, Rat.intCast_mul, Rat.intCast_mul, Rat.intCast_mul]
  unfold val
  grind
theorem val_mul {x y : Q2} (hx : 0 < x.2) (hy : 0 < y.2) : val (rd (x.1 * y.1) (x.2 * y.2)) = val x * val y := by
  have px := ne_cast (show x.2 ≠ 0 by omega)
  have py := ne_cast (show y.2 ≠ 0 by omega)
  rw [val_rd (mul_pos_ne hx hy), Rat.intCast_mul, Rat.intCast_mul]
  unfold val
  grind
theorem val_div {x y : Q2} (hx : 0 < x.2) (hy : 0 < y.2) (h0 : y.1 ≠ 0) : val (rd (x.1 * y.2) (x.2 * y.1)) = val x / val y := by
  have px := ne_cast (show x.2 ≠ 0 by omega)
  have py := ne_cast (show y.2 ≠ 0 by omega)
  have p0 := ne_cast h0
  rw [val_rd (Int.mul_ne_zero (by omega) h0), Rat.intCast_mul, Rat.intCast_mul]
  unfold val
  grind
theorem val_neg (x : Q2) : val (-x.1, x.2) = - val x := by
  show ((-x.1 : Int) : Rat) / x.2 = - ((x.1 : Rat) / x.2)
  rw [Rat.intCast_neg]
  grind
theorem val_zero : val (0, 1) = 0 := by
  show ((0 : Int) : Rat) / ((1 : Int) : Rat) = 0
  rw [Rat.intCast_zero]
  grind
theorem val_eq0 {x : Q2} (hx : 0 < x.2) : x.1 = 0 ↔ val x = 0 := by
  have px := ne_cast (show x.2 ≠ 0 by omega)
  constructor
  · intro h
    unfold val
    rw [h, Rat.intCast_zero]
    grind
  · intro h
    refine Classical.byContradiction fun k => ?_
    have := ne_cast k
    unfold val at h
    grind
theorem val_pos {x : Q2} (hx : 0 < x.2) : 0 < x.1 ↔ 0 < val x := by
  have h := val_lt (x := (0, 1)) (y := x) (by decide) hx
  rw [val_zero] at h
  rw [← h]
  simp
theorem val_negl {x : Q2} (hx : 0 < x.2) : x.1 < 0 ↔ val x < 0 := by
  have h := val_lt (x := x) (y := (0, 1)) hx (by decide)
  rw [val_zero] at h
  rw [← h]
  simp
end Lb

set_option Elab.async false
set_option linter.all false
set_option maxRecDepth 100000
set_option maxHeartbeats 4000000
namespace Lb
open PySem PySem.Spec PyProof.Rows L2
section
variable {X : Cx} {CX : CXT} {k : Nat} {f C p g : Addr} {fd : FuncData} {ps ks : List Str} {sp : Sp} {E : XK} {x m : Str} {pos np apos : Pos} {o fe e : Expr} {es : List Expr} {kws : List Keyword} {ta tf : TE} {t tk : TA} {gf : List Value → List Value → List Value} {gV : List V → List V → List V}
/-! an instance is called -/
def tCallI (C : Addr) (sp : Sp) (E : XK) (tf : TE) (t : TA) : TE := fun σ H Q => tf σ H fun y H1 => ∃ a, y = V.ref a ∧ t σ H1 fun vs H2 => (∃ dx fs, H2 a = some (.ins C dx fs)) ∧ sp (V.ref a :: vs) H2 Q E
theorem pe_callI (hf : PE X fe tf) (c : StX.CallO X.K C g) (F : FnR X.prog X.w X.K X.mg X.base CX k g sp) (hr : Room k X.A) (hx : Passes CX X E) (ha : PA X (e :: es) t)
    (ht : eval (.Call fe (e :: es) [] pos) X.env = (do callWith pos (← eval fe X.env) [] (backTo pos (starEach (e :: es) X.env)) (backToKw pos (keywordEach [] X.env))) := by rfl)
    (he : starEach (e :: es) X.env = (false, eval e X.env) :: starEach es X.env := by rfl) (hpl : (backTo pos (starEach es X.env)).any (·.1) = false := by rfl) : PE X (.Call fe (e :: es) [] pos) (tCallI C sp E tf t) := by
  refine ⟨fun pins s σ H Q I h => ?_⟩
  refine Call_ (thn (hf.run pins s σ H _ I h) fun u s1 ⟨y, H1, I1, ry, a, ey, q⟩ => ?_) ht
  subst ey
  obtain rfl : u = Value.ref a := ry
  refine StX.callO_with (thn (ha.run pos pins s1 σ H1 _ I1 q) fun us s2 ⟨vs, H2, I2, r, ⟨dx, fs, hi⟩, q2⟩ => ?_) he hpl
  obtain ⟨ox, od, J, hd⟩ := StX.insC_at I2 (X := X) (.inr ⟨dx, fs, hi⟩)
  exact ⟨⟨C, ox, od, J, hd⟩, StX.run_callO c F hr hx I2 (.inr ⟨dx, fs, hi⟩) r q2⟩
/-! C.m(e, ..), m a staticmethod -/
structure SMet (K : PySem.W.Frag) (C : Addr) (m : Str) (p g : Addr) : Prop where
  ty : PySem.W.typeIn K (.ref C) = some (.type "type")
  rd : PySem.W.readsIn K C (.type "type") = true
  ga : PySem.W.specialIn K (.ref C) "__getattribute__" = some (some (.builtin "type.__getattribute__"))
  at_ : PySem.W.findCls K (.ref C) (.type "type") m = some (.get (.builtin "staticmethod.__get__") (.ref p) .none (.ref C))
  rc : ∃ rest, PySem.W.recIn K p "staticmethod" = some (.ref g :: rest)
  kp : PySem.W.keepIn K (.ref g) = true
def tSMeth (C : Addr) (sp : Sp) (E : XK) (ta : TE) (t : TA) : TE := fun σ H Q => ta σ H fun x H1 => x = .ref C ∧ t σ H1 fun vs H2 => sp vs H2 Q E
theorem getsm_ok {pins : List (Addr × Obj)} {σ : L2.St} {H : Hp} {s : Shared} {A : Around} {Ex : Value → Shared → Prop} {pl : Sem Bool} {Q : Value × List Value → Shared → Prop} (I : Inv X pins σ H s) (c : SMet X.K C m p g)
    (h : ∀ s', Inv X pins σ H s' → Q (.ref g, []) s') : wpAny (model X.prog X.w) A (getMethod (.ref C) m pl) Q Ex s := by
  obtain ⟨rest, hp⟩ := c.rc
  obtain ⟨mm, F⟩ := I.fr
  exact PySem.W.method_cls I.kIn c.ga (PySem.W.cls_sm F I.ok.mod.kin c.ty c.rd c.at_ hp rfl (h _ (I.tok _)))
theorem pe_smeth {pl : Sem Bool} {ds : List Value} {dvs : List V} (he : PE X o ta) (c : SMet X.K C m p g) (F : FnOk X.prog X.w X.K X.mg X.base CX k g fd ps sp) (hr : Room k X.A) (hb : Binds X.K fd ps ds) (hd : Vals dvs ds) (hx : Passes CX X E) (ha : PA X (e :: es) t)
    (hst : starEach (e :: es) X.env = (false, eval e X.env) :: starEach es X.env := by rfl) (hpl : (backTo pos (starEach es X.env)).any (·.1) = false := by rfl)
    (ht : eval (.Call (.Attribute o m apos) (e :: es) [] pos) X.env = (do
      let ov ← eval o X.env
      standAt apos.atName
      let (f, first) ← holding [ov] (getMethod ov m pl)
      callWith pos f first (backTo pos (starEach (e :: es) X.env)) (backToKw pos (keywordEach [] X.env))) := by rfl) :
    PE X (.Call (.Attribute o m apos) (e :: es) [] pos) (tSMeth C (fun vs H Q E => sp (vs ++ dvs) H Q E) E ta t) := by
  refine ⟨fun pins s σ H Q I h => ?_⟩
  refine PySem.W.methodCall_KW (pl := pl) (thn (he.run pins s σ H _ I h) fun u s1 ⟨x, H1, I1, rx, ex, q⟩ => ?_) ht
  subst ex
  obtain rfl : u = Value.ref C := rx
  refine getsm_ok I1 c fun s2 I2 => ?_
  refine PySem.W.callWith_K (first := []) (h₀ := X.base) I.ok.mod.kin c.kp (thn (ha.run pos pins s2 σ H1 _ I2 q) fun us s3 ⟨vs, H2, I3, rv, q2⟩ => ⟨I3.kIn, ?_⟩) hst hpl
  exact run_fn F hr hb hd hx I3 rv q2
/-! an instance is called with keywords alone -/
abbrev KeptBy (s : Shared) (o : Addr) : Prop := ∃ D y z, PySem.W.InstAt s.heap o y D z ∧ y.data = .plain
theorem inst_kw {M : Model} {A : Around} {Bad : Value → Shared → Prop} {Fin : Value → Shared → Prop} {t : Shared} {o : Addr} {pos : Pos} {us : List (Bool × Sem Value)} {ns : List (Option Str × Sem Value)} (no : (us.any (·.1) || ns.any (·.1.isNone)) = false)
    (run : wpAny M A (evalArgs (.ref o) true us ns) (fun got t' => KeptBy t' o ∧ wpAny M A (call (.ref o) got.pos got.kw) Fin Bad t') Bad t) :
    wpAny M A (callWith pos (.ref o) [] us ns) Fin Bad t := by
  have last : ∀ {go : Sem Value} {t' : Shared}, wpAny M A go Fin Bad t' → wpAny M A (go >>= fun v => holding [v] point >>= fun _ => pure v) Fin Bad t' := by
    intro go t' g
    apply wpAny_bind
    refine wpAny_mono g ?_ fun _ _ b => b
    intro v t2 fin
    exact wpAny_bind (wpAny_holding (wpAny_point (wpAny_pure fin)))
  unfold callWith
  apply wpAny_bind
  apply wpAny_holding
  refine wpAny_mono run ?_ fun _ _ b => b
  rintro got t' ⟨⟨D, y, z, inst, dat⟩, go⟩
  apply wpAny_bind
  apply wpAny_standAt
  have keeper := PySem.W.kco_keeper (M := M) inst dat
  simp only [no]
  apply wpAny_bind
  apply keeper.here
  exact last (wpAny_operateT go)
def tCallIK (nk : Nat) (C : Addr) (sp : Sp) (gV : List V → List V → List V) (E : XK) (tf : TE) (tk : TA) : TE := fun σ H Q => tf σ H fun y H1 => ∃ a, y = V.ref a ∧ tk σ H1 fun zs H2 => (∃ dx fs, H2 a = some (.ins C dx fs)) ∧ zs.length = nk ∧ sp (gV [.ref a] zs) H2 Q E
theorem pe_callIK (hf : PE X fe tf) (c : StX.CallO X.K C g) (F : FnOk X.prog X.w X.K X.mg X.base CX k g fd ps sp) (hr : Room k X.A) (hb : KBn X.K fd ps 1 ks gf gV) (hx : Passes CX X E) (hkw : PK X kws tk)
    (hall : (backToKw pos (keywordEach kws X.env)).all (·.1.isSome) = true := by rfl) (hks : (backToKw pos (keywordEach kws X.env)).filterMap (·.1) = ks := by rfl)
    (hpl : ((backTo pos (starEach [] X.env)).any (·.1) || (backToKw pos (keywordEach kws X.env)).any (·.1.isNone)) = false := by rfl)
    (ht : eval (.Call fe [] kws pos) X.env = (do callWith pos (← eval fe X.env) [] (backTo pos (starEach [] X.env)) (backToKw pos (keywordEach kws X.env))) := by rfl) : PE X (.Call fe [] kws pos) (tCallIK ks.length C sp gV E tf tk) := by
  refine ⟨fun pins s σ H Q I h => ?_⟩
  rw [ht]
  refine wpAny_bind (thn (hf.run pins s σ H _ I h) fun u s1 ⟨y, H1, I1, ry, a, ey, q⟩ => ?_)
  subst ey
  obtain rfl : u = Value.ref a := ry
  refine inst_kw hpl (evalArgs_kw2_nil hall ?_)
  refine thn (hkw.run pos pins s1 σ H1 _ I1 q) fun ws s2 ⟨zs, H2, I2, rz, ⟨dx, fs, hi⟩, l2, q2⟩ => ?_
  obtain ⟨ox, od, J, hd⟩ := StX.insC_at I2 (X := X) (.inr ⟨dx, fs, hi⟩)
  refine ⟨⟨C, ox, od, J, hd⟩, ?_⟩
  rw [hks]
  refine wpAny_call (PySem.W.kco_code I2.kIn J hd c.at_ c.fn c.fi ?_)
  refine codeAny_mono (F.run X.A X.stack s2 H2 ⟨[.ref a], ks.zip ws⟩ (gf [.ref a] ws) (gV [.ref a] zs) Q E hr I2.env0 (hb.to s2 [.ref a] ws I2.kIn rfl (rz.length.symm.trans l2)) (hb.rel (.cons rfl .nil) rz) q2) fun r s' hq => ?_
  cases r with
  | error e => exact hx pins σ H2 s2 e s' I2 hq
  | ok fl =>
    cases fl with
    | ret u => exact I2.after hq
    | next => exact False.elim hq
    | brk => exact False.elim hq
    | cont => exact False.elim hq
end
end Lb

set_option Elab.async false
set_option linter.all false
set_option maxRecDepth 100000
set_option maxHeartbeats 4000000
namespace Lb
open PySem PySem.Spec PyProof.Rows L2
/-! enumerate of whatever iter() turns into a new object, with one argument -/
abbrev EnO (k : Nat) : Obj := { cls := .type "enumerate", data := .fields #[.none, .bool false, .ref k, rawInt 0, .none, .none] }
theorem made_enum {v : Value} {o : Obj} {Z : Heap → Prop} (B : Begins v o Z) :
    Meets (Builtin.«enumerate.__new__» ⟨[.type "enumerate", v], []⟩) (fun _ R s => Z s.heap ∧ R (.ok (.ret (.ref (s.heap.push o).objs.size))) { s with heap := (s.heap.push o).push (EnO s.heap.objs.size) }) := by
  refine .of_wp fun P w A R s ⟨z, fin⟩ => ?_
  obtain ⟨hp, gl, od, tk, out⟩ := s
  have sb := sub_enumerate
  have it : ∀ {A' : Around} {Bad Q : Value → Shared → Prop}, Q (.ref hp.objs.size) ⟨hp.push o, gl, od, tk, out⟩ → wpAny (model P w) A' (pyIter v) Q Bad ⟨hp, gl, od, tk, out⟩ := fun q => B.iter P w _ _ ⟨hp, gl, od, tk, out⟩ _ z q
  wp_walk using it
  refine wpAny_stack_any fun _ => wpAny_pure ?_
  split
  · rename_i cc _ _ _ _ _
    cases (cc == Value.type "enumerate") <;> (wp_walk using it; exact ⟨_, rfl, fin⟩)
  · wp_walk using it
    exact ⟨_, rfl, fin⟩
theorem enum_called {P : Program} {w : World} {A : Around} {Bad : Value → Shared → Prop} {s : Shared} {v : Value} {o : Obj} {Z : Heap → Prop} {Q : Value → Shared → Prop} (B : Begins v o Z) (z : Z s.heap)
    (fin : ∀ h2, IsEnum h2 (s.heap.objs.size + 1) s.heap.objs.size 0 .none → h2.get? s.heap.objs.size = some o → (∀ b ob, s.heap.get? b = some ob → h2.get? b = some ob) → Q (.ref (s.heap.objs.size + 1)) { s with heap := h2 }) :
    wpAny (model P w) A (call (.type "enumerate") [v]) Q Bad s := by
  refine callType_new F.called_enumerate (by decide) (F.typeCall_enumerate_1 _) (F.newCall_enumerate_1 _) (fun ob => F.args_object_init_2 ob _) F.entry_enumerate_new (made_enum B) ⟨z, ?_⟩
  have n1 : (s.heap.push o).objs.size = s.heap.objs.size + 1 := Heap.size_push ..
  have top : ((s.heap.push o).push (EnO s.heap.objs.size)).get? (s.heap.push o).objs.size = some (EnO s.heap.objs.size) := Heap.get?_push_size _ rfl
  rw [n1] at top
  show _ ∧ _
  rw [n1]
  exact ⟨⟨_, top, rfl⟩, fin _ top (Heap.get?_push_of_some _ (Heap.get?_push_size _ B.free)) fun b ob q => Heap.get?_push_of_some _ (Heap.get?_push_of_some _ q)⟩
/-- the tuple at a, each item in a new pair with its place -/
def IteT (K : PySem.W.Frag) (a : Addr) : It where
  go i H := ∃ (xs : List V) (x : V), SqT K H a xs ∧ xs[i]? = some x
  yld i H v H' := ∃ T x, v = .ref T ∧ H T = none ∧ H' = L2.upd H T (.tup [.int (i : Nat), x]) ∧ ∀ xs, SqT K H a xs → xs[i]? = some x
  stop i H := ∃ xs : List V, SqT K H a xs ∧ xs.length ≤ i
theorem enum_turn {P : Program} {w : World} {K : PySem.W.Frag} {elts : List Expr} {kk : Nat} {tpos : Pos} (a e it : Addr) :
    Turn P w K (.Tuple elts kk tpos) (IteT K a) [e, it] e (fun i h => (∃ old, IsEnum h e it ((i : Nat) : Int) old) ∧ h.IsTupleIter it a i ∧ e ≠ it) where
  mem := List.mem_cons_self
  self := fun A i s Q E st h => by
    obtain ⟨⟨_, he⟩, _⟩ := st
    exact wpAny_pyIter_enum he h
  obj := by
    rintro i h ⟨⟨old, he⟩, ⟨o, ho, hc, hd⟩, _⟩ b hb
    rw [List.mem_cons, List.mem_singleton] at hb
    rcases hb with rfl | rfl
    · exact ⟨_, he, fun v q => nomatch q⟩
    · exact ⟨o, ho, fun v q => by rw [hd] at q; cases q⟩
  keep := by
    rintro i h h' ⟨⟨old, he⟩, hi, ne⟩ k
    exact ⟨⟨old, k e (by simp) _ he⟩, hi.at fun o q => k it (by simp) o q, ne⟩
  item := by
    rintro X rfl rfl rfl hc i pins s σ H E I hf ⟨⟨old, he⟩, hi, ne⟩ ⟨xs, x, hq, hx⟩
    obtain ⟨its, rv, ⟨ot, hot, cot, rt⟩, hz⟩ := I.tuple hq
    obtain ⟨u, hu, ru⟩ := rv.get hx
    have ai : a ≠ it := by
      rintro rfl
      obtain ⟨o, ho, hc', _⟩ := id hi
      have := hot.symm.trans ho
      injection this with this
      rw [← this, cot] at hc'
      exact absurd hc' (by decide)
    have ae : e ≠ a := by
      rintro rfl
      have := hot.symm.trans he
      injection this with this
      rw [this] at cot
      injection cot with cot
      exact absurd cot (by decide)
    have D := Draws.tuple (prog := X.prog) (w := X.w) (A := X.A.in1) (I.ok.hd hc) it a ai its.toArray
    have li := rv.length
    have lt : i < its.toArray.size := by
      have := (List.getElem?_eq_some_iff.mp hu).1
      simpa using this
    have be : e < s.heap.objs.size := Heap.lt_size he
    have bi : it < s.heap.objs.size := by obtain ⟨_, q, _⟩ := id hi; exact Heap.lt_size q
    refine wpAny_pyNext_enum_itemD D he ⟨hi, ⟨ot, hot, cot, rt⟩⟩ lt ne (by simp [ne, ae]) fun y h' tk py ho st' hT _ hk => ?_
    obtain rfl : y = u := by
      have : its.toArray[i]? = some u := by simpa using hu
      exact Option.some.inj (py.symm.trans this)
    refine ⟨_, rfl, wpAny_letOwnedTupleGo_enum (s := { s with heap := h', toks := tk + 1 }) ho fun h2 he2 sb => ?_⟩
    have new : ObjOk X.prog X.w (L2.upd H s.heap.objs.size (.tup [.int (i : Nat), x])) h2 s.heap.objs.size (.tup [.int (i : Nat), x]) :=
      ⟨by show 2 ≤ sizeLine; decide, [.int i tk, y], .cons ⟨_, rfl⟩ (.cons ru .nil), ⟨_, (sb.2 _ (Nat.ne_of_gt be)).trans hT, rfl, _, rfl⟩⟩
    have I1 : Inv X pins σ (L2.upd H s.heap.objs.size (.tup [.int (i : Nat), x])) { s with heap := h2, toks := tk + 1 } := by
      refine I.turnedNew (ch := [e, it]) (fun b ob hb q => ?_) hf (Nat.le_refl _) new
      simp only [List.mem_cons, List.not_mem_nil, or_false, not_or] at hb
      exact (sb.2 b hb.1).trans (hk b ob hb.1 hb.2 q)
    refine ⟨.ref s.heap.objs.size, _, I1, rfl, ⟨_, x, rfl, I.hok.fresh (Nat.le_refl _), rfl, fun ys hy => by rw [I.tuple_inj hy hq]; exact hx⟩, ⟨⟨y, ?_⟩, st'.1.at fun o q => (sb.2 it (Ne.symm ne)).trans q, ne⟩, fun b hb => ?_⟩
    · rw [show ((i + 1 : Nat) : Int) = (i : Int) + 1 by omega]
      exact he2
    · have : b < s.heap.objs.size := by
        rw [List.mem_cons, List.mem_singleton] at hb
        rcases hb with rfl | rfl
        · exact be
        · exact bi
      rw [upd_ne (Nat.ne_of_lt this)]
      exact (hf b hb).1
  done := by
    rintro X rfl rfl rfl hc i pins s σ H E I hf ⟨⟨old, he⟩, hi, ne⟩ ⟨xs, hq, hx⟩
    obtain ⟨its, rv, ⟨ot, hot, cot, rt⟩, hz⟩ := I.tuple hq
    have ll := rv.length
    have out : its.toArray[i]? = none := by
      rw [Array.getElem?_eq_none_iff]
      show its.length ≤ i
      omega
    have D : Draws X.prog X.w X.A.in1 it [it, a] 0 (fun _ _ => True) (fun _ h => h.IsTupleIter it a i ∧ h.IsTuple a its.toArray) :=
      { live := fun _ _ st => by
          obtain ⟨⟨o, ho, _⟩, _⟩ := st
          exact ⟨o, ho⟩
        frame := fun _ _ _ st k => ⟨st.1.at fun o q => k it (by simp) o q, st.2.at fun o q => k a (by simp) o q⟩
        item := fun j _ _ _ lt => absurd lt (Nat.not_lt_zero _)
        done := fun t Q E' st q => wpAny_nextOf_tuple_end (I.ok.hd hc) st.1 st.2 out q }
    obtain ⟨f0, f1, f2, f3, f4, f5⟩ := hf it (by simp)
    exact wpAny_pyNext_enum_endD D he ⟨hi, ⟨ot, hot, cot, rt⟩⟩ fun h2 eb => ⟨rfl, I.turned (t' := s.toks) (fun b o nb q => eb b o nb q) f0 f1 f3 f4 f5⟩
def iEnumT (K : PySem.W.Frag) (ta : TA) : TI := fun σ H R => ta σ H fun vs H1 => ∃ a xs, vs = [.ref a] ∧ SqT K H1 a xs ∧ R (IteT K a) H1
theorem pi_enumT {X : Cx} {e : Expr} {ta : TA} {p pos tpos : Pos} {elts : List Expr} {kk : Nat} (hg : Gl X "enumerate") (hm : X.mg "enumerate" = none) (ha : PA X [e] ta) (hs : starEach [e] X.env = [(false, eval e X.env)] := by rfl) :
    PI X (.Tuple elts kk tpos) (.Call (.Name "enumerate" p) [e] [] pos) (iEnumT X.K ta) := by
  constructor
  intro pins s σ H R I h
  refine Call_ (ld_blt I hg hm boot_enumerate (PyProof.Rows.callWith_type1 (thn (ha.run pos pins s σ H _ I h) ?_) hs rfl))
  rintro us s1 ⟨vs, H1, I1, r1, a, xs, rfl, hq, q⟩
  obtain ⟨u, rfl⟩ : ∃ u, us = [u] := by
    cases r1 with
    | cons r rr => cases rr; exact ⟨_, rfl⟩
  obtain rfl : u = Value.ref a := by
    cases r1 with
    | cons r rr => exact r
  obtain ⟨its, rv, tt, hz⟩ := I1.tuple hq
  refine enum_called (begins_tuple a its.toArray) tt fun h2 he hi hk => wpAny_pyIter_enum he ?_
  have I2 : Inv X pins σ H1 { s1 with heap := h2 } := I1.kept (t' := s1.toks) hk
  refine ⟨_, [s1.heap.objs.size + 1, s1.heap.objs.size], _, _, H1, rfl, I2, enum_turn a _ s1.heap.objs.size, ⟨⟨.none, he⟩, ⟨_, hi, rfl, rfl⟩, Nat.succ_ne_self _⟩, fun b hb => ?_, q⟩
  have nb : s1.heap.objs.size ≤ b := by
    rw [List.mem_cons, List.mem_singleton] at hb
    rcases hb with z | z
    · rw [z]
      exact Nat.le_succ _
    · rw [z]
      exact Nat.le_refl _
  exact I1.fpOk nb (I1.hok.fresh nb)
/-- for i, x in enumerate(a tuple) -/
theorem for_enumT {K : PySem.W.Frag} {a : Addr} {xs : List V} {g : TG} {tb : TS} {D : Ends} {σ : L2.St} {H : Hp} (Pv : Nat → L2.St → Hp → Prop) (h0 : Pv 0 σ H) (hq : ∀ i σ H, Pv i σ H → SqT K H a xs)
    (hs : ∀ (i : Nat) (x : V) (T : Addr) (σ : L2.St) (H : Hp), xs[i]? = some x → Pv i σ H → H T = none → g (.ref T) σ (L2.upd H T (.tup [.int (i : Nat), x])) fun σ2 H2 => tb { D with nx := Pv (i + 1), ct := Pv (i + 1), bk := D.nx } σ2 H2)
    (hd : ∀ σ H, Pv xs.length σ H → D.nx σ H) :
    ∃ W : Nat → Nat → L2.St → Hp → Prop, (∃ m, W 0 m σ H) ∧ ∀ i m σ H, W i m σ H →
      ((IteT K a).stop i H ∧ D.nx σ H) ∨ ((IteT K a).go i H ∧ ∃ N : L2.St → Hp → Prop, (∀ σ' H', N σ' H' → ∃ m', m' < m ∧ W (i + 1) m' σ' H') ∧
        ∀ v H', (IteT K a).yld i H v H' → g v σ H' fun σ2 H2 => tb { D with nx := N, ct := N, bk := D.nx } σ2 H2) := by
  refine ⟨fun i m σ H => m = xs.length - i ∧ i ≤ xs.length ∧ Pv i σ H, ⟨xs.length, rfl, Nat.zero_le _, h0⟩, ?_⟩
  rintro i m σ H ⟨rfl, hi, p⟩
  have q := hq i σ H p
  by_cases h : i < xs.length
  · refine .inr ⟨⟨xs, xs[i], q, List.getElem?_eq_getElem h⟩, Pv (i + 1), fun σ' H' p' => ⟨xs.length - (i + 1), by omega, rfl, h, p'⟩, ?_⟩
    rintro v H' ⟨T, x, rfl, hT, rfl, f⟩
    exact hs i x T σ H (f xs q) p hT
  · obtain rfl : i = xs.length := by omega
    exact .inl ⟨⟨xs, q, Nat.le_refl _⟩, hd σ H p⟩
theorem pi_tupK {X : Cx} {K : PySem.W.Frag} {tg l : Expr} {tl : TE} (hK : X.K = K) (hl : PE X l tl) : PI X tg l (iTup K tl) := by subst hK; exact pi_tup hl
end Lb

set_option Elab.async false
set_option linter.all false
set_option maxRecDepth 100000
set_option maxHeartbeats 4000000
namespace Lb
open PySem L2
/-- all but lists is kept -/
def NL (H H' : Hp) : Prop := ∀ b o, (∀ l, o ≠ HO.lst l) → H b = some o → H' b = some o
theorem NL.trans {H H1 H2 : Hp} (h : NL H H1) (k : NL H1 H2) : NL H H2 := fun b o n e => k b o n (h b o n e)
theorem NL.of {H H1 : Hp} (h : L2.Same H H1) : NL H H1 := fun b o _ e => h b o e
theorem NL.refl {H : Hp} : NL H H := fun _ _ _ e => e
theorem NL.mov {p : Addr} {H H1 : Hp} (m : Mov p H H1) (hp : PotAt H p) : NL H H1 := fun b o n e => m.keep b o (fun z => by
  obtain ⟨x, y, q, _⟩ := hp
  rw [z, q] at e
  exact n _ (Option.some.inj e).symm) e
theorem NL.upd {H : Hp} {l : Addr} {ys : List V} {o : HO} (h : H l = some (.lst ys)) : NL H (L2.upd H l o) := fun b u n e => by
  have : b ≠ l := fun z => by
    rw [z, h] at e
    exact n _ (Option.some.inj e).symm
  rw [upd_ne this]
  exact e
theorem Mov.updl {p l : Addr} {H H' : Hp} {o : HO} (m : Mov p H H') (h : H l = none) (n : l ≠ p) : Mov p H (L2.upd H' l o) := by
  refine ⟨fun b u nb e => ?_, ?_⟩
  · rw [upd_ne (ne_of_none e h)]
    exact m.keep b u nb e
  · obtain ⟨x, y, q, z⟩ := m.pot
    exact ⟨x, y, by rw [upd_ne (Ne.symm n)]; exact q, z⟩
theorem Same.free {H H' : Hp} {b : Addr} (s : L2.Same H H') (h : H' b = none) : H b = none := by
  cases z : H b with
  | none => rfl
  | some o =>
    rw [s b o z] at h
    cases h
theorem Fr.nl {p : Addr} {H H' : Hp} {t b : Int} (h : Fr H p t b) (s : NL H H') : Fr H' p t b := s _ _ (fun _ z => nomatch z) h
theorem eqv2 (x y : Int) : PyData.eqv (.list [.int x, .int y]) (.list [.int 0, .int 0]) = (decide (x = 0) && decide (y = 0)) := by
  simp only [PyData.eqv, PyData.eqvAll, Bool.and_true]
  rfl
end Lb

set_option Elab.async false
set_option linter.all false
set_option maxRecDepth 100000
set_option maxHeartbeats 4000000
namespace K15
open PySem L2 Lb
def top (i : Nat) : Stmt := PySem.Challenge.pw_surepipes_k15_whole_curves_at_flows_and.main.body.getD i (.Pass ⟨0, 0, 0, 0⟩)
abbrev s_is_integer : Stmt := (top 14)
theorem sc_is_integer : FnScope ["value"] ["value"] (defScope s_is_integer) := ⟨rfl, rfl, rfl, by decide +kernel, rfl, by decide +kernel, by decide +kernel⟩
abbrev s_is_amount : Stmt := (top 15)
theorem sc_is_amount : FnScope ["value"] ["value"] (defScope s_is_amount) := ⟨rfl, rfl, rfl, by decide +kernel, rfl, by decide +kernel, by decide +kernel⟩
abbrev s_amount_of : Stmt := (top 16)
theorem sc_amount_of : FnScope ["value"] ["value"] (defScope s_amount_of) := ⟨rfl, rfl, rfl, by decide +kernel, rfl, by decide +kernel, by decide +kernel⟩
abbrev s_decimal : Stmt := (top 17)
theorem sc_decimal : FnScope ["number", "parts", "part"] ["number"] (defScope s_decimal) := ⟨rfl, rfl, rfl, by decide +kernel, rfl, by decide +kernel, by decide +kernel⟩
abbrev s_Amount_init_ : Stmt := (inClass (top 21) 0)
theorem sc_Amount_init_ : FnScope ["self", "top", "bottom", "divisor"] ["self", "top", "bottom"] (defScope s_Amount_init_) := ⟨rfl, rfl, rfl, by decide +kernel, rfl, by decide +kernel, by decide +kernel⟩
abbrev s_Amounttop : Stmt := (inClass (top 21) 1)
theorem sc_Amounttop : FnScope ["self"] ["self"] (defScope s_Amounttop) := ⟨rfl, rfl, rfl, by decide +kernel, rfl, by decide +kernel, by decide +kernel⟩
abbrev s_Amountbottom : Stmt := (inClass (top 21) 2)
theorem sc_Amountbottom : FnScope ["self"] ["self"] (defScope s_Amountbottom) := ⟨rfl, rfl, rfl, by decide +kernel, rfl, by decide +kernel, by decide +kernel⟩
abbrev s_Amountsign : Stmt := (inClass (top 21) 3)
theorem sc_Amountsign : FnScope ["self"] ["self"] (defScope s_Amountsign) := ⟨rfl, rfl, rfl, by decide +kernel, rfl, by decide +kernel, by decide +kernel⟩
abbrev s_Amount_add_ : Stmt := (inClass (top 21) 4)
theorem sc_Amount_add_ : FnScope ["self", "other", "right"] ["self", "other"] (defScope s_Amount_add_) := ⟨rfl, rfl, rfl, by decide +kernel, rfl, by decide +kernel, by decide +kernel⟩
abbrev s_Amount_radd_ : Stmt := (inClass (top 21) 5)
theorem sc_Amount_radd_ : FnScope ["self", "other"] ["self", "other"] (defScope s_Amount_radd_) := ⟨rfl, rfl, rfl, by decide +kernel, rfl, by decide +kernel, by decide +kernel⟩
abbrev s_Amount_sub_ : Stmt := (inClass (top 21) 6)
theorem sc_Amount_sub_ : FnScope ["self", "other", "right"] ["self", "other"] (defScope s_Amount_sub_) := ⟨rfl, rfl, rfl, by decide +kernel, rfl, by decide +kernel, by decide +kernel⟩
abbrev s_Amount_rsub_ : Stmt := (inClass (top 21) 7)
theorem sc_Amount_rsub_ : FnScope ["self", "other"] ["self", "other"] (defScope s_Amount_rsub_) := ⟨rfl, rfl, rfl, by decide +kernel, rfl, by decide +kernel, by decide +kernel⟩
abbrev s_Amount_mul_ : Stmt := (inClass (top 21) 8)
theorem sc_Amount_mul_ : FnScope ["self", "other", "right"] ["self", "other"] (defScope s_Amount_mul_) := ⟨rfl, rfl, rfl, by decide +kernel, rfl, by decide +kernel, by decide +kernel⟩
abbrev s_Amount_rmul_ : Stmt := (inClass (top 21) 9)
theorem sc_Amount_rmul_ : FnScope ["self", "other"] ["self", "other"] (defScope s_Amount_rmul_) := ⟨rfl, rfl, rfl, by decide +kernel, rfl, by decide +kernel, by decide +kernel⟩
abbrev s_Amountover : Stmt := (inClass (top 21) 10)
theorem sc_Amountover : FnScope ["self", "other", "right"] ["self", "other"] (defScope s_Amountover) := ⟨rfl, rfl, rfl, by decide +kernel, rfl, by decide +kernel, by decide +kernel⟩
abbrev s_Amount_lt_ : Stmt := (inClass (top 21) 15)
theorem sc_Amount_lt_ : FnScope ["self", "other"] ["self", "other"] (defScope s_Amount_lt_) := ⟨rfl, rfl, rfl, by decide +kernel, rfl, by decide +kernel, by decide +kernel⟩
abbrev s_Amount_le_ : Stmt := (inClass (top 21) 16)
theorem sc_Amount_le_ : FnScope ["self", "other"] ["self", "other"] (defScope s_Amount_le_) := ⟨rfl, rfl, rfl, by decide +kernel, rfl, by decide +kernel, by decide +kernel⟩
abbrev s_Amount_str_ : Stmt := (inClass (top 21) 19)
theorem sc_Amount_str_ : FnScope ["self"] ["self"] (defScope s_Amount_str_) := ⟨rfl, rfl, rfl, by decide +kernel, rfl, by decide +kernel, by decide +kernel⟩
abbrev s_is_point : Stmt := (top 26)
theorem sc_is_point : FnScope ["value"] ["value"] (defScope s_is_point) := ⟨rfl, rfl, rfl, by decide +kernel, rfl, by decide +kernel, by decide +kernel⟩
abbrev s_is_origin : Stmt := (top 27)
theorem sc_is_origin : FnScope ["value"] ["value"] (defScope s_is_origin) := ⟨rfl, rfl, rfl, by decide +kernel, rfl, by decide +kernel, by decide +kernel⟩
abbrev s_checked : Stmt := (top 28)
theorem sc_checked : FnScope ["points", "point", "rows", "position", "row"] ["points"] (defScope s_checked) := ⟨rfl, rfl, rfl, by decide +kernel, rfl, by decide +kernel, by decide +kernel⟩
abbrev s_rises_p : Stmt := (top 29)
theorem sc_rises_p : FnScope ["low", "high"] ["low", "high"] (defScope s_rises_p) := ⟨rfl, rfl, rfl, by decide +kernel, rfl, by decide +kernel, by decide +kernel⟩
abbrev s_with_origin : Stmt := (top 30)
theorem sc_with_origin : FnScope ["rows", "below", "row", "above"] ["rows"] (defScope s_with_origin) := ⟨rfl, rfl, rfl, by decide +kernel, rfl, by decide +kernel, by decide +kernel⟩
abbrev s_piece : Stmt := (top 31)
theorem sc_piece : FnScope ["points", "side", "amount", "first", "last", "middle"] ["points", "side", "amount"] (defScope s_piece) := ⟨rfl, rfl, rfl, by decide +kernel, rfl, by decide +kernel, by decide +kernel⟩
abbrev s_across : Stmt := (top 32)
theorem sc_across : FnScope ["points", "side", "amount", "start", "low", "high", "share"] ["points", "side", "amount"] (defScope s_across) := ⟨rfl, rfl, rfl, by decide +kernel, rfl, by decide +kernel, by decide +kernel⟩
abbrev s_Curve_init_ : Stmt := (inClass (top 39) 0)
theorem sc_Curve_init_ : FnScope ["self", "points"] ["self", "points"] (defScope s_Curve_init_) := ⟨rfl, rfl, rfl, by decide +kernel, rfl, by decide +kernel, by decide +kernel⟩
abbrev s_Curve_call_ : Stmt := (inClass (top 39) 1)
theorem sc_Curve_call_ : FnScope ["self", "flow"] ["self", "flow"] (defScope s_Curve_call_) := ⟨rfl, rfl, rfl, by decide +kernel, rfl, by decide +kernel, by decide +kernel⟩
abbrev s_Curveback : Stmt := (inClass (top 39) 2)
theorem sc_Curveback : FnScope ["self", "drop"] ["self", "drop"] (defScope s_Curveback) := ⟨rfl, rfl, rfl, by decide +kernel, rfl, by decide +kernel, by decide +kernel⟩
abbrev s_Curvepoints : Stmt := (inClass (top 39) 3)
theorem sc_Curvepoints : FnScope ["self"] ["self"] (defScope s_Curvepoints) := ⟨rfl, rfl, rfl, by decide +kernel, rfl, by decide +kernel, by decide +kernel⟩
abbrev s_Curvestraight : Stmt := (inClass (top 39) 11)
theorem sc_Curvestraight : FnScope ["conductance"] ["conductance"] (defScope s_Curvestraight) := ⟨rfl, rfl, rfl, by decide +kernel, rfl, by decide +kernel, by decide +kernel⟩
abbrev s_pot : Stmt := (top 41)
theorem sc_pot : FnScope ["_law_script", "_law_k", "_law_cell"] ["_law_script", "_law_k"] (defScope s_pot) := ⟨rfl, rfl, rfl, by decide +kernel, rfl, by decide +kernel, by decide +kernel⟩
abbrev s_draw : Stmt := (top 42)
theorem sc_draw : FnScope ["_law_pot_here", "_law_size", "_law_digit"] ["_law_pot_here", "_law_size"] (defScope s_draw) := ⟨rfl, rfl, rfl, by decide +kernel, rfl, by decide +kernel, by decide +kernel⟩
abbrev s_low : Stmt := (top 43)
theorem sc_low : FnScope ["_law_high", "_law_low_here", "_law_here", "_law_there"] ["_law_high", "_law_low_here"] (defScope s_low) := ⟨rfl, rfl, rfl, by decide +kernel, rfl, by decide +kernel, by decide +kernel⟩
abbrev s_minus : Stmt := (top 44)
theorem sc_minus : FnScope ["_law_one", "_law_more"] ["_law_one", "_law_more"] (defScope s_minus) := ⟨rfl, rfl, rfl, by decide +kernel, rfl, by decide +kernel, by decide +kernel⟩
abbrev s_amount : Stmt := (top 45)
theorem sc_amount : FnScope ["_law_part"] ["_law_part"] (defScope s_amount) := ⟨rfl, rfl, rfl, by decide +kernel, rfl, by decide +kernel, by decide +kernel⟩
abbrev s_plus : Stmt := (top 46)
theorem sc_plus : FnScope ["_law_one", "_law_more"] ["_law_one", "_law_more"] (defScope s_plus) := ⟨rfl, rfl, rfl, by decide +kernel, rfl, by decide +kernel, by decide +kernel⟩
abbrev s_times : Stmt := (top 47)
theorem sc_times : FnScope ["_law_one", "_law_more"] ["_law_one", "_law_more"] (defScope s_times) := ⟨rfl, rfl, rfl, by decide +kernel, rfl, by decide +kernel, by decide +kernel⟩
abbrev s_less : Stmt := (top 48)
theorem sc_less : FnScope ["_law_one", "_law_more"] ["_law_one", "_law_more"] (defScope s_less) := ⟨rfl, rfl, rfl, by decide +kernel, rfl, by decide +kernel, by decide +kernel⟩
abbrev s_step : Stmt := (top 49)
theorem sc_step : FnScope ["_law_pot_here", "_law_high"] ["_law_pot_here"] (defScope s_step) := ⟨rfl, rfl, rfl, by decide +kernel, rfl, by decide +kernel, by decide +kernel⟩
abbrev s_points : Stmt := (top 50)
theorem sc_points : FnScope ["_law_pot_here", "_law_sides", "_law_found", "_law_turn", "_law_first"] ["_law_pot_here"] (defScope s_points) := ⟨rfl, rfl, rfl, by decide +kernel, rfl, by decide +kernel, by decide +kernel⟩
abbrev s_on : Stmt := (top 51)
theorem sc_on : FnScope ["_law_spots", "_law_x", "_law_part", "_law_place", "_law_here", "_law_there", "_law_wide", "_law_rise", "_law_far"] ["_law_spots", "_law_x", "_law_part"] (defScope s_on) := ⟨rfl, rfl, rfl, by decide +kernel, rfl, by decide +kernel, by decide +kernel⟩
abbrev s_asked : Stmt := (top 52)
theorem sc_asked : FnScope ["_law_pot_here", "_law_spots", "_law_part", "_law_found", "_law_point", "_law_one", "_law_more", "_law_ends", "_law_far"] ["_law_pot_here", "_law_spots", "_law_part"] (defScope s_asked) := ⟨rfl, rfl, rfl, by decide +kernel, rfl, by decide +kernel, by decide +kernel⟩
abbrev s_is : Stmt := (top 53)
theorem sc_is : FnScope ["_law_made", "_law_due"] ["_law_made", "_law_due"] (defScope s_is) := ⟨rfl, rfl, rfl, by decide +kernel, rfl, by decide +kernel, by decide +kernel⟩
abbrev s_one_right : Stmt := (top 54)
theorem sc_one_right : FnScope ["_law_made", "_law_spots", "_law_x", "_law_due", "_law_back", "_law_told", "_law_undone", "_law_same"] ["_law_made", "_law_spots", "_law_x"] (defScope s_one_right) := ⟨rfl, rfl, rfl, by decide +kernel, rfl, by decide +kernel, by decide +kernel⟩
abbrev s_points_right : Stmt := (top 55)
theorem sc_points_right : FnScope ["_law_made", "_law_spots", "_law_told", "_law_pair", "_law_due"] ["_law_made", "_law_spots"] (defScope s_points_right) := ⟨rfl, rfl, rfl, by decide +kernel, rfl, by decide +kernel, by decide +kernel⟩
abbrev s_rises : Stmt := (top 56)
theorem sc_rises : FnScope ["_law_made", "_law_some", "_law_one", "_law_more"] ["_law_made", "_law_some"] (defScope s_rises) := ⟨rfl, rfl, rfl, by decide +kernel, rfl, by decide +kernel, by decide +kernel⟩
abbrev s_straight_right : Stmt := (top 57)
theorem sc_straight_right : FnScope ["_law_pot_here", "_law_steep", "_law_x", "_law_made"] ["_law_pot_here"] (defScope s_straight_right) := ⟨rfl, rfl, rfl, by decide +kernel, rfl, by decide +kernel, by decide +kernel⟩
abbrev s_right : Stmt := (top 58)
theorem sc_right : FnScope ["_law_pot_here", "_law_spots", "_law_rows", "_law_x", "_law_y", "_law_pair", "_law_point", "_law_handed", "_law_made", "_law_more", "_law_some"] ["_law_pot_here"] (defScope s_right) := ⟨rfl, rfl, rfl, by decide +kernel, rfl, by decide +kernel, by decide +kernel⟩
abbrev s_law : Stmt := (top 59)
theorem sc_law : FnScope ["_law_script", "_law_k"] ["_law_script"] (defScope s_law) := ⟨rfl, rfl, rfl, by decide +kernel, rfl, by decide +kernel, by decide +kernel⟩
structure Ad where
  f_is_integer : Addr
  d_is_integer : FuncData
  f_is_amount : Addr
  d_is_amount : FuncData
  f_amount_of : Addr
  d_amount_of : FuncData
  f_decimal : Addr
  d_decimal : FuncData
  f_Amount_init_ : Addr
  d_Amount_init_ : FuncData
  f_Amounttop : Addr
  d_Amounttop : FuncData
  f_Amountbottom : Addr
  d_Amountbottom : FuncData
  f_Amountsign : Addr
  d_Amountsign : FuncData
  f_Amount_add_ : Addr
  d_Amount_add_ : FuncData
  f_Amount_radd_ : Addr
  d_Amount_radd_ : FuncData
  f_Amount_sub_ : Addr
  d_Amount_sub_ : FuncData
  f_Amount_rsub_ : Addr
  d_Amount_rsub_ : FuncData
  f_Amount_mul_ : Addr
  d_Amount_mul_ : FuncData
  f_Amount_rmul_ : Addr
  d_Amount_rmul_ : FuncData
  f_Amountover : Addr
  d_Amountover : FuncData
  f_Amount_lt_ : Addr
  d_Amount_lt_ : FuncData
  f_Amount_le_ : Addr
  d_Amount_le_ : FuncData
  f_Amount_str_ : Addr
  d_Amount_str_ : FuncData
  f_is_point : Addr
  d_is_point : FuncData
  f_is_origin : Addr
  d_is_origin : FuncData
  f_checked : Addr
  d_checked : FuncData
  f_rises_p : Addr
  d_rises_p : FuncData
  f_with_origin : Addr
  d_with_origin : FuncData
  f_piece : Addr
  d_piece : FuncData
  f_across : Addr
  d_across : FuncData
  f_Curve_init_ : Addr
  d_Curve_init_ : FuncData
  f_Curve_call_ : Addr
  d_Curve_call_ : FuncData
  f_Curveback : Addr
  d_Curveback : FuncData
  f_Curvepoints : Addr
  d_Curvepoints : FuncData
  f_Curvestraight : Addr
  d_Curvestraight : FuncData
  f_pot : Addr
  d_pot : FuncData
  f_draw : Addr
  d_draw : FuncData
  f_low : Addr
  d_low : FuncData
  f_minus : Addr
  d_minus : FuncData
  f_amount : Addr
  d_amount : FuncData
  f_plus : Addr
  d_plus : FuncData
  f_times : Addr
  d_times : FuncData
  f_less : Addr
  d_less : FuncData
  f_step : Addr
  d_step : FuncData
  f_points : Addr
  d_points : FuncData
  f_on : Addr
  d_on : FuncData
  f_asked : Addr
  d_asked : FuncData
  f_is : Addr
  d_is : FuncData
  f_one_right : Addr
  d_one_right : FuncData
  f_points_right : Addr
  d_points_right : FuncData
  f_rises : Addr
  d_rises : FuncData
  f_straight_right : Addr
  d_straight_right : FuncData
  f_right : Addr
  d_right : FuncData
  f_law : Addr
  d_law : FuncData
  c_Amount : Addr
  c_Curve : Addr
  p_top : Addr
  p_bottom : Addr
  p_sign : Addr
  p_straight : Addr
structure Txt (K : PySem.W.Frag) (mg : Str → Option Value) (a : Ad) : Prop where
  F_is_integer : Fun K "is_integer" "is_integer" s_is_integer a.f_is_integer a.d_is_integer
  m_is_integer : mg "is_integer" = some (.ref a.f_is_integer)
  F_is_amount : Fun K "is_amount" "is_amount" s_is_amount a.f_is_amount a.d_is_amount
  m_is_amount : mg "is_amount" = some (.ref a.f_is_amount)
  F_amount_of : Fun K "amount_of" "amount_of" s_amount_of a.f_amount_of a.d_amount_of
  m_amount_of : mg "amount_of" = some (.ref a.f_amount_of)
  F_decimal : Fun K "_decimal" "_decimal" s_decimal a.f_decimal a.d_decimal
  m_decimal : mg "_decimal" = some (.ref a.f_decimal)
  F_Amount_init_ : FunD K "__init__" "Amount.__init__" (defArgs s_Amount_init_) (defBody s_Amount_init_) (defScope s_Amount_init_) [.int 1] [] a.f_Amount_init_ a.d_Amount_init_
  F_Amounttop : Fun K "top" "Amount.top" s_Amounttop a.f_Amounttop a.d_Amounttop
  F_Amountbottom : Fun K "bottom" "Amount.bottom" s_Amountbottom a.f_Amountbottom a.d_Amountbottom
  F_Amountsign : Fun K "sign" "Amount.sign" s_Amountsign a.f_Amountsign a.d_Amountsign
  F_Amount_add_ : Fun K "__add__" "Amount.__add__" s_Amount_add_ a.f_Amount_add_ a.d_Amount_add_
  F_Amount_radd_ : Fun K "__radd__" "Amount.__radd__" s_Amount_radd_ a.f_Amount_radd_ a.d_Amount_radd_
  F_Amount_sub_ : Fun K "__sub__" "Amount.__sub__" s_Amount_sub_ a.f_Amount_sub_ a.d_Amount_sub_
  F_Amount_rsub_ : Fun K "__rsub__" "Amount.__rsub__" s_Amount_rsub_ a.f_Amount_rsub_ a.d_Amount_rsub_
  F_Amount_mul_ : Fun K "__mul__" "Amount.__mul__" s_Amount_mul_ a.f_Amount_mul_ a.d_Amount_mul_
  F_Amount_rmul_ : Fun K "__rmul__" "Amount.__rmul__" s_Amount_rmul_ a.f_Amount_rmul_ a.d_Amount_rmul_
  F_Amountover : Fun K "over" "Amount.over" s_Amountover a.f_Amountover a.d_Amountover
  F_Amount_lt_ : Fun K "__lt__" "Amount.__lt__" s_Amount_lt_ a.f_Amount_lt_ a.d_Amount_lt_
  F_Amount_le_ : Fun K "__le__" "Amount.__le__" s_Amount_le_ a.f_Amount_le_ a.d_Amount_le_
  F_Amount_str_ : Fun K "__str__" "Amount.__str__" s_Amount_str_ a.f_Amount_str_ a.d_Amount_str_
  F_is_point : Fun K "_is_point" "_is_point" s_is_point a.f_is_point a.d_is_point
  m_is_point : mg "_is_point" = some (.ref a.f_is_point)
  F_is_origin : Fun K "_is_origin" "_is_origin" s_is_origin a.f_is_origin a.d_is_origin
  m_is_origin : mg "_is_origin" = some (.ref a.f_is_origin)
  F_checked : Fun K "_checked" "_checked" s_checked a.f_checked a.d_checked
  m_checked : mg "_checked" = some (.ref a.f_checked)
  F_rises_p : Fun K "_rises" "_rises" s_rises_p a.f_rises_p a.d_rises_p
  m_rises_p : mg "_rises" = some (.ref a.f_rises_p)
  F_with_origin : Fun K "_with_origin" "_with_origin" s_with_origin a.f_with_origin a.d_with_origin
  m_with_origin : mg "_with_origin" = some (.ref a.f_with_origin)
  F_piece : Fun K "_piece" "_piece" s_piece a.f_piece a.d_piece
  m_piece : mg "_piece" = some (.ref a.f_piece)
  F_across : Fun K "_across" "_across" s_across a.f_across a.d_across
  m_across : mg "_across" = some (.ref a.f_across)
  F_Curve_init_ : Fun K "__init__" "Curve.__init__" s_Curve_init_ a.f_Curve_init_ a.d_Curve_init_
  F_Curve_call_ : Fun K "__call__" "Curve.__call__" s_Curve_call_ a.f_Curve_call_ a.d_Curve_call_
  F_Curveback : Fun K "back" "Curve.back" s_Curveback a.f_Curveback a.d_Curveback
  F_Curvepoints : Fun K "points" "Curve.points" s_Curvepoints a.f_Curvepoints a.d_Curvepoints
  F_Curvestraight : Fun K "straight" "Curve.straight" s_Curvestraight a.f_Curvestraight a.d_Curvestraight
  F_pot : Fun K "_law_pot" "_law_pot" s_pot a.f_pot a.d_pot
  m_pot : mg "_law_pot" = some (.ref a.f_pot)
  F_draw : Fun K "_law_draw" "_law_draw" s_draw a.f_draw a.d_draw
  m_draw : mg "_law_draw" = some (.ref a.f_draw)
  F_low : Fun K "_law_low" "_law_low" s_low a.f_low a.d_low
  m_low : mg "_law_low" = some (.ref a.f_low)
  F_minus : Fun K "_law_minus" "_law_minus" s_minus a.f_minus a.d_minus
  m_minus : mg "_law_minus" = some (.ref a.f_minus)
  F_amount : Fun K "_law_amount" "_law_amount" s_amount a.f_amount a.d_amount
  m_amount : mg "_law_amount" = some (.ref a.f_amount)
  F_plus : Fun K "_law_plus" "_law_plus" s_plus a.f_plus a.d_plus
  m_plus : mg "_law_plus" = some (.ref a.f_plus)
  F_times : Fun K "_law_times" "_law_times" s_times a.f_times a.d_times
  m_times : mg "_law_times" = some (.ref a.f_times)
  F_less : Fun K "_law_less" "_law_less" s_less a.f_less a.d_less
  m_less : mg "_law_less" = some (.ref a.f_less)
  F_step : Fun K "_law_step" "_law_step" s_step a.f_step a.d_step
  m_step : mg "_law_step" = some (.ref a.f_step)
  F_points : Fun K "_law_points" "_law_points" s_points a.f_points a.d_points
  m_points : mg "_law_points" = some (.ref a.f_points)
  F_on : Fun K "_law_on" "_law_on" s_on a.f_on a.d_on
  m_on : mg "_law_on" = some (.ref a.f_on)
  F_asked : Fun K "_law_asked" "_law_asked" s_asked a.f_asked a.d_asked
  m_asked : mg "_law_asked" = some (.ref a.f_asked)
  F_is : Fun K "_law_is" "_law_is" s_is a.f_is a.d_is
  m_is : mg "_law_is" = some (.ref a.f_is)
  F_one_right : Fun K "_law_one_right" "_law_one_right" s_one_right a.f_one_right a.d_one_right
  m_one_right : mg "_law_one_right" = some (.ref a.f_one_right)
  F_points_right : Fun K "_law_points_right" "_law_points_right" s_points_right a.f_points_right a.d_points_right
  m_points_right : mg "_law_points_right" = some (.ref a.f_points_right)
  F_rises : Fun K "_law_rises" "_law_rises" s_rises a.f_rises a.d_rises
  m_rises : mg "_law_rises" = some (.ref a.f_rises)
  F_straight_right : Fun K "_law_straight_right" "_law_straight_right" s_straight_right a.f_straight_right a.d_straight_right
  m_straight_right : mg "_law_straight_right" = some (.ref a.f_straight_right)
  F_right : Fun K "_law_right" "_law_right" s_right a.f_right a.d_right
  m_right : mg "_law_right" = some (.ref a.f_right)
  F_law : Fun K "law" "law" s_law a.f_law a.d_law
  m_law : mg "law" = some (.ref a.f_law)
  cl : Cls K a.c_Amount
  nT : NoAttr K a.c_Amount "_top"
  nB : NoAttr K a.c_Amount "_bottom"
  mA : mg "Amount" = some (.ref a.c_Amount)
  mkA : Mk K a.c_Amount a.f_Amount_init_
  m_gcd : mg "gcd" = some (.builtin "math.gcd")
  I : Inst K a.c_Amount
  p_top : PropOf K a.c_Amount "top" a.p_top a.f_Amounttop
  p_bottom : PropOf K a.c_Amount "bottom" a.p_bottom a.f_Amountbottom
  p_sign : PropOf K a.c_Amount "sign" a.p_sign a.f_Amountsign
  gPart : ∃ t, mg "PART" = some (.int (10 ^ 60) t)
  gLen : ∃ t, mg "PART_LENGTH" = some (.int 60 t)
  gFlow : ∃ t, mg "FLOW" = some (.int 0 t)
  gDrop : ∃ t, mg "DROP" = some (.int 1 t)
  gMost : ∃ t, mg "MOST_POINTS" = some (.int 80 t)
  oAdd : OwnBin K a.c_Amount .Add a.f_Amount_add_ a.f_Amount_radd_
  oSub : OwnBin K a.c_Amount .Sub a.f_Amount_sub_ a.f_Amount_rsub_
  oMul : OwnBin K a.c_Amount .Mult a.f_Amount_mul_ a.f_Amount_rmul_
  cLt : OwnM K a.c_Amount "__lt__" a.f_Amount_lt_
  cLe : OwnM K a.c_Amount "__le__" a.f_Amount_le_
  cSt : OwnM K a.c_Amount "__str__" a.f_Amount_str_
  mOver : Meth K a.c_Amount "over" a.f_Amountover
  cl2 : Cls K a.c_Curve
  nP : NoAttr K a.c_Curve "_points"
  mC : mg "Curve" = some (.ref a.c_Curve)
  mkC : Mk K a.c_Curve a.f_Curve_init_
  mBack : Meth K a.c_Curve "back" a.f_Curveback
  mPts : Meth K a.c_Curve "points" a.f_Curvepoints
  cCall : StX.CallO K a.c_Curve a.f_Curve_call_
  sStr : SMet K a.c_Curve "straight" a.p_straight a.f_Curvestraight
  b_len : mg "len" = none
  b_abs : mg "abs" = none
  b_max : mg "max" = none
  b_min : mg "min" = none
  b_int : mg "int" = none
  b_divmod : mg "divmod" = none
  b_all : mg "all" = none
  b_repr : mg "repr" = none
  b_isinstance : mg "isinstance" = none
  b_str : mg "str" = none
  b_range : mg "range" = none
  b_bool : mg "bool" = none
  b_list : mg "list" = none
  b_tuple : mg "tuple" = none
  b_enumerate : mg "enumerate" = none
  b_zip : mg "zip" = none
theorem b_is_integer {K : PySem.W.Frag} {mg : Str → Option Value} {a : Ad} (T : Txt K mg a) : Binds K a.d_is_integer ["value"] [] := T.F_is_integer.binds (ps := ["value"]) fun _ _ _ _ _ _ us hl => match us, hl with | [_], _ => rfl
theorem b_is_amount {K : PySem.W.Frag} {mg : Str → Option Value} {a : Ad} (T : Txt K mg a) : Binds K a.d_is_amount ["value"] [] := T.F_is_amount.binds (ps := ["value"]) fun _ _ _ _ _ _ us hl => match us, hl with | [_], _ => rfl
theorem b_amount_of {K : PySem.W.Frag} {mg : Str → Option Value} {a : Ad} (T : Txt K mg a) : Binds K a.d_amount_of ["value"] [] := T.F_amount_of.binds (ps := ["value"]) fun _ _ _ _ _ _ us hl => match us, hl with | [_], _ => rfl
theorem b_decimal {K : PySem.W.Frag} {mg : Str → Option Value} {a : Ad} (T : Txt K mg a) : Binds K a.d_decimal ["number"] [] := T.F_decimal.binds (ps := ["number"]) fun _ _ _ _ _ _ us hl => match us, hl with | [_], _ => rfl
theorem b_Amount_init_ {K : PySem.W.Frag} {mg : Str → Option Value} {a : Ad} (T : Txt K mg a) : Binds K a.d_Amount_init_ ["self", "top", "bottom"] [] := by
  obtain ⟨ds, r, b⟩ := T.F_Amount_init_.binds1 (ps := ["self", "top", "bottom"]) 3 1 (by simp) rfl (fun _ _ _ _ _ _ _ us its h1 h2 => match us, its, h1, h2 with | [_, _, _], [_], _, _ => ⟨_, rfl, rfl⟩)
  cases r
  exact b
theorem b_Amounttop {K : PySem.W.Frag} {mg : Str → Option Value} {a : Ad} (T : Txt K mg a) : Binds K a.d_Amounttop ["self"] [] := T.F_Amounttop.binds (ps := ["self"]) fun _ _ _ _ _ _ us hl => match us, hl with | [_], _ => rfl
theorem b_Amountbottom {K : PySem.W.Frag} {mg : Str → Option Value} {a : Ad} (T : Txt K mg a) : Binds K a.d_Amountbottom ["self"] [] := T.F_Amountbottom.binds (ps := ["self"]) fun _ _ _ _ _ _ us hl => match us, hl with | [_], _ => rfl
theorem b_Amountsign {K : PySem.W.Frag} {mg : Str → Option Value} {a : Ad} (T : Txt K mg a) : Binds K a.d_Amountsign ["self"] [] := T.F_Amountsign.binds (ps := ["self"]) fun _ _ _ _ _ _ us hl => match us, hl with | [_], _ => rfl
theorem b_Amount_add_ {K : PySem.W.Frag} {mg : Str → Option Value} {a : Ad} (T : Txt K mg a) : Binds K a.d_Amount_add_ ["self", "other"] [] := T.F_Amount_add_.binds (ps := ["self", "other"]) fun _ _ _ _ _ _ us hl => match us, hl with | [_, _], _ => rfl
theorem b_Amount_radd_ {K : PySem.W.Frag} {mg : Str → Option Value} {a : Ad} (T : Txt K mg a) : Binds K a.d_Amount_radd_ ["self", "other"] [] := T.F_Amount_radd_.binds (ps := ["self", "other"]) fun _ _ _ _ _ _ us hl => match us, hl with | [_, _], _ => rfl
theorem b_Amount_sub_ {K : PySem.W.Frag} {mg : Str → Option Value} {a : Ad} (T : Txt K mg a) : Binds K a.d_Amount_sub_ ["self", "other"] [] := T.F_Amount_sub_.binds (ps := ["self", "other"]) fun _ _ _ _ _ _ us hl => match us, hl with | [_, _], _ => rfl
theorem b_Amount_rsub_ {K : PySem.W.Frag} {mg : Str → Option Value} {a : Ad} (T : Txt K mg a) : Binds K a.d_Amount_rsub_ ["self", "other"] [] := T.F_Amount_rsub_.binds (ps := ["self", "other"]) fun _ _ _ _ _ _ us hl => match us, hl with | [_, _], _ => rfl
theorem b_Amount_mul_ {K : PySem.W.Frag} {mg : Str → Option Value} {a : Ad} (T : Txt K mg a) : Binds K a.d_Amount_mul_ ["self", "other"] [] := T.F_Amount_mul_.binds (ps := ["self", "other"]) fun _ _ _ _ _ _ us hl => match us, hl with | [_, _], _ => rfl
theorem b_Amount_rmul_ {K : PySem.W.Frag} {mg : Str → Option Value} {a : Ad} (T : Txt K mg a) : Binds K a.d_Amount_rmul_ ["self", "other"] [] := T.F_Amount_rmul_.binds (ps := ["self", "other"]) fun _ _ _ _ _ _ us hl => match us, hl with | [_, _], _ => rfl
theorem b_Amountover {K : PySem.W.Frag} {mg : Str → Option Value} {a : Ad} (T : Txt K mg a) : Binds K a.d_Amountover ["self", "other"] [] := T.F_Amountover.binds (ps := ["self", "other"]) fun _ _ _ _ _ _ us hl => match us, hl with | [_, _], _ => rfl
theorem b_Amount_lt_ {K : PySem.W.Frag} {mg : Str → Option Value} {a : Ad} (T : Txt K mg a) : Binds K a.d_Amount_lt_ ["self", "other"] [] := T.F_Amount_lt_.binds (ps := ["self", "other"]) fun _ _ _ _ _ _ us hl => match us, hl with | [_, _], _ => rfl
theorem b_Amount_le_ {K : PySem.W.Frag} {mg : Str → Option Value} {a : Ad} (T : Txt K mg a) : Binds K a.d_Amount_le_ ["self", "other"] [] := T.F_Amount_le_.binds (ps := ["self", "other"]) fun _ _ _ _ _ _ us hl => match us, hl with | [_, _], _ => rfl
theorem b_Amount_str_ {K : PySem.W.Frag} {mg : Str → Option Value} {a : Ad} (T : Txt K mg a) : Binds K a.d_Amount_str_ ["self"] [] := T.F_Amount_str_.binds (ps := ["self"]) fun _ _ _ _ _ _ us hl => match us, hl with | [_], _ => rfl
theorem b_is_point {K : PySem.W.Frag} {mg : Str → Option Value} {a : Ad} (T : Txt K mg a) : Binds K a.d_is_point ["value"] [] := T.F_is_point.binds (ps := ["value"]) fun _ _ _ _ _ _ us hl => match us, hl with | [_], _ => rfl
theorem b_is_origin {K : PySem.W.Frag} {mg : Str → Option Value} {a : Ad} (T : Txt K mg a) : Binds K a.d_is_origin ["value"] [] := T.F_is_origin.binds (ps := ["value"]) fun _ _ _ _ _ _ us hl => match us, hl with | [_], _ => rfl
theorem b_checked {K : PySem.W.Frag} {mg : Str → Option Value} {a : Ad} (T : Txt K mg a) : Binds K a.d_checked ["points"] [] := T.F_checked.binds (ps := ["points"]) fun _ _ _ _ _ _ us hl => match us, hl with | [_], _ => rfl
theorem b_rises_p {K : PySem.W.Frag} {mg : Str → Option Value} {a : Ad} (T : Txt K mg a) : Binds K a.d_rises_p ["low", "high"] [] := T.F_rises_p.binds (ps := ["low", "high"]) fun _ _ _ _ _ _ us hl => match us, hl with | [_, _], _ => rfl
theorem b_with_origin {K : PySem.W.Frag} {mg : Str → Option Value} {a : Ad} (T : Txt K mg a) : Binds K a.d_with_origin ["rows"] [] := T.F_with_origin.binds (ps := ["rows"]) fun _ _ _ _ _ _ us hl => match us, hl with | [_], _ => rfl
theorem b_piece {K : PySem.W.Frag} {mg : Str → Option Value} {a : Ad} (T : Txt K mg a) : Binds K a.d_piece ["points", "side", "amount"] [] := T.F_piece.binds (ps := ["points", "side", "amount"]) fun _ _ _ _ _ _ us hl => match us, hl with | [_, _, _], _ => rfl
theorem b_across {K : PySem.W.Frag} {mg : Str → Option Value} {a : Ad} (T : Txt K mg a) : Binds K a.d_across ["points", "side", "amount"] [] := T.F_across.binds (ps := ["points", "side", "amount"]) fun _ _ _ _ _ _ us hl => match us, hl with | [_, _, _], _ => rfl
theorem b_Curve_init_ {K : PySem.W.Frag} {mg : Str → Option Value} {a : Ad} (T : Txt K mg a) : Binds K a.d_Curve_init_ ["self", "points"] [] := T.F_Curve_init_.binds (ps := ["self", "points"]) fun _ _ _ _ _ _ us hl => match us, hl with | [_, _], _ => rfl
theorem b_Curve_call_ {K : PySem.W.Frag} {mg : Str → Option Value} {a : Ad} (T : Txt K mg a) : Binds K a.d_Curve_call_ ["self", "flow"] [] := T.F_Curve_call_.binds (ps := ["self", "flow"]) fun _ _ _ _ _ _ us hl => match us, hl with | [_, _], _ => rfl
theorem b_Curveback {K : PySem.W.Frag} {mg : Str → Option Value} {a : Ad} (T : Txt K mg a) : Binds K a.d_Curveback ["self", "drop"] [] := T.F_Curveback.binds (ps := ["self", "drop"]) fun _ _ _ _ _ _ us hl => match us, hl with | [_, _], _ => rfl
theorem b_Curvepoints {K : PySem.W.Frag} {mg : Str → Option Value} {a : Ad} (T : Txt K mg a) : Binds K a.d_Curvepoints ["self"] [] := T.F_Curvepoints.binds (ps := ["self"]) fun _ _ _ _ _ _ us hl => match us, hl with | [_], _ => rfl
theorem b_Curvestraight {K : PySem.W.Frag} {mg : Str → Option Value} {a : Ad} (T : Txt K mg a) : Binds K a.d_Curvestraight ["conductance"] [] := T.F_Curvestraight.binds (ps := ["conductance"]) fun _ _ _ _ _ _ us hl => match us, hl with | [_], _ => rfl
theorem b_pot {K : PySem.W.Frag} {mg : Str → Option Value} {a : Ad} (T : Txt K mg a) : Binds K a.d_pot ["_law_script", "_law_k"] [] := T.F_pot.binds (ps := ["_law_script", "_law_k"]) fun _ _ _ _ _ _ us hl => match us, hl with | [_, _], _ => rfl
theorem b_draw {K : PySem.W.Frag} {mg : Str → Option Value} {a : Ad} (T : Txt K mg a) : Binds K a.d_draw ["_law_pot_here", "_law_size"] [] := T.F_draw.binds (ps := ["_law_pot_here", "_law_size"]) fun _ _ _ _ _ _ us hl => match us, hl with | [_, _], _ => rfl
theorem b_low {K : PySem.W.Frag} {mg : Str → Option Value} {a : Ad} (T : Txt K mg a) : Binds K a.d_low ["_law_high", "_law_low_here"] [] := T.F_low.binds (ps := ["_law_high", "_law_low_here"]) fun _ _ _ _ _ _ us hl => match us, hl with | [_, _], _ => rfl
theorem b_minus {K : PySem.W.Frag} {mg : Str → Option Value} {a : Ad} (T : Txt K mg a) : Binds K a.d_minus ["_law_one", "_law_more"] [] := T.F_minus.binds (ps := ["_law_one", "_law_more"]) fun _ _ _ _ _ _ us hl => match us, hl with | [_, _], _ => rfl
theorem b_amount {K : PySem.W.Frag} {mg : Str → Option Value} {a : Ad} (T : Txt K mg a) : Binds K a.d_amount ["_law_part"] [] := T.F_amount.binds (ps := ["_law_part"]) fun _ _ _ _ _ _ us hl => match us, hl with | [_], _ => rfl
theorem b_plus {K : PySem.W.Frag} {mg : Str → Option Value} {a : Ad} (T : Txt K mg a) : Binds K a.d_plus ["_law_one", "_law_more"] [] := T.F_plus.binds (ps := ["_law_one", "_law_more"]) fun _ _ _ _ _ _ us hl => match us, hl with | [_, _], _ => rfl
theorem b_times {K : PySem.W.Frag} {mg : Str → Option Value} {a : Ad} (T : Txt K mg a) : Binds K a.d_times ["_law_one", "_law_more"] [] := T.F_times.binds (ps := ["_law_one", "_law_more"]) fun _ _ _ _ _ _ us hl => match us, hl with | [_, _], _ => rfl
theorem b_less {K : PySem.W.Frag} {mg : Str → Option Value} {a : Ad} (T : Txt K mg a) : Binds K a.d_less ["_law_one", "_law_more"] [] := T.F_less.binds (ps := ["_law_one", "_law_more"]) fun _ _ _ _ _ _ us hl => match us, hl with | [_, _], _ => rfl
theorem b_step {K : PySem.W.Frag} {mg : Str → Option Value} {a : Ad} (T : Txt K mg a) : Binds K a.d_step ["_law_pot_here"] [] := T.F_step.binds (ps := ["_law_pot_here"]) fun _ _ _ _ _ _ us hl => match us, hl with | [_], _ => rfl
theorem b_points {K : PySem.W.Frag} {mg : Str → Option Value} {a : Ad} (T : Txt K mg a) : Binds K a.d_points ["_law_pot_here"] [] := T.F_points.binds (ps := ["_law_pot_here"]) fun _ _ _ _ _ _ us hl => match us, hl with | [_], _ => rfl
theorem b_on {K : PySem.W.Frag} {mg : Str → Option Value} {a : Ad} (T : Txt K mg a) : Binds K a.d_on ["_law_spots", "_law_x", "_law_part"] [] := T.F_on.binds (ps := ["_law_spots", "_law_x", "_law_part"]) fun _ _ _ _ _ _ us hl => match us, hl with | [_, _, _], _ => rfl
theorem b_asked {K : PySem.W.Frag} {mg : Str → Option Value} {a : Ad} (T : Txt K mg a) : Binds K a.d_asked ["_law_pot_here", "_law_spots", "_law_part"] [] := T.F_asked.binds (ps := ["_law_pot_here", "_law_spots", "_law_part"]) fun _ _ _ _ _ _ us hl => match us, hl with | [_, _, _], _ => rfl
theorem b_is {K : PySem.W.Frag} {mg : Str → Option Value} {a : Ad} (T : Txt K mg a) : Binds K a.d_is ["_law_made", "_law_due"] [] := T.F_is.binds (ps := ["_law_made", "_law_due"]) fun _ _ _ _ _ _ us hl => match us, hl with | [_, _], _ => rfl
theorem b_one_right {K : PySem.W.Frag} {mg : Str → Option Value} {a : Ad} (T : Txt K mg a) : Binds K a.d_one_right ["_law_made", "_law_spots", "_law_x"] [] := T.F_one_right.binds (ps := ["_law_made", "_law_spots", "_law_x"]) fun _ _ _ _ _ _ us hl => match us, hl with | [_, _, _], _ => rfl
theorem b_points_right {K : PySem.W.Frag} {mg : Str → Option Value} {a : Ad} (T : Txt K mg a) : Binds K a.d_points_right ["_law_made", "_law_spots"] [] := T.F_points_right.binds (ps := ["_law_made", "_law_spots"]) fun _ _ _ _ _ _ us hl => match us, hl with | [_, _], _ => rfl
theorem b_rises {K : PySem.W.Frag} {mg : Str → Option Value} {a : Ad} (T : Txt K mg a) : Binds K a.d_rises ["_law_made", "_law_some"] [] := T.F_rises.binds (ps := ["_law_made", "_law_some"]) fun _ _ _ _ _ _ us hl => match us, hl with | [_, _], _ => rfl
theorem b_straight_right {K : PySem.W.Frag} {mg : Str → Option Value} {a : Ad} (T : Txt K mg a) : Binds K a.d_straight_right ["_law_pot_here"] [] := T.F_straight_right.binds (ps := ["_law_pot_here"]) fun _ _ _ _ _ _ us hl => match us, hl with | [_], _ => rfl
theorem b_right {K : PySem.W.Frag} {mg : Str → Option Value} {a : Ad} (T : Txt K mg a) : Binds K a.d_right ["_law_pot_here"] [] := T.F_right.binds (ps := ["_law_pot_here"]) fun _ _ _ _ _ _ us hl => match us, hl with | [_], _ => rfl
theorem b_law {K : PySem.W.Frag} {mg : Str → Option Value} {a : Ad} (T : Txt K mg a) : Binds K a.d_law ["_law_script"] [] := T.F_law.binds (ps := ["_law_script"]) fun _ _ _ _ _ _ us hl => match us, hl with | [_], _ => rfl
end K15

set_option Elab.async false
set_option linter.all false
set_option maxRecDepth 100000
set_option maxHeartbeats 4000000
namespace K15
open PySem L2 Lb
open C8 (pss_cut)
theorem b1_Amount_init_ {K : PySem.W.Frag} {mg : Str → Option Value} {a : Ad} (T : Txt K mg a) : ∃ ds, Vals [V.int 1] ds ∧ Binds K a.d_Amount_init_ ["self", "top", "bottom"] ds := by
  obtain ⟨ds, r, b⟩ := T.F_Amount_init_.binds1 (ps := ["self", "top", "bottom"]) 2 0 (by simp) rfl (fun _ _ _ _ _ _ _ us its h1 h2 => match us, its, h1, h2 with | [_, _], [_], _, _ => ⟨_, rfl, rfl⟩)
  exact ⟨ds, r, b⟩
theorem kb_Amount_init_ {K : PySem.W.Frag} {mg : Str → Option Value} {a : Ad} (T : Txt K mg a) : ∃ its : List Value, KBn K a.d_Amount_init_ ["self", "top", "bottom"] 1 ["bottom", "top"] (fun us ws => us ++ ws.reverse) (fun vs zs => vs ++ zs.reverse) := by
  obtain ⟨its, h⟩ := T.F_Amount_init_.kbindsD (ps := ["self", "top", "bottom"]) 1 ["bottom", "top"] (fun us _ ws => us ++ ws.reverse) (by simp) (fun r1 _ r3 => r1.append (vals_rev r3))
    (fun _ _ _ _ _ _ _ us its ws h1 h2 h3 => match us, its, ws, h1, h2, h3 with | [_], [_], [_, _], _, _, _ => ⟨_, rfl, rfl⟩)
  exact ⟨its, h⟩
theorem kb_amount_of {K : PySem.W.Frag} {mg : Str → Option Value} {a : Ad} (T : Txt K mg a) : KBn K a.d_amount_of ["value"] 0 ["value"] (fun us ws => us ++ ws) (fun vs zs => vs ++ zs) :=
  kbn_of T.F_amount_of fun _ _ _ _ _ _ us ws h1 h2 => match us, ws, h1, h2 with | [], [_], _, _ => rfl
theorem tb_ : ¬ (("_bottom" : Str) = "_top") := by decide +kernel
theorem bt_ : ¬ (("_top" : Str) = "_bottom") := by decide +kernel
def am (t b : Int) : List (Str × V) := putF "_bottom" (.int b) (putF "_top" (.int t) [])
theorem am_top (t b : Int) : (am t b).lookup ("_top" : Str) = some (.int t) := by
  unfold am
  rw [lookup_putF, if_neg bt_, lookup_putF, if_pos rfl]
theorem am_bot (t b : Int) : (am t b).lookup ("_bottom" : Str) = some (.int b) := by
  unfold am
  rw [lookup_putF, if_pos rfl]
theorem am_no (t b : Int) {m : Str} (h1 : ¬ m = "_bottom") (h2 : ¬ m = "_top") : (am t b).lookup m = none := by
  unfold am
  rw [lookup_putF, if_neg h1, lookup_putF, if_neg h2]
  all_goals rfl
def AmAt (C : Addr) (H : Hp) (q : Addr) (t b : Int) : Prop := ∃ dx, H q = some (.ins C dx (am t b))
theorem AmAt.same {C p : Addr} {H H' : Hp} {t b : Int} (h : AmAt C H p t b) (s : Same H H') : AmAt C H' p t b := let ⟨dx, e⟩ := h; ⟨dx, s _ _ e⟩
/-- what is passed: an int or an amount -/
def IsP (C : Addr) (H : Hp) (v : V) (t b : Int) : Prop := (v = .int t ∧ b = 1) ∨ ∃ q, v = .ref q ∧ AmAt C H q t b
theorem IsP.same {C : Addr} {v : V} {H H' : Hp} {t b : Int} (h : IsP C H v t b) (s : Same H H') : IsP C H' v t b := by
  rcases h with h | ⟨q, e, h⟩
  · exact .inl h
  · exact .inr ⟨q, e, h.same s⟩
theorem IsP.bin {C : Addr} {v : V} {H : Hp} {t b : Int} (h : IsP C H v t b) : (∃ m, v = V.int m) ∨ ∃ q dy fy, v = V.ref q ∧ H q = some (.ins C dy fy) := by
  rcases h with ⟨e, _⟩ | ⟨q, e, dx, h⟩
  · exact .inl ⟨_, e⟩
  · exact .inr ⟨q, dx, _, e, h⟩
def sp_is_integer (C : Addr) : Sp := fun vs H Q _ => ∃ v t b, vs = [v] ∧ IsP C H v t b ∧ (v = .int t → Q (.bl true) H) ∧ ((∃ q, v = .ref q) → Q (.bl false) H)
def sp_is_amount (C : Addr) : Sp := fun vs H Q _ => ∃ v t b, vs = [v] ∧ IsP C H v t b ∧ Q (.bl true) H
def sp_amount_of (C : Addr) : Sp := fun vs H Q _ => ∃ v t b, vs = [v] ∧ IsP C H v t b ∧ Bd 8000 t ∧ ∀ H' q, Same H H' → AmAt C H' q t b → Q (.ref q) H'
def sp_Amount_init_ (C : Addr) : Sp := fun vs H Q _ => ∃ (q dx : Addr) (t b : Int), vs = [.ref q, .int t, .int b] ∧ b ≠ 0 ∧ Bd 8000 t ∧ Bd 8000 b ∧ H q = some (.ins C dx []) ∧
  ∀ H', (∀ x o, x ≠ q → H x = some o → H' x = some o) → H' q = some (.ins C dx (am (rdT t b) (rdB t b))) → Q .non H'
/-- what C(t, b) gives -/
theorem made_am {C : Addr} {H : Hp} {x dx : Addr} {H' : Hp} {t b : Int} (h1 : H x = none) (h2 : H dx = none) (ne : dx ≠ x) (k : ∀ y o, y ≠ x → (upd (upd H dx (.own x)) x (.ins C dx [])) y = some o → H' y = some o) (e : H' x = some (.ins C dx (am t b))) :
    Same H H' ∧ AmAt C H' x t b := by
  refine ⟨fun y o hy => k y o (ne_of_none hy h1) ?_, dx, e⟩
  rw [upd_ne (ne_of_none hy h1), upd_ne (ne_of_none hy h2)]
  exact hy
section
variable {P : Program} {w : World} {K : PySem.W.Frag} {mg : Str → Option Value} {base : Heap} {a : Ad}
theorem ok_is_integer (T : Txt K mg a) : FnOk P w K mg base CX0 1 a.f_is_integer a.d_is_integer ["value"] (sp_is_integer a.c_Amount) := by
  refine T.F_is_integer.ok sc_is_integer (fun vs H Q E h => ?_) (fun cdv A outer s H vs Q E hr h => ?_)
  · obtain ⟨v, t, b, rfl, _⟩ := h
    rfl
  · obtain ⟨v, t, b, rfl, hv, k1, k2⟩ := h
    refine ⟨_, (pss_one (ps_ret (pe_and (pe_callB (call_isiK' (K := K) rfl) (by rfl) T.b_isinstance (by decide +kernel) (pa_cons (pv 0) (pa_cons (pe_bltn (v := .ty "int") (by rfl) T.b_int (by decide +kernel) rfl) pa_nil))) (pe_one (pe_not (pe_callB (call_isiK' (K := K) rfl) (by rfl) T.b_isinstance (by decide +kernel) (pa_cons (pv 0) (pa_cons (pe_bltn (v := .ty "bool") (by rfl) T.b_bool (by decide +kernel) rfl) pa_nil)))))))), ?_⟩
    rcases hv with ⟨rfl, _⟩ | ⟨q, rfl, dx, hq⟩
    · refine ⟨_, rfl, _, _, _, _, true, rfl, .ty _, .base (.int _), kit_ty (by decide +kernel), true, rfl, iteT ?_⟩
      exact ⟨_, rfl, _, _, _, _, false, rfl, .ty _, .base (.int _), kit_ty (by decide +kernel), false, rfl, k1 rfl⟩
    · refine ⟨_, rfl, _, _, _, _, false, rfl, .ty _, .base (T.I.ty T.cl hq), kit_of_own (by decide +kernel) T.oAdd.ss2, false, rfl, iteF ?_⟩
      exact k2 ⟨q, rfl⟩
theorem ok_is_amount (T : Txt K mg a) : FnOk P w K mg base CX0 2 a.f_is_amount a.d_is_amount ["value"] (sp_is_amount a.c_Amount) := by
  refine T.F_is_amount.ok sc_is_amount (fun vs H Q E h => ?_) (fun cdv A outer s H vs Q E hr h => ?_)
  · obtain ⟨v, t, b, rfl, _⟩ := h
    rfl
  · obtain ⟨v, t, b, rfl, hv, k⟩ := h
    refine ⟨_, (pss_one (ps_ret (pe_or (pe_call (ok_is_integer T) (hr.mono (by decide)) (by rfl) T.m_is_integer T.F_is_integer.kp (b_is_integer T) .nil pass0 (pa_cons (pv 0) pa_nil)) (pe_one (pe_callB (call_isiK' (K := K) rfl) (by rfl) T.b_isinstance (by decide +kernel) (pa_cons (pv 0) (pa_cons (pe_glob (v := .ref a.c_Amount) rfl T.mA rfl) pa_nil))))))), ?_⟩
    refine ⟨_, rfl, v, t, b, rfl, hv, fun e => ⟨true, rfl, iteT k⟩, fun ⟨q, e⟩ => ⟨false, rfl, iteF ?_⟩⟩
    subst e
    rcases hv with ⟨e, _⟩ | ⟨q', e, dx, hq⟩
    · cases e
    · cases e
      exact ⟨_, rfl, _, _, _, _, true, rfl, .own _, .base (T.I.ty T.cl hq), Inst.kSelf, k⟩
theorem ok_Amount_init_ (T : Txt K mg a) : FnOk P w K mg base CX0 2 a.f_Amount_init_ a.d_Amount_init_ ["self", "top", "bottom"] (sp_Amount_init_ a.c_Amount) := by
  refine T.F_Amount_init_.ok sc_Amount_init_ (fun vs H Q E h => ?_) (fun cdv A outer s H vs Q E hr h => ?_)
  · obtain ⟨q, dx, t, b, rfl, _⟩ := h
    rfl
  · obtain ⟨q, dx, t, b, rfl, hb, bt, bb, hq, k⟩ := h
    refine ⟨_, (pss_cons (ps_if (pt_not (pt_val (pe_call (ok_is_integer T) (hr.mono (by decide)) (by rfl) T.m_is_integer T.F_is_integer.kp (b_is_integer T) .nil pass0 (pa_cons (pv 1) pa_nil)))) (pss_one ps_never) pss_nil)
 (pss_cons (ps_if (PW.pt (pw_or (pt_not (pt_val (pe_call (ok_is_integer T) (hr.mono (by decide)) (by rfl) T.m_is_integer T.F_is_integer.kp (b_is_integer T) .nil pass0 (pa_cons (pv 2) pa_nil)))) (pw_or1 (pt_cmpR op_eq (pv 2) pe_int (nomark _))))) (pss_one ps_never) pss_nil)
 (pss_cons (ps_set (i := 3) sc_Amount_init_.nd rfl (by first | exact Or.inl rfl | exact Or.inr rfl) (pe_callBfun cr_gcd (by rfl) T.m_gcd (pa_cons (pv 1) (pa_cons (pv 2) pa_nil))))
 (pss_cut (ps_if (pt_cmpR op_lt (pv 2) pe_int (nomark _)) (pss_one (ps_set (i := 3) sc_Amount_init_.nd rfl (by first | exact Or.inl rfl | exact Or.inr rfl) (pe_un un_neg (pv 3)))) pss_nil)
 (pss_cons (ps_fldK (K := K) rfl (pv 0) (pe_op op_fdivX (pv 1) (pv 3)) rfl)
 (pss_one (ps_fldK (K := K) rfl (pv 0) (pe_op op_fdivX (pv 2) (pv 3)) rfl))))))), ?_⟩
    refine ⟨_, rfl, _, t, 1, rfl, .inl ⟨rfl, rfl⟩, fun _ => ⟨true, rfl, iteF ?_⟩, fun ⟨_, e⟩ => nomatch e⟩
    refine ⟨_, rfl, _, b, 1, rfl, .inl ⟨rfl, rfl⟩, fun _ => ⟨true, rfl, iteF ?_⟩, fun ⟨_, e⟩ => nomatch e⟩
    refine ⟨_, rfl, rfl, _, rfl, iteN ?_ ?_⟩
    · intro z
      have z := of_decide_eq_true z
      injection z with z
      exact hb z
    refine ⟨_, rfl, _, rfl, _, _, rfl, ?_⟩
    refine ⟨fun σ H' => H' = H ∧ σ = [some (.ref q), some (.int t), some (.int b), some (.int (rdD t b))], ?_, ?_⟩
    · refine ⟨_, rfl, _, _, rfl, rfl, _, rfl, ?_⟩
      refine ite2 (fun h1 => ?_) (fun h1 => ?_)
      · have h1 : b < 0 := by simpa using h1
        refine ⟨_, rfl, _, rfl, rfl, ?_⟩
        unfold rdD
        rw [if_pos h1]
        rfl
      · have h1 : ¬ b < 0 := by simpa using h1
        refine ⟨rfl, ?_⟩
        unfold rdD
        rw [if_neg h1]
        rfl
    rintro σ H' ⟨rfl, rfl⟩
    have hd : rdD t b ≠ 0 := by
      have : 0 < Nat.gcd t.natAbs b.natAbs := Nat.gcd_pos_of_pos_right _ (by omega)
      unfold rdD
      split <;> omega
    have bd : Bd 8000 (rdD t b) := by
      have : Nat.gcd t.natAbs b.natAbs ≤ b.natAbs := Nat.gcd_le_right _ (by omega)
      refine bb.le ?_
      unfold rdD
      split <;> omega
    refine ⟨_, rfl, _, rfl, _, _, rfl, rfl, bd.cx hd (by decide), _, rfl, q, _, dx, _, rfl, hq, T.cl, T.nT, (by show 0 < 1000; decide), ?_⟩
    refine ⟨_, rfl, _, rfl, _, _, rfl, rfl, bd.cx hd (by decide), _, rfl, q, _, dx, _, rfl, upd_same, T.cl, T.nB, (by show 1 < 1000; decide), ?_⟩
    refine k _ (fun x o n e => ?_) ?_
    · rw [upd_ne n, upd_ne n]
      exact e
    · rw [upd_same]
      rfl
theorem ok_amount_of (T : Txt K mg a) : FnOk P w K mg base CX0 4 a.f_amount_of a.d_amount_of ["value"] (sp_amount_of a.c_Amount) := by
  refine T.F_amount_of.ok sc_amount_of (fun vs H Q E h => ?_) (fun cdv A outer s H vs Q E hr h => ?_)
  · obtain ⟨v, t, b, rfl, _⟩ := h
    rfl
  · obtain ⟨v, t, b, rfl, hv, bt, k⟩ := h
    refine ⟨_, (pss_cons (ps_if (pt_val (pe_callB (call_isiK' (K := K) rfl) (by rfl) T.b_isinstance (by decide +kernel) (pa_cons (pv 0) (pa_cons (pe_glob (v := .ref a.c_Amount) rfl T.mA rfl) pa_nil)))) (pss_one (ps_ret (pv 0))) pss_nil)
 (pss_cons (ps_if (pt_val (pe_call (ok_is_integer T) (hr.mono (by decide)) (by rfl) T.m_is_integer T.F_is_integer.kp (b_is_integer T) .nil pass0 (pa_cons (pv 0) pa_nil))) (pss_one (ps_ret (pe_make T.mkA (ok_Amount_init_ T) (hr.mono (by decide)) (by rfl) T.mA (b1_Amount_init_ T).choose_spec.2 (b1_Amount_init_ T).choose_spec.1 pass0 (pa_cons (pv 0) pa_nil)))) pss_nil)
 (pss_one ps_never))), ?_⟩
    rcases id hv with ⟨rfl, rfl⟩ | ⟨q, rfl, dx, hq⟩
    · refine ⟨_, rfl, _, _, _, _, false, rfl, .own _, .base (.int _), T.I.kInt, false, rfl, iteF ?_⟩
      refine ⟨_, rfl, _, t, 1, rfl, hv, fun _ => ⟨true, rfl, iteT ?_⟩, fun ⟨_, e⟩ => nomatch e⟩
      refine ⟨_, rfl, fun x dx hx hdx ne => ⟨x, dx, t, 1, rfl, by decide, bt, bd_one, upd_same, fun H' kp e => ⟨rfl, ?_⟩⟩⟩
      rw [rdT_one, rdB_one] at e
      obtain ⟨s, m⟩ := made_am hx hdx ne kp e
      exact k _ _ s m
    · refine ⟨_, rfl, _, _, _, _, true, rfl, .own _, .base (T.I.ty T.cl hq), Inst.kSelf, true, rfl, iteT ?_⟩
      exact ⟨_, rfl, k _ _ (Same.refl _) ⟨dx, hq⟩⟩
end
end K15

set_option Elab.async false
set_option linter.all false
set_option maxRecDepth 100000
set_option maxHeartbeats 4000000
set_option exponentiation.threshold 10000
namespace K15
open PySem L2 Lb
abbrev I4 := Int → Int → Int → Int → Int
def sp_bin (C : Addr) (f g : I4) : Sp := fun vs H Q _ => ∃ p v t b t' b', vs = [.ref p, v] ∧ AmAt C H p t b ∧ IsP C H v t' b' ∧ Bd 3000 t ∧ Bd 3000 b ∧ Bd 3000 t' ∧ Bd 3000 b' ∧ g t b t' b' ≠ 0 ∧
  ∀ H' q, Same H H' → AmAt C H' q (rdT (f t b t' b') (g t b t' b')) (rdB (f t b t' b') (g t b t' b')) → Q (.ref q) H'
def fAdd : I4 := fun t b t' b' => t * b' + t' * b
def gBot : I4 := fun _ b _ b' => b * b'
def fSub : I4 := fun t b t' b' => t * b' - t' * b
def fMul : I4 := fun t _ t' _ => t * t'
def fOver : I4 := fun t _ _ b' => t * b'
def gOver : I4 := fun _ b t' _ => b * t'
def sw (f : I4) : I4 := fun t b t' b' => f t' b' t b
def sp_un (C : Addr) (f : Int → Int) : Sp := fun vs H Q _ => ∃ p t b, vs = [.ref p] ∧ AmAt C H p t b ∧ Bd 3000 t ∧ Bd 3000 b ∧ b ≠ 0 ∧
  ∀ H' q, Same H H' → AmAt C H' q (rdT (f t) b) (rdB (f t) b) → Q (.ref q) H'
def sp_get (C : Addr) (f : Int → Int → V) : Sp := fun vs H Q _ => ∃ p t b, vs = [.ref p] ∧ AmAt C H p t b ∧ Q (f t b) H
def sg (t : Int) : Int := if t = 0 then 0 else if t > 0 then 1 else -1
section
variable {P : Program} {w : World} {K : PySem.W.Frag} {mg : Str → Option Value} {base : Heap} {a : Ad}
theorem ok_Amounttop (T : Txt K mg a) : FnOk P w K mg base CX0 1 a.f_Amounttop a.d_Amounttop ["self"] (sp_get a.c_Amount fun t _ => .int t) := by
  refine T.F_Amounttop.ok sc_Amounttop (fun vs H Q E h => ?_) (fun cdv A outer s H vs Q E hr h => ?_)
  · obtain ⟨p, t, b, rfl, _⟩ := h
    rfl
  · obtain ⟨p, t, b, rfl, ⟨dx, hp⟩, k⟩ := h
    refine ⟨_, (pss_one (ps_ret (pe_fldK (K := K) rfl (pv 0) rfl))), ?_⟩
    exact ⟨_, rfl, p, _, dx, _, _, rfl, hp, T.cl, T.nT, am_top _ _, k⟩
theorem ok_Amountbottom (T : Txt K mg a) : FnOk P w K mg base CX0 1 a.f_Amountbottom a.d_Amountbottom ["self"] (sp_get a.c_Amount fun _ b => .int b) := by
  refine T.F_Amountbottom.ok sc_Amountbottom (fun vs H Q E h => ?_) (fun cdv A outer s H vs Q E hr h => ?_)
  · obtain ⟨p, t, b, rfl, _⟩ := h
    rfl
  · obtain ⟨p, t, b, rfl, ⟨dx, hp⟩, k⟩ := h
    refine ⟨_, (pss_one (ps_ret (pe_fldK (K := K) rfl (pv 0) rfl))), ?_⟩
    exact ⟨_, rfl, p, _, dx, _, _, rfl, hp, T.cl, T.nB, am_bot _ _, k⟩
theorem ok_Amountsign (T : Txt K mg a) : FnOk P w K mg base CX0 1 a.f_Amountsign a.d_Amountsign ["self"] (sp_get a.c_Amount fun t _ => .int (sg t)) := by
  refine T.F_Amountsign.ok sc_Amountsign (fun vs H Q E h => ?_) (fun cdv A outer s H vs Q E hr h => ?_)
  · obtain ⟨p, t, b, rfl, _⟩ := h
    rfl
  · obtain ⟨p, t, b, rfl, ⟨dx, hp⟩, k⟩ := h
    refine ⟨_, (pss_cons (ps_if (pt_cmpR op_eq (pe_fldK (K := K) rfl (pv 0) rfl) pe_int (nomark _)) (pss_one (ps_ret pe_int)) pss_nil)
 (pss_one (ps_ret (pe_ifExp (pt_cmpR op_gt (pe_fldK (K := K) rfl (pv 0) rfl) pe_int (nomark _)) pe_int (pe_un un_neg pe_int))))), ?_⟩
    unfold sg at k
    dsimp only at k
    refine ⟨_, rfl, p, _, dx, _, _, rfl, hp, T.cl, T.nT, am_top _ _, rfl, _, rfl, ite2 (fun h1 => ?_) (fun h1 => ?_)⟩
    · rw [if_pos (by simpa using h1)] at k
      exact k
    · rw [if_neg (by simpa using h1)] at k
      refine ⟨_, rfl, p, _, dx, _, _, rfl, hp, T.cl, T.nT, am_top _ _, _, _, rfl, rfl, _, rfl, ite2 (fun h2 => ?_) (fun h2 => ?_)⟩
      · rw [if_pos (by simpa using h2)] at k
        exact k
      · rw [if_neg (by simpa using h2)] at k
        exact ⟨_, rfl, k⟩
theorem ok_Amount_add_ (T : Txt K mg a) : FnOk P w K mg base CX0 5 a.f_Amount_add_ a.d_Amount_add_ ["self", "other"] (sp_bin a.c_Amount fAdd gBot) := by
  refine T.F_Amount_add_.ok sc_Amount_add_ (fun vs H Q E h => ?_) (fun cdv A outer s H vs Q E hr h => ?_)
  · obtain ⟨p, v, t, b, t', b', rfl, _⟩ := h
    rfl
  · obtain ⟨p, v, t, b, t', b', rfl, ⟨dx, hp⟩, hv, bt, bb, bt', bb', g0, k⟩ := h
    refine ⟨_, (pss_cons (ps_if (pt_not (pt_val (pe_call (ok_is_amount T) (hr.mono (by decide)) (by rfl) T.m_is_amount T.F_is_amount.kp (b_is_amount T) .nil pass0 (pa_cons (pv 1) pa_nil)))) (pss_one ps_never) pss_nil)
 (pss_cons (ps_set (i := 2) sc_Amount_add_.nd rfl (by first | exact Or.inl rfl | exact Or.inr rfl) (pe_call (ok_amount_of T) (hr.mono (by decide)) (by rfl) T.m_amount_of T.F_amount_of.kp (b_amount_of T) .nil pass0 (pa_cons (pv 1) pa_nil)))
 (pss_one (ps_ret (pe_make T.mkA (ok_Amount_init_ T) (hr.mono (by decide)) (by rfl) T.mA (b_Amount_init_ T) .nil pass0 (pa_cons (pe_op op_add (pe_op op_mulX (pe_fldK (K := K) rfl (pv 0) rfl) (pe_fldK (K := K) rfl (pv 2) rfl)) (pe_op op_mulX (pe_fldK (K := K) rfl (pv 2) rfl) (pe_fldK (K := K) rfl (pv 0) rfl))) (pa_cons (pe_op op_mulX (pe_fldK (K := K) rfl (pv 0) rfl) (pe_fldK (K := K) rfl (pv 2) rfl)) pa_nil))))))), ?_⟩
    refine ⟨_, rfl, v, t', b', rfl, hv, true, rfl, iteF ?_⟩
    refine ⟨_, rfl, v, t', b', rfl, hv, bt'.mono (by decide), fun H1 q s1 ⟨dy, hq⟩ => ?_⟩
    have hp := s1 _ _ hp
    refine ⟨_, rfl, p, _, dx, _, _, rfl, hp, T.cl, T.nT, am_top _ _, _, rfl, q, _, dy, _, _, rfl, hq, T.cl, T.nB, am_bot _ _, _, _, rfl, rfl, bt.cm bb' (by decide), ?_⟩
    refine ⟨_, rfl, q, _, dy, _, _, rfl, hq, T.cl, T.nT, am_top _ _, _, rfl, p, _, dx, _, _, rfl, hp, T.cl, T.nB, am_bot _ _, _, _, rfl, rfl, bt'.cm bb (by decide), _, _, rfl, rfl, ?_⟩
    refine ⟨_, rfl, p, _, dx, _, _, rfl, hp, T.cl, T.nB, am_bot _ _, _, rfl, q, _, dy, _, _, rfl, hq, T.cl, T.nB, am_bot _ _, _, _, rfl, rfl, bb.cm bb' (by decide), ?_⟩
    refine fun x dz hx hdx ne => ⟨x, dz, _, _, rfl, g0, ((bt.mul bb').add (bt'.mul bb)).mono (by decide), (bb.mul bb').mono (by decide), upd_same, fun H' kp e => ⟨rfl, ?_⟩⟩
    obtain ⟨s, m⟩ := made_am hx hdx ne kp e
    exact k _ _ (s1.trans s) m
theorem ok_Amount_sub_ (T : Txt K mg a) : FnOk P w K mg base CX0 5 a.f_Amount_sub_ a.d_Amount_sub_ ["self", "other"] (sp_bin a.c_Amount fSub gBot) := by
  refine T.F_Amount_sub_.ok sc_Amount_sub_ (fun vs H Q E h => ?_) (fun cdv A outer s H vs Q E hr h => ?_)
  · obtain ⟨p, v, t, b, t', b', rfl, _⟩ := h
    rfl
  · obtain ⟨p, v, t, b, t', b', rfl, ⟨dx, hp⟩, hv, bt, bb, bt', bb', g0, k⟩ := h
    refine ⟨_, (pss_cons (ps_if (pt_not (pt_val (pe_call (ok_is_amount T) (hr.mono (by decide)) (by rfl) T.m_is_amount T.F_is_amount.kp (b_is_amount T) .nil pass0 (pa_cons (pv 1) pa_nil)))) (pss_one ps_never) pss_nil)
 (pss_cons (ps_set (i := 2) sc_Amount_sub_.nd rfl (by first | exact Or.inl rfl | exact Or.inr rfl) (pe_call (ok_amount_of T) (hr.mono (by decide)) (by rfl) T.m_amount_of T.F_amount_of.kp (b_amount_of T) .nil pass0 (pa_cons (pv 1) pa_nil)))
 (pss_one (ps_ret (pe_make T.mkA (ok_Amount_init_ T) (hr.mono (by decide)) (by rfl) T.mA (b_Amount_init_ T) .nil pass0 (pa_cons (pe_op op_sub (pe_op op_mulX (pe_fldK (K := K) rfl (pv 0) rfl) (pe_fldK (K := K) rfl (pv 2) rfl)) (pe_op op_mulX (pe_fldK (K := K) rfl (pv 2) rfl) (pe_fldK (K := K) rfl (pv 0) rfl))) (pa_cons (pe_op op_mulX (pe_fldK (K := K) rfl (pv 0) rfl) (pe_fldK (K := K) rfl (pv 2) rfl)) pa_nil))))))), ?_⟩
    refine ⟨_, rfl, v, t', b', rfl, hv, true, rfl, iteF ?_⟩
    refine ⟨_, rfl, v, t', b', rfl, hv, bt'.mono (by decide), fun H1 q s1 ⟨dy, hq⟩ => ?_⟩
    have hp := s1 _ _ hp
    refine ⟨_, rfl, p, _, dx, _, _, rfl, hp, T.cl, T.nT, am_top _ _, _, rfl, q, _, dy, _, _, rfl, hq, T.cl, T.nB, am_bot _ _, _, _, rfl, rfl, bt.cm bb' (by decide), ?_⟩
    refine ⟨_, rfl, q, _, dy, _, _, rfl, hq, T.cl, T.nT, am_top _ _, _, rfl, p, _, dx, _, _, rfl, hp, T.cl, T.nB, am_bot _ _, _, _, rfl, rfl, bt'.cm bb (by decide), _, _, rfl, rfl, ?_⟩
    refine ⟨_, rfl, p, _, dx, _, _, rfl, hp, T.cl, T.nB, am_bot _ _, _, rfl, q, _, dy, _, _, rfl, hq, T.cl, T.nB, am_bot _ _, _, _, rfl, rfl, bb.cm bb' (by decide), ?_⟩
    refine fun x dz hx hdx ne => ⟨x, dz, _, _, rfl, g0, ((bt.mul bb').sub (bt'.mul bb)).mono (by decide), (bb.mul bb').mono (by decide), upd_same, fun H' kp e => ⟨rfl, ?_⟩⟩
    obtain ⟨s, m⟩ := made_am hx hdx ne kp e
    exact k _ _ (s1.trans s) m
theorem ok_Amount_mul_ (T : Txt K mg a) : FnOk P w K mg base CX0 5 a.f_Amount_mul_ a.d_Amount_mul_ ["self", "other"] (sp_bin a.c_Amount fMul gBot) := by
  refine T.F_Amount_mul_.ok sc_Amount_mul_ (fun vs H Q E h => ?_) (fun cdv A outer s H vs Q E hr h => ?_)
  · obtain ⟨p, v, t, b, t', b', rfl, _⟩ := h
    rfl
  · obtain ⟨p, v, t, b, t', b', rfl, ⟨dx, hp⟩, hv, bt, bb, bt', bb', g0, k⟩ := h
    refine ⟨_, (pss_cons (ps_if (pt_not (pt_val (pe_call (ok_is_amount T) (hr.mono (by decide)) (by rfl) T.m_is_amount T.F_is_amount.kp (b_is_amount T) .nil pass0 (pa_cons (pv 1) pa_nil)))) (pss_one ps_never) pss_nil)
 (pss_cons (ps_set (i := 2) sc_Amount_mul_.nd rfl (by first | exact Or.inl rfl | exact Or.inr rfl) (pe_call (ok_amount_of T) (hr.mono (by decide)) (by rfl) T.m_amount_of T.F_amount_of.kp (b_amount_of T) .nil pass0 (pa_cons (pv 1) pa_nil)))
 (pss_one (ps_ret (pe_make T.mkA (ok_Amount_init_ T) (hr.mono (by decide)) (by rfl) T.mA (b_Amount_init_ T) .nil pass0 (pa_cons (pe_op op_mulX (pe_fldK (K := K) rfl (pv 0) rfl) (pe_fldK (K := K) rfl (pv 2) rfl)) (pa_cons (pe_op op_mulX (pe_fldK (K := K) rfl (pv 0) rfl) (pe_fldK (K := K) rfl (pv 2) rfl)) pa_nil))))))), ?_⟩
    refine ⟨_, rfl, v, t', b', rfl, hv, true, rfl, iteF ?_⟩
    refine ⟨_, rfl, v, t', b', rfl, hv, bt'.mono (by decide), fun H1 q s1 ⟨dy, hq⟩ => ?_⟩
    have hp := s1 _ _ hp
    refine ⟨_, rfl, p, _, dx, _, _, rfl, hp, T.cl, T.nT, am_top _ _, _, rfl, q, _, dy, _, _, rfl, hq, T.cl, T.nT, am_top _ _, _, _, rfl, rfl, bt.cm bt' (by decide), ?_⟩
    refine ⟨_, rfl, p, _, dx, _, _, rfl, hp, T.cl, T.nB, am_bot _ _, _, rfl, q, _, dy, _, _, rfl, hq, T.cl, T.nB, am_bot _ _, _, _, rfl, rfl, bb.cm bb' (by decide), ?_⟩
    refine fun x dz hx hdx ne => ⟨x, dz, _, _, rfl, g0, (bt.mul bt').mono (by decide), (bb.mul bb').mono (by decide), upd_same, fun H' kp e => ⟨rfl, ?_⟩⟩
    obtain ⟨s, m⟩ := made_am hx hdx ne kp e
    exact k _ _ (s1.trans s) m
theorem ok_Amountover (T : Txt K mg a) : FnOk P w K mg base CX0 5 a.f_Amountover a.d_Amountover ["self", "other"] (sp_bin a.c_Amount fOver gOver) := by
  refine T.F_Amountover.ok sc_Amountover (fun vs H Q E h => ?_) (fun cdv A outer s H vs Q E hr h => ?_)
  · obtain ⟨p, v, t, b, t', b', rfl, _⟩ := h
    rfl
  · obtain ⟨p, v, t, b, t', b', rfl, ⟨dx, hp⟩, hv, bt, bb, bt', bb', g0, k⟩ := h
    have ht' : t' ≠ 0 := fun z => g0 (by show b * t' = 0; rw [z, Int.mul_zero])
    refine ⟨_, (pss_cons (ps_if (PW.pt (pw_or (pt_not (pt_val (pe_call (ok_is_amount T) (hr.mono (by decide)) (by rfl) T.m_is_amount T.F_is_amount.kp (b_is_amount T) .nil pass0 (pa_cons (pv 1) pa_nil)))) (pw_or1 (pt_cmpR op_eq (pe_prop (pe_call (ok_amount_of T) (hr.mono (by decide)) (by rfl) T.m_amount_of T.F_amount_of.kp (b_amount_of T) .nil pass0 (pa_cons (pv 1) pa_nil)) T.cl T.p_sign (ok_Amountsign T) (hr.mono (by decide)) (b_Amountsign T) .nil pass0 rfl) pe_int (nomark _))))) (pss_one ps_never) pss_nil)
 (pss_cons (ps_set (i := 2) sc_Amountover.nd rfl (by first | exact Or.inl rfl | exact Or.inr rfl) (pe_call (ok_amount_of T) (hr.mono (by decide)) (by rfl) T.m_amount_of T.F_amount_of.kp (b_amount_of T) .nil pass0 (pa_cons (pv 1) pa_nil)))
 (pss_one (ps_ret (pe_make T.mkA (ok_Amount_init_ T) (hr.mono (by decide)) (by rfl) T.mA (b_Amount_init_ T) .nil pass0 (pa_cons (pe_op op_mulX (pe_fldK (K := K) rfl (pv 0) rfl) (pe_fldK (K := K) rfl (pv 2) rfl)) (pa_cons (pe_op op_mulX (pe_fldK (K := K) rfl (pv 0) rfl) (pe_fldK (K := K) rfl (pv 2) rfl)) pa_nil))))))), ?_⟩
    refine ⟨_, rfl, v, t', b', rfl, hv, true, rfl, iteF ?_⟩
    refine ⟨_, rfl, v, t', b', rfl, hv, bt'.mono (by decide), fun H1 q s1 ⟨dy, hq⟩ => ?_⟩
    refine ⟨q, dy, _, rfl, hq, q, t', b', rfl, ⟨dy, hq⟩, rfl, _, rfl, iteN ?_ ?_⟩
    · intro z
      have z := of_decide_eq_true z
      injection z with z
      unfold sg at z
      rw [if_neg ht'] at z
      split at z <;> omega
    have hp := s1 _ _ hp
    have hv := hv.same s1
    refine ⟨_, rfl, v, t', b', rfl, hv, bt'.mono (by decide), fun H2 q2 s2 ⟨dz, hq2⟩ => ?_⟩
    have hp := s2 _ _ hp
    refine ⟨_, rfl, p, _, dx, _, _, rfl, hp, T.cl, T.nT, am_top _ _, _, rfl, q2, _, dz, _, _, rfl, hq2, T.cl, T.nB, am_bot _ _, _, _, rfl, rfl, bt.cm bb' (by decide), ?_⟩
    refine ⟨_, rfl, p, _, dx, _, _, rfl, hp, T.cl, T.nB, am_bot _ _, _, rfl, q2, _, dz, _, _, rfl, hq2, T.cl, T.nT, am_top _ _, _, _, rfl, rfl, bb.cm bt' (by decide), ?_⟩
    refine fun x dz hx hdx ne => ⟨x, dz, _, _, rfl, g0, (bt.mul bb').mono (by decide), (bb.mul bt').mono (by decide), upd_same, fun H' kp e => ⟨rfl, ?_⟩⟩
    obtain ⟨s, m⟩ := made_am hx hdx ne kp e
    exact k _ _ ((s1.trans s2).trans s) m
theorem ok_Amount_radd_ (T : Txt K mg a) : FnOk P w K mg base CX0 6 a.f_Amount_radd_ a.d_Amount_radd_ ["self", "other"] (sp_bin a.c_Amount (sw fAdd) (sw gBot)) := by
  refine T.F_Amount_radd_.ok sc_Amount_radd_ (fun vs H Q E h => ?_) (fun cdv A outer s H vs Q E hr h => ?_)
  · obtain ⟨p, v, t, b, t', b', rfl, _⟩ := h
    rfl
  · obtain ⟨p, v, t, b, t', b', rfl, hp, hv, bt, bb, bt', bb', g0, k⟩ := h
    refine ⟨_, (pss_cons (ps_if (pt_not (pt_val (pe_call (ok_is_amount T) (hr.mono (by decide)) (by rfl) T.m_is_amount T.F_is_amount.kp (b_is_amount T) .nil pass0 (pa_cons (pv 1) pa_nil)))) (pss_one ps_never) pss_nil)
 (pss_one (ps_ret (pe_op (op_ownBin (K := K) (E := E0) rfl T.oAdd ((ok_Amount_add_ T).raw (b_Amount_add_ T) .nil) (hr.mono (by decide))) (pe_call (ok_amount_of T) (hr.mono (by decide)) (by rfl) T.m_amount_of T.F_amount_of.kp (b_amount_of T) .nil pass0 (pa_cons (pv 1) pa_nil)) (pv 0))))), ?_⟩
    refine ⟨_, rfl, v, t', b', rfl, hv, true, rfl, iteF ?_⟩
    refine ⟨_, rfl, v, t', b', rfl, hv, bt'.mono (by decide), fun H1 q s1 hq => ?_⟩
    obtain ⟨dy, eq⟩ := id hq
    have hp := hp.same s1
    exact ⟨_, rfl, q, dy, _, rfl, eq, .inr (let ⟨dx, ep⟩ := hp; ⟨p, dx, _, rfl, ep⟩), q, _, t', b', t, b, rfl, hq, .inr ⟨p, rfl, hp⟩, bt', bb', bt, bb, g0, fun H2 r s2 hr => k _ _ (s1.trans s2) hr⟩
theorem ok_Amount_rsub_ (T : Txt K mg a) : FnOk P w K mg base CX0 6 a.f_Amount_rsub_ a.d_Amount_rsub_ ["self", "other"] (sp_bin a.c_Amount (sw fSub) (sw gBot)) := by
  refine T.F_Amount_rsub_.ok sc_Amount_rsub_ (fun vs H Q E h => ?_) (fun cdv A outer s H vs Q E hr h => ?_)
  · obtain ⟨p, v, t, b, t', b', rfl, _⟩ := h
    rfl
  · obtain ⟨p, v, t, b, t', b', rfl, hp, hv, bt, bb, bt', bb', g0, k⟩ := h
    refine ⟨_, (pss_cons (ps_if (pt_not (pt_val (pe_call (ok_is_amount T) (hr.mono (by decide)) (by rfl) T.m_is_amount T.F_is_amount.kp (b_is_amount T) .nil pass0 (pa_cons (pv 1) pa_nil)))) (pss_one ps_never) pss_nil)
 (pss_one (ps_ret (pe_op (op_ownBin (K := K) (E := E0) rfl T.oSub ((ok_Amount_sub_ T).raw (b_Amount_sub_ T) .nil) (hr.mono (by decide))) (pe_call (ok_amount_of T) (hr.mono (by decide)) (by rfl) T.m_amount_of T.F_amount_of.kp (b_amount_of T) .nil pass0 (pa_cons (pv 1) pa_nil)) (pv 0))))), ?_⟩
    refine ⟨_, rfl, v, t', b', rfl, hv, true, rfl, iteF ?_⟩
    refine ⟨_, rfl, v, t', b', rfl, hv, bt'.mono (by decide), fun H1 q s1 hq => ?_⟩
    obtain ⟨dy, eq⟩ := id hq
    have hp := hp.same s1
    exact ⟨_, rfl, q, dy, _, rfl, eq, .inr (let ⟨dx, ep⟩ := hp; ⟨p, dx, _, rfl, ep⟩), q, _, t', b', t, b, rfl, hq, .inr ⟨p, rfl, hp⟩, bt', bb', bt, bb, g0, fun H2 r s2 hr => k _ _ (s1.trans s2) hr⟩
theorem ok_Amount_rmul_ (T : Txt K mg a) : FnOk P w K mg base CX0 6 a.f_Amount_rmul_ a.d_Amount_rmul_ ["self", "other"] (sp_bin a.c_Amount (sw fMul) (sw gBot)) := by
  refine T.F_Amount_rmul_.ok sc_Amount_rmul_ (fun vs H Q E h => ?_) (fun cdv A outer s H vs Q E hr h => ?_)
  · obtain ⟨p, v, t, b, t', b', rfl, _⟩ := h
    rfl
  · obtain ⟨p, v, t, b, t', b', rfl, hp, hv, bt, bb, bt', bb', g0, k⟩ := h
    refine ⟨_, (pss_cons (ps_if (pt_not (pt_val (pe_call (ok_is_amount T) (hr.mono (by decide)) (by rfl) T.m_is_amount T.F_is_amount.kp (b_is_amount T) .nil pass0 (pa_cons (pv 1) pa_nil)))) (pss_one ps_never) pss_nil)
 (pss_one (ps_ret (pe_op (op_ownBin (K := K) (E := E0) rfl T.oMul ((ok_Amount_mul_ T).raw (b_Amount_mul_ T) .nil) (hr.mono (by decide))) (pe_call (ok_amount_of T) (hr.mono (by decide)) (by rfl) T.m_amount_of T.F_amount_of.kp (b_amount_of T) .nil pass0 (pa_cons (pv 1) pa_nil)) (pv 0))))), ?_⟩
    refine ⟨_, rfl, v, t', b', rfl, hv, true, rfl, iteF ?_⟩
    refine ⟨_, rfl, v, t', b', rfl, hv, bt'.mono (by decide), fun H1 q s1 hq => ?_⟩
    obtain ⟨dy, eq⟩ := id hq
    have hp := hp.same s1
    exact ⟨_, rfl, q, dy, _, rfl, eq, .inr (let ⟨dx, ep⟩ := hp; ⟨p, dx, _, rfl, ep⟩), q, _, t', b', t, b, rfl, hq, .inr ⟨p, rfl, hp⟩, bt', bb', bt, bb, g0, fun H2 r s2 hr => k _ _ (s1.trans s2) hr⟩
end
end K15

set_option Elab.async false
set_option linter.all false
set_option maxRecDepth 100000
set_option maxHeartbeats 4000000
set_option exponentiation.threshold 10000
namespace K15
open PySem L2 Lb
def ival : L2.St → Int := fun σ => match σ[0]? with
  | some (some (V.int y)) => y
  | _ => 0
abbrev itS (n : Int) : Str := ((toString n : String) : Str)
theorem itS_len {n : Int} (h : Bd 1800 n) : (itS n).length ≤ 601 := by
  rw [show (itS n).length = (toString n : String).length from ofString_length _]
  exact int_text_length_le10 (k := 600) (by decide) (Nat.lt_trans h (by decide))
theorem itS_neg {n : Int} (h : n < 0) : itS n = Str.empty ++ "-" ++ itS (-n) := by
  obtain ⟨k, rfl⟩ : ∃ k : Nat, n = -((k + 1 : Nat) : Int) := ⟨(-n).toNat - 1, by omega⟩
  rw [Int.neg_neg]
  have e : (toString (-((k + 1 : Nat) : Int)) : String) = "-" ++ toString ((k + 1 : Nat) : Int) := rfl
  show Str.ofString (toString (-((k + 1 : Nat) : Int))) = Str.empty ++ Str.ofString "-" ++ Str.ofString (toString ((k + 1 : Nat) : Int))
  rw [e, empty_add, Str.ofString_eq_toList, Str.ofString_eq_toList, Str.ofString_eq_toList]
  show Str.mk _ = Str.mk _
  simp
def sp_decimal0 : Sp := fun vs H Q _ => ∃ (n : Nat), vs = [.int (n : Int)] ∧ Bd 1800 (n : Int) ∧ ∀ H', Same H H' → Q (.str (itS n)) H'
def sp_decimal : Sp := fun vs H Q _ => ∃ (n : Int), vs = [.int n] ∧ Bd 1800 n ∧ ∀ H', Same H H' → Q (.str (itS n)) H'
theorem cut_cat {n m : Nat} {ps : List Str} (h : 10 ^ 60 ≤ m) (e : itS n = itS m ++ cat ps.reverse) (hl : ∀ x ∈ ps, x.length = 60) :
    itS n = itS ((m / 10 ^ 60 : Nat) : Int) ++ cat (ps ++ [Txt.zfill (itS ((m % 10 ^ 60 : Nat) : Int)) (60 : Nat)]).reverse ∧ ∀ x ∈ ps ++ [Txt.zfill (itS ((m % 10 ^ 60 : Nat) : Int)) (60 : Nat)], x.length = 60 := by
  obtain ⟨e1, e2⟩ := turn60 h
  refine ⟨?_, fun x hx => ?_⟩
  · rw [e, List.reverse_append, List.reverse_cons, List.reverse_nil, List.nil_append, List.singleton_append, cat, ← Str.append_assoc, ← e1]
  · rcases List.mem_append.mp hx with hx | hx
    · exact hl x hx
    · rw [List.mem_singleton.mp hx]
      exact e2
theorem len60 : ∀ {ps : List Str}, (∀ x ∈ ps, x.length = 60) → (ps.map (·.length)).sum = 60 * ps.length
  | [], _ => rfl
  | x :: r, h => by
    rw [List.map_cons, List.sum_cons, h x (List.mem_cons_self ..), len60 fun y hy => h y (List.mem_cons_of_mem _ hy), List.length_cons]
    omega
theorem few {n m : Nat} {ps : List Str} (hb : Bd 1800 (n : Int)) (e : itS n = itS m ++ cat ps.reverse) (hl : ∀ x ∈ ps, x.length = 60) : 60 * ps.length ≤ 601 := by
  have h := itS_len hb
  rw [e, Str.length_append, cat_length, List.map_reverse, List.sum_reverse, len60 hl] at h
  omega
section
variable {P : Program} {w : World} {K : PySem.W.Frag} {mg : Str → Option Value} {base : Heap} {a : Ad}
theorem ok_decimal0 (T : Txt K mg a) : FnOk P w K mg base CX0 1 a.f_decimal a.d_decimal ["number"] sp_decimal0 := by
  refine T.F_decimal.ok sc_decimal (fun vs H Q E h => ?_) (fun cdv A outer s H vs Q E hr h => ?_)
  · obtain ⟨n, rfl, _⟩ := h
    rfl
  · obtain ⟨n, rfl, hb, k⟩ := h
    refine ⟨_, (pss_cons (ps_if (pt_cmpR op_lt (pv 0) pe_int (nomark _)) (pss_one ps_never) pss_nil)
 (pss_cons (ps_set (i := 1) sc_decimal.nd rfl (by first | exact Or.inl rfl | exact Or.inr rfl) (pe_lst pa_nil))
 (pss_cons (ps_while PassesOwn.never (pt_cmpR op_ge (pv 0) (pe_glob (v := .int (10 ^ 60)) rfl T.gPart.choose_spec ⟨_, rfl⟩) (nomark _)) (pss_cons (ps_asg (pe_callB call_divmodW (by rfl) T.b_divmod (by decide +kernel) (pa_cons (pv 0) (pa_cons (pe_glob (v := .int (10 ^ 60)) rfl T.gPart.choose_spec ⟨_, rfl⟩) pa_nil))) (pg_tupK (K := K) (n := 2) rfl rfl (pgs_cons (pg_name (i := 0) sc_decimal.nd rfl (by first | exact Or.inl rfl | exact Or.inr rfl)) (pgs_cons (pg_name (i := 2) sc_decimal.nd rfl (by first | exact Or.inl rfl | exact Or.inr rfl)) pgs_nil))))
 (pss_one (ps_expr (pe_bm PySem.F.plainAttrs_list PySem.F.slot_list_append PySem.F.type_list_append mt_append (pv 1) (pa_cons (pe_bm PySem.F.plainAttrs_str PySem.F.slot_str_zfill PySem.F.type_str_zfill mt_zfill (pe_callTy call_str_int (by rfl) T.b_str (by decide +kernel) (pa_cons (pv 2) pa_nil)) (pa_cons (pe_glob (v := .int 60) rfl T.gLen.choose_spec ⟨_, rfl⟩) pa_nil)) pa_nil))))))
 (pss_cons (ps_expr (pe_bm PySem.F.plainAttrs_list PySem.F.slot_list_append PySem.F.type_list_append mt_append (pv 1) (pa_cons (pe_callTy call_str_int (by rfl) T.b_str (by decide +kernel) (pa_cons (pv 0) pa_nil)) pa_nil)))
 (pss_cons (ps_expr (pe_bm0 PySem.F.plainAttrs_list PySem.F.slot_list_reverse PySem.F.type_list_reverse mt_reverse (pv 1)))
 (pss_one (ps_ret (pe_join pe_str (pv 1))))))))), ?_⟩
    refine ⟨_, rfl, _, _, rfl, rfl, _, rfl, iteN (by simp) ?_⟩
    refine ⟨sz, fun l hl => ?_⟩
    have lp : Bd 200 ((10 : Int) ^ 60) := by show _ < _; decide
    refine while_by (fun σ H' => ∃ (m : Nat) (ps : List Str) (u : Option V), σ = [some (.int (m : Int)), some (.ref l), u] ∧ H' l = some (.lst (ps.map V.str)) ∧ Same H H' ∧ itS n = itS m ++ cat ps.reverse ∧ (∀ x ∈ ps, x.length = 60) ∧ m ≤ n) (fun σ _ => (ival σ).toNat)
      ⟨n, [], none, rfl, upd_same, Lb.Same.upd hl, (add_empty _).symm, fun _ h => absurd h (List.not_mem_nil), Nat.le_refl _⟩ ?_ (fun σ H Q Q' k ⟨v, e, i, j, e1, e2, b, e3, q⟩ => ⟨v, e, i, j, e1, e2, b, e3, k _ _ q⟩)
    rintro σ H1 ⟨m, ps, u, rfl, fl, s1, e, h60, hm⟩
    have hps := few hb e h60
    refine ⟨_, rfl, _, _, rfl, rfl, _, rfl, ite2 (fun h1 => ?_) (fun h1 => ?_)⟩
    · have h1 : 10 ^ 60 ≤ m := by
        have := of_decide_eq_true h1
        omega
      refine ⟨_, rfl, _, _, rfl, divp_small (by decide) (lp.mono (by decide)), fun t ht => ?_⟩
      generalize e_H2 : upd _ t _ = H2
      obtain ⟨s2, ft⟩ := al3 e_H2 ht
      clear e_H2
      (try dsimp only at ft)
      refine ⟨_, _, rfl, SqT.of ft, rfl, _, _, rfl, _, _, rfl, rfl, ?_⟩
      have e1 : (m : Int) / 10 ^ 60 = ((m / 10 ^ 60 : Nat) : Int) := by omega
      have e2 : (m : Int) % 10 ^ 60 = ((m % 10 ^ 60 : Nat) : Int) := by omega
      have fl := s2 _ _ fl
      obtain ⟨c1, c2⟩ := cut_cat h1 e h60
      have lr : (m % 10 ^ 60 : Nat) < 10 ^ 60 := Nat.mod_lt _ (by decide)
      have hlog : ((m : Int) % 10 ^ 60).natAbs.log2 < 1920 := by
        have : ((m : Int) % 10 ^ 60).natAbs < 2 ^ 200 := Nat.lt_of_lt_of_le (m := 10 ^ 60) (by omega) (by decide)
        exact Nat.lt_of_lt_of_le (PySem.Flt.log2_lt_of (by decide) this) (by decide)
      refine ⟨_, rfl, .inl ⟨rfl, _, SqL.of fl⟩, _, rfl, _, rfl, hlog, rfl, _, _, rfl, rfl, rfl, l, _, _, rfl, rfl, fl, szlt (by rw [List.length_map]; omega), ?_⟩
      refine ⟨⟨m / 10 ^ 60, ps ++ [Txt.zfill (itS ((m % 10 ^ 60 : Nat) : Int)) (60 : Nat)], _, by rw [e1]; rfl, ?_, Lb.Same.updl (s1.trans s2) hl, c1, c2, Nat.le_trans (Nat.div_le_self _ _) hm⟩, ?_⟩
      · rw [upd_same, e2, List.map_append]
        rfl
      · show ((m : Int) / 10 ^ 60).toNat < (m : Int).toNat
        omega
    · have h1 : m < 10 ^ 60 := by
        have h1 : ¬ ((m : Int) ≥ 10 ^ 60) := fun q => h1 (decide_eq_true q)
        omega
      have hlog : (m : Int).natAbs.log2 < 1920 := by
        have : (m : Int).natAbs < 2 ^ 200 := Nat.lt_of_lt_of_le (m := 10 ^ 60) (by omega) (by decide)
        exact Nat.lt_of_lt_of_le (PySem.Flt.log2_lt_of (by decide) this) (by decide)
      refine ⟨_, rfl, .inl ⟨rfl, _, SqL.of fl⟩, _, rfl, _, rfl, hlog, l, _, _, rfl, rfl, fl, szlt (by rw [List.length_map]; omega), ?_⟩
      refine ⟨_, rfl, .inl ⟨rfl, _, SqL.of upd_same⟩, l, _, rfl, rfl, upd_same, ?_⟩
      have er : (ps.map V.str ++ [V.str (itS (m : Int))]).reverse = ((itS (m : Int)) :: ps.reverse).map V.str := by simp
      rw [er]
      refine ⟨⟨_, rfl⟩, _, rfl, _, l, (itS (m : Int)) :: ps.reverse, rfl, rfl, .inl (SqL.of upd_same), ?_, ?_⟩
      · have l1 : (itS (m : Int)).length ≤ 61 := by
          rw [show (itS (m : Int)).length = (toString (m : Int) : String).length from ofString_length _]
          exact int_text_length_le10 (k := 60) (by decide) (by omega)
        rw [List.map_cons, List.sum_cons, List.map_reverse, List.sum_reverse, len60 h60]
        show _ + _ * 0 ≤ _
        omega
      · rw [show (Str.ofString "") = Str.empty from by decide +kernel, join_empty]
        rw [e] at k
        exact k _ (Lb.Same.updl (Lb.Same.updl s1 hl) hl)
theorem ok_decimal (T : Txt K mg a) : FnOk P w K mg base CX0 2 a.f_decimal a.d_decimal ["number"] sp_decimal := by
  refine T.F_decimal.ok sc_decimal (fun vs H Q E h => ?_) (fun cdv A outer s H vs Q E hr h => ?_)
  · obtain ⟨n, rfl, _⟩ := h
    rfl
  · obtain ⟨n, rfl, hb, k⟩ := h
    refine ⟨_, (pss_cons (ps_if (pt_cmpR op_lt (pv 0) pe_int (nomark _)) (pss_one (ps_ret (pe_joined (.cons pe_str (.cons (pe_fmt (pe_call (ok_decimal0 T) (hr.mono (by decide)) (by rfl) T.m_decimal T.F_decimal.kp (b_decimal T) .nil pass0 (pa_cons (pe_un un_neg (pv 0)) pa_nil))) .nil))))) pss_nil)
 (pss_cons (ps_set (i := 1) sc_decimal.nd rfl (by first | exact Or.inl rfl | exact Or.inr rfl) (pe_lst pa_nil))
 (pss_cons (ps_while PassesOwn.never (pt_cmpR op_ge (pv 0) (pe_glob (v := .int (10 ^ 60)) rfl T.gPart.choose_spec ⟨_, rfl⟩) (nomark _)) (pss_cons (ps_asg (pe_callB call_divmodW (by rfl) T.b_divmod (by decide +kernel) (pa_cons (pv 0) (pa_cons (pe_glob (v := .int (10 ^ 60)) rfl T.gPart.choose_spec ⟨_, rfl⟩) pa_nil))) (pg_tupK (K := K) (n := 2) rfl rfl (pgs_cons (pg_name (i := 0) sc_decimal.nd rfl (by first | exact Or.inl rfl | exact Or.inr rfl)) (pgs_cons (pg_name (i := 2) sc_decimal.nd rfl (by first | exact Or.inl rfl | exact Or.inr rfl)) pgs_nil))))
 (pss_one (ps_expr (pe_bm PySem.F.plainAttrs_list PySem.F.slot_list_append PySem.F.type_list_append mt_append (pv 1) (pa_cons (pe_bm PySem.F.plainAttrs_str PySem.F.slot_str_zfill PySem.F.type_str_zfill mt_zfill (pe_callTy call_str_int (by rfl) T.b_str (by decide +kernel) (pa_cons (pv 2) pa_nil)) (pa_cons (pe_glob (v := .int 60) rfl T.gLen.choose_spec ⟨_, rfl⟩) pa_nil)) pa_nil))))))
 (pss_cons (ps_expr (pe_bm PySem.F.plainAttrs_list PySem.F.slot_list_append PySem.F.type_list_append mt_append (pv 1) (pa_cons (pe_callTy call_str_int (by rfl) T.b_str (by decide +kernel) (pa_cons (pv 0) pa_nil)) pa_nil)))
 (pss_cons (ps_expr (pe_bm0 PySem.F.plainAttrs_list PySem.F.slot_list_reverse PySem.F.type_list_reverse mt_reverse (pv 1)))
 (pss_one (ps_ret (pe_join pe_str (pv 1))))))))), ?_⟩
    refine ⟨_, rfl, _, _, rfl, rfl, _, rfl, ite2 (fun h0 => ?_) (fun h0 => ?_)⟩
    · have h0 : n < 0 := by simpa using h0
      obtain ⟨m, hm⟩ : ∃ m : Nat, -n = (m : Int) := ⟨(-n).toNat, by omega⟩
      have hb' : Bd 1800 (-n) := hb.neg
      refine ⟨_, rfl, sz, _, rfl, _, rfl, m, by show [V.int (-n)] = _; rw [hm], hm ▸ hb', fun H' s' => .inl ⟨_, rfl, szle (by rw [← hm]; have := itS_len hb'; omega), _, rfl, ?_, ?_⟩⟩
      · rw [← hm]
        have := itS_len hb'
        rw [Str.length_append]
        exact szle (by show 1 + _ ≤ _; omega)
      · rw [← hm]
        have e := k _ s'
        rw [itS_neg h0] at e
        exact e
    · obtain ⟨n, rfl⟩ : ∃ m : Nat, n = (m : Int) := ⟨n.toNat, (Int.toNat_of_nonneg (Int.not_lt.mp (by simpa using h0))).symm⟩
      refine ⟨sz, fun l hl => ?_⟩
      have lp : Bd 200 ((10 : Int) ^ 60) := by show _ < _; decide
      refine while_by (fun σ H' => ∃ (m : Nat) (ps : List Str) (u : Option V), σ = [some (.int (m : Int)), some (.ref l), u] ∧ H' l = some (.lst (ps.map V.str)) ∧ Same H H' ∧ itS n = itS m ++ cat ps.reverse ∧ (∀ x ∈ ps, x.length = 60) ∧ m ≤ n) (fun σ _ => (ival σ).toNat)
        ⟨n, [], none, rfl, upd_same, Lb.Same.upd hl, (add_empty _).symm, fun _ h => absurd h (List.not_mem_nil), Nat.le_refl _⟩ ?_ (fun σ H Q Q' k ⟨v, e, i, j, e1, e2, b, e3, q⟩ => ⟨v, e, i, j, e1, e2, b, e3, k _ _ q⟩)
      rintro σ H1 ⟨m, ps, u, rfl, fl, s1, e, h60, hm⟩
      have hps := few hb e h60
      refine ⟨_, rfl, _, _, rfl, rfl, _, rfl, ite2 (fun h1 => ?_) (fun h1 => ?_)⟩
      · have h1 : 10 ^ 60 ≤ m := by
          have := of_decide_eq_true h1
          omega
        refine ⟨_, rfl, _, _, rfl, divp_small (by decide) (lp.mono (by decide)), fun t ht => ?_⟩
        generalize e_H2 : upd _ t _ = H2
        obtain ⟨s2, ft⟩ := al3 e_H2 ht
        clear e_H2
        (try dsimp only at ft)
        refine ⟨_, _, rfl, SqT.of ft, rfl, _, _, rfl, _, _, rfl, rfl, ?_⟩
        have e1 : (m : Int) / 10 ^ 60 = ((m / 10 ^ 60 : Nat) : Int) := by omega
        have e2 : (m : Int) % 10 ^ 60 = ((m % 10 ^ 60 : Nat) : Int) := by omega
        have fl := s2 _ _ fl
        obtain ⟨c1, c2⟩ := cut_cat h1 e h60
        have lr : (m % 10 ^ 60 : Nat) < 10 ^ 60 := Nat.mod_lt _ (by decide)
        have hlog : ((m : Int) % 10 ^ 60).natAbs.log2 < 1920 := by
          have : ((m : Int) % 10 ^ 60).natAbs < 2 ^ 200 := Nat.lt_of_lt_of_le (m := 10 ^ 60) (by omega) (by decide)
          exact Nat.lt_of_lt_of_le (PySem.Flt.log2_lt_of (by decide) this) (by decide)
        refine ⟨_, rfl, .inl ⟨rfl, _, SqL.of fl⟩, _, rfl, _, rfl, hlog, rfl, _, _, rfl, rfl, rfl, l, _, _, rfl, rfl, fl, szlt (by rw [List.length_map]; omega), ?_⟩
        refine ⟨⟨m / 10 ^ 60, ps ++ [Txt.zfill (itS ((m % 10 ^ 60 : Nat) : Int)) (60 : Nat)], _, by rw [e1]; rfl, ?_, Lb.Same.updl (s1.trans s2) hl, c1, c2, Nat.le_trans (Nat.div_le_self _ _) hm⟩, ?_⟩
        · rw [upd_same, e2, List.map_append]
          rfl
        · show ((m : Int) / 10 ^ 60).toNat < (m : Int).toNat
          omega
      · have h1 : m < 10 ^ 60 := by
          have h1 : ¬ ((m : Int) ≥ 10 ^ 60) := fun q => h1 (decide_eq_true q)
          omega
        have hlog : (m : Int).natAbs.log2 < 1920 := by
          have : (m : Int).natAbs < 2 ^ 200 := Nat.lt_of_lt_of_le (m := 10 ^ 60) (by omega) (by decide)
          exact Nat.lt_of_lt_of_le (PySem.Flt.log2_lt_of (by decide) this) (by decide)
        refine ⟨_, rfl, .inl ⟨rfl, _, SqL.of fl⟩, _, rfl, _, rfl, hlog, l, _, _, rfl, rfl, fl, szlt (by rw [List.length_map]; omega), ?_⟩
        refine ⟨_, rfl, .inl ⟨rfl, _, SqL.of upd_same⟩, l, _, rfl, rfl, upd_same, ?_⟩
        have er : (ps.map V.str ++ [V.str (itS (m : Int))]).reverse = ((itS (m : Int)) :: ps.reverse).map V.str := by simp
        rw [er]
        refine ⟨⟨_, rfl⟩, _, rfl, _, l, (itS (m : Int)) :: ps.reverse, rfl, rfl, .inl (SqL.of upd_same), ?_, ?_⟩
        · have l1 : (itS (m : Int)).length ≤ 61 := by
            rw [show (itS (m : Int)).length = (toString (m : Int) : String).length from ofString_length _]
            exact int_text_length_le10 (k := 60) (by decide) (by omega)
          rw [List.map_cons, List.sum_cons, List.map_reverse, List.sum_reverse, len60 h60]
          show _ + _ * 0 ≤ _
          omega
        · rw [show (Str.ofString "") = Str.empty from by decide +kernel, join_empty]
          rw [e] at k
          exact k _ (Lb.Same.updl (Lb.Same.updl s1 hl) hl)
/-- str and repr of an amount -/
def txS (t b : Int) : Str := if b = 1 then itS t else itS t ++ "/" ++ itS b
def txR (t b : Int) : Str := "Amount(" ++ itS t ++ ", " ++ itS b ++ ")"
def sp_tx (C : Addr) (f : Int → Int → Str) : Sp := fun vs H Q _ => ∃ (p : Addr) (t b : Int), vs = [.ref p] ∧ AmAt C H p t b ∧ Bd 1800 t ∧ Bd 1800 b ∧ ∀ H', Same H H' → Q (.str (f t b)) H'
theorem ok_Amount_str_ (T : Txt K mg a) : FnOk P w K mg base CX0 3 a.f_Amount_str_ a.d_Amount_str_ ["self"] (sp_tx a.c_Amount txS) := by
  refine T.F_Amount_str_.ok sc_Amount_str_ (fun vs H Q E h => ?_) (fun cdv A outer s H vs Q E hr h => ?_)
  · obtain ⟨p, t, b, rfl, _⟩ := h
    rfl
  · obtain ⟨p, t, b, rfl, ⟨dx, hp⟩, ht, hb, k⟩ := h
    refine ⟨_, (pss_cons (ps_if (pt_cmpR op_eq (pe_fldK (K := K) rfl (pv 0) rfl) pe_int (nomark _)) (pss_one (ps_ret (pe_callTy SkE.call_str_str (by rfl) T.b_str (by decide +kernel) (pa_cons (pe_call (ok_decimal T) (hr.mono (by decide)) (by rfl) T.m_decimal T.F_decimal.kp (b_decimal T) .nil pass0 (pa_cons (pe_fldK (K := K) rfl (pv 0) rfl) pa_nil)) pa_nil)))) pss_nil)
 (pss_one (ps_ret (pe_joined (.cons (pe_fmt (pe_call (ok_decimal T) (hr.mono (by decide)) (by rfl) T.m_decimal T.F_decimal.kp (b_decimal T) .nil pass0 (pa_cons (pe_fldK (K := K) rfl (pv 0) rfl) pa_nil))) (.cons pe_str (.cons (pe_fmt (pe_call (ok_decimal T) (hr.mono (by decide)) (by rfl) T.m_decimal T.F_decimal.kp (b_decimal T) .nil pass0 (pa_cons (pe_fldK (K := K) rfl (pv 0) rfl) pa_nil))) .nil))))))), ?_⟩
    unfold txS at k
    refine ⟨_, rfl, p, _, dx, _, _, rfl, hp, T.cl, T.nB, am_bot _ _, rfl, _, rfl, ite2 (fun h1 => ?_) (fun h1 => ?_)⟩
    · rw [if_pos (by simpa using h1)] at k
      refine ⟨_, rfl, p, _, dx, _, _, rfl, hp, T.cl, T.nT, am_top _ _, t, rfl, ht, fun H1 s1 => ⟨_, rfl, k _ s1⟩⟩
    · rw [if_neg (by simpa using h1)] at k
      refine ⟨_, rfl, p, _, dx, _, _, rfl, hp, T.cl, T.nT, am_top _ _, t, rfl, ht, fun H1 s1 => ?_⟩
      have l1 := itS_len ht
      have l2 := itS_len hb
      refine .inl ⟨_, rfl, szle (by omega), _, rfl, ?_, _, rfl, ?_, ?_⟩
      · rw [Str.length_append]
        exact szle (by show 0 + _ ≤ _; omega)
      · rw [Str.length_append, Str.length_append]
        exact szle (by show 0 + _ + 1 ≤ _; omega)
      refine ⟨_, rfl, p, _, dx, _, _, rfl, s1 _ _ hp, T.cl, T.nB, am_bot _ _, b, rfl, hb, fun H2 s2 => .inl ⟨_, rfl, szle (by omega), _, rfl, ?_, ?_⟩⟩
      · rw [Str.length_append, Str.length_append, Str.length_append]
        exact szle (by show 0 + _ + 1 + _ ≤ _; omega)
      · have q := k _ (s1.trans s2)
        rw [← empty_add (itS t)] at q
        exact q
end
end K15

set_option Elab.async false
set_option linter.all false
set_option maxRecDepth 100000
set_option maxHeartbeats 4000000
set_option exponentiation.threshold 10000
namespace K15
open PySem L2 Lb
theorem at0 {x y : V} : atI [x, y] 0 = some x := atI_nat (j := 0) rfl
theorem at1 {x y : V} : atI [x, y] 1 = some y := atI_nat (j := 1) rfl
theorem take_snoc {α : Type} {l : List α} {i : Nat} {x : α} (h : l[i]? = some x) : l.take i ++ [x] = l.take (i + 1) := by
  rw [List.take_succ, h]
  rfl
theorem ref_at {as : List Addr} {i : Nat} {x : V} (h : (as.map V.ref)[i]? = some x) : ∃ q, x = .ref q ∧ as[i]? = some q := by
  rw [List.getElem?_map] at h
  cases e : as[i]? with
  | none => rw [e] at h; cases h
  | some q => rw [e] at h; exact ⟨q, (Option.some.inj h).symm, rfl⟩
theorem at_ref {as : List Addr} {i : Nat} {q : Addr} (h : as[i]? = some q) : atI (as.map V.ref) (i : Int) = some (.ref q) := atI_nat (by rw [List.getElem?_map, h]; rfl)
theorem paired_snoc {α β : Type} {R : α → β → Prop} : ∀ {as : List α} {bs : List β} {a : α} {b : β}, Paired R as bs → R a b → Paired R (as ++ [a]) (bs ++ [b])
  | [], [], _, _, .nil, h => .cons h .nil
  | _ :: _, _ :: _, _, _, .cons h1 h2, h => .cons h1 (paired_snoc h2 h)
def sp_cmp (C : Addr) (f : Int → Int → Int → Int → Bool) : Sp := fun vs H Q _ => ∃ (p q : Addr) (t b t' b' : Int), vs = [.ref p, .ref q] ∧ AmAt C H p t b ∧ AmAt C H q t' b' ∧ Bd 8000 t ∧ Bd 8000 b ∧ Bd 8000 t' ∧ Bd 8000 b' ∧ Q (.bl (f t b t' b')) H
def fLt : Int → Int → Int → Int → Bool := fun t b t' b' => decide (t * b' < t' * b)
def fLe : Int → Int → Int → Int → Bool := fun t b t' b' => decide (t * b' ≤ t' * b)
/-- a point: two fractions -/
abbrev Pt := Q2 × Q2
/-- a point as it is passed -/
def PtP (C : Addr) (H : Hp) (v : V) (z : Pt) : Prop := ∃ t u w, v = .ref t ∧ H t = some (.tup [u, w]) ∧ IsP C H u z.1.1 z.1.2 ∧ IsP C H w z.2.1 z.2.2
theorem PtP.same {C : Addr} {H H' : Hp} {v : V} {z : Pt} (h : PtP C H v z) (s : Same H H') : PtP C H' v z :=
  let ⟨t, u, w, e, et, p, q⟩ := h
  ⟨t, u, w, e, s _ _ et, p.same s, q.same s⟩
/-- a point that the program holds: a tuple of two amounts -/
def RowA (C : Addr) (H : Hp) (r : Addr) (z : Pt) : Prop := ∃ p q, H r = some (.tup [.ref p, .ref q]) ∧ AmAt C H p z.1.1 z.1.2 ∧ AmAt C H q z.2.1 z.2.2
theorem RowA.same {C : Addr} {H H' : Hp} {r : Addr} {z : Pt} (h : RowA C H r z) (s : Same H H') : RowA C H' r z :=
  let ⟨p, q, e, ap, aq⟩ := h
  ⟨p, q, s _ _ e, ap.same s, aq.same s⟩
/-- both parts in lowest terms, small, and of one sign -/
structure PtL (n : Nat) (z : Pt) : Prop where
  x : Low n z.1
  y : Low n z.2
  s : sg z.1.1 = sg z.2.1
def ltQ (x y : Q2) : Prop := x.1 * y.2 < y.1 * x.2
def sp_is_point (C : Addr) : Sp := fun vs H Q _ => ∃ v z n, vs = [v] ∧ PtP C H v z ∧ PtL n z ∧ n ≤ 8000 ∧ ∀ H', Same H H' → Q (.bl true) H'
def sp_is_origin (C : Addr) : Sp := fun vs H Q _ => ∃ v z n, vs = [v] ∧ PtP C H v z ∧ PtL n z ∧ n ≤ 8000 ∧ ∀ H', Same H H' → Q (.bl (decide (z.1.1 = 0))) H'
def sp_rises_p (C : Addr) : Sp := fun vs H Q _ => ∃ r r' z z' n, vs = [.ref r, .ref r'] ∧ RowA C H r z ∧ RowA C H r' z' ∧ PtL n z ∧ PtL n z' ∧ n ≤ 8000 ∧ ltQ z.1 z'.1 ∧ ltQ z.2 z'.2 ∧ Q (.bl true) H
theorem sg0 {t : Int} : sg t = 0 ↔ t = 0 := by
  unfold sg
  split
  · rename_i h; simp [h]
  · rename_i h
    split <;> simp [h]
section
variable {P : Program} {w : World} {K : PySem.W.Frag} {mg : Str → Option Value} {base : Heap} {a : Ad}
theorem ok_Amount_lt_ (T : Txt K mg a) : FnOk P w K mg base CX0 1 a.f_Amount_lt_ a.d_Amount_lt_ ["self", "other"] (sp_cmp a.c_Amount fLt) := by
  refine T.F_Amount_lt_.ok sc_Amount_lt_ (fun vs H Q E h => ?_) (fun cdv A outer s H vs Q E hr h => ?_)
  · obtain ⟨p, q, t, b, t', b', rfl, _⟩ := h
    rfl
  · obtain ⟨p, q, t, b, t', b', rfl, ⟨dx, hp⟩, ⟨dy, hq⟩, bt, bb, bt', bb', k⟩ := h
    refine ⟨_, (pss_cons (ps_if (pt_not (pt_val (pe_callB (call_isiK' (K := K) rfl) (by rfl) T.b_isinstance (by decide +kernel) (pa_cons (pv 1) (pa_cons (pe_glob (v := .ref a.c_Amount) rfl T.mA rfl) pa_nil))))) (pss_one ps_never) pss_nil)
 (pss_one (ps_ret (pe_cmpR op_lt (pe_op op_mulX (pe_fldK (K := K) rfl (pv 0) rfl) (pe_fldK (K := K) rfl (pv 1) rfl)) (pe_op op_mulX (pe_fldK (K := K) rfl (pv 1) rfl) (pe_fldK (K := K) rfl (pv 0) rfl)) (nomark _))))), ?_⟩
    refine ⟨_, rfl, _, _, _, _, true, rfl, .own _, .base (T.I.ty T.cl hq), Inst.kSelf, true, rfl, iteF ?_⟩
    refine ⟨_, rfl, p, _, dx, _, _, rfl, hp, T.cl, T.nT, am_top _ _, _, rfl, q, _, dy, _, _, rfl, hq, T.cl, T.nB, am_bot _ _, _, _, rfl, rfl, bt.cm bb' (by decide), ?_⟩
    exact ⟨_, rfl, q, _, dy, _, _, rfl, hq, T.cl, T.nT, am_top _ _, _, rfl, p, _, dx, _, _, rfl, hp, T.cl, T.nB, am_bot _ _, _, _, rfl, rfl, bt'.cm bb (by decide), _, _, rfl, rfl, k⟩
theorem ok_Amount_le_ (T : Txt K mg a) : FnOk P w K mg base CX0 1 a.f_Amount_le_ a.d_Amount_le_ ["self", "other"] (sp_cmp a.c_Amount fLe) := by
  refine T.F_Amount_le_.ok sc_Amount_le_ (fun vs H Q E h => ?_) (fun cdv A outer s H vs Q E hr h => ?_)
  · obtain ⟨p, q, t, b, t', b', rfl, _⟩ := h
    rfl
  · obtain ⟨p, q, t, b, t', b', rfl, ⟨dx, hp⟩, ⟨dy, hq⟩, bt, bb, bt', bb', k⟩ := h
    refine ⟨_, (pss_cons (ps_if (pt_not (pt_val (pe_callB (call_isiK' (K := K) rfl) (by rfl) T.b_isinstance (by decide +kernel) (pa_cons (pv 1) (pa_cons (pe_glob (v := .ref a.c_Amount) rfl T.mA rfl) pa_nil))))) (pss_one ps_never) pss_nil)
 (pss_one (ps_ret (pe_cmpR op_le (pe_op op_mulX (pe_fldK (K := K) rfl (pv 0) rfl) (pe_fldK (K := K) rfl (pv 1) rfl)) (pe_op op_mulX (pe_fldK (K := K) rfl (pv 1) rfl) (pe_fldK (K := K) rfl (pv 0) rfl)) (nomark _))))), ?_⟩
    refine ⟨_, rfl, _, _, _, _, true, rfl, .own _, .base (T.I.ty T.cl hq), Inst.kSelf, true, rfl, iteF ?_⟩
    refine ⟨_, rfl, p, _, dx, _, _, rfl, hp, T.cl, T.nT, am_top _ _, _, rfl, q, _, dy, _, _, rfl, hq, T.cl, T.nB, am_bot _ _, _, _, rfl, rfl, bt.cm bb' (by decide), ?_⟩
    exact ⟨_, rfl, q, _, dy, _, _, rfl, hq, T.cl, T.nT, am_top _ _, _, rfl, p, _, dx, _, _, rfl, hp, T.cl, T.nB, am_bot _ _, _, _, rfl, rfl, bt'.cm bb (by decide), _, _, rfl, rfl, k⟩
theorem ok_is_point (T : Txt K mg a) : FnOk P w K mg base CX0 5 a.f_is_point a.d_is_point ["value"] (sp_is_point a.c_Amount) := by
  refine T.F_is_point.ok sc_is_point (fun vs H Q E h => ?_) (fun cdv A outer s H vs Q E hr h => ?_)
  · obtain ⟨v, z, n, rfl, _⟩ := h
    rfl
  · obtain ⟨v, z, n, rfl, ⟨t, u, w, rfl, et, iu, iw⟩, lz, hn, k⟩ := h
    refine ⟨_, (pss_cons (ps_if (PW.pt (pw_or (pt_not (pt_val (pe_callB (call_isiK' (K := K) rfl) (by rfl) T.b_isinstance (by decide +kernel) (pa_cons (pv 0) (pa_cons (pe_bltn (v := .ty "tuple") (by rfl) T.b_tuple (by decide +kernel) rfl) pa_nil))))) (pw_or1 (pt_cmpR op_ne (pe_callB (call_lenK (K := K) rfl) (by rfl) T.b_len (by decide +kernel) (pa_cons (pv 0) pa_nil)) pe_int (nomark _))))) (pss_one (ps_ret pe_bl)) pss_nil)
 (pss_cons (ps_if (PW.pt (pw_or (pt_not (pt_val (pe_call (ok_is_amount T) (hr.mono (by decide)) (by rfl) T.m_is_amount T.F_is_amount.kp (b_is_amount T) .nil pass0 (pa_cons (pe_ix (ix_tupK (K := K) rfl) (pv 0) (pe_glob (v := .int 0) rfl T.gFlow.choose_spec ⟨_, rfl⟩) (fun _ _ => rfl)) pa_nil)))) (pw_or1 (pt_not (pt_val (pe_call (ok_is_amount T) (hr.mono (by decide)) (by rfl) T.m_is_amount T.F_is_amount.kp (b_is_amount T) .nil pass0 (pa_cons (pe_ix (ix_tupK (K := K) rfl) (pv 0) (pe_glob (v := .int 1) rfl T.gDrop.choose_spec ⟨_, rfl⟩) (fun _ _ => rfl)) pa_nil))))))) (pss_one (ps_ret pe_bl)) pss_nil)
 (pss_one (ps_ret (pe_cmpR op_eq (pe_prop (pe_call (ok_amount_of T) (hr.mono (by decide)) (by rfl) T.m_amount_of T.F_amount_of.kp (b_amount_of T) .nil pass0 (pa_cons (pe_ix (ix_tupK (K := K) rfl) (pv 0) (pe_glob (v := .int 0) rfl T.gFlow.choose_spec ⟨_, rfl⟩) (fun _ _ => rfl)) pa_nil)) T.cl T.p_sign (ok_Amountsign T) (hr.mono (by decide)) (b_Amountsign T) .nil pass0 rfl) (pe_prop (pe_call (ok_amount_of T) (hr.mono (by decide)) (by rfl) T.m_amount_of T.F_amount_of.kp (b_amount_of T) .nil pass0 (pa_cons (pe_ix (ix_tupK (K := K) rfl) (pv 0) (pe_glob (v := .int 1) rfl T.gDrop.choose_spec ⟨_, rfl⟩) (fun _ _ => rfl)) pa_nil)) T.cl T.p_sign (ok_Amountsign T) (hr.mono (by decide)) (b_Amountsign T) .nil pass0 rfl) (nomark _)))))), ?_⟩
    refine ⟨_, rfl, _, _, _, _, true, rfl, .ty _, .base (.tup et), kit_ty (by decide +kernel), true, rfl, iteF ?_⟩
    refine ⟨_, rfl, _, _, rfl, .inr (SqT.of et), rfl, _, rfl, iteN (by simp) ?_⟩
    refine ⟨_, rfl, _, _, _, _, rfl, rfl, SqT.of et, at0, u, _, _, rfl, iu, true, rfl, iteF ?_⟩
    refine ⟨_, rfl, _, _, _, _, rfl, rfl, SqT.of et, at1, w, _, _, rfl, iw, true, rfl, iteF ?_⟩
    refine ⟨_, rfl, _, _, _, _, rfl, rfl, SqT.of et, at0, u, _, _, rfl, iu, lz.x.t.mono hn, fun H1 q s1 aq => ?_⟩
    obtain ⟨dq, eq⟩ := id aq
    refine ⟨q, dq, _, rfl, eq, q, _, _, rfl, aq, ?_⟩
    refine ⟨_, rfl, _, _, _, _, rfl, rfl, SqT.of (s1 _ _ et), at1, w, _, _, rfl, iw.same s1, lz.y.t.mono hn, fun H2 r s2 ar => ?_⟩
    obtain ⟨dr, er⟩ := id ar
    refine ⟨r, dr, _, rfl, er, r, _, _, rfl, ar, rfl, ?_⟩
    have e := k _ (s1.trans s2)
    show Q (.bl (decide (V.int _ = V.int _))) H2
    rw [decide_eq_true (by rw [lz.s])]
    exact e
theorem ok_is_origin (T : Txt K mg a) : FnOk P w K mg base CX0 6 a.f_is_origin a.d_is_origin ["value"] (sp_is_origin a.c_Amount) := by
  refine T.F_is_origin.ok sc_is_origin (fun vs H Q E h => ?_) (fun cdv A outer s H vs Q E hr h => ?_)
  · obtain ⟨v, z, n, rfl, _⟩ := h
    rfl
  · obtain ⟨v, z, n, rfl, hp, lz, hn, k⟩ := h
    refine ⟨_, (pss_one (ps_ret (pe_and (pe_call (ok_is_point T) (hr.mono (by decide)) (by rfl) T.m_is_point T.F_is_point.kp (b_is_point T) .nil pass0 (pa_cons (pv 0) pa_nil)) (pe_one (pe_cmpR op_eq (pe_prop (pe_call (ok_amount_of T) (hr.mono (by decide)) (by rfl) T.m_amount_of T.F_amount_of.kp (b_amount_of T) .nil pass0 (pa_cons (pe_ix (ix_tupK (K := K) rfl) (pv 0) (pe_glob (v := .int 0) rfl T.gFlow.choose_spec ⟨_, rfl⟩) (fun _ _ => rfl)) pa_nil)) T.cl T.p_sign (ok_Amountsign T) (hr.mono (by decide)) (b_Amountsign T) .nil pass0 rfl) pe_int (nomark _)))))), ?_⟩
    refine ⟨_, rfl, v, z, n, rfl, hp, lz, hn, fun H1 s1 => ⟨true, rfl, iteT ?_⟩⟩
    obtain ⟨t, u, w, rfl, et, iu, iw⟩ := hp.same s1
    refine ⟨_, rfl, _, _, _, _, rfl, rfl, SqT.of et, at0, u, _, _, rfl, iu, lz.x.t.mono hn, fun H2 q s2 aq => ?_⟩
    obtain ⟨dq, eq⟩ := id aq
    refine ⟨q, dq, _, rfl, eq, q, _, _, rfl, aq, rfl, ?_⟩
    have e := k _ (s1.trans s2)
    show Q (.bl (decide (V.int (sg z.1.1) = V.int 0))) H2
    rw [show decide (V.int (sg z.1.1) = V.int 0) = decide (z.1.1 = 0) from decide_eq_decide.mpr ⟨fun h => by injection h with h; exact sg0.mp h, fun h => by rw [sg0.mpr h]⟩]
    exact e
theorem ok_rises_p (T : Txt K mg a) : FnOk P w K mg base CX0 2 a.f_rises_p a.d_rises_p ["low", "high"] (sp_rises_p a.c_Amount) := by
  refine T.F_rises_p.ok sc_rises_p (fun vs H Q E h => ?_) (fun cdv A outer s H vs Q E hr h => ?_)
  · obtain ⟨r, r', z, z', n, rfl, _⟩ := h
    rfl
  · obtain ⟨r, r', z, z', n, rfl, ⟨p, q, er, ap, aq⟩, ⟨p', q', er', ap', aq'⟩, l, l', hn, h1, h2, k⟩ := h
    refine ⟨_, (pss_one (ps_ret (pe_and (pe_cmpR (op_ownCmp (n := 1) (C := a.c_Amount) (K := K) rfl (fun _ _ => rfl) T.cLt.at_ T.cLt.fn ((ok_Amount_lt_ T).raw (b_Amount_lt_ T) .nil) (hr.mono (by decide)) pass0) (pe_ix (ix_tupK (K := K) rfl) (pv 0) (pe_glob (v := .int 0) rfl T.gFlow.choose_spec ⟨_, rfl⟩) (fun _ _ => rfl)) (pe_ix (ix_tupK (K := K) rfl) (pv 1) (pe_glob (v := .int 0) rfl T.gFlow.choose_spec ⟨_, rfl⟩) (fun _ _ => rfl)) (nomark _)) (pe_one (pe_cmpR (op_ownCmp (n := 1) (C := a.c_Amount) (K := K) rfl (fun _ _ => rfl) T.cLt.at_ T.cLt.fn ((ok_Amount_lt_ T).raw (b_Amount_lt_ T) .nil) (hr.mono (by decide)) pass0) (pe_ix (ix_tupK (K := K) rfl) (pv 0) (pe_glob (v := .int 1) rfl T.gDrop.choose_spec ⟨_, rfl⟩) (fun _ _ => rfl)) (pe_ix (ix_tupK (K := K) rfl) (pv 1) (pe_glob (v := .int 1) rfl T.gDrop.choose_spec ⟨_, rfl⟩) (fun _ _ => rfl)) (nomark _)))))), ?_⟩
    obtain ⟨d1, e1⟩ := id ap
    obtain ⟨d2, e2⟩ := id ap'
    obtain ⟨d3, e3⟩ := id aq
    obtain ⟨d4, e4⟩ := id aq'
    refine ⟨_, rfl, _, _, _, _, rfl, rfl, SqT.of er, at0, _, rfl, _, _, _, _, rfl, rfl, SqT.of er', at0, p, d1, _, _, rfl, e1, T.I.ty T.cl e2, Inst.nSelf, p, p', _, _, _, _, rfl, ap, ap', l.x.t.mono hn, l.x.b.mono hn, l'.x.t.mono hn, l'.x.b.mono hn, _, rfl, iteP (decide_eq_true h1) ?_⟩
    refine ⟨_, rfl, _, _, _, _, rfl, rfl, SqT.of er, at1, _, rfl, _, _, _, _, rfl, rfl, SqT.of er', at1, q, d3, _, _, rfl, e3, T.I.ty T.cl e4, Inst.nSelf, q, q', _, _, _, _, rfl, aq, aq', l.y.t.mono hn, l.y.b.mono hn, l'.y.t.mono hn, l'.y.b.mono hn, ?_⟩
    show Q (.bl (decide (z.2.1 * z'.2.2 < z'.2.1 * z.2.2))) H
    rw [decide_eq_true (show z.2.1 * z'.2.2 < z'.2.1 * z.2.2 from h2)]
    exact k
end
end K15

set_option Elab.async false
set_option linter.all false
set_option maxRecDepth 100000
set_option maxHeartbeats 4000000
set_option exponentiation.threshold 10000
namespace K15
open PySem L2 Lb
theorem leftB {C p : Addr} {f g : I4} {H : Hp} {v : V} {t b t' b' : Int} {Q : VK} (hp : AmAt C H p t b) (hv : IsP C H v t' b') (b1 : Bd 3000 t) (b2 : Bd 3000 b) (b3 : Bd 3000 t') (b4 : Bd 3000 b') (g0 : g t b t' b' ≠ 0)
    (k : ∀ H' q, Same H H' → AmAt C H' q (rdT (f t b t' b') (g t b t' b')) (rdB (f t b t' b') (g t b t' b')) → Q (.ref q) H') : rBin C (fun vs H Q E => sp_bin C f g (vs ++ []) H Q E) E0 (.ref p) v H Q :=
  let ⟨dx, e⟩ := hp
  ⟨p, dx, _, rfl, e, hv.bin, p, v, t, b, t', b', rfl, hp, hv, b1, b2, b3, b4, g0, k⟩
/-- an amount: its fraction -/
def AmQ (C : Addr) (H : Hp) (q : Addr) (x : Q2) : Prop := AmAt C H q x.1 x.2
theorem AmQ.same {C p : Addr} {H H' : Hp} {x : Q2} (h : AmQ C H p x) (s : Same H H') : AmQ C H' p x := AmAt.same h s
def sd (s : Nat) (z : Pt) : Q2 := if s = 0 then z.1 else z.2
/-- the points of a curve, as the program holds them -/
structure Crv (C : Addr) (H : Hp) (l : Addr) (zs : List Pt) : Prop where
  ex : ∃ rs : List Addr, H l = some (.lst (rs.map V.ref)) ∧ Paired (RowA C H) rs zs
theorem Crv.same {C l : Addr} {H H' : Hp} {zs : List Pt} (h : Crv C H l zs) (s : Same H H') : Crv C H' l zs :=
  let ⟨rs, e, p⟩ := h.ex
  ⟨rs, s _ _ e, Paired.imp p fun _ _ q => q.same s⟩
theorem Crv.at_ {C l : Addr} {H : Hp} {zs : List Pt} (h : Crv C H l zs) : ∃ xs, H l = some (.lst xs) ∧ xs.length = zs.length ∧ ∀ (i : Nat) z, zs[i]? = some z → ∃ r p q, atI xs (i : Int) = some (.ref r) ∧ H r = some (.tup [.ref p, .ref q]) ∧ AmQ C H p z.1 ∧ AmQ C H q z.2 := by
  obtain ⟨rs, e, p⟩ := h.ex
  refine ⟨_, e, by rw [List.length_map]; exact Paired.len p, fun i z hz => ?_⟩
  obtain ⟨r, hr, p', q, er, ap, aq⟩ := Paired.at_r p hz
  exact ⟨r, p', q, at_ref hr, er, ap, aq⟩
/-- part s of such a tuple -/
theorem sd_at {C : Addr} {H : Hp} {p q : Addr} {z : Pt} {s : Nat} (hs : s = 0 ∨ s = 1) (ap : AmQ C H p z.1) (aq : AmQ C H q z.2) : ∃ y, atI [V.ref p, V.ref q] (s : Int) = some (.ref y) ∧ AmQ C H y (sd s z) := by
  rcases hs with rfl | rfl
  · exact ⟨p, at0, ap⟩
  · exact ⟨q, at1, aq⟩
theorem sd_at' {C : Addr} {H : Hp} {p q : Addr} {z : Pt} {s : Nat} (hs : s = 0 ∨ s = 1) (ap : AmQ C H p z.1) (aq : AmQ C H q z.2) : ∃ y, atI [V.ref p, V.ref q] (1 - (s : Int)) = some (.ref y) ∧ AmQ C H y (sd (1 - s) z) := by
  rcases hs with rfl | rfl
  · exact ⟨q, at1, aq⟩
  · exact ⟨p, at0, ap⟩
structure PtN (n : Nat) (z : Pt) : Prop where
  x : Low n z.1
  y : Low n z.2
theorem PtN.sd {n s : Nat} {z : Pt} (h : PtN n z) : Low n (sd s z) := by
  unfold K15.sd
  split
  · exact h.x
  · exact h.y
/-- where the program finds the number x on side s -/
structure PieceAt (zs : List Pt) (s : Nat) (x : Q2) (i : Nat) : Prop where
  lt : i + 2 ≤ zs.length
  lo : i = 0 ∨ ∃ z, zs[i]? = some z ∧ val (sd s z) ≤ val x
  hi : i + 2 = zs.length ∨ ∃ z, zs[i + 1]? = some z ∧ val x < val (sd s z)
def sp_piece (C : Addr) : Sp := fun vs H Q _ => ∃ (l q : Addr) (s n : Nat) (zs : List Pt) (x : Q2), vs = [.ref l, .int s, .ref q] ∧ (s = 0 ∨ s = 1) ∧ Crv C H l zs ∧ (∀ z ∈ zs, PtN n z) ∧ n ≤ 3000 ∧ AmQ C H q x ∧ Low 3000 x ∧ 2 ≤ zs.length ∧ zs.length ≤ 200 ∧
  ∀ i : Nat, PieceAt zs s x i → Q (.int i) H
/-- the number on the other side -/
def onLine (s : Nat) (z z' : Pt) (x : Rat) : Rat := val (sd (1 - s) z) + (val (sd (1 - s) z') - val (sd (1 - s) z)) * ((x - val (sd s z)) / (val (sd s z') - val (sd s z)))
def sp_across (C : Addr) : Sp := fun vs H Q _ => ∃ (l q : Addr) (s n m : Nat) (zs : List Pt) (x : Q2), vs = [.ref l, .int s, .ref q] ∧ (s = 0 ∨ s = 1) ∧ Crv C H l zs ∧ (∀ z ∈ zs, PtN n z) ∧ AmQ C H q x ∧ Low m x ∧ m + 6 * n + 10 ≤ 3000 ∧ 2 ≤ zs.length ∧ zs.length ≤ 200 ∧
  (∀ (i : Nat) z z', zs[i]? = some z → zs[i + 1]? = some z' → val (sd s z) < val (sd s z')) ∧
  ∀ H' q' (i : Nat) z z' r, Same H H' → PieceAt zs s x i → zs[i]? = some z → zs[i + 1]? = some z' → AmQ C H' q' r → Low (m + 6 * n + 4) r → val r = onLine s z z' (val x) → Q (.ref q') H'
def ivals : L2.St → Nat → Int := fun σ i => match σ[i]? with
  | some (some (V.int y)) => y
  | _ => 0
section
variable {P : Program} {w : World} {K : PySem.W.Frag} {mg : Str → Option Value} {base : Heap} {a : Ad}
theorem ok_piece (T : Txt K mg a) : FnOk P w K mg base CX0 2 a.f_piece a.d_piece ["points", "side", "amount"] (sp_piece a.c_Amount) := by
  refine T.F_piece.ok sc_piece (fun vs H Q E h => ?_) (fun cdv A outer s H vs Q E hr h => ?_)
  · obtain ⟨l, q, s, n, zs, x, rfl, _⟩ := h
    rfl
  · obtain ⟨l, q, s, n, zs, x, rfl, hs, hc, hz, hn, hq, lx, l2, l200, k⟩ := h
    refine ⟨_, (pss_cons (ps_set (i := 3) sc_piece.nd rfl (by first | exact Or.inl rfl | exact Or.inr rfl) pe_int)
 (pss_cons (ps_set (i := 4) sc_piece.nd rfl (by first | exact Or.inl rfl | exact Or.inr rfl) (pe_op op_sub (pe_callB (call_lenK (K := K) rfl) (by rfl) T.b_len (by decide +kernel) (pa_cons (pv 0) pa_nil)) pe_int))
 (pss_cons (ps_while PassesOwn.never (pt_cmpR op_lt (pv 3) (pv 4) (nomark _)) (pss_cons (ps_set (i := 5) sc_piece.nd rfl (by first | exact Or.inl rfl | exact Or.inr rfl) (pe_op op_fdivW (pe_op op_add (pe_op op_add (pv 3) (pv 4)) pe_int) pe_int))
 (pss_one (ps_if (pt_cmpR (op_ownCmp (n := 1) (C := a.c_Amount) (K := K) rfl (fun _ _ => rfl) T.cLe.at_ T.cLe.fn ((ok_Amount_le_ T).raw (b_Amount_le_ T) .nil) (hr.mono (by decide)) pass0) (pe_ix (ix_tupK (K := K) rfl) (pe_ix (ix_listK (K := K) rfl) (pv 0) (pv 5) (fun _ _ => rfl)) (pv 1) (fun _ _ => rfl)) (pv 2) (nomark _)) (pss_one (ps_set (i := 3) sc_piece.nd rfl (by first | exact Or.inl rfl | exact Or.inr rfl) (pv 5))) (pss_one (ps_set (i := 4) sc_piece.nd rfl (by first | exact Or.inl rfl | exact Or.inr rfl) (pe_op op_sub (pv 5) pe_int)))))))
 (pss_one (ps_ret (pv 3)))))), ?_⟩
    obtain ⟨xs, el, lxs, atx⟩ := hc.at_
    refine ⟨_, rfl, _, _, rfl, .inl (SqL.of el), _, _, rfl, rfl, ?_⟩
    rw [lxs]
    refine while_by (fun σ H' => ∃ (i j : Nat) (u : Option V), σ = [some (.ref l), some (.int s), some (.ref q), some (.int i), some (.int j), u] ∧ H' = H ∧ i ≤ j ∧ j + 2 ≤ zs.length ∧ (i = 0 ∨ ∃ z, zs[i]? = some z ∧ val (sd s z) ≤ val x) ∧ (j + 2 = zs.length ∨ ∃ z, zs[j + 1]? = some z ∧ val x < val (sd s z)))
      (fun σ _ => (ivals σ 4 - ivals σ 3).toNat) ⟨0, zs.length - 2, none, by show [some (V.ref l), some (V.int (s : Int)), some (V.ref q), some (V.int 0), some (V.int ((zs.length : Int) - 2)), none] = _; rw [show ((zs.length : Nat) : Int) - 2 = ((zs.length - 2 : Nat) : Int) by omega]; rfl, rfl, by omega, by omega, .inl rfl, .inl (by omega)⟩ ?_
      (fun σ H Q Q' k ⟨v, e, v', e', i, j, e1, e2, b, e3, q⟩ => ⟨v, e, v', e', i, j, e1, e2, b, e3, k _ _ q⟩)
    rintro σ H' ⟨i, j, u, rfl, rfl, hij, hj, lo, hi⟩
    refine ⟨_, rfl, _, rfl, _, _, rfl, rfl, _, rfl, ite2 (fun h1 => ?_) (fun h1 => ?_)⟩
    · have h1 : (i : Int) < j := by simpa using h1
      have em : ((i : Int) + j + 1) / 2 = (((i + j + 1) / 2 : Nat) : Int) := by omega
      obtain ⟨z, hz'⟩ : ∃ z, zs[(i + j + 1) / 2]? = some z := ⟨_, List.getElem?_eq_getElem (by omega)⟩
      have lz := hz z (List.mem_of_getElem? hz')
      obtain ⟨r, p', q', ar, er, ap, aq⟩ := atx _ z hz'
      obtain ⟨y, ay, aY⟩ := sd_at hs ap aq
      obtain ⟨d1, e1⟩ := id aY
      obtain ⟨d2, e2⟩ := id hq
      have ly : Low 3000 (sd s z) := (lz.sd (s := s)).mono hn
      refine ⟨_, rfl, _, rfl, _, _, rfl, rfl, _, _, rfl, rfl, _, _, rfl, rfl, (show Bd 2 2 from by unfold Bd; decide).cd (by decide) (by decide), ?_⟩
      refine ⟨_, rfl, _, rfl, _, _, _, _, rfl, rfl, SqL.of el, em ▸ ar, _, rfl, _, _, _, _, rfl, rfl, SqT.of er, ay, _, rfl, y, d1, _, _, rfl, e1, T.I.ty T.cl e2, Inst.nSelf, y, q, _, _, _, _, rfl, aY, hq, ly.t.mono (by decide), ly.b.mono (by decide), lx.t.mono (by decide), lx.b.mono (by decide), _, rfl, ite2 (fun h2 => ?_) (fun h2 => ?_)⟩
      · have h2 := (val_le ly.pos lx.pos).mp (of_decide_eq_true h2)
        refine ⟨_, rfl, ⟨(i + j + 1) / 2, j, _, by show [some (V.ref l), some (V.int (s : Int)), some (V.ref q), some (V.int (((i : Int) + j + 1) / 2)), some (V.int (j : Int)), some (V.int (((i : Int) + j + 1) / 2))] = _; rw [em], rfl, by omega, hj, .inr ⟨z, hz', h2⟩, hi⟩, ?_⟩
        show ((j : Int) - (((i : Int) + j + 1) / 2)).toNat < ((j : Int) - (i : Int)).toNat
        omega
      · have h2 : ¬ val (sd s z) ≤ val x := fun q => h2 (decide_eq_true ((val_le ly.pos lx.pos).mpr q))
        have h2 := Rat.not_le.mp h2
        refine ⟨_, rfl, _, _, rfl, rfl, ⟨i, (i + j + 1) / 2 - 1, _, by show [some (V.ref l), some (V.int (s : Int)), some (V.ref q), some (V.int (i : Int)), some (V.int ((((i : Int) + j + 1) / 2) - 1)), some (V.int (((i : Int) + j + 1) / 2))] = _; rw [show ((((i : Int) + j + 1) / 2) - 1) = (((i + j + 1) / 2 - 1 : Nat) : Int) by omega], rfl, by omega, by omega, lo, .inr ⟨z, by rw [show (i + j + 1) / 2 - 1 + 1 = (i + j + 1) / 2 by omega]; exact hz', h2⟩⟩, ?_⟩
        show (((((i : Int) + j + 1) / 2) - 1) - (i : Int)).toNat < ((j : Int) - (i : Int)).toNat
        omega
    · have h1 : ¬ (i : Int) < j := by simpa using h1
      have e : i = j := by omega
      subst e
      exact ⟨_, rfl, k i ⟨hj, lo, hi⟩⟩
end
end K15

set_option Elab.async false
set_option linter.all false
set_option maxRecDepth 100000
set_option maxHeartbeats 4000000
set_option exponentiation.threshold 10000
namespace K15
open PySem L2 Lb
theorem sub_low {n m k : Nat} {x y : Q2} (hx : Low n x) (hy : Low m y) (h : n + m + 1 ≤ k) : Low k (rd (x.1 * y.2 - y.1 * x.2) (x.2 * y.2)) :=
  rd_low (mul_pos_ne hx.pos hy.pos) (((hx.t.mul hy.b).sub ((hy.t.mul hx.b).mono (by omega))).mono h) ((hx.b.mul hy.b).mono (by omega))
theorem add_low {n m k : Nat} {x y : Q2} (hx : Low n x) (hy : Low m y) (h : n + m + 1 ≤ k) : Low k (rd (x.1 * y.2 + y.1 * x.2) (x.2 * y.2)) :=
  rd_low (mul_pos_ne hx.pos hy.pos) (((hx.t.mul hy.b).add ((hy.t.mul hx.b).mono (by omega))).mono h) ((hx.b.mul hy.b).mono (by omega))
theorem mul_low {n m k : Nat} {x y : Q2} (hx : Low n x) (hy : Low m y) (h : n + m ≤ k) : Low k (rd (x.1 * y.1) (x.2 * y.2)) :=
  rd_low (mul_pos_ne hx.pos hy.pos) ((hx.t.mul hy.t).mono h) ((hx.b.mul hy.b).mono h)
theorem div_low {n m k : Nat} {x y : Q2} (hx : Low n x) (hy : Low m y) (h0 : y.1 ≠ 0) (h : n + m ≤ k) : Low k (rd (x.1 * y.2) (x.2 * y.1)) :=
  rd_low (Int.mul_ne_zero (by have := hx.pos; omega) h0) ((hx.t.mul hy.b).mono h) ((hx.b.mul hy.t).mono (by omega))
section
variable {P : Program} {w : World} {K : PySem.W.Frag} {mg : Str → Option Value} {base : Heap} {a : Ad}
theorem ok_across (T : Txt K mg a) : FnOk P w K mg base CX0 6 a.f_across a.d_across ["points", "side", "amount"] (sp_across a.c_Amount) := by
  refine T.F_across.ok sc_across (fun vs H Q E h => ?_) (fun cdv A outer s H vs Q E hr h => ?_)
  · obtain ⟨l, q, s, n, m, zs, x, rfl, _⟩ := h
    rfl
  · obtain ⟨l, q, s, n, m, zs, x, rfl, hs, hc, hz, hq, lx, hnm, l2, l200, up, k⟩ := h
    refine ⟨_, (pss_cons (ps_set (i := 3) sc_across.nd rfl (by first | exact Or.inl rfl | exact Or.inr rfl) (pe_call (ok_piece T) (hr.mono (by decide)) (by rfl) T.m_piece T.F_piece.kp (b_piece T) .nil pass0 (pa_cons (pv 0) (pa_cons (pv 1) (pa_cons (pv 2) pa_nil)))))
 (pss_cons (ps_set (i := 4) sc_across.nd rfl (by first | exact Or.inl rfl | exact Or.inr rfl) (pe_ix (ix_listK (K := K) rfl) (pv 0) (pv 3) (fun _ _ => rfl)))
 (pss_cons (ps_set (i := 5) sc_across.nd rfl (by first | exact Or.inl rfl | exact Or.inr rfl) (pe_ix (ix_listK (K := K) rfl) (pv 0) (pe_op op_add (pv 3) pe_int) (fun _ _ => rfl)))
 (pss_cons (ps_set (i := 6) sc_across.nd rfl (by first | exact Or.inl rfl | exact Or.inr rfl) (pe_meth (pe_op (op_ownBin (K := K) (E := E0) rfl T.oSub ((ok_Amount_sub_ T).raw (b_Amount_sub_ T) .nil) (hr.mono (by decide))) (pv 2) (pe_ix (ix_tupK (K := K) rfl) (pv 4) (pv 1) (fun _ _ => rfl))) T.cl T.mOver (ok_Amountover T) (hr.mono (by decide)) (b_Amountover T) .nil pass0 (pa_cons (pe_op (op_ownBin (K := K) (E := E0) rfl T.oSub ((ok_Amount_sub_ T).raw (b_Amount_sub_ T) .nil) (hr.mono (by decide))) (pe_ix (ix_tupK (K := K) rfl) (pv 5) (pv 1) (fun _ _ => rfl)) (pe_ix (ix_tupK (K := K) rfl) (pv 4) (pv 1) (fun _ _ => rfl))) pa_nil)))
 (pss_one (ps_ret (pe_op (op_ownBin (K := K) (E := E0) rfl T.oAdd ((ok_Amount_add_ T).raw (b_Amount_add_ T) .nil) (hr.mono (by decide))) (pe_ix (ix_tupK (K := K) rfl) (pv 4) (pe_op op_sub pe_int (pv 1)) (fun _ _ => rfl)) (pe_op (op_ownBin (K := K) (E := E0) rfl T.oMul ((ok_Amount_mul_ T).raw (b_Amount_mul_ T) .nil) (hr.mono (by decide))) (pe_op (op_ownBin (K := K) (E := E0) rfl T.oSub ((ok_Amount_sub_ T).raw (b_Amount_sub_ T) .nil) (hr.mono (by decide))) (pe_ix (ix_tupK (K := K) rfl) (pv 5) (pe_op op_sub pe_int (pv 1)) (fun _ _ => rfl)) (pe_ix (ix_tupK (K := K) rfl) (pv 4) (pe_op op_sub pe_int (pv 1)) (fun _ _ => rfl))) (pv 6))))))))), ?_⟩
    obtain ⟨xs, el, lxs, atx⟩ := hc.at_
    refine ⟨_, rfl, _, rfl, _, rfl, l, q, s, n, zs, x, rfl, hs, hc, hz, by omega, hq, lx.mono (by omega), l2, l200, fun i pc => ?_⟩
    obtain ⟨z, hzi⟩ : ∃ z, zs[i]? = some z := ⟨_, List.getElem?_eq_getElem (by have := pc.lt; omega)⟩
    obtain ⟨z', hzi'⟩ : ∃ z, zs[i + 1]? = some z := ⟨_, List.getElem?_eq_getElem (by have := pc.lt; omega)⟩
    have pz := hz z (List.mem_of_getElem? hzi)
    have pz' := hz z' (List.mem_of_getElem? hzi')
    obtain ⟨r, p1, p2, ar, er, ap, aq⟩ := atx i z hzi
    obtain ⟨r', p1', p2', ar', er', ap', aq'⟩ := atx (i + 1) z' hzi'
    refine ⟨_, rfl, _, rfl, _, _, _, _, rfl, rfl, SqL.of el, ar, ?_⟩
    refine ⟨_, rfl, _, rfl, _, _, rfl, rfl, _, _, _, _, rfl, rfl, SqL.of el, ar', ?_⟩
    obtain ⟨y, ay, aY⟩ := sd_at hs ap aq
    obtain ⟨y', ay', aY'⟩ := sd_at hs ap' aq'
    obtain ⟨u, au, aU⟩ := sd_at' hs ap aq
    obtain ⟨u', au', aU'⟩ := sd_at' hs ap' aq'
    have ly : Low n (sd s z) := pz.sd
    have ly' : Low n (sd s z') := pz'.sd
    have lu : Low n (sd (1 - s) z) := pz.sd
    have lu' : Low n (sd (1 - s) z') := pz'.sd
    have lt := up i z z' hzi hzi'
    have b3 : ∀ {j : Nat} {v : Q2}, Low j v → j ≤ 3000 → Bd 3000 v.1 ∧ Bd 3000 v.2 := fun h k => ⟨h.t.mono k, h.b.mono k⟩
    -- amount - low[side]
    refine ⟨_, rfl, _, rfl, _, rfl, _, _, _, _, rfl, rfl, SqT.of er, ay, ?_⟩
    refine leftB hq (.inr ⟨y, rfl, aY⟩) (b3 lx (by omega)).1 (b3 lx (by omega)).2 (b3 ly (by omega)).1 (b3 ly (by omega)).2 (mul_pos_ne lx.pos ly.pos) fun H1 q1 s1 a1 => ?_
    have l1 : Low (m + n + 1) (rd (x.1 * (sd s z).2 - (sd s z).1 * x.2) (x.2 * (sd s z).2)) := sub_low lx ly (Nat.le_refl _)
    have v1 := val_sub lx.pos ly.pos
    have a1 : AmQ a.c_Amount H1 q1 (rd (x.1 * (sd s z).2 - (sd s z).1 * x.2) (x.2 * (sd s z).2)) := a1
    generalize rd (x.1 * (sd s z).2 - (sd s z).1 * x.2) (x.2 * (sd s z).2) = w1 at *
    obtain ⟨d1, e1⟩ := id a1
    refine ⟨q1, d1, _, rfl, e1, am_no _ _ (by decide +kernel) (by decide +kernel), ?_⟩
    -- high[side] - low[side]
    refine ⟨_, rfl, _, rfl, _, _, _, _, rfl, rfl, SqT.of (s1 _ _ er'), ay', _, rfl, _, rfl, _, _, _, _, rfl, rfl, SqT.of (s1 _ _ er), ay, ?_⟩
    refine leftB (aY'.same s1) (.inr ⟨y, rfl, aY.same s1⟩) (b3 ly' (by omega)).1 (b3 ly' (by omega)).2 (b3 ly (by omega)).1 (b3 ly (by omega)).2 (mul_pos_ne ly'.pos ly.pos) fun H2 q2 s2 a2 => ?_
    have l2' : Low (2 * n + 1) (rd ((sd s z').1 * (sd s z).2 - (sd s z).1 * (sd s z').2) ((sd s z').2 * (sd s z).2)) := sub_low ly' ly (by omega)
    have v2 := val_sub ly'.pos ly.pos
    have a2 : AmQ a.c_Amount H2 q2 (rd ((sd s z').1 * (sd s z).2 - (sd s z).1 * (sd s z').2) ((sd s z').2 * (sd s z).2)) := a2
    generalize rd ((sd s z').1 * (sd s z).2 - (sd s z).1 * (sd s z').2) ((sd s z').2 * (sd s z).2) = w2 at *
    have n2 : w2.1 ≠ 0 := fun q => by
      have := (val_eq0 l2'.pos).mp q
      grind
    have S2 := s1.trans s2
    refine ⟨q1, _, w1.1, w1.2, w2.1, w2.2, rfl, a1.same s2, .inr ⟨q2, rfl, a2⟩, (b3 l1 (by omega)).1, (b3 l1 (by omega)).2, (b3 l2' (by omega)).1, (b3 l2' (by omega)).2, Int.mul_ne_zero (by have := l1.pos; omega) n2, fun H3 q3 s3 a3 => ?_⟩
    have l3 : Low (m + 3 * n + 2) (rd (w1.1 * w2.2) (w1.2 * w2.1)) := div_low l1 l2' n2 (by omega)
    have v3 := val_div l1.pos l2'.pos n2
    have a3 : AmQ a.c_Amount H3 q3 (rd (w1.1 * w2.2) (w1.2 * w2.1)) := a3
    generalize rd (w1.1 * w2.2) (w1.2 * w2.1) = w3 at *
    have S3 := S2.trans s3
    -- low[1 - side] + ..
    refine ⟨_, rfl, _, rfl, _, _, rfl, rfl, _, _, _, _, rfl, rfl, SqT.of (S3 _ _ er), au, ?_⟩
    refine ⟨_, rfl, _, rfl, _, _, rfl, rfl, _, _, _, _, rfl, rfl, SqT.of (S3 _ _ er'), au', _, rfl, _, rfl, _, _, rfl, rfl, _, _, _, _, rfl, rfl, SqT.of (S3 _ _ er), au, ?_⟩
    refine leftB (aU'.same S3) (.inr ⟨u, rfl, aU.same S3⟩) (b3 lu' (by omega)).1 (b3 lu' (by omega)).2 (b3 lu (by omega)).1 (b3 lu (by omega)).2 (mul_pos_ne lu'.pos lu.pos) fun H4 q4 s4 a4 => ?_
    have l4 : Low (2 * n + 1) (rd ((sd (1 - s) z').1 * (sd (1 - s) z).2 - (sd (1 - s) z).1 * (sd (1 - s) z').2) ((sd (1 - s) z').2 * (sd (1 - s) z).2)) := sub_low lu' lu (by omega)
    have v4 := val_sub lu'.pos lu.pos
    have a4 : AmQ a.c_Amount H4 q4 (rd ((sd (1 - s) z').1 * (sd (1 - s) z).2 - (sd (1 - s) z).1 * (sd (1 - s) z').2) ((sd (1 - s) z').2 * (sd (1 - s) z).2)) := a4
    generalize rd ((sd (1 - s) z').1 * (sd (1 - s) z).2 - (sd (1 - s) z).1 * (sd (1 - s) z').2) ((sd (1 - s) z').2 * (sd (1 - s) z).2) = w4 at *
    refine ⟨_, rfl, leftB a4 (.inr ⟨q3, rfl, a3.same s4⟩) (b3 l4 (by omega)).1 (b3 l4 (by omega)).2 (b3 l3 (by omega)).1 (b3 l3 (by omega)).2 (mul_pos_ne l4.pos l3.pos) fun H5 q5 s5 a5 => ?_⟩
    have l5 : Low (m + 5 * n + 3) (rd (w4.1 * w3.1) (w4.2 * w3.2)) := mul_low l4 l3 (by omega)
    have v5 := val_mul l4.pos l3.pos
    have a5 : AmQ a.c_Amount H5 q5 (rd (w4.1 * w3.1) (w4.2 * w3.2)) := a5
    generalize rd (w4.1 * w3.1) (w4.2 * w3.2) = w5 at *
    have S5 := (S3.trans s4).trans s5
    refine leftB (aU.same S5) (.inr ⟨q5, rfl, a5⟩) (b3 lu (by omega)).1 (b3 lu (by omega)).2 (b3 l5 (by omega)).1 (b3 l5 (by omega)).2 (mul_pos_ne lu.pos l5.pos) fun H6 q6 s6 a6 => ?_
    have l6 : Low (m + 6 * n + 4) (rd ((sd (1 - s) z).1 * w5.2 + w5.1 * (sd (1 - s) z).2) ((sd (1 - s) z).2 * w5.2)) := add_low lu l5 (by omega)
    have v6 := val_add lu.pos l5.pos
    refine k _ q6 i z z' (rd ((sd (1 - s) z).1 * w5.2 + w5.1 * (sd (1 - s) z).2) ((sd (1 - s) z).2 * w5.2)) (S5.trans s6) pc hzi hzi' a6 l6 ?_
    show val (rd _ _) = _
    unfold onLine
    rw [← v4, ← v1, ← v2, ← v3, ← v5]
    exact v6
end
end K15

set_option Elab.async false
set_option linter.all false
set_option maxRecDepth 100000
set_option maxHeartbeats 4000000
set_option exponentiation.threshold 10000
namespace K15
open PySem L2 Lb
def isNeg (z : Pt) : Bool := decide (z.1.1 < 0)
def isPos (z : Pt) : Bool := decide (0 < z.1.1)
def org : Pt := ((0, 1), (0, 1))
/-- the points with (0, 0) among them -/
def withO (zs : List Pt) : List Pt := zs.filter isNeg ++ (org :: zs.filter isPos)
def sp_with_origin (C : Addr) : Sp := fun vs H Q _ => ∃ (l : Addr) (zs : List Pt), vs = [.ref l] ∧ Crv C H l zs ∧ zs.length ≤ 100 ∧ ∀ H' l', Same H H' → H l' = none → Crv C H' l' (withO zs) → Q (.ref l') H'
theorem filter_snoc {α : Type} (f : α → Bool) (l : List α) (x : α) : (l ++ [x]).filter f = if f x = true then l.filter f ++ [x] else l.filter f := by
  rw [List.filter_append]
  by_cases h : f x = true
  · simp [h]
  · simp [h]
theorem sg_neg {t : Int} : decide (sg t < 0) = decide (t < 0) := by
  refine decide_eq_decide.mpr ?_
  unfold sg
  split
  · omega
  · split <;> omega
theorem sg_pos {t : Int} : decide (sg t > 0) = decide (0 < t) := by
  refine decide_eq_decide.mpr ?_
  unfold sg
  split
  · omega
  · split <;> omega
theorem paired_append {α β : Type} {R : α → β → Prop} : ∀ {as cs : List α} {bs ds : List β}, Paired R as bs → Paired R cs ds → Paired R (as ++ cs) (bs ++ ds)
  | [], _, [], _, .nil, h => h
  | _ :: _, _, _ :: _, _, .cons h1 h2, h => .cons h1 (paired_append h2 h)
theorem _root_.L2.Same.free' {H H' : Hp} {b : Addr} (s : Same H H') (h : H' b = none) : H b = none := by
  cases z : H b with
  | none => rfl
  | some o =>
    rw [s b o z] at h
    cases h
section
variable {P : Program} {w : World} {K : PySem.W.Frag} {mg : Str → Option Value} {base : Heap} {a : Ad}
theorem ok_with_origin (T : Txt K mg a) : FnOk P w K mg base CX0 4 a.f_with_origin a.d_with_origin ["rows"] (sp_with_origin a.c_Amount) := by
  refine T.F_with_origin.ok sc_with_origin (fun vs H Q E h => ?_) (fun cdv A outer s H vs Q E hr h => ?_)
  · obtain ⟨l, zs, rfl, _⟩ := h
    rfl
  · obtain ⟨l, zs, rfl, hc, hn, k⟩ := h
    refine ⟨_, (pss_cons (ps_setLc (i := 1) (own := [("row", 2)]) rfl sc_with_origin.nd rfl rfl (sw_true rfl rfl rfl (by decide +kernel)) (pi_listK (K := K) rfl (pv 0)) (blkOk_by (own := [("row", 2)]) (N := ["rows", "below", "row", "above"]) (sc := defScope s_with_origin) (by decide +kernel)) (fun _ _ _ _ _ => (pg_name (i := 2) sc_with_origin.nd rfl (by first | exact Or.inl rfl | exact Or.inr rfl))) (fun _ _ _ _ _ => pts_one (pt_cmpR op_lt (pe_prop (pe_ix (ix_tupK (K := K) rfl) (pv 2) (pe_glob (v := .int 0) rfl T.gFlow.choose_spec ⟨_, rfl⟩) (fun _ _ => rfl)) T.cl T.p_sign (ok_Amountsign T) (hr.mono (by decide)) (b_Amountsign T) .nil pass0 rfl) pe_int (nomark _))) (fun _ _ _ _ _ => (pv 2)))
 (pss_cons (ps_setLc (i := 3) (own := [("row", 2)]) rfl sc_with_origin.nd rfl rfl (sw_true rfl rfl rfl (by decide +kernel)) (pi_listK (K := K) rfl (pv 0)) (blkOk_by (own := [("row", 2)]) (N := ["rows", "below", "row", "above"]) (sc := defScope s_with_origin) (by decide +kernel)) (fun _ _ _ _ _ => (pg_name (i := 2) sc_with_origin.nd rfl (by first | exact Or.inl rfl | exact Or.inr rfl))) (fun _ _ _ _ _ => pts_one (pt_cmpR op_gt (pe_prop (pe_ix (ix_tupK (K := K) rfl) (pv 2) (pe_glob (v := .int 0) rfl T.gFlow.choose_spec ⟨_, rfl⟩) (fun _ _ => rfl)) T.cl T.p_sign (ok_Amountsign T) (hr.mono (by decide)) (b_Amountsign T) .nil pass0 rfl) pe_int (nomark _))) (fun _ _ _ _ _ => (pv 2)))
 (pss_one (ps_ret (pe_lst (StX.pa_star (pv 1) (pa_cons (pe_tup (pa_cons (pe_make T.mkA (ok_Amount_init_ T) (hr.mono (by decide)) (by rfl) T.mA (b1_Amount_init_ T).choose_spec.2 (b1_Amount_init_ T).choose_spec.1 pass0 (pa_cons pe_int pa_nil)) (pa_cons (pe_make T.mkA (ok_Amount_init_ T) (hr.mono (by decide)) (by rfl) T.mA (b1_Amount_init_ T).choose_spec.2 (b1_Amount_init_ T).choose_spec.1 pass0 (pa_cons pe_int pa_nil)) pa_nil))) (StX.pa_star (pv 3) pa_nil)))))))), ?_⟩
    obtain ⟨rs, el, pr⟩ := hc.ex
    have lrs : rs.length = zs.length := Paired.len pr
    refine ⟨_, rfl, l, rfl, ⟨_, SqL.of el⟩, fun D hD => ?_⟩
    refine lc_list (K := K) (a := l) (xs := rs.map V.ref) (fun i H' => Same H H' ∧ ∃ bs : List Addr, H' D = some (.lst (bs.map V.ref)) ∧ Paired (RowA a.c_Amount H) bs ((zs.take i).filter isNeg)) ⟨Lb.Same.upd hD, [], upd_same, .nil⟩ (fun i H' _ b => SqL.of (b.1 _ _ el)) ?_ ?_
    · rintro i v H' hi ⟨s', bs, eD, pb⟩
      obtain ⟨r, rfl, hr'⟩ := ref_at hi
      obtain ⟨z, hz, pz⟩ := Paired.at_ pr hr'
      obtain ⟨p, q, er, ap, aq⟩ := id (pz.same s')
      obtain ⟨dp, ep⟩ := id ap
      refine ⟨rfl, ?_⟩
      refine ⟨_, rfl, _, _, _, _, rfl, rfl, SqT.of er, at0, p, dp, _, rfl, ep, p, _, _, rfl, ap, _, _, rfl, rfl, _, rfl, ?_⟩
      rw [← take_snoc hz, filter_snoc]
      refine ite2 (fun h => ?_) (fun h => ?_)
      · have h : isNeg z = true := by
          show decide (z.1.1 < 0) = true
          rw [← sg_neg]
          exact h
        rw [if_pos h]
        refine ⟨_, rfl, bs.map V.ref, eD, ?_, Lb.Same.updl s' hD, bs ++ [r], by rw [upd_same, List.map_append]; rfl, paired_snoc pb pz⟩
        have h1 := Paired.len pb
        have h2 := List.length_filter_le isNeg (zs.take i)
        rw [List.length_take] at h2
        rw [List.length_map]
        exact szlt (by omega)
      · have h : ¬ isNeg z = true := by
          show ¬ decide (z.1.1 < 0) = true
          rw [← sg_neg]
          exact h
        rw [if_neg h]
        exact ⟨s', bs, eD, pb⟩
    rintro H1 ⟨s1, bs, eD, pb⟩
    rw [show (rs.map V.ref).length = zs.length by rw [List.length_map, lrs], List.take_length] at pb
    have el := s1 _ _ el
    have pr := Paired.imp pr fun _ _ h => RowA.same h s1
    refine ⟨_, rfl, l, rfl, ⟨_, SqL.of el⟩, fun D2 hD2 => ?_⟩
    refine lc_list (K := K) (a := l) (xs := rs.map V.ref) (fun i H' => Same H1 H' ∧ ∃ cs : List Addr, H' D2 = some (.lst (cs.map V.ref)) ∧ Paired (RowA a.c_Amount H1) cs ((zs.take i).filter isPos)) ⟨Lb.Same.upd hD2, [], upd_same, .nil⟩ (fun i H' _ b => SqL.of (b.1 _ _ el)) ?_ ?_
    · rintro i v H' hi ⟨s', cs, eC, pc⟩
      obtain ⟨r, rfl, hr'⟩ := ref_at hi
      obtain ⟨z, hz, pz⟩ := Paired.at_ pr hr'
      obtain ⟨p, q, er, ap, aq⟩ := id (pz.same s')
      obtain ⟨dp, ep⟩ := id ap
      refine ⟨rfl, ?_⟩
      refine ⟨_, rfl, _, _, _, _, rfl, rfl, SqT.of er, at0, p, dp, _, rfl, ep, p, _, _, rfl, ap, _, _, rfl, rfl, _, rfl, ?_⟩
      rw [← take_snoc hz, filter_snoc]
      refine ite2 (fun h => ?_) (fun h => ?_)
      · have h : isPos z = true := by
          show decide (0 < z.1.1) = true
          rw [← sg_pos]
          exact h
        rw [if_pos h]
        refine ⟨_, rfl, cs.map V.ref, eC, ?_, Lb.Same.updl s' hD2, cs ++ [r], by rw [upd_same, List.map_append]; rfl, paired_snoc pc pz⟩
        have h1 := Paired.len pc
        have h2 := List.length_filter_le isPos (zs.take i)
        rw [List.length_take] at h2
        rw [List.length_map]
        exact szlt (by omega)
      · have h : ¬ isPos z = true := by
          show ¬ decide (0 < z.1.1) = true
          rw [← sg_pos]
          exact h
        rw [if_neg h]
        exact ⟨s', cs, eC, pc⟩
    rintro H2 ⟨s2, cs, eC, pc⟩
    rw [show (rs.map V.ref).length = zs.length by rw [List.length_map, lrs], List.take_length] at pc
    have eD := s2 _ _ eD
    refine ⟨_, rfl, D, _, rfl, .inr (SqL.of eD), ?_⟩
    refine fun x dx hx hdx ne => ⟨x, dx, 0, 1, rfl, by decide, by show 0 < _; exact Nat.pow_pos (by decide), bd_one, upd_same, fun H3 kp e => ⟨rfl, ?_⟩⟩
    obtain ⟨s3, a3⟩ := made_am hx hdx ne kp e
    refine fun x' dx' hx' hdx' ne' => ⟨x', dx', 0, 1, rfl, by decide, by show 0 < _; exact Nat.pow_pos (by decide), bd_one, upd_same, fun H4 kp' e' => ⟨rfl, ?_⟩⟩
    obtain ⟨s4, a4⟩ := made_am hx' hdx' ne' kp' e'
    rw [rdT_one, rdB_one] at a3 a4
    refine ⟨sz, fun t ht => ?_⟩
    have st := Lb.Same.upd (o := .tup [V.ref x, V.ref x']) ht
    have S2 := (s3.trans s4).trans st
    refine ⟨_, rfl, D2, _, rfl, .inr (SqL.of (S2 _ _ eC)), ?_, fun l' hl' => ?_⟩
    · have h1 := Paired.len pb
      have h2 := Paired.len pc
      have h3 := List.length_filter_le isNeg zs
      have h4 := List.length_filter_le isPos zs
      simp only [List.length_append, List.length_map, List.length_cons, List.length_nil]
      exact szle (by omega)
    · have sl := Lb.Same.upd (o := .lst (bs.map V.ref ++ V.ref t :: (cs.map V.ref ++ []))) hl'
      refine k _ l' (((s1.trans s2).trans S2).trans sl) (((s1.trans s2).trans S2).free' hl') ⟨bs ++ t :: cs, ?_, ?_⟩
      · rw [upd_same]
        simp
      · have S := S2.trans sl
        refine paired_append (Paired.imp pb fun _ _ h => RowA.same h ((s1.trans s2).trans S)) (.cons ⟨x, x', ?_, ?_, ?_⟩ (Paired.imp pc fun _ _ h => RowA.same h (s2.trans S)))
        · exact sl _ _ upd_same
        · exact ((a3.same s4).same st).same sl
        · exact (a4.same st).same sl
end
end K15

set_option Elab.async false
set_option linter.all false
set_option maxRecDepth 100000
set_option maxHeartbeats 4000000
set_option exponentiation.threshold 10000
namespace K15
open PySem L2 Lb
/-- points that may be passed -/
structure Pts (n : Nat) (zs : List Pt) : Prop where
  l : ∀ z ∈ zs, PtL n z
  n : n ≤ 3000
  up : ∀ (i : Nat) z z', zs[i]? = some z → zs[i + 1]? = some z' → ltQ z.1 z'.1 ∧ ltQ z.2 z'.2
  some_ : ∃ z ∈ zs, z.1.1 ≠ 0
  most : zs.length ≤ 80
def sp_checkedL (K : PySem.W.Frag) (C : Addr) : Sp := fun vs H Q _ => ∃ (l : Addr) (ws : List V) (zs : List Pt) (n : Nat), vs = [.ref l] ∧ H l = some (.lst ws) ∧ Paired (PtP C H) ws zs ∧ Pts n zs ∧
  ∀ H' l', Same H H' → Crv C H' l' zs → Q (.ref l') H'
theorem kit_lt {K : PySem.W.Frag} {T : String} (h : T = "list" ∨ T = "tuple") : PySem.W.kitAny K (.type T) [.type "list", .type "tuple"] = some true := by
  rcases h with rfl | rfl
  · unfold PySem.W.kitAny
    rw [show PySem.W.kitOne K (.type "list") (.type "list") = some true from kit_ty (by decide +kernel)]
  · unfold PySem.W.kitAny
    rw [show PySem.W.kitOne K (.type "tuple") (.type "list") = some false from kit_ty (by decide +kernel)]
    show PySem.W.kitAny K (.type "tuple") [.type "tuple"] = some true
    unfold PySem.W.kitAny
    rw [show PySem.W.kitOne K (.type "tuple") (.type "tuple") = some true from kit_ty (by decide +kernel)]
theorem atI_last {α : Type} {xs : List α} {j : Nat} (h : xs.length = j + 1) : atI xs (-1) = xs[j]? := by
  unfold atI ixN
  rw [if_neg (by decide), if_pos (by omega)]
  show xs[(_ : Int).toNat]? = _
  congr 1
  omega
theorem all_org {zs : List Pt} (h : ∃ z ∈ zs, z.1.1 ≠ 0) : ((zs.map fun z => decide (z.1.1 = 0)).all id) = false := by
  obtain ⟨z, hz, h0⟩ := h
  rw [List.all_eq_false]
  exact ⟨_, List.mem_map.mpr ⟨z, hz, rfl⟩, by simp [h0]⟩
section
variable {P : Program} {w : World} {K : PySem.W.Frag} {mg : Str → Option Value} {base : Heap} {a : Ad}
theorem ok_checkedL (T : Txt K mg a) : FnOk P w K mg base CX0 7 a.f_checked a.d_checked ["points"] (sp_checkedL K a.c_Amount) := by
  refine T.F_checked.ok sc_checked (fun vs H Q E h => ?_) (fun cdv A outer s H vs Q E hr h => ?_)
  · obtain ⟨l, ws, zs, n, rfl, _⟩ := h
    rfl
  · obtain ⟨l, ws, zs, n, rfl, el, pw, ps, k⟩ := h
    refine ⟨_, (pss_cons (ps_if (PW.pt (pw_or (pt_not (pt_val (pe_callB (call_isiT (X := _)) (by rfl) T.b_isinstance (by decide +kernel) (pa_cons (pv 0) (pa_cons (pe_tup (pa_cons (pe_bltn (v := .ty "list") (by rfl) T.b_list (by decide +kernel) rfl) (pa_cons (pe_bltn (v := .ty "tuple") (by rfl) T.b_tuple (by decide +kernel) rfl) pa_nil))) pa_nil))))) (pw_or1 (pt_val (pe_callB (cr_allK (K := K) rfl rfl) (by rfl) T.b_all (by decide +kernel) (pa_cons (pe_lc (own := [("point", 1)]) (by rfl) sc_checked.nd (pi_listK (K := K) rfl (pv 0)) (blkOk_by (own := [("point", 1)]) (N := ["points", "point", "rows", "position", "row"]) (sc := defScope s_checked) (by decide +kernel)) (fun _ _ _ _ _ => (pg_name (i := 1) sc_checked.nd rfl (by first | exact Or.inl rfl | exact Or.inr rfl))) (fun _ _ _ _ _ => pts_nil) (fun _ _ _ _ _ => (pe_call (ok_is_origin T) (hr.mono (by decide)) (by rfl) T.m_is_origin T.F_is_origin.kp (b_is_origin T) .nil pass0 (pa_cons (pv 1) pa_nil)))) pa_nil)))))) (pss_one ps_never) pss_nil)
 (pss_cons (ps_set (i := 2) sc_checked.nd rfl (by first | exact Or.inl rfl | exact Or.inr rfl) (pe_lst pa_nil))
 (pss_cons (ps_for PassesOwn.never rfl (pi_enum (by rfl) T.b_enumerate (pa_cons (pv 0) pa_nil)) (pg_tupK (K := K) (n := 2) rfl rfl (pgs_cons (pg_name (i := 3) sc_checked.nd rfl (by first | exact Or.inl rfl | exact Or.inr rfl)) (pgs_cons (pg_name (i := 1) sc_checked.nd rfl (by first | exact Or.inl rfl | exact Or.inr rfl)) pgs_nil))) (pss_cons (ps_if (pt_not (pt_val (pe_call (ok_is_point T) (hr.mono (by decide)) (by rfl) T.m_is_point T.F_is_point.kp (b_is_point T) .nil pass0 (pa_cons (pv 1) pa_nil)))) (pss_one ps_never) pss_nil)
 (pss_cons (ps_set (i := 4) sc_checked.nd rfl (by first | exact Or.inl rfl | exact Or.inr rfl) (pe_tup (pa_cons (pe_call (ok_amount_of T) (hr.mono (by decide)) (by rfl) T.m_amount_of T.F_amount_of.kp (b_amount_of T) .nil pass0 (pa_cons (pe_ix (ix_tupK (K := K) rfl) (pv 1) (pe_glob (v := .int 0) rfl T.gFlow.choose_spec ⟨_, rfl⟩) (fun _ _ => rfl)) pa_nil)) (pa_cons (pe_call (ok_amount_of T) (hr.mono (by decide)) (by rfl) T.m_amount_of T.F_amount_of.kp (b_amount_of T) .nil pass0 (pa_cons (pe_ix (ix_tupK (K := K) rfl) (pv 1) (pe_glob (v := .int 1) rfl T.gDrop.choose_spec ⟨_, rfl⟩) (fun _ _ => rfl)) pa_nil)) pa_nil))))
 (pss_cons (ps_if (PW.pt (pw_and (pt_cmpR op_gt (pv 3) pe_int (nomark _)) (pw_and1 (pt_not (pt_val (pe_call (ok_rises_p T) (hr.mono (by decide)) (by rfl) T.m_rises_p T.F_rises_p.kp (b_rises_p T) .nil pass0 (pa_cons (pe_ix (ix_listK (K := K) rfl) (pv 2) (pe_un un_neg pe_int) (fun _ _ => rfl)) (pa_cons (pv 4) pa_nil)))))))) (pss_one ps_never) pss_nil)
 (pss_one (ps_expr (pe_bm PySem.F.plainAttrs_list PySem.F.slot_list_append PySem.F.type_list_append mt_append (pv 2) (pa_cons (pv 4) pa_nil))))))))
 (pss_cons (ps_if (pt_cmpR op_gt (pe_callB (call_lenK (K := K) rfl) (by rfl) T.b_len (by decide +kernel) (pa_cons (pv 2) pa_nil)) (pe_glob (v := .int 80) rfl T.gMost.choose_spec ⟨_, rfl⟩) (nomark _)) (pss_one ps_never) pss_nil)
 (pss_one (ps_ret (pv 2))))))), ?_⟩
    have lw : ws.length = zs.length := Paired.len pw
    have l80 := ps.most
    refine ⟨_, rfl, sz, fun tp htp => ?_⟩
    generalize e_H1 : upd _ tp _ = H1
    obtain ⟨s1, ft⟩ := al3 e_H1 htp
    clear e_H1
    (try dsimp only at ft)
    have el := s1 _ _ el
    have pw := Paired.imp pw fun _ _ h => PtP.same h s1
    refine ⟨_, tp, _, _, _, true, rfl, ft, .cons (.ty _) (.cons (.ty _) .nil), .base (.lst el), kit_lt (.inl rfl), true, rfl, iteF ?_⟩
    refine ⟨_, rfl, l, rfl, ⟨_, SqL.of el⟩, fun D hD => ?_⟩
    refine lc_list (K := K) (a := l) (xs := ws) (fun i H' => Same H1 H' ∧ H' D = some (.lst (((zs.take i).map fun z => decide (z.1.1 = 0)).map V.bl))) ⟨Lb.Same.upd hD, upd_same⟩ (fun i H' _ b => SqL.of (b.1 _ _ el)) ?_ ?_
    · rintro i v H' hi ⟨s', eD⟩
      obtain ⟨z, hz, pz⟩ := Paired.at_ pw hi
      have lz := ps.l z (List.mem_of_getElem? hz)
      refine ⟨rfl, ?_⟩
      refine ⟨_, rfl, v, z, n, rfl, pz.same s', lz, by have := ps.n; omega, fun H'' s'' => ⟨_, s'' _ _ eD, ?_, Lb.Same.updl (s'.trans s'') hD, ?_⟩⟩
      · rw [List.length_map, List.length_map, List.length_take]
        exact szlt (by omega)
      · rw [upd_same, ← take_snoc hz, List.map_append, List.map_append]
        rfl
    rintro H2 ⟨s2, eD⟩
    rw [lw, List.take_length] at eD
    refine ⟨D, _, rfl, SqL.of eD, ?_⟩
    rw [all_org ps.some_]
    refine ⟨_, rfl, iteN (by simp) ?_⟩
    have el := s2 _ _ el
    have pw := Paired.imp pw fun _ _ h => PtP.same h s2
    have S2 := s1.trans s2
    refine ⟨sz, fun rl hrl => ?_⟩
    have sr := Lb.Same.upd (o := .lst []) hrl
    refine ⟨_, rfl, l, _, rfl, SqL.of (sr _ _ el), ?_⟩
    refine for_enum (K := K) (a := l) (xs := ws) (fun i σ H' => ∃ u1 u3 u4, σ = [some (.ref l), u1, some (.ref rl), u3, u4] ∧ Same H2 H' ∧ ∃ rs : List Addr, H' rl = some (.lst (rs.map V.ref)) ∧ Paired (RowA a.c_Amount H') rs (zs.take i))
      ⟨_, _, _, rfl, sr, [], upd_same, .nil⟩ (fun i σ H' ⟨_, _, _, _, s, _⟩ => SqL.of (s _ _ el)) ?_ ?_
    · rintro i v T0 σ H' hi ⟨u1, u3, u4, rfl, sH, rs, er, prs⟩ hT0
      obtain ⟨z, hz, pz⟩ := Paired.at_ pw hi
      have lz := ps.l z (List.mem_of_getElem? hz)
      have lrs : rs.length = i := by
        have h1 := Paired.len prs
        have h2 := (List.getElem?_eq_some_iff.mp hz).1
        rw [List.length_take] at h1
        omega
      generalize e_H5 : upd _ T0 _ = H5
      obtain ⟨s5, f5⟩ := al3 e_H5 hT0
      clear e_H5
      (try dsimp only at f5)
      have S5 := sH.trans s5
      refine ⟨T0, _, rfl, SqT.of f5, rfl, _, _, rfl, _, _, rfl, rfl, ?_⟩
      refine ⟨_, rfl, v, z, n, rfl, pz.same S5, lz, by have := ps.n; omega, fun H6 s6 => ⟨true, rfl, iteF ?_⟩⟩
      have S6 := S5.trans s6
      obtain ⟨t, u, w', rfl, et, iu, iw⟩ := pz.same S6
      have hn := ps.n
      refine ⟨_, rfl, _, _, _, _, rfl, rfl, SqT.of et, at0, u, _, _, rfl, iu, lz.x.t.mono (by omega), fun H7 q s7 aq => ?_⟩
      refine ⟨_, rfl, _, _, _, _, rfl, rfl, SqT.of (s7 _ _ et), at1, w', _, _, rfl, iw.same s7, lz.y.t.mono (by omega), fun H8 q' s8 aq' => ⟨sz, fun r hr' => ?_⟩⟩
      generalize e_H9 : upd _ r _ = H9
      obtain ⟨s9, fr⟩ := al3 e_H9 hr'
      clear e_H9
      (try dsimp only at fr)
      have S69 := (s7.trans s8).trans s9
      have S9 := S6.trans S69
      have S59 := s6.trans S69
      have row : RowA a.c_Amount H9 r z := ⟨q, q', fr, (aq.same s8).same s9, aq'.same s9⟩
      have er := (s5.trans S59) _ _ er
      have prs := Paired.imp prs fun _ _ h => RowA.same h (s5.trans S59)
      have fin : ∀ σ', σ' = [some (V.ref l), some (V.ref t), some (V.ref rl), some (V.int i), some (V.ref r)] → ∃ u1 u3 u4, σ' = [some (.ref l), u1, some (.ref rl), u3, u4] ∧ Same H2 (upd H9 rl (.lst (rs.map V.ref ++ [V.ref r]))) ∧ ∃ rs' : List Addr, (upd H9 rl (.lst (rs.map V.ref ++ [V.ref r]))) rl = some (.lst (rs'.map V.ref)) ∧ Paired (RowA a.c_Amount (upd H9 rl (.lst (rs.map V.ref ++ [V.ref r])))) rs' (zs.take (i + 1)) := by
        intro σ' e
        have nl : ∀ {b : Addr} {z : Pt}, RowA a.c_Amount H9 b z → RowA a.c_Amount (upd H9 rl (.lst (rs.map V.ref ++ [V.ref r]))) b z := by
          rintro b z ⟨p1, p2, e1, ⟨d1, a1⟩, d2, a2⟩
          have ne : ∀ {c : Addr} {o : HO}, H9 c = some o → (∀ x, o ≠ .lst x) → upd H9 rl (.lst (rs.map V.ref ++ [V.ref r])) c = some o := fun {c o} hc ho => by
            have : c ≠ rl := fun q => by rw [q, er] at hc; exact ho _ (Option.some.inj hc).symm
            rw [upd_ne this]
            exact hc
          exact ⟨p1, p2, ne e1 (fun _ q => nomatch q), ⟨d1, ne a1 (fun _ q => nomatch q)⟩, d2, ne a2 (fun _ q => nomatch q)⟩
        refine ⟨_, _, _, e, Lb.Same.updl S9 hrl, rs ++ [r], by rw [upd_same, List.map_append]; rfl, ?_⟩
        rw [← take_snoc hz]
        exact paired_snoc (Paired.imp prs fun _ _ h => nl h) (nl row)
      refine ⟨_, rfl, _, _, rfl, rfl, _, rfl, ite2 (fun h0 => ?_) (fun h0 => ?_)⟩
      · have h0 : 0 < i := by
          have : (i : Int) > 0 := of_decide_eq_true h0
          omega
        obtain ⟨z0, hz0⟩ : ∃ z0, zs[i - 1]? = some z0 := ⟨_, List.getElem?_eq_getElem (by have := (List.getElem?_eq_some_iff.mp hz).1; omega)⟩
        have hz' : zs[i - 1 + 1]? = some z := by rw [show i - 1 + 1 = i by omega]; exact hz
        have up := ps.up (i - 1) z0 z hz0 hz'
        have lz0 := ps.l z0 (List.mem_of_getElem? hz0)
        obtain ⟨r0, hr0, row0⟩ := Paired.at_r prs (i := i - 1) (b := z0) (by rw [List.getElem?_take, if_pos (by omega)]; exact hz0)
        have at0' : atI (rs.map V.ref) (-1) = some (.ref r0) := by
          rw [atI_last (j := i - 1) (by rw [List.length_map]; omega), List.getElem?_map, hr0]
          rfl
        refine ⟨_, rfl, _, rfl, _, _, _, _, rfl, rfl, SqL.of er, at0', _, rfl, r0, r, z0, z, n, rfl, row0, row, lz0, lz, by omega, up.1, up.2, true, rfl, iteF ?_⟩
        refine ⟨_, rfl, .inl ⟨rfl, _, SqL.of er⟩, _, rfl, rl, _, _, rfl, rfl, er, szlt (by rw [List.length_map]; have := (List.getElem?_eq_some_iff.mp hz).1; omega), fin _ rfl⟩
      · refine ⟨_, rfl, .inl ⟨rfl, _, SqL.of er⟩, _, rfl, rl, _, _, rfl, rfl, er, szlt (by rw [List.length_map]; have := (List.getElem?_eq_some_iff.mp hz).1; omega), fin _ rfl⟩
    · rintro σ H5 ⟨u1, u3, u4, rfl, S5, rs, er, prs⟩
      rw [lw, List.take_length] at prs
      refine ⟨_, rfl, _, _, rfl, .inl (SqL.of er), _, _, rfl, rfl, _, rfl, iteN ?_ ?_⟩
      · have := Paired.len prs
        rw [List.length_map, decide_eq_true_eq]
        omega
      · exact ⟨_, rfl, k _ rl (S2.trans S5) ⟨rs, er, prs⟩⟩
end
end K15

set_option Elab.async false
set_option linter.all false
set_option maxRecDepth 100000
set_option maxHeartbeats 4000000
namespace K15
open PySem L2 Lb
def sp_pot (K : PySem.W.Frag) : Sp := fun vs H Q _ => ∃ (sc : Addr) (ns : List Int) (k : Nat), vs = [.ref sc, .int k] ∧ SqL K H sc (ns.map V.int) ∧ ns.length ≤ 63 ∧ k ≤ 1000 ∧
  ∀ H' p, Same H H' → H p = none → PotAt H' p → Q (.ref p) H'
def sp_draw : Sp := fun vs H Q _ => ∃ (p : Addr) (n : Int), vs = [.ref p, .int n] ∧ PotAt H p ∧ 0 < n ∧ Bd 200 n ∧
  ∀ H' d, Mov p H H' → 0 ≤ d → d < n → Q (.int d) H'
def sp_choice (K : PySem.W.Frag) : Sp := fun vs H Q _ => ∃ (p l : Addr) (xs : List V), vs = [.ref p, .ref l] ∧ PotAt H p ∧ SqL K H l xs ∧ l ≠ p ∧ 0 < xs.length ∧ xs.length ≤ 1000 ∧
  ∀ H' (i : Nat) v, Mov p H H' → xs[i]? = some v → Q v H'
section
variable {P : Program} {w : World} {K : PySem.W.Frag} {mg : Str → Option Value} {base : Heap} {a : Ad}
theorem ok_pot (T : Txt K mg a) : FnOk P w K mg base CX0 1 a.f_pot a.d_pot ["_law_script", "_law_k"] (sp_pot K) := by
  refine T.F_pot.ok sc_pot (fun vs H Q E h => ?_) (fun cdv A outer s H vs Q E hr h => ?_)
  · obtain ⟨sc, ns, k, rfl, _⟩ := h
    rfl
  · obtain ⟨sc, ns, k, rfl, hS, hlen, hk, q⟩ := h
    have fin : ∀ c : Int, 0 ≤ c → ∀ p, H p = none → Q (.ref p) (upd H p (.lst [.int (if c - 10 ^ (18 : Int).toNat > 0 then c - 10 ^ (18 : Int).toNat else 0), .int ((c % 2147483563 * 40693 + 6151 * (k : Int) + 29) % 2147483629 + 1)])) := by
      intro c hc p hp
      refine q _ p (Lb.Same.upd hp) hp ⟨_, _, upd_same, ?_, ?_, ?_⟩
      · split <;> omega
      · omega
      · omega
    refine ⟨_, (pss_cons (ps_set (i := 2) sc_pot.nd rfl (by first | exact Or.inl rfl | exact Or.inr rfl) (pe_op op_add (pe_op op_mulX pe_int (pv 1)) pe_int))
 (pss_cons (ps_if (pt_cmpR op_lt (pv 1) (pe_callB (call_lenK (K := K) rfl) (by rfl) T.b_len (by decide +kernel) (pa_cons (pv 0) pa_nil)) (nomark _)) (pss_one (ps_set (i := 2) sc_pot.nd rfl (by first | exact Or.inl rfl | exact Or.inr rfl) (pe_callB call_abs (by rfl) T.b_abs (by decide +kernel) (pa_cons (pe_ix (ix_listK (K := K) rfl) (pv 0) (pv 1) (fun _ _ => rfl)) pa_nil)))) pss_nil)
 (pss_one (ps_ret (pe_lst (pa_cons (pe_callB (call_max2 rfl) (by rfl) T.b_max (by decide +kernel) (pa_cons pe_int (pa_cons (pe_op op_sub (pv 2) (pe_op op_pow pe_int pe_int)) pa_nil))) (pa_cons (pe_op op_add (pe_op op_mod (pe_callTy call_int1 (by rfl) T.b_int (by decide +kernel) (pa_cons (pe_op op_add (pe_op op_add (pe_op op_mulX (pe_op op_mod (pe_callTy call_int1 (by rfl) T.b_int (by decide +kernel) (pa_cons (pv 2) pa_nil)) pe_int) pe_int) (pe_op op_mulX pe_int (pv 1))) pe_int) pa_nil)) pe_int) pe_int) pa_nil))))))), ?_⟩
    refine ⟨_, rfl, _, _, rfl, rfl, mulx_ok (a := 100) (b := 100) (by decide) (by omega) (by decide), _, _, rfl, rfl, ?_⟩
    -- if k < len(script)
    refine ⟨_, rfl, _, rfl, _, _, rfl, .inl hS, _, _, rfl, rfl, _, rfl, ?_⟩
    rw [List.length_map]
    refine ite2 (fun hlt => ?_) (fun _ => ?_)
    · have hlt' : k < ns.length := by simpa using hlt
      have hget : (ns.map V.int)[k]? = some (V.int ns[k]) := by simp [hlt']
      refine ⟨_, rfl, _, rfl, _, _, _, _, rfl, rfl, hS, atI_nat hget, _, rfl, ?_⟩
      refine ⟨_, rfl, _, _, rfl, rfl, ⟨by decide, by decide, by decide⟩, _, _, rfl, rfl, _, _, rfl, ?_⟩
      refine ⟨_, rfl, .inl ⟨_, rfl, _, _, rfl, rfl, (by show (0 : Int) < _; decide), _, _, rfl, rfl, mulx_ok (a := 100) (b := 100) (by omega) (by decide) (by decide), ?_⟩⟩
      refine ⟨_, rfl, _, _, rfl, rfl, mulx_ok (a := 100) (b := 100) (by decide) (by omega) (by decide), _, _, rfl, rfl, _, _, rfl, rfl, ?_⟩
      refine .inl ⟨_, rfl, _, _, rfl, rfl, (by show (0 : Int) < _; decide), _, _, rfl, rfl, sz, fun p hp => ?_⟩
      exact fin _ (by split <;> omega) p hp
    · refine ⟨_, rfl, _, _, rfl, rfl, ⟨by decide, by decide, by decide⟩, _, _, rfl, rfl, _, _, rfl, ?_⟩
      refine ⟨_, rfl, .inl ⟨_, rfl, _, _, rfl, rfl, (by show (0 : Int) < _; decide), _, _, rfl, rfl, mulx_ok (a := 100) (b := 100) (by omega) (by decide) (by decide), ?_⟩⟩
      refine ⟨_, rfl, _, _, rfl, rfl, mulx_ok (a := 100) (b := 100) (by decide) (by omega) (by decide), _, _, rfl, rfl, _, _, rfl, rfl, ?_⟩
      refine .inl ⟨_, rfl, _, _, rfl, rfl, (by show (0 : Int) < _; decide), _, _, rfl, rfl, sz, fun p hp => ?_⟩
      exact fin _ (by omega) p hp

theorem ok_draw (T : Txt K mg a) : FnOk P w K mg base CX0 1 a.f_draw a.d_draw ["_law_pot_here", "_law_size"] sp_draw := by
  refine T.F_draw.ok sc_draw (fun vs H Q E h => ?_) (fun cdv A outer s H vs Q E hr h => ?_)
  · obtain ⟨p, n, rfl, _⟩ := h
    rfl
  · obtain ⟨p, n, rfl, ⟨x, y, hp, hx, hy0, hy1⟩, hn, hb, q⟩ := h
    have S := SqL.of (K := K) hp
    have e0 : atI ([.int x, .int y] : List V) ((0 : Nat) : Int) = some (.int x) := atI_nat rfl
    have e1 : atI ([.int x, .int y] : List V) ((1 : Nat) : Int) = some (.int y) := atI_nat rfl
    refine ⟨_, (pss_cons (ps_if (pt_cmpR op_gt (pe_ix (ix_listK (K := K) rfl) (pv 0) pe_int (fun _ _ => rfl)) pe_int (nomark _)) (pss_cons (ps_asg (pe_callB call_divmodW (by rfl) T.b_divmod (by decide +kernel) (pa_cons (pe_ix (ix_listK (K := K) rfl) (pv 0) pe_int (fun _ _ => rfl)) (pa_cons (pv 1) pa_nil))) (pg_tupK (K := K) (n := 2) rfl rfl (pgs_cons (pg_sub (pv 0) pe_int set_list) (pgs_cons (pg_name (i := 2) sc_draw.nd rfl (by first | exact Or.inl rfl | exact Or.inr rfl)) pgs_nil))))
 (pss_one (ps_ret (pv 2)))) pss_nil)
 (pss_cons (ps_asg (pe_op op_mod (pe_callTy call_int1 (by rfl) T.b_int (by decide +kernel) (pa_cons (pe_op op_add (pe_op op_mulX (pe_ix (ix_listK (K := K) rfl) (pv 0) pe_int (fun _ _ => rfl)) pe_int) pe_int) pa_nil)) pe_int) (pg_sub (pv 0) pe_int set_list))
 (pss_one (ps_ret (pe_op op_mod (pe_callTy call_int1 (by rfl) T.b_int (by decide +kernel) (pa_cons (pe_op op_fdivW (pe_op op_mod (pe_callTy call_int1 (by rfl) T.b_int (by decide +kernel) (pa_cons (pe_op op_mulX (pe_ix (ix_listK (K := K) rfl) (pv 0) pe_int (fun _ _ => rfl)) (pe_ix (ix_listK (K := K) rfl) (pv 0) pe_int (fun _ _ => rfl))) pa_nil)) pe_int) pe_int) pa_nil)) (pv 1)))))), ?_⟩
    refine ⟨_, rfl, _, _, _, _, rfl, rfl, S, e0, _, _, rfl, rfl, _, rfl, ?_⟩
    refine ite2 (fun hlt => ?_) (fun _ => ?_)
    · have hlt : 0 < x := by simpa using hlt
      refine ⟨_, rfl, _, _, _, _, rfl, rfl, S, e0, _, rfl, _, _, rfl, divp_small hn (hb.mono (by decide)), fun t ht => ?_⟩
      have npt : p ≠ t := ne_of_none hp ht
      refine ⟨_, _, rfl, SqT.of upd_same, rfl, ?_⟩
      have hp2 : upd H t (.tup [.int (x / n), .int (x % n)]) p = some (.lst [.int x, .int y]) := by rw [upd_ne npt]; exact hp
      refine ⟨_, _, rfl, ⟨_, rfl, _, _, _, 0, rfl, rfl, hp2, rfl, _, _, rfl, ⟨rfl, ?_⟩⟩⟩
      refine ⟨_, rfl, ?_⟩
      refine q _ _ ⟨fun b o nb e => ?_, _, _, upd_same, Int.ediv_nonneg hx (by omega), hy0, hy1⟩ (Int.emod_nonneg _ (by omega)) (Int.emod_lt_of_pos _ hn)
      rw [upd_ne nb, upd_ne (ne_of_none e ht)]
      exact e
    · refine ⟨_, rfl, _, _, _, _, rfl, rfl, S, e1, _, _, rfl, rfl, mulx_ok (a := 100) (b := 100) (by omega) (by decide) (by decide), _, _, rfl, rfl, .inl ⟨_, rfl, _, _, rfl, rfl, (by show (0 : Int) < _; decide), ?_⟩⟩
      refine ⟨_, rfl, _, _, _, 1, rfl, rfl, hp, rfl, ?_⟩
      have e2 : ∀ z : Int, atI ([.int x, .int z] : List V) ((1 : Nat) : Int) = some (.int z) := fun z => atI_nat rfl
      have S2 : ∀ z : Int, SqL K (upd H p (.lst ([V.int x, V.int y].set 1 (.int z)))) p [.int x, .int z] := fun z => SqL.of upd_same
      refine ⟨_, rfl, _, _, _, _, rfl, rfl, S2 _, e2 _, _, rfl, _, _, _, _, rfl, rfl, S2 _, e2 _, _, _, rfl, rfl, mulx_ok (a := 100) (b := 100) (by omega) (by omega) (by decide), ?_⟩
      refine .inl ⟨_, rfl, _, _, rfl, rfl, (by show (0 : Int) < _; decide), _, _, rfl, rfl, ⟨(by show (0 : Int) < _; decide), (by decide)⟩, .inl ⟨_, rfl, _, rfl, _, _, rfl, rfl, hn, ?_⟩⟩
      refine q _ _ ⟨fun b o nb e => ?_, _, _, upd_same, hx, by omega, by omega⟩ (Int.emod_nonneg _ (by omega)) (Int.emod_lt_of_pos _ hn)
      rw [upd_ne nb]
      exact e
end
end K15

set_option Elab.async false
set_option linter.all false
set_option maxRecDepth 100000
set_option maxHeartbeats 4000000
set_option exponentiation.threshold 10000
namespace K15
open PySem L2 Lb
/-- a fraction of the law's own: a tuple of two ints -/
def FrQ (H : Hp) (q : Addr) (x : Q2) : Prop := Fr H q x.1 x.2
theorem FrQ.same {H H' : Hp} {q : Addr} {x : Q2} (h : FrQ H q x) (s : Same H H') : FrQ H' q x := s _ _ h
def sp_low : Sp := fun vs H Q _ => ∃ (h l : Int), vs = [.int h, .int l] ∧ l ≠ 0 ∧ Bd 8000 h ∧ Bd 8000 l ∧ ∀ H' q, Same H H' → FrQ H' q (rd h l) → Q (.ref q) H'
theorem gcd_mod (t b : Int) : (t % b).gcd b = t.gcd b := by
  rw [Int.gcd_left_eq_iff]
  intro c hc
  have e := Int.emod_add_mul_ediv t b
  obtain ⟨k, hk⟩ := hc
  constructor
  · rintro ⟨m, hm⟩
    exact ⟨m + k * (t / b), by rw [← e, hm]; grind⟩
  · rintro ⟨m, hm⟩
    exact ⟨m - k * (t / b), by grind⟩
/-- a def of two fractions -/
def sp_fr2 (f : Q2 → Q2 → Q2) : Sp := fun vs H Q _ => ∃ (p q : Addr) (x y : Q2) (n : Nat), vs = [.ref p, .ref q] ∧ FrQ H p x ∧ FrQ H q y ∧ Low n x ∧ Low n y ∧ n ≤ 3900 ∧ ∀ H' r, Same H H' → FrQ H' r (f x y) → Q (.ref r) H'
def plusF (x y : Q2) : Q2 := rd (x.1 * y.2 + y.1 * x.2) (x.2 * y.2)
def minusF (x y : Q2) : Q2 := rd (x.1 * y.2 - y.1 * x.2) (x.2 * y.2)
def timesF (x y : Q2) : Q2 := rd (x.1 * y.1) (x.2 * y.2)
def sp_less : Sp := fun vs H Q _ => ∃ (p q : Addr) (x y : Q2) (n : Nat), vs = [.ref p, .ref q] ∧ FrQ H p x ∧ FrQ H q y ∧ Low n x ∧ Low n y ∧ n ≤ 3900 ∧ Q (.bl (decide (val x < val y))) H
def sp_amount (C : Addr) : Sp := fun vs H Q _ => ∃ (p : Addr) (x : Q2) (n : Nat), vs = [.ref p] ∧ FrQ H p x ∧ Low n x ∧ n ≤ 8000 ∧ ∀ H' v, Same H H' → IsP C H' v x.1 x.2 → Q v H'
def sp_step : Sp := fun vs H Q _ => ∃ (p : Addr), vs = [.ref p] ∧ PotAt H p ∧ ∀ H' q x, Mov p H H' → FrQ H' q x → Low 30 x → 0 < x.1 → Q (.ref q) H'
section
variable {P : Program} {w : World} {K : PySem.W.Frag} {mg : Str → Option Value} {base : Heap} {a : Ad}
theorem ok_low (T : Txt K mg a) : FnOk P w K mg base CX0 1 a.f_low a.d_low ["_law_high", "_law_low_here"] sp_low := by
  refine T.F_low.ok sc_low (fun vs H Q E h => ?_) (fun cdv A outer s H vs Q E hr h => ?_)
  · obtain ⟨x, y, rfl, _⟩ := h
    rfl
  · obtain ⟨x, y, rfl, hy, bx, bY, q⟩ := h
    refine ⟨_, (pss_cons (ps_par (i := 2) (j := 3) rfl sc_low.nd rfl rfl (by decide) rfl rfl (pa_cons (pe_callB call_abs (by rfl) T.b_abs (by decide +kernel) (pa_cons (pv 0) pa_nil)) (pa_cons (pe_callB call_abs (by rfl) T.b_abs (by decide +kernel) (pa_cons (pv 1) pa_nil)) pa_nil)) (by rfl))
 (pss_cons (ps_while PassesOwn.never (pt_cmpR op_gt (pv 3) pe_int (nomark _)) (pss_one (ps_par (i := 2) (j := 3) rfl sc_low.nd rfl rfl (by decide) rfl rfl (pa_cons (pv 3) (pa_cons (pe_op op_mod (pe_callTy call_int1 (by rfl) T.b_int (by decide +kernel) (pa_cons (pv 2) pa_nil)) (pv 3)) pa_nil)) (by rfl))))
 (pss_cons (ps_set (i := 2) sc_low.nd rfl (by first | exact Or.inl rfl | exact Or.inr rfl) (pe_ifExp (pt_cmpR op_gt (pv 1) pe_int (nomark _)) (pv 2) (pe_op op_sub pe_int (pv 2))))
 (pss_one (ps_ret (pe_tup (pa_cons (pe_op op_fdivX (pv 0) (pv 2)) (pa_cons (pe_op op_fdivX (pv 1) (pv 2)) pa_nil)))))))), ?_⟩
    refine ⟨_, rfl, _, rfl, _, rfl, _, rfl, _, _, rfl, ?_⟩
    refine while_by (fun σ H' => H' = H ∧ ∃ u v : Int, σ = [some (.int x), some (.int y), some (.int u), some (.int v)] ∧ 0 ≤ u ∧ 0 ≤ v ∧ u.gcd v = x.gcd y) (fun σ _ => (ivals σ 3).toNat)
      ⟨rfl, _, _, rfl, by split <;> omega, by split <;> omega, ?_⟩ ?_ (fun σ H Q Q' k ⟨v, e, i, j, e1, e2, b, e3, q⟩ => ⟨v, e, i, j, e1, e2, b, e3, k _ _ q⟩)
    · split <;> split <;> simp
    · rintro σ H' ⟨rfl, u, v, rfl, hu, hv, g⟩
      refine ⟨_, rfl, _, _, rfl, rfl, _, rfl, ?_⟩
      refine ite2 (fun hlt => ?_) (fun hlt => ?_)
      · have hlt : 0 < v := by simpa using hlt
        refine ⟨_, rfl, _, rfl, .inl ⟨_, rfl, _, rfl, _, _, rfl, rfl, hlt, _, _, rfl, ?_⟩⟩
        refine ⟨⟨rfl, _, _, rfl, hv, Int.emod_nonneg _ (by omega), ?_⟩, ?_⟩
        · rw [Int.gcd_comm, gcd_mod]
          exact g
        · show (u % v).toNat < v.toNat
          have := Int.emod_lt_of_pos u hlt
          have := Int.emod_nonneg u (show v ≠ 0 by omega)
          omega
      · have e0 : v = 0 := by
          have : ¬ 0 < v := by simpa using hlt
          omega
        subst e0
        have e : u = ((Nat.gcd x.natAbs y.natAbs : Nat) : Int) := by
          have g' : u.natAbs = Nat.gcd x.natAbs y.natAbs := by
            rw [Int.gcd_zero] at g
            exact g
          omega
        subst e
        have hd : rdD x y ≠ 0 := by
          have : 0 < Nat.gcd x.natAbs y.natAbs := Nat.gcd_pos_of_pos_right _ (by omega)
          unfold rdD
          split <;> omega
        have bd : Bd 8000 (rdD x y) := by
          have : Nat.gcd x.natAbs y.natAbs ≤ y.natAbs := Nat.gcd_le_right _ (by omega)
          refine bY.le ?_
          unfold rdD
          split <;> omega
        refine ⟨_, rfl, _, _, rfl, rfl, _, rfl, ite2 (fun h1 => ?_) (fun h1 => ?_)⟩
        · have h1 : 0 < y := by simpa using h1
          have eD : ((Nat.gcd x.natAbs y.natAbs : Nat) : Int) = rdD x y := by unfold rdD; rw [if_neg (by omega)]
          rw [eD]
          refine ⟨_, rfl, _, rfl, _, rfl, _, _, rfl, rfl, bd.cx hd (by decide), _, rfl, _, rfl, _, _, rfl, rfl, bd.cx hd (by decide), sz, fun r hr => q _ r (Lb.Same.upd hr) upd_same⟩
        · have h1 : ¬ 0 < y := by simpa using h1
          have eD : (0 : Int) - ((Nat.gcd x.natAbs y.natAbs : Nat) : Int) = rdD x y := by unfold rdD; rw [if_pos (by omega)]; omega
          refine ⟨_, rfl, _, _, rfl, rfl, ?_⟩
          dsimp only
          rw [eD]
          refine ⟨_, rfl, _, rfl, _, _, rfl, rfl, bd.cx hd (by decide), _, rfl, _, rfl, _, _, rfl, rfl, bd.cx hd (by decide), sz, fun r hr => q _ r (Lb.Same.upd hr) upd_same⟩
theorem ok_plus (T : Txt K mg a) : FnOk P w K mg base CX0 2 a.f_plus a.d_plus ["_law_one", "_law_more"] (sp_fr2 plusF) := by
  refine T.F_plus.ok sc_plus (fun vs H Q E h => ?_) (fun cdv A outer s H vs Q E hr h => ?_)
  · obtain ⟨p, q, x, y, n, rfl, _⟩ := h
    rfl
  · obtain ⟨p, q, x, y, n, rfl, hp, hq, lx, ly, hn, k⟩ := h
    refine ⟨_, (pss_one (ps_ret (pe_call (ok_low T) (hr.mono (by decide)) (by rfl) T.m_low T.F_low.kp (b_low T) .nil pass0 (pa_cons (pe_op op_add (pe_op op_mulX (pe_ix (ix_tupK (K := K) rfl) (pv 0) pe_int (fun _ _ => rfl)) (pe_ix (ix_tupK (K := K) rfl) (pv 1) pe_int (fun _ _ => rfl))) (pe_op op_mulX (pe_ix (ix_tupK (K := K) rfl) (pv 1) pe_int (fun _ _ => rfl)) (pe_ix (ix_tupK (K := K) rfl) (pv 0) pe_int (fun _ _ => rfl)))) (pa_cons (pe_op op_mulX (pe_ix (ix_tupK (K := K) rfl) (pv 0) pe_int (fun _ _ => rfl)) (pe_ix (ix_tupK (K := K) rfl) (pv 1) pe_int (fun _ _ => rfl))) pa_nil))))), ?_⟩
    have b1 : Bd 3900 x.1 := lx.t.mono hn
    have b2 : Bd 3900 x.2 := lx.b.mono hn
    have b3 : Bd 3900 y.1 := ly.t.mono hn
    have b4 : Bd 3900 y.2 := ly.b.mono hn
    refine ⟨_, rfl, _, _, _, _, rfl, rfl, SqT.of hp, at0, _, rfl, _, _, _, _, rfl, rfl, SqT.of hq, at1, _, _, rfl, rfl, b1.cm b4 (by decide), ?_⟩
    refine ⟨_, rfl, _, _, _, _, rfl, rfl, SqT.of hq, at0, _, rfl, _, _, _, _, rfl, rfl, SqT.of hp, at1, _, _, rfl, rfl, b3.cm b2 (by decide), _, _, rfl, rfl, ?_⟩
    refine ⟨_, rfl, _, _, _, _, rfl, rfl, SqT.of hp, at1, _, rfl, _, _, _, _, rfl, rfl, SqT.of hq, at1, _, _, rfl, rfl, b2.cm b4 (by decide), ?_⟩
    exact ⟨_, _, rfl, mul_pos_ne lx.pos ly.pos, ((b1.mul b4).add (b3.mul b2)).mono (by decide), (b2.mul b4).mono (by decide), fun H' r s f => k _ _ s f⟩
theorem ok_minus (T : Txt K mg a) : FnOk P w K mg base CX0 2 a.f_minus a.d_minus ["_law_one", "_law_more"] (sp_fr2 minusF) := by
  refine T.F_minus.ok sc_minus (fun vs H Q E h => ?_) (fun cdv A outer s H vs Q E hr h => ?_)
  · obtain ⟨p, q, x, y, n, rfl, _⟩ := h
    rfl
  · obtain ⟨p, q, x, y, n, rfl, hp, hq, lx, ly, hn, k⟩ := h
    refine ⟨_, (pss_one (ps_ret (pe_call (ok_low T) (hr.mono (by decide)) (by rfl) T.m_low T.F_low.kp (b_low T) .nil pass0 (pa_cons (pe_op op_sub (pe_op op_mulX (pe_ix (ix_tupK (K := K) rfl) (pv 0) pe_int (fun _ _ => rfl)) (pe_ix (ix_tupK (K := K) rfl) (pv 1) pe_int (fun _ _ => rfl))) (pe_op op_mulX (pe_ix (ix_tupK (K := K) rfl) (pv 1) pe_int (fun _ _ => rfl)) (pe_ix (ix_tupK (K := K) rfl) (pv 0) pe_int (fun _ _ => rfl)))) (pa_cons (pe_op op_mulX (pe_ix (ix_tupK (K := K) rfl) (pv 0) pe_int (fun _ _ => rfl)) (pe_ix (ix_tupK (K := K) rfl) (pv 1) pe_int (fun _ _ => rfl))) pa_nil))))), ?_⟩
    have b1 : Bd 3900 x.1 := lx.t.mono hn
    have b2 : Bd 3900 x.2 := lx.b.mono hn
    have b3 : Bd 3900 y.1 := ly.t.mono hn
    have b4 : Bd 3900 y.2 := ly.b.mono hn
    refine ⟨_, rfl, _, _, _, _, rfl, rfl, SqT.of hp, at0, _, rfl, _, _, _, _, rfl, rfl, SqT.of hq, at1, _, _, rfl, rfl, b1.cm b4 (by decide), ?_⟩
    refine ⟨_, rfl, _, _, _, _, rfl, rfl, SqT.of hq, at0, _, rfl, _, _, _, _, rfl, rfl, SqT.of hp, at1, _, _, rfl, rfl, b3.cm b2 (by decide), _, _, rfl, rfl, ?_⟩
    refine ⟨_, rfl, _, _, _, _, rfl, rfl, SqT.of hp, at1, _, rfl, _, _, _, _, rfl, rfl, SqT.of hq, at1, _, _, rfl, rfl, b2.cm b4 (by decide), ?_⟩
    exact ⟨_, _, rfl, mul_pos_ne lx.pos ly.pos, ((b1.mul b4).sub (b3.mul b2)).mono (by decide), (b2.mul b4).mono (by decide), fun H' r s f => k _ _ s f⟩
theorem ok_times (T : Txt K mg a) : FnOk P w K mg base CX0 2 a.f_times a.d_times ["_law_one", "_law_more"] (sp_fr2 timesF) := by
  refine T.F_times.ok sc_times (fun vs H Q E h => ?_) (fun cdv A outer s H vs Q E hr h => ?_)
  · obtain ⟨p, q, x, y, n, rfl, _⟩ := h
    rfl
  · obtain ⟨p, q, x, y, n, rfl, hp, hq, lx, ly, hn, k⟩ := h
    refine ⟨_, (pss_one (ps_ret (pe_call (ok_low T) (hr.mono (by decide)) (by rfl) T.m_low T.F_low.kp (b_low T) .nil pass0 (pa_cons (pe_op op_mulX (pe_ix (ix_tupK (K := K) rfl) (pv 0) pe_int (fun _ _ => rfl)) (pe_ix (ix_tupK (K := K) rfl) (pv 1) pe_int (fun _ _ => rfl))) (pa_cons (pe_op op_mulX (pe_ix (ix_tupK (K := K) rfl) (pv 0) pe_int (fun _ _ => rfl)) (pe_ix (ix_tupK (K := K) rfl) (pv 1) pe_int (fun _ _ => rfl))) pa_nil))))), ?_⟩
    have b1 : Bd 3900 x.1 := lx.t.mono hn
    have b2 : Bd 3900 x.2 := lx.b.mono hn
    have b3 : Bd 3900 y.1 := ly.t.mono hn
    have b4 : Bd 3900 y.2 := ly.b.mono hn
    refine ⟨_, rfl, _, _, _, _, rfl, rfl, SqT.of hp, at0, _, rfl, _, _, _, _, rfl, rfl, SqT.of hq, at0, _, _, rfl, rfl, b1.cm b3 (by decide), ?_⟩
    refine ⟨_, rfl, _, _, _, _, rfl, rfl, SqT.of hp, at1, _, rfl, _, _, _, _, rfl, rfl, SqT.of hq, at1, _, _, rfl, rfl, b2.cm b4 (by decide), ?_⟩
    exact ⟨_, _, rfl, mul_pos_ne lx.pos ly.pos, (b1.mul b3).mono (by decide), (b2.mul b4).mono (by decide), fun H' r s f => k _ _ s f⟩
theorem ok_less (T : Txt K mg a) : FnOk P w K mg base CX0 1 a.f_less a.d_less ["_law_one", "_law_more"] sp_less := by
  refine T.F_less.ok sc_less (fun vs H Q E h => ?_) (fun cdv A outer s H vs Q E hr h => ?_)
  · obtain ⟨p, q, x, y, n, rfl, _⟩ := h
    rfl
  · obtain ⟨p, q, x, y, n, rfl, hp, hq, lx, ly, hn, k⟩ := h
    refine ⟨_, (pss_one (ps_ret (pe_cmpR op_lt (pe_op op_mulX (pe_ix (ix_tupK (K := K) rfl) (pv 0) pe_int (fun _ _ => rfl)) (pe_ix (ix_tupK (K := K) rfl) (pv 1) pe_int (fun _ _ => rfl))) (pe_op op_mulX (pe_ix (ix_tupK (K := K) rfl) (pv 1) pe_int (fun _ _ => rfl)) (pe_ix (ix_tupK (K := K) rfl) (pv 0) pe_int (fun _ _ => rfl))) (nomark _)))), ?_⟩
    have b1 : Bd 3900 x.1 := lx.t.mono hn
    have b2 : Bd 3900 x.2 := lx.b.mono hn
    have b3 : Bd 3900 y.1 := ly.t.mono hn
    have b4 : Bd 3900 y.2 := ly.b.mono hn
    refine ⟨_, rfl, _, _, _, _, rfl, rfl, SqT.of hp, at0, _, rfl, _, _, _, _, rfl, rfl, SqT.of hq, at1, _, _, rfl, rfl, b1.cm b4 (by decide), ?_⟩
    refine ⟨_, rfl, _, _, _, _, rfl, rfl, SqT.of hq, at0, _, rfl, _, _, _, _, rfl, rfl, SqT.of hp, at1, _, _, rfl, rfl, b3.cm b2 (by decide), _, _, rfl, rfl, ?_⟩
    rw [show decide (val x < val y) = decide (x.1 * y.2 < y.1 * x.2) from decide_eq_decide.mpr (val_lt lx.pos ly.pos).symm] at k
    exact k
theorem ok_amount (T : Txt K mg a) : FnOk P w K mg base CX0 4 a.f_amount a.d_amount ["_law_part"] (sp_amount a.c_Amount) := by
  refine T.F_amount.ok sc_amount (fun vs H Q E h => ?_) (fun cdv A outer s H vs Q E hr h => ?_)
  · obtain ⟨p, x, n, rfl, _⟩ := h
    rfl
  · obtain ⟨p, x, n, rfl, hp, lx, hn, k⟩ := h
    refine ⟨_, (pss_one (ps_ret (pe_ifExp (pt_cmpR op_eq (pe_ix (ix_tupK (K := K) rfl) (pv 0) pe_int (fun _ _ => rfl)) pe_int (nomark _)) (pe_ix (ix_tupK (K := K) rfl) (pv 0) pe_int (fun _ _ => rfl)) (pe_make T.mkA (ok_Amount_init_ T) (hr.mono (by decide)) (by rfl) T.mA (b_Amount_init_ T) .nil pass0 (pa_cons (pe_ix (ix_tupK (K := K) rfl) (pv 0) pe_int (fun _ _ => rfl)) (pa_cons (pe_ix (ix_tupK (K := K) rfl) (pv 0) pe_int (fun _ _ => rfl)) pa_nil)))))), ?_⟩
    refine ⟨_, rfl, _, _, _, _, rfl, rfl, SqT.of hp, at1, rfl, _, rfl, ite2 (fun h1 => ?_) (fun h1 => ?_)⟩
    · have h1 : x.2 = 1 := by simpa using h1
      exact ⟨_, rfl, _, _, _, _, rfl, rfl, SqT.of hp, at0, k _ _ (Same.refl _) (.inl ⟨rfl, h1⟩)⟩
    · refine ⟨_, rfl, _, _, _, _, rfl, rfl, SqT.of hp, at0, _, rfl, _, _, _, _, rfl, rfl, SqT.of hp, at1, ?_⟩
      refine fun q dx hq hdx ne => ⟨q, dx, _, _, rfl, by have := lx.pos; omega, lx.t.mono hn, lx.b.mono hn, upd_same, fun H' kp e => ⟨rfl, ?_⟩⟩
      obtain ⟨s, m⟩ := made_am hq hdx ne kp e
      obtain ⟨e1, e2⟩ := rd_self lx.pos lx.g
      rw [e1, e2] at m
      exact k _ _ s (.inr ⟨q, rfl, m⟩)
end
end K15

set_option Elab.async false
set_option linter.all false
set_option maxRecDepth 100000
set_option maxHeartbeats 4000000
set_option exponentiation.threshold 10000
namespace K15
open PySem L2 Lb
open C8 (pss_cut)
/-- the law's points: tuples of two fractions -/
def SpR (H : Hp) (r : Addr) (z : Pt) : Prop := ∃ p q, H r = some (.tup [.ref p, .ref q]) ∧ FrQ H p z.1 ∧ FrQ H q z.2
theorem SpR.same {H H' : Hp} {r : Addr} {z : Pt} (h : SpR H r z) (s : Same H H') : SpR H' r z :=
  let ⟨p, q, e, a, b⟩ := h
  ⟨p, q, s _ _ e, a.same s, b.same s⟩
structure Spots (H : Hp) (l : Addr) (zs : List Pt) : Prop where
  ex : ∃ rs : List Addr, H l = some (.lst (rs.map V.ref)) ∧ Paired (SpR H) rs zs
theorem Spots.same {l : Addr} {H H' : Hp} {zs : List Pt} (h : Spots H l zs) (s : Same H H') : Spots H' l zs :=
  let ⟨rs, e, p⟩ := h.ex
  ⟨rs, s _ _ e, Paired.imp p fun _ _ q => q.same s⟩
theorem Spots.at_ {l : Addr} {H : Hp} {zs : List Pt} (h : Spots H l zs) : ∃ xs, H l = some (.lst xs) ∧ xs.length = zs.length ∧ ∀ (i : Nat) z, zs[i]? = some z → ∃ r p q, atI xs (i : Int) = some (.ref r) ∧ H r = some (.tup [.ref p, .ref q]) ∧ FrQ H p z.1 ∧ FrQ H q z.2 := by
  obtain ⟨rs, e, p⟩ := h.ex
  refine ⟨_, e, by rw [List.length_map]; exact Paired.len p, fun i z hz => ?_⟩
  obtain ⟨r, hr, p', q, er, ap, aq⟩ := Paired.at_r p hz
  exact ⟨r, p', q, at_ref hr, er, ap, aq⟩
theorem fr_at {H : Hp} {p q : Addr} {z : Pt} {s : Nat} (hs : s = 0 ∨ s = 1) (ap : FrQ H p z.1) (aq : FrQ H q z.2) : ∃ y, atI [V.ref p, V.ref q] (s : Int) = some (.ref y) ∧ FrQ H y (sd s z) := by
  rcases hs with rfl | rfl
  · exact ⟨p, at0, ap⟩
  · exact ⟨q, at1, aq⟩
theorem fr_at' {H : Hp} {p q : Addr} {z : Pt} {s : Nat} (hs : s = 0 ∨ s = 1) (ap : FrQ H p z.1) (aq : FrQ H q z.2) : ∃ y, atI [V.ref p, V.ref q] (1 - (s : Int)) = some (.ref y) ∧ FrQ H y (sd (1 - s) z) := by
  rcases hs with rfl | rfl
  · exact ⟨q, at1, aq⟩
  · exact ⟨p, at0, ap⟩
/-- where the law finds the number x -/
structure LawAt (zs : List Pt) (s : Nat) (x : Q2) (i : Nat) : Prop where
  lt : i + 2 ≤ zs.length
  lo : i = 0 ∨ ∃ z, zs[i]? = some z ∧ val (sd s z) < val x
  hi : i + 2 = zs.length ∨ ∃ z, zs[i + 1]? = some z ∧ val x ≤ val (sd s z)
/-- the law's line -/
def lawLine (s : Nat) (z z' : Pt) (x : Rat) : Rat := val (sd (1 - s) z) + ((x - val (sd s z)) * (val (sd (1 - s) z') - val (sd (1 - s) z))) / (val (sd s z') - val (sd s z))
def sp_on : Sp := fun vs H Q _ => ∃ (l q : Addr) (s n m : Nat) (zs : List Pt) (x : Q2), vs = [.ref l, .ref q, .int s] ∧ (s = 0 ∨ s = 1) ∧ Spots H l zs ∧ (∀ z ∈ zs, PtN n z) ∧ FrQ H q x ∧ Low m x ∧ m + 6 * n + 10 ≤ 3000 ∧ 2 ≤ zs.length ∧ zs.length ≤ 200 ∧
  (∀ (i : Nat) z z', zs[i]? = some z → zs[i + 1]? = some z' → val (sd s z) < val (sd s z')) ∧
  ∀ H' q' (i : Nat) z z' r, Same H H' → LawAt zs s x i → zs[i]? = some z → zs[i + 1]? = some z' → FrQ H' q' r → Low (m + 6 * n + 4) r → val r = lawLine s z z' (val x) → Q (.ref q') H'
section
variable {P : Program} {w : World} {K : PySem.W.Frag} {mg : Str → Option Value} {base : Heap} {a : Ad}
theorem ok_on (T : Txt K mg a) : FnOk P w K mg base CX0 3 a.f_on a.d_on ["_law_spots", "_law_x", "_law_part"] sp_on := by
  refine T.F_on.ok sc_on (fun vs H Q E h => ?_) (fun cdv A outer s H vs Q E hr h => ?_)
  · obtain ⟨l, q, s, n, m, zs, x, rfl, _⟩ := h
    rfl
  · obtain ⟨l, q, s, n, m, zs, x, rfl, hs, hc, hz, hq, lx, hnm, l2, l200, up, k⟩ := h
    refine ⟨_, (pss_cons (ps_set (i := 3) sc_on.nd rfl (by first | exact Or.inl rfl | exact Or.inr rfl) pe_int)
 (pss_cut (ps_while PassesOwn.never (PW.pt (pw_and (pt_cmpR op_lt (pe_op op_add (pv 3) pe_int) (pe_callB (call_lenK (K := K) rfl) (by rfl) T.b_len (by decide +kernel) (pa_cons (pv 0) pa_nil)) (nomark _)) (pw_and1 (pt_val (pe_call (ok_less T) (hr.mono (by decide)) (by rfl) T.m_less T.F_less.kp (b_less T) .nil pass0 (pa_cons (pe_ix (ix_tupK (K := K) rfl) (pe_ix (ix_listK (K := K) rfl) (pv 0) (pe_op op_add (pv 3) pe_int) (fun _ _ => rfl)) (pv 2) (fun _ _ => rfl)) (pa_cons (pv 1) pa_nil))))))) (pss_one (ps_aug (i := 3) sc_on.nd rfl (by first | exact Or.inl rfl | exact Or.inr rfl) pe_int ip_add)))
 (pss_cons (ps_par (i := 4) (j := 5) rfl sc_on.nd rfl rfl (by decide) rfl rfl (pa_cons (pe_ix (ix_listK (K := K) rfl) (pv 0) (pv 3) (fun _ _ => rfl)) (pa_cons (pe_ix (ix_listK (K := K) rfl) (pv 0) (pe_op op_add (pv 3) pe_int) (fun _ _ => rfl)) pa_nil)) (by rfl))
 (pss_cons (ps_set (i := 6) sc_on.nd rfl (by first | exact Or.inl rfl | exact Or.inr rfl) (pe_call (ok_minus T) (hr.mono (by decide)) (by rfl) T.m_minus T.F_minus.kp (b_minus T) .nil pass0 (pa_cons (pe_ix (ix_tupK (K := K) rfl) (pv 5) (pv 2) (fun _ _ => rfl)) (pa_cons (pe_ix (ix_tupK (K := K) rfl) (pv 4) (pv 2) (fun _ _ => rfl)) pa_nil))))
 (pss_cons (ps_set (i := 7) sc_on.nd rfl (by first | exact Or.inl rfl | exact Or.inr rfl) (pe_call (ok_minus T) (hr.mono (by decide)) (by rfl) T.m_minus T.F_minus.kp (b_minus T) .nil pass0 (pa_cons (pe_ix (ix_tupK (K := K) rfl) (pv 5) (pe_op op_sub pe_int (pv 2)) (fun _ _ => rfl)) (pa_cons (pe_ix (ix_tupK (K := K) rfl) (pv 4) (pe_op op_sub pe_int (pv 2)) (fun _ _ => rfl)) pa_nil))))
 (pss_cons (ps_set (i := 8) sc_on.nd rfl (by first | exact Or.inl rfl | exact Or.inr rfl) (pe_call (ok_times T) (hr.mono (by decide)) (by rfl) T.m_times T.F_times.kp (b_times T) .nil pass0 (pa_cons (pe_call (ok_minus T) (hr.mono (by decide)) (by rfl) T.m_minus T.F_minus.kp (b_minus T) .nil pass0 (pa_cons (pv 1) (pa_cons (pe_ix (ix_tupK (K := K) rfl) (pv 4) (pv 2) (fun _ _ => rfl)) pa_nil))) (pa_cons (pv 7) pa_nil))))
 (pss_one (ps_ret (pe_call (ok_plus T) (hr.mono (by decide)) (by rfl) T.m_plus T.F_plus.kp (b_plus T) .nil pass0 (pa_cons (pe_ix (ix_tupK (K := K) rfl) (pv 4) (pe_op op_sub pe_int (pv 2)) (fun _ _ => rfl)) (pa_cons (pe_call (ok_low T) (hr.mono (by decide)) (by rfl) T.m_low T.F_low.kp (b_low T) .nil pass0 (pa_cons (pe_op op_mulX (pe_ix (ix_tupK (K := K) rfl) (pv 8) pe_int (fun _ _ => rfl)) (pe_ix (ix_tupK (K := K) rfl) (pv 6) pe_int (fun _ _ => rfl))) (pa_cons (pe_op op_mulX (pe_ix (ix_tupK (K := K) rfl) (pv 8) pe_int (fun _ _ => rfl)) (pe_ix (ix_tupK (K := K) rfl) (pv 6) pe_int (fun _ _ => rfl))) pa_nil))) pa_nil))))))))))), ?_⟩
    obtain ⟨xs, el, lxs, atx⟩ := hc.at_
    refine ⟨fun σ H' => H' = H ∧ ∃ i : Nat, σ = [some (.ref l), some (.ref q), some (.int s), some (.int i), none, none, none, none, none] ∧ LawAt zs s x i, ?_, ?_⟩
    · refine ⟨fun mm σ H' => ∃ i : Nat, mm = zs.length - i ∧ H' = H ∧ i + 2 ≤ zs.length ∧ σ = [some (.ref l), some (.ref q), some (.int s), some (.int i), none, none, none, none, none] ∧ (i = 0 ∨ ∃ z, zs[i]? = some z ∧ val (sd s z) < val x), ⟨_, 0, rfl, rfl, l2, rfl, .inl rfl⟩, ?_⟩
      rintro mm σ H' ⟨i, rfl, rfl, hi2, rfl, lo⟩
      refine ⟨_, rfl, _, _, rfl, rfl, _, rfl, _, _, rfl, .inl (SqL.of el), _, _, rfl, rfl, _, rfl, ?_⟩
      rw [lxs]
      refine ite2 (fun h1 => ?_) (fun h1 => ?_)
      · have h1 : (i : Int) + 2 < zs.length := of_decide_eq_true h1
        obtain ⟨z, hzi⟩ : ∃ z, zs[i + 1]? = some z := ⟨_, List.getElem?_eq_getElem (by omega)⟩
        have pz := hz z (List.mem_of_getElem? hzi)
        obtain ⟨r, p1, p2, ar, er, ap, aq⟩ := atx (i + 1) z hzi
        obtain ⟨y, ay, aY⟩ := fr_at hs ap aq
        refine ⟨_, rfl, _, rfl, _, _, rfl, rfl, _, _, _, _, rfl, rfl, SqL.of el, ar, _, rfl, _, _, _, _, rfl, rfl, SqT.of er, ay, _, rfl, y, q, sd s z, x, max n m, rfl, aY, hq, pz.sd.mono (by omega), lx.mono (by omega), by omega, ?_⟩
        refine ⟨_, rfl, ite2 (fun h2 => ?_) (fun h2 => ?_)⟩
        · have h2 : val (sd s z) < val x := of_decide_eq_true h2
          refine ⟨_, fun _ _ h => h, ?_⟩
          refine ⟨_, rfl, _, _, rfl, rfl, ?_⟩
          exact ⟨zs.length - (i + 1), by omega, i + 1, rfl, rfl, by omega, rfl, .inr ⟨z, hzi, h2⟩⟩
        · have h2 : ¬ val (sd s z) < val x := fun q => h2 (decide_eq_true q)
          exact ⟨rfl, i, rfl, hi2, lo, .inr ⟨z, hzi, Rat.not_lt.mp h2⟩⟩
      · have h1 : ¬ (i : Int) + 2 < zs.length := fun q => h1 (decide_eq_true q)
        exact ⟨rfl, i, rfl, hi2, lo, .inl (by omega)⟩
    · rintro σ H' ⟨rfl, i, rfl, la⟩
      obtain ⟨z, hzi⟩ : ∃ z, zs[i]? = some z := ⟨_, List.getElem?_eq_getElem (by have := la.lt; omega)⟩
      obtain ⟨z', hzi'⟩ : ∃ z, zs[i + 1]? = some z := ⟨_, List.getElem?_eq_getElem (by have := la.lt; omega)⟩
      have pz := hz z (List.mem_of_getElem? hzi)
      have pz' := hz z' (List.mem_of_getElem? hzi')
      obtain ⟨r, p1, p2, ar, er, ap, aq⟩ := atx i z hzi
      obtain ⟨r', p1', p2', ar', er', ap', aq'⟩ := atx (i + 1) z' hzi'
      obtain ⟨y, ay, aY⟩ := fr_at hs ap aq
      obtain ⟨y', ay', aY'⟩ := fr_at hs ap' aq'
      obtain ⟨u, au, aU⟩ := fr_at' hs ap aq
      obtain ⟨u', au', aU'⟩ := fr_at' hs ap' aq'
      have ly : Low n (sd s z) := pz.sd
      have ly' : Low n (sd s z') := pz'.sd
      have lu : Low n (sd (1 - s) z) := pz.sd
      have lu' : Low n (sd (1 - s) z') := pz'.sd
      have lt := up i z z' hzi hzi'
      refine ⟨_, rfl, _, rfl, _, _, _, _, rfl, rfl, SqL.of el, ar, _, rfl, _, rfl, _, _, rfl, rfl, _, _, _, _, rfl, rfl, SqL.of el, ar', _, _, rfl, ?_⟩
      -- wide
      refine ⟨_, rfl, _, rfl, _, _, _, _, rfl, rfl, SqT.of er', ay', _, rfl, _, rfl, _, _, _, _, rfl, rfl, SqT.of er, ay, y', y, _, _, n, rfl, aY', aY, ly', ly, by omega, fun H1 w1 s1 f1 => ?_⟩
      have l1 : Low (2 * n + 1) (minusF (sd s z') (sd s z)) := sub_low ly' ly (by omega)
      have v1 : val (minusF (sd s z') (sd s z)) = _ := val_sub ly'.pos ly.pos
      generalize minusF (sd s z') (sd s z) = W1 at *
      -- rise
      refine ⟨_, rfl, _, rfl, _, _, rfl, rfl, _, _, _, _, rfl, rfl, SqT.of (s1 _ _ er'), au', _, rfl, _, rfl, _, _, rfl, rfl, _, _, _, _, rfl, rfl, SqT.of (s1 _ _ er), au, u', u, _, _, n, rfl, aU'.same s1, aU.same s1, lu', lu, by omega, fun H2 w2 s2 f2 => ?_⟩
      have l2' : Low (2 * n + 1) (minusF (sd (1 - s) z') (sd (1 - s) z)) := sub_low lu' lu (by omega)
      have v2 : val (minusF (sd (1 - s) z') (sd (1 - s) z)) = _ := val_sub lu'.pos lu.pos
      generalize minusF (sd (1 - s) z') (sd (1 - s) z) = W2 at *
      have S2 := s1.trans s2
      -- far
      refine ⟨_, rfl, _, rfl, _, rfl, _, _, _, _, rfl, rfl, SqT.of (S2 _ _ er), ay, q, y, x, _, max n m, rfl, hq.same S2, aY.same S2, lx.mono (by omega), ly.mono (by omega), by omega, fun H3 w3 s3 f3 => ?_⟩
      have l3 : Low (m + n + 1) (minusF x (sd s z)) := sub_low lx ly (by omega)
      have v3 : val (minusF x (sd s z)) = _ := val_sub lx.pos ly.pos
      generalize minusF x (sd s z) = W3 at *
      refine ⟨_, rfl, w3, w2, W3, W2, m + 2 * n + 1, rfl, f3, f2.same s3, l3.mono (by omega), l2'.mono (by omega), by omega, fun H4 w4 s4 f4 => ?_⟩
      have l4 : Low (m + 3 * n + 2) (timesF W3 W2) := mul_low l3 l2' (by omega)
      have v4 : val (timesF W3 W2) = _ := val_mul l3.pos l2'.pos
      generalize timesF W3 W2 = W4 at *
      have S4 := (S2.trans s3).trans s4
      have S14 := (s2.trans s3).trans s4
      have n1 : W1.1 ≠ 0 := fun q => by
        have := (val_eq0 l1.pos).mp q
        grind
      have f1 := f1.same S14
      have q1 : Bd 3000 W4.1 := l4.t.mono (by omega)
      have q2 : Bd 3000 W4.2 := l4.b.mono (by omega)
      have q3 : Bd 3000 W1.1 := l1.t.mono (by omega)
      have q4 : Bd 3000 W1.2 := l1.b.mono (by omega)
      refine ⟨_, rfl, _, rfl, _, _, rfl, rfl, _, _, _, _, rfl, rfl, SqT.of (S4 _ _ er), au, ?_⟩
      refine ⟨_, rfl, _, _, _, _, rfl, rfl, SqT.of f4, at0, _, rfl, _, _, _, _, rfl, rfl, SqT.of f1, at1, _, _, rfl, rfl, q1.cm q4 (by decide), _, rfl, _, _, _, _, rfl, rfl, SqT.of f4, at1, _, rfl, _, _, _, _, rfl, rfl, SqT.of f1, at0, _, _, rfl, rfl, q2.cm q3 (by decide), ?_⟩
      refine ⟨_, _, rfl, Int.mul_ne_zero (by have := l4.pos; omega) n1, (q1.mul q4).mono (by decide), (q2.mul q3).mono (by decide), fun H5 w5 s5 f5 => ?_⟩
      have l5 : Low (m + 5 * n + 3) (rd (W4.1 * W1.2) (W4.2 * W1.1)) := div_low l4 l1 n1 (by omega)
      have v5 := val_div l4.pos l1.pos n1
      generalize rd (W4.1 * W1.2) (W4.2 * W1.1) = W5 at *
      refine ⟨u, w5, _, W5, m + 5 * n + 3, rfl, (aU.same S4).same s5, f5, lu.mono (by omega), l5, by omega, fun H6 w6 s6 f6 => ?_⟩
      refine k _ w6 i z z' (plusF (sd (1 - s) z) W5) ((S4.trans s5).trans s6) la hzi hzi' f6 (add_low lu l5 (by omega)) ?_
      have v6 : val (plusF (sd (1 - s) z) W5) = _ := val_add lu.pos l5.pos
      unfold lawLine
      rw [← v2, ← v1, ← v3, ← v4, ← v5]
      exact v6
end
end K15

set_option Elab.async false
set_option linter.all false
set_option maxRecDepth 100000
set_option maxHeartbeats 4000000
set_option exponentiation.threshold 10000
namespace K15
open PySem L2 Lb
/-- ascending on side s -/
def Asc (s : Nat) (zs : List Pt) : Prop := ∀ (i : Nat) z z', zs[i]? = some z → zs[i + 1]? = some z' → val (sd s z) < val (sd s z')
theorem Asc.far {s : Nat} {zs : List Pt} (h : Asc s zs) : ∀ (k i : Nat) z z', zs[i]? = some z → zs[i + 1 + k]? = some z' → val (sd s z) < val (sd s z')
  | 0, i, z, z', hz, hz' => h i z z' hz hz'
  | k + 1, i, z, z', hz, hz' => by
    obtain ⟨w, hw⟩ : ∃ w, zs[i + 1 + k]? = some w := ⟨_, List.getElem?_eq_getElem (by have := (List.getElem?_eq_some_iff.mp hz').1; omega)⟩
    have h1 := Asc.far h k i z w hz hw
    have h2 := h (i + 1 + k) w z' hw (by rw [show i + 1 + k + 1 = i + 1 + (k + 1) by omega]; exact hz')
    grind
theorem Asc.lt {s : Nat} {zs : List Pt} (h : Asc s zs) {i j : Nat} {z z' : Pt} (hij : i < j) (hz : zs[i]? = some z) (hz' : zs[j]? = some z') : val (sd s z) < val (sd s z') :=
  h.far (j - i - 1) i z z' hz (by rw [show i + 1 + (j - i - 1) = j by omega]; exact hz')
/-- the program's line and the law's -/
theorem line_eq {s : Nat} {zs : List Pt} {x : Q2} {i j : Nat} {z z' w w' : Pt} (h : Asc s zs) (p : PieceAt zs s x i) (l : LawAt zs s x j) (hz : zs[i]? = some z) (hz' : zs[i + 1]? = some z') (hw : zs[j]? = some w) (hw' : zs[j + 1]? = some w') :
    onLine s z z' (val x) = lawLine s w w' (val x) := by
  have lz := h i z z' hz hz'
  have lw := h j w w' hw hw'
  rcases Nat.lt_trichotomy i j with c | c | c
  · exfalso
    have h1 : val (sd s w) < val x := by
      rcases l.lo with q | ⟨y, hy, q⟩
      · omega
      · rw [hw] at hy
        cases hy
        exact q
    have h2 : val x < val (sd s z') := by
      rcases p.hi with q | ⟨y, hy, q⟩
      · have := l.lt
        omega
      · rw [hz'] at hy
        cases hy
        exact q
    rcases Nat.lt_or_ge (i + 1) j with d | d
    · have := h.lt d hz' hw
      grind
    · have e : i + 1 = j := by omega
      rw [e, hw] at hz'
      cases hz'
      grind
  · subst c
    rw [hz] at hw
    rw [hz'] at hw'
    cases hw
    cases hw'
    unfold onLine lawLine
    have n1 : val (sd s z') - val (sd s z) ≠ 0 := by grind
    grind
  · have h1 : val (sd s z) ≤ val x := by
      rcases p.lo with q | ⟨y, hy, q⟩
      · omega
      · rw [hz] at hy
        cases hy
        exact q
    have h2 : val x ≤ val (sd s w') := by
      rcases l.hi with q | ⟨y, hy, q⟩
      · have := p.lt
        omega
      · rw [hw'] at hy
        cases hy
        exact q
    rcases Nat.lt_or_ge (j + 1) i with d | d
    · have := h.lt d hw' hz
      grind
    · have e : j + 1 = i := by omega
      rw [e, hz] at hw'
      cases hw'
      have ex : val x = val (sd s z) := by grind
      unfold onLine lawLine
      rw [ex]
      have n1 : val (sd s z') - val (sd s z) ≠ 0 := by grind
      have n2 : val (sd s z) - val (sd s w) ≠ 0 := by grind
      grind
theorem four_at {a b c d : Int} {i : Int} (h0 : 0 ≤ i) (h4 : i < 4) : ∃ n, atI [V.int a, V.int b, V.int c, V.int d] i = some (.int n) ∧ (n = a ∨ n = b ∨ n = c ∨ n = d) := by
  rcases (show i = 0 ∨ i = 1 ∨ i = 2 ∨ i = 3 by omega) with rfl | rfl | rfl | rfl
  · exact ⟨a, atI_nat (j := 0) rfl, .inl rfl⟩
  · exact ⟨b, atI_nat (j := 1) rfl, .inr (.inl rfl)⟩
  · exact ⟨c, atI_nat (j := 2) rfl, .inr (.inr (.inl rfl))⟩
  · exact ⟨d, atI_nat (j := 3) rfl, .inr (.inr (.inr rfl))⟩
section
variable {P : Program} {w : World} {K : PySem.W.Frag} {mg : Str → Option Value} {base : Heap} {a : Ad}
theorem ok_step (T : Txt K mg a) : FnOk P w K mg base CX0 2 a.f_step a.d_step ["_law_pot_here"] sp_step := by
  refine T.F_step.ok sc_step (fun vs H Q E h => ?_) (fun cdv A outer s H vs Q E hr h => ?_)
  · obtain ⟨p, rfl, _⟩ := h
    rfl
  · obtain ⟨p, rfl, hp, k⟩ := h
    refine ⟨_, (pss_cons (ps_set (i := 1) sc_step.nd rfl (by first | exact Or.inl rfl | exact Or.inr rfl) (pe_op op_add pe_int (pe_call (ok_draw T) (hr.mono (by decide)) (by rfl) T.m_draw T.F_draw.kp (b_draw T) .nil pass0 (pa_cons (pv 0) (pa_cons (pe_ix (ix_listK (K := K) rfl) (pe_lst (pa_cons pe_int (pa_cons pe_int (pa_cons (pe_op op_pow pe_int pe_int) (pa_cons (pe_op op_pow pe_int pe_int) pa_nil))))) (pe_call (ok_draw T) (hr.mono (by decide)) (by rfl) T.m_draw T.F_draw.kp (b_draw T) .nil pass0 (pa_cons (pv 0) (pa_cons pe_int pa_nil))) (fun _ _ => rfl)) pa_nil)))))
 (pss_one (ps_ret (pe_call (ok_low T) (hr.mono (by decide)) (by rfl) T.m_low T.F_low.kp (b_low T) .nil pass0 (pa_cons (pv 1) (pa_cons (pe_op op_add pe_int (pe_call (ok_draw T) (hr.mono (by decide)) (by rfl) T.m_draw T.F_draw.kp (b_draw T) .nil pass0 (pa_cons (pv 0) (pa_cons (pe_ix (ix_listK (K := K) rfl) (pe_lst (pa_cons pe_int (pa_cons pe_int (pa_cons pe_int (pa_cons pe_int pa_nil))))) (pe_call (ok_draw T) (hr.mono (by decide)) (by rfl) T.m_draw T.F_draw.kp (b_draw T) .nil pass0 (pa_cons (pv 0) (pa_cons pe_int pa_nil))) (fun _ _ => rfl)) pa_nil)))) pa_nil)))))), ?_⟩
    refine ⟨_, rfl, _, _, rfl, rfl, ⟨by decide, by decide, by decide⟩, _, _, rfl, rfl, ⟨by decide, by decide, by decide⟩, sz, fun l hl => ?_⟩
    have M0 := (Mov.refl hp).same (Lb.Same.upd (o := .lst [V.int 9, V.int 9, V.int (10 ^ (4 : Int).toNat), V.int (10 ^ (8 : Int).toNat)]) hl)
    refine ⟨_, rfl, p, _, rfl, M0.pot, by decide, by unfold Bd; decide, fun H1 d m1 d0 d1 => ?_⟩
    obtain ⟨n, an, hn⟩ := four_at (a := 9) (b := 9) (c := 10 ^ (4 : Int).toNat) (d := 10 ^ (8 : Int).toNat) d0 d1
    have nb : 0 < n ∧ n ≤ 100000000 := by
      rcases hn with rfl | rfl | rfl | rfl <;> decide
    have M1 := M0.trans m1
    have nl : l ≠ p := (Mov.refl hp).ne hl
    refine ⟨_, _, _, _, rfl, rfl, SqL.mov m1 nl (SqL.of upd_same), an, p, n, rfl, M1.pot, nb.1, by unfold Bd; omega, fun H2 e m2 e0 e1 => ⟨_, _, rfl, rfl, ?_⟩⟩
    have M2 := M1.trans m2
    refine ⟨_, rfl, _, rfl, sz, fun l' hl' => ?_⟩
    have M3 := M2.same (Lb.Same.upd (o := .lst [V.int 1, V.int 1, V.int 4, V.int 8]) hl')
    have nl' : l' ≠ p := M2.ne hl'
    refine ⟨_, rfl, p, _, rfl, M3.pot, by decide, by unfold Bd; decide, fun H3 d' m3 d0' d1' => ?_⟩
    obtain ⟨n', an', hn'⟩ := four_at (a := 1) (b := 1) (c := 4) (d := 8) d0' d1'
    have nb' : 0 < n' ∧ n' ≤ 8 := by
      rcases hn' with rfl | rfl | rfl | rfl <;> decide
    have M4 := M3.trans m3
    refine ⟨_, _, _, _, rfl, rfl, SqL.mov m3 nl' (SqL.of upd_same), an', p, n', rfl, M4.pot, nb'.1, by unfold Bd; omega, fun H4 e' m4 e0' e1' => ⟨_, _, rfl, rfl, ?_⟩⟩
    have M5 := M4.trans m4
    have c0 : (1 : Int) + e' ≠ 0 := by omega
    have g1 : Bd 30 (1 + e) := by unfold Bd; omega
    have g2 : Bd 30 (1 + e') := by unfold Bd; omega
    refine ⟨_, _, rfl, c0, g1.mono (by decide), g2.mono (by decide), fun H5 q s5 f5 => ?_⟩
    have lo : Low 30 (rd (1 + e) (1 + e')) := rd_low c0 g1 g2
    refine k _ q _ (M5.same s5) f5 lo ((val_pos lo.pos).mpr ?_)
    rw [val_rd c0]
    have p1 := pos_cast (show (0 : Int) < 1 + e by omega)
    have p2 := pos_cast (show (0 : Int) < 1 + e' by omega)
    rw [Rat.div_def]
    exact Rat.mul_pos p1 (Rat.inv_pos.mpr p2)
end
end K15

set_option Elab.async false
set_option linter.all false
set_option maxRecDepth 100000
set_option maxHeartbeats 4000000
set_option exponentiation.threshold 10000
namespace K15
open PySem L2 Lb
/-- a curve: its points -/
structure Cu (A C : Addr) (H : Hp) (c : Addr) (zs : List Pt) : Prop where
  ex : ∃ dx l, H c = some (.ins C dx (putF "_points" (.ref l) [])) ∧ Crv A H l zs
theorem Cu.same {A C c : Addr} {H H' : Hp} {zs : List Pt} (h : Cu A C H c zs) (s : Same H H') : Cu A C H' c zs :=
  let ⟨dx, l, e, k⟩ := h.ex
  ⟨dx, l, s _ _ e, k.same s⟩
theorem cu_at (v : V) : (putF "_points" v ([] : List (Str × V))).lookup ("_points" : Str) = some v := by
  rw [lookup_putF, if_pos rfl]
theorem cu_no {m : Str} (v : V) (h : ¬ m = "_points") : (putF "_points" v ([] : List (Str × V))).lookup m = none := by
  rw [lookup_putF, if_neg h]
  rfl
/-- what a curve must keep to be asked -/
structure CuN (n : Nat) (zs : List Pt) : Prop where
  p : ∀ z ∈ zs, PtN n z
  l2 : 2 ≤ zs.length
  l200 : zs.length ≤ 200
  up : ∀ s, s = 0 ∨ s = 1 → Asc s zs
def sp_ask (A C : Addr) (s : Nat) : Sp := fun vs H Q _ => ∃ (c : Addr) (v : V) (zs : List Pt) (x : Q2) (n m : Nat), vs = [.ref c, v] ∧ Cu A C H c zs ∧ CuN n zs ∧ IsP A H v x.1 x.2 ∧ Low m x ∧ m + 6 * n + 10 ≤ 3000 ∧
  ∀ H' q' (i : Nat) z z' r, Same H H' → PieceAt zs s x i → zs[i]? = some z → zs[i + 1]? = some z' → AmQ A H' q' r → Low (m + 6 * n + 4) r → val r = onLine s z z' (val x) → Q (.ref q') H'
def sp_points_ (A C : Addr) : Sp := fun vs H Q _ => ∃ (c : Addr) (zs : List Pt), vs = [.ref c] ∧ Cu A C H c zs ∧ zs.length ≤ 200 ∧ ∀ H' l, Same H H' → H l = none → Crv A H' l zs → Q (.ref l) H'
def sp_is (C : Addr) : Sp := fun vs H Q _ => ∃ (p q : Addr) (x : Q2), vs = [.ref p, .ref q] ∧ AmQ C H p x ∧ FrQ H q x ∧ ∀ H', Same H H' → Q (.bl true) H'
section
variable {P : Program} {w : World} {K : PySem.W.Frag} {mg : Str → Option Value} {base : Heap} {a : Ad}
theorem ok_Curve_call_ (T : Txt K mg a) : FnOk P w K mg base CX0 7 a.f_Curve_call_ a.d_Curve_call_ ["self", "flow"] (sp_ask a.c_Amount a.c_Curve 0) := by
  refine T.F_Curve_call_.ok sc_Curve_call_ (fun vs H Q E h => ?_) (fun cdv A outer s H vs Q E hr h => ?_)
  · obtain ⟨c, v, zs, x, n, m, rfl, _⟩ := h
    rfl
  · obtain ⟨c, v, zs, x, n, m, rfl, hc, hn, iv, lx, hnm, k⟩ := h
    refine ⟨_, (pss_one (ps_ret (pe_call (ok_across T) (hr.mono (by decide)) (by rfl) T.m_across T.F_across.kp (b_across T) .nil pass0 (pa_cons (pe_fldK (K := K) rfl (pv 0) rfl) (pa_cons (pe_glob (v := .int 0) rfl T.gFlow.choose_spec ⟨_, rfl⟩) (pa_cons (pe_call (ok_amount_of T) (hr.mono (by decide)) (by rfl) T.m_amount_of T.F_amount_of.kp (b_amount_of T) .nil pass0 (pa_cons (pv 1) pa_nil)) pa_nil)))))), ?_⟩
    obtain ⟨dx, l, ec, cr⟩ := hc.ex
    refine ⟨_, rfl, c, _, dx, _, _, rfl, ec, T.cl2, T.nP, cu_at _, ?_⟩
    refine ⟨_, rfl, v, _, _, rfl, iv, lx.t.mono (by omega), fun H1 q s1 aq => ?_⟩
    exact ⟨l, q, 0, n, m, zs, x, rfl, .inl rfl, cr.same s1, hn.p, aq, lx, hnm, hn.l2, hn.l200, hn.up 0 (.inl rfl), fun H' q' i z z' r s' pc hz hz' ar lr vr => k H' q' i z z' r (s1.trans s') pc hz hz' ar lr vr⟩
theorem ok_Curveback (T : Txt K mg a) : FnOk P w K mg base CX0 7 a.f_Curveback a.d_Curveback ["self", "drop"] (sp_ask a.c_Amount a.c_Curve 1) := by
  refine T.F_Curveback.ok sc_Curveback (fun vs H Q E h => ?_) (fun cdv A outer s H vs Q E hr h => ?_)
  · obtain ⟨c, v, zs, x, n, m, rfl, _⟩ := h
    rfl
  · obtain ⟨c, v, zs, x, n, m, rfl, hc, hn, iv, lx, hnm, k⟩ := h
    refine ⟨_, (pss_one (ps_ret (pe_call (ok_across T) (hr.mono (by decide)) (by rfl) T.m_across T.F_across.kp (b_across T) .nil pass0 (pa_cons (pe_fldK (K := K) rfl (pv 0) rfl) (pa_cons (pe_glob (v := .int 1) rfl T.gDrop.choose_spec ⟨_, rfl⟩) (pa_cons (pe_call (ok_amount_of T) (hr.mono (by decide)) (by rfl) T.m_amount_of T.F_amount_of.kp (b_amount_of T) .nil pass0 (pa_cons (pv 1) pa_nil)) pa_nil)))))), ?_⟩
    obtain ⟨dx, l, ec, cr⟩ := hc.ex
    refine ⟨_, rfl, c, _, dx, _, _, rfl, ec, T.cl2, T.nP, cu_at _, ?_⟩
    refine ⟨_, rfl, v, _, _, rfl, iv, lx.t.mono (by omega), fun H1 q s1 aq => ?_⟩
    exact ⟨l, q, 1, n, m, zs, x, rfl, .inr rfl, cr.same s1, hn.p, aq, lx, hnm, hn.l2, hn.l200, hn.up 1 (.inr rfl), fun H' q' i z z' r s' pc hz hz' ar lr vr => k H' q' i z z' r (s1.trans s') pc hz hz' ar lr vr⟩
theorem ok_is (T : Txt K mg a) : FnOk P w K mg base CX0 3 a.f_is a.d_is ["_law_made", "_law_due"] (sp_is a.c_Amount) := by
  refine T.F_is.ok sc_is (fun vs H Q E h => ?_) (fun cdv A outer s H vs Q E hr h => ?_)
  · obtain ⟨p, q, x, rfl, _⟩ := h
    rfl
  · obtain ⟨p, q, x, rfl, ⟨dx, hp⟩, hq, k⟩ := h
    refine ⟨_, (pss_one (ps_ret (pe_and (pe_callB (call_isiK' (K := K) rfl) (by rfl) T.b_isinstance (by decide +kernel) (pa_cons (pv 0) (pa_cons (pe_glob (v := .ref a.c_Amount) rfl T.mA rfl) pa_nil))) (pe_one (pe_cmpR (op_eqD hr.units) (pe_tup (pa_cons (pe_prop (pv 0) T.cl T.p_top (ok_Amounttop T) (hr.mono (by decide)) (b_Amounttop T) .nil pass0 rfl) (pa_cons (pe_prop (pv 0) T.cl T.p_bottom (ok_Amountbottom T) (hr.mono (by decide)) (b_Amountbottom T) .nil pass0 rfl) pa_nil))) (pv 1) (nomark _)))))), ?_⟩
    refine ⟨_, rfl, _, _, _, _, true, rfl, .own _, .base (T.I.ty T.cl hp), Inst.kSelf, true, rfl, iteT ?_⟩
    refine ⟨_, rfl, p, dx, _, rfl, hp, p, _, _, rfl, ⟨dx, hp⟩, ?_⟩
    refine ⟨_, rfl, p, dx, _, rfl, hp, p, _, _, rfl, ⟨dx, hp⟩, sz, fun t ht => ?_⟩
    have st := Lb.Same.upd (o := .tup [V.int x.1, V.int x.2]) ht
    have dp : ∀ {b : Addr} {H' : Hp}, H' b = some (.tup [V.int x.1, V.int x.2]) → Dp K H' (.ref b) (.tuple [.int x.1, .int x.2]) := fun e => .tup (SqT.of e) (.cons (.int _) (.cons (.int _) .nil))
    refine ⟨_, rfl, _, _, dp upd_same, dp (st _ _ hq), by rfl, by rfl, ?_⟩
    have e : PyData.eqv (.tuple [.int x.1, .int x.2]) (.tuple [.int x.1, .int x.2]) = true := by
      simp [PyData.eqv, PyData.eqvAll]
    rw [e]
    exact k _ st
end
end K15

set_option Elab.async false
set_option linter.all false
set_option maxRecDepth 100000
set_option maxHeartbeats 4000000
set_option exponentiation.threshold 10000
namespace K15
open PySem L2 Lb
theorem kb_Curve_call_ {K : PySem.W.Frag} {mg : Str → Option Value} {a : Ad} (T : Txt K mg a) : KBn K a.d_Curve_call_ ["self", "flow"] 1 ["flow"] (fun us ws => us ++ ws) (fun vs zs => vs ++ zs) :=
  kbn_of T.F_Curve_call_ fun _ _ _ _ _ _ us ws h1 h2 => match us, ws, h1, h2 with | [_], [_], _, _ => rfl
theorem kb_Curveback {K : PySem.W.Frag} {mg : Str → Option Value} {a : Ad} (T : Txt K mg a) : KBn K a.d_Curveback ["self", "drop"] 1 ["drop"] (fun us ws => us ++ ws) (fun vs zs => vs ++ zs) :=
  kbn_of T.F_Curveback fun _ _ _ _ _ _ us ws h1 h2 => match us, ws, h1, h2 with | [_], [_], _, _ => rfl
theorem piece_one {s : Nat} {zs : List Pt} {x : Q2} {i j : Nat} (h : Asc s zs) (p : PieceAt zs s x i) (q : PieceAt zs s x j) : i = j := by
  have key : ∀ {i j : Nat}, PieceAt zs s x i → PieceAt zs s x j → ¬ i < j := by
    intro i j p q c
    have h1 : ∃ w, zs[j]? = some w ∧ val (sd s w) ≤ val x := by
      rcases q.lo with e | e
      · omega
      · exact e
    have h2 : ∃ w, zs[i + 1]? = some w ∧ val x < val (sd s w) := by
      rcases p.hi with e | e
      · have := q.lt
        omega
      · exact e
    obtain ⟨w, hw, c1⟩ := h1
    obtain ⟨w', hw', c2⟩ := h2
    rcases Nat.lt_or_ge (i + 1) j with d | d
    · have := h.lt d hw' hw
      grind
    · have e : i + 1 = j := by omega
      rw [e, hw] at hw'
      cases hw'
      grind
  have h1 := key p q
  have h2 := key q p
  omega
theorem div_pos' {x y : Rat} (hx : 0 ≤ x) (hy : 0 < y) : 0 ≤ x / y := by
  rw [Rat.div_def]
  exact Rat.mul_nonneg hx (Rat.le_of_lt (Rat.inv_pos.mpr hy))
/-- there and back -/
theorem line_back {s : Nat} {zs : List Pt} {x y : Q2} {i j : Nat} {z z' w w' : Pt} (hs : s = 0 ∨ s = 1) (h : ∀ s, s = 0 ∨ s = 1 → Asc s zs) (p : PieceAt zs s x i) (hz : zs[i]? = some z) (hz' : zs[i + 1]? = some z')
    (hy : val y = onLine s z z' (val x)) (q : PieceAt zs (1 - s) y j) (hw : zs[j]? = some w) (hw' : zs[j + 1]? = some w') : onLine (1 - s) w w' (val y) = val x := by
  have hs' : 1 - s = 0 ∨ 1 - s = 1 := by omega
  have a1 := h s hs i z z' hz hz'
  have a2 := h (1 - s) hs' i z z' hz hz'
  have ss : 1 - (1 - s) = s := by omega
  unfold onLine at hy
  have n1 : val (sd s z') - val (sd s z) ≠ 0 := by grind
  have n2 : val (sd (1 - s) z') - val (sd (1 - s) z) ≠ 0 := by grind
  have g1 : 0 < val (sd s z') - val (sd s z) := by grind
  have g2 : 0 < val (sd (1 - s) z') - val (sd (1 - s) z) := by grind
  have pc : PieceAt zs (1 - s) y i := by
    refine ⟨p.lt, ?_, ?_⟩
    · rcases p.lo with e | ⟨u, hu, e⟩
      · exact .inl e
      · rw [hz] at hu
        cases hu
        refine .inr ⟨z, hz, ?_⟩
        have t0 : 0 ≤ (val x - val (sd s z)) / (val (sd s z') - val (sd s z)) := div_pos' (by grind) g1
        have t1 := Rat.mul_nonneg (Rat.le_of_lt g2) t0
        grind
    · rcases p.hi with e | ⟨u, hu, e⟩
      · exact .inl e
      · rw [hz'] at hu
        cases hu
        refine .inr ⟨z', hz', ?_⟩
        have t0 : (val x - val (sd s z)) / (val (sd s z') - val (sd s z)) < 1 := by
          rw [Rat.div_def]
          have := Rat.mul_lt_mul_of_pos_right (show val x - val (sd s z) < val (sd s z') - val (sd s z) by grind) (Rat.inv_pos.mpr g1)
          have e1 : (val (sd s z') - val (sd s z)) * (val (sd s z') - val (sd s z))⁻¹ = 1 := by grind
          grind
        have t1 := Rat.mul_lt_mul_of_pos_right t0 g2
        grind
  have e := piece_one (h (1 - s) hs') q pc
  subst e
  rw [hz] at hw
  rw [hz'] at hw'
  cases hw
  cases hw'
  unfold onLine
  rw [ss, hy]
  grind
end K15

set_option Elab.async false
set_option linter.all false
set_option maxRecDepth 100000
set_option maxHeartbeats 4000000
set_option exponentiation.threshold 10000
namespace K15
open PySem L2 Lb
def sp_one_right (A C : Addr) : Sp := fun vs H Q _ => ∃ (c l q : Addr) (zs : List Pt) (x : Q2) (n m : Nat), vs = [.ref c, .ref l, .ref q] ∧ Cu A C H c zs ∧ Spots H l zs ∧ FrQ H q x ∧ CuN n zs ∧ Low m x ∧ m + 12 * n + 30 ≤ 3000 ∧ ∀ H', Same H H' → Q (.bl true) H'
theorem Cu.ins {A C c : Addr} {H : Hp} {zs : List Pt} (h : Cu A C H c zs) : ∃ dx fs, H c = some (.ins C dx fs) := let ⟨dx, l, e, _⟩ := h.ex; ⟨dx, _, e⟩
section
variable {P : Program} {w : World} {K : PySem.W.Frag} {mg : Str → Option Value} {base : Heap} {a : Ad}
theorem ok_one_right (T : Txt K mg a) : FnOk P w K mg base CX0 9 a.f_one_right a.d_one_right ["_law_made", "_law_spots", "_law_x"] (sp_one_right a.c_Amount a.c_Curve) := by
  refine T.F_one_right.ok sc_one_right (fun vs H Q E h => ?_) (fun cdv A outer s H vs Q E hr h => ?_)
  · obtain ⟨c, l, q, zs, x, n, m, rfl, _⟩ := h
    rfl
  · obtain ⟨c, l, q, zs, x, n, m, rfl, hc, hl, hq, hn, lx, hb, k⟩ := h
    refine ⟨_, (pss_cons (ps_par (i := 3) (j := 4) rfl sc_one_right.nd rfl rfl (by decide) rfl rfl (pa_cons (pe_call (ok_on T) (hr.mono (by decide)) (by rfl) T.m_on T.F_on.kp (b_on T) .nil pass0 (pa_cons (pv 1) (pa_cons (pv 2) (pa_cons pe_int pa_nil)))) (pa_cons (pe_call (ok_on T) (hr.mono (by decide)) (by rfl) T.m_on T.F_on.kp (b_on T) .nil pass0 (pa_cons (pv 1) (pa_cons (pv 2) (pa_cons pe_int pa_nil)))) pa_nil)) (by rfl))
 (pss_cons (ps_par (i := 5) (j := 6) rfl sc_one_right.nd rfl rfl (by decide) rfl rfl (pa_cons (pe_callI (pv 0) T.cCall ((ok_Curve_call_ T).raw (b_Curve_call_ T) .nil) (hr.mono (by decide)) pass0 (pa_cons (pe_call (ok_amount T) (hr.mono (by decide)) (by rfl) T.m_amount T.F_amount.kp (b_amount T) .nil pass0 (pa_cons (pv 2) pa_nil)) pa_nil)) (pa_cons (pe_meth (pv 0) T.cl2 T.mBack (ok_Curveback T) (hr.mono (by decide)) (b_Curveback T) .nil pass0 (pa_cons (pe_call (ok_amount T) (hr.mono (by decide)) (by rfl) T.m_amount T.F_amount.kp (b_amount T) .nil pass0 (pa_cons (pv 2) pa_nil)) pa_nil)) pa_nil)) (by rfl))
 (pss_cons (ps_if (PW.pt (pw_or (pt_not (pt_val (pe_call (ok_is T) (hr.mono (by decide)) (by rfl) T.m_is T.F_is.kp (b_is T) .nil pass0 (pa_cons (pv 5) (pa_cons (pv 3) pa_nil))))) (pw_or1 (pt_not (pt_val (pe_call (ok_is T) (hr.mono (by decide)) (by rfl) T.m_is T.F_is.kp (b_is T) .nil pass0 (pa_cons (pv 6) (pa_cons (pv 4) pa_nil)))))))) (pss_one (ps_ret pe_bl)) pss_nil)
 (pss_cons (ps_if (PW.pt (pw_or (pt_not (pt_val (pe_call (ok_is T) (hr.mono (by decide)) (by rfl) T.m_is T.F_is.kp (b_is T) .nil pass0 (pa_cons (pe_meth (pv 0) T.cl2 T.mBack (ok_Curveback T) (hr.mono (by decide)) (b_Curveback T) .nil pass0 (pa_cons (pv 5) pa_nil)) (pa_cons (pv 2) pa_nil))))) (pw_or1 (pt_not (pt_val (pe_call (ok_is T) (hr.mono (by decide)) (by rfl) T.m_is T.F_is.kp (b_is T) .nil pass0 (pa_cons (pe_callI (pv 0) T.cCall ((ok_Curve_call_ T).raw (b_Curve_call_ T) .nil) (hr.mono (by decide)) pass0 (pa_cons (pv 6) pa_nil)) (pa_cons (pv 2) pa_nil)))))))) (pss_one (ps_ret pe_bl)) pss_nil)
 (pss_cons (ps_set (i := 7) sc_one_right.nd rfl (by first | exact Or.inl rfl | exact Or.inr rfl) (pe_make T.mkA (ok_Amount_init_ T) (hr.mono (by decide)) (by rfl) T.mA (b_Amount_init_ T) .nil pass0 (pa_cons (pe_ix (ix_tupK (K := K) rfl) (pv 2) pe_int (fun _ _ => rfl)) (pa_cons (pe_ix (ix_tupK (K := K) rfl) (pv 2) pe_int (fun _ _ => rfl)) pa_nil))))
 (pss_one (ps_ret (pe_and (pe_call (ok_is T) (hr.mono (by decide)) (by rfl) T.m_is T.F_is.kp (b_is T) .nil pass0 (pa_cons (pe_callIK (pv 0) T.cCall (ok_Curve_call_ T) (hr.mono (by decide)) (kb_Curve_call_ T) pass0 (pk_cons (pv 7) pk_nil)) (pa_cons (pv 3) pa_nil))) (pe_one (pe_call (ok_is T) (hr.mono (by decide)) (by rfl) T.m_is T.F_is.kp (b_is T) .nil pass0 (pa_cons (pe_methK0 (pv 0) T.cl2 T.mBack (ok_Curveback T) (hr.mono (by decide)) (kb_Curveback T) pass0 (pk_cons (pv 7) pk_nil)) (pa_cons (pv 4) pa_nil)))))))))))), ?_⟩
    have A0 := hn.up 0 (.inl rfl)
    have A1 := hn.up 1 (.inr rfl)
    -- due, back
    refine ⟨_, rfl, _, rfl, l, q, 0, n, m, zs, x, rfl, .inl rfl, hl, hn.p, hq, lx, by omega, hn.l2, hn.l200, A0, fun H1 d i z z' y s1 la hz hz' fd ly vy => ?_⟩
    refine ⟨_, rfl, _, rfl, l, q, 1, n, m, zs, x, rfl, .inr rfl, hl.same s1, hn.p, hq.same s1, lx, by omega, hn.l2, hn.l200, A1, fun H2 b j u u' y' s2 lb hu hu' fb ly' vy' => ?_⟩
    refine ⟨_, _, rfl, ?_⟩
    have S2 := s1.trans s2
    have fd := fd.same s2
    have hq2 := hq.same S2
    have hc2 := hc.same S2
    -- told, undone
    refine ⟨_, rfl, c, rfl, _, rfl, q, x, m, rfl, hq2, lx, by omega, fun H3 v s3 iv => ⟨(hc2.same s3).ins, ?_⟩⟩
    refine ⟨c, v, zs, x, n, m, rfl, hc2.same s3, hn, iv, lx, by omega, fun H4 t i1 w1 w1' r s4 p1 hw1 hw1' at1_ lr vr => ?_⟩
    have er : r = y := val_inj lr ly (by rw [vr, vy]; exact line_eq A0 p1 la hw1 hw1' hz hz')
    subst er
    have S4 := s3.trans s4
    have hc4 := hc2.same S4
    obtain ⟨dx, fs, ec⟩ := hc4.ins
    obtain ⟨dx', l', ec', _⟩ := hc4.ex
    refine ⟨_, rfl, c, dx', _, rfl, ec', cu_no _ (by decide +kernel), _, rfl, q, x, m, rfl, hq2.same S4, lx, by omega, fun H5 v' s5 iv' => ?_⟩
    refine ⟨c, v', zs, x, n, m, rfl, hc4.same s5, hn, iv', lx, by omega, fun H6 t' i2 w2 w2' r' s6 p2 hw2 hw2' at2_ lr' vr' => ?_⟩
    have er' : r' = y' := val_inj lr' ly' (by rw [vr', vy']; exact line_eq A1 p2 lb hw2 hw2' hu hu')
    subst er'
    refine ⟨_, _, rfl, ?_⟩
    have S56 := s5.trans s6
    have S26 := S4.trans S56
    have fd := fd.same S26
    have fb := fb.same S26
    have at1_ := at1_.same S56
    have hc6 := hc4.same S56
    have hq6 := hq2.same S26
    -- both are due
    refine ⟨_, rfl, _, rfl, t, d, r, rfl, at1_, fd, fun H7 s7 => ⟨true, rfl, iteF ?_⟩⟩
    refine ⟨_, rfl, _, rfl, t', b, r', rfl, at2_.same s7, fb.same s7, fun H8 s8 => ⟨true, rfl, iteF ?_⟩⟩
    have S8 := s7.trans s8
    have hc8 := hc6.same S8
    have hq8 := hq6.same S8
    have at1_ := at1_.same S8
    have at2_ := at2_.same S8
    obtain ⟨d8, l8, e8, _⟩ := hc8.ex
    -- back and forth
    refine ⟨_, rfl, c, d8, _, rfl, e8, cu_no _ (by decide +kernel), _, rfl, c, .ref t, zs, r, n, m + 6 * n + 4, rfl, hc8, hn, .inr ⟨t, rfl, at1_⟩, lr, by omega, fun H9 t9 i3 w3 w3' r9 s9 p3 hw3 hw3' a9 l9 v9 => ?_⟩
    have e9 : r9 = x := val_inj l9 lx (by
      rw [v9]
      exact line_back (s := 0) (.inl rfl) hn.up p1 hw1 hw1' vr p3 hw3 hw3')
    subst e9
    refine ⟨_, rfl, t9, q, r9, rfl, a9, hq8.same s9, fun Ha sa => ⟨true, rfl, iteF ?_⟩⟩
    have S9 := s9.trans sa
    refine ⟨_, rfl, c, rfl, _, rfl, (hc8.same S9).ins, c, .ref t', zs, r', n, m + 6 * n + 4, rfl, hc8.same S9, hn, .inr ⟨t', rfl, at2_.same S9⟩, lr', by omega, fun Hb tb i4 w4 w4' rb sb p4 hw4 hw4' ab lb' vb => ?_⟩
    have eb : rb = r9 := val_inj lb' lx (by
      rw [vb]
      exact line_back (s := 1) (.inr rfl) hn.up p2 hw2 hw2' vr' p4 hw4 hw4')
    subst eb
    have Sb := S9.trans sb
    refine ⟨_, rfl, tb, q, rb, rfl, ab, hq8.same Sb, fun Hc sc' => ⟨true, rfl, iteF ?_⟩⟩
    have Sc := Sb.trans sc'
    -- the same amount, by name
    refine ⟨_, rfl, _, _, _, _, rfl, rfl, SqT.of (hq8.same Sc), at0, _, rfl, _, _, _, _, rfl, rfl, SqT.of (hq8.same Sc), at1, ?_⟩
    refine fun o dx hx hdx ne => ⟨o, dx, _, _, rfl, by have := lx.pos; omega, lx.t.mono (by omega), lx.b.mono (by omega), upd_same, fun H' kp e => ⟨rfl, ?_⟩⟩
    obtain ⟨sd', md⟩ := made_am hx hdx ne kp e
    obtain ⟨e1, e2⟩ := rd_self lx.pos lx.g
    rw [e1, e2] at md
    have Sd := Sc.trans sd'
    have S8d := S8.trans Sd
    refine ⟨_, rfl, c, rfl, _, rfl, (hc8.same Sd).ins, rfl, c, .ref o, zs, rb, n, m, rfl, hc8.same Sd, hn, .inr ⟨o, rfl, md⟩, lx, by omega, fun He te i5 w5 w5' re se p5 hw5 hw5' ae le ve => ?_⟩
    have ee : re = r := val_inj le ly (by rw [ve, vy]; exact line_eq A0 p5 la hw5 hw5' hz hz')
    subst ee
    refine ⟨_, rfl, te, d, re, rfl, ae, (fd.same S8d).same se, fun Hf sf => ⟨true, rfl, iteT ?_⟩⟩
    have Sf := se.trans sf
    obtain ⟨d9, l9', e9', _⟩ := ((hc8.same Sd).same Sf).ex
    refine ⟨_, rfl, c, d9, _, rfl, e9', cu_no _ (by decide +kernel), _, rfl, rfl, c, .ref o, zs, rb, n, m, rfl, (hc8.same Sd).same Sf, hn, .inr ⟨o, rfl, AmAt.same md Sf⟩, lx, by omega, fun Hg tg i6 w6 w6' rg sg' p6 hw6 hw6' ag lg vg => ?_⟩
    have eg : rg = r' := val_inj lg ly' (by rw [vg, vy']; exact line_eq A1 p6 lb hw6 hw6' hu hu')
    subst eg
    exact ⟨_, rfl, tg, b, rg, rfl, ag, ((fb.same S8d).same Sf).same sg', fun Hh sh => k _ ((((S2.trans S26).trans S8d).trans Sf).trans (sg'.trans sh))⟩
end
end K15

set_option Elab.async false
set_option linter.all false
set_option maxRecDepth 100000
set_option maxHeartbeats 4000000
set_option exponentiation.threshold 10000
namespace K15
open PySem L2 Lb
def sp_checkedT (K : PySem.W.Frag) (C : Addr) : Sp := fun vs H Q _ => ∃ (l : Addr) (ws : List V) (zs : List Pt) (n : Nat), vs = [.ref l] ∧ H l = some (.tup ws) ∧ Paired (PtP C H) ws zs ∧ Pts n zs ∧
  ∀ H' l', Same H H' → Crv C H' l' zs → Q (.ref l') H'
section
variable {P : Program} {w : World} {K : PySem.W.Frag} {mg : Str → Option Value} {base : Heap} {a : Ad}
theorem ok_checkedT (T : Txt K mg a) : FnOk P w K mg base CX0 7 a.f_checked a.d_checked ["points"] (sp_checkedT K a.c_Amount) := by
  refine T.F_checked.ok sc_checked (fun vs H Q E h => ?_) (fun cdv A outer s H vs Q E hr h => ?_)
  · obtain ⟨l, ws, zs, n, rfl, _⟩ := h
    rfl
  · obtain ⟨l, ws, zs, n, rfl, el, pw, ps, k⟩ := h
    refine ⟨_, (pss_cons (ps_if (PW.pt (pw_or (pt_not (pt_val (pe_callB (call_isiT (X := _)) (by rfl) T.b_isinstance (by decide +kernel) (pa_cons (pv 0) (pa_cons (pe_tup (pa_cons (pe_bltn (v := .ty "list") (by rfl) T.b_list (by decide +kernel) rfl) (pa_cons (pe_bltn (v := .ty "tuple") (by rfl) T.b_tuple (by decide +kernel) rfl) pa_nil))) pa_nil))))) (pw_or1 (pt_val (pe_callB (cr_allK (K := K) rfl rfl) (by rfl) T.b_all (by decide +kernel) (pa_cons (pe_lc (own := [("point", 1)]) (by rfl) sc_checked.nd (pi_tupK (K := K) rfl (pv 0)) (blkOk_by (own := [("point", 1)]) (N := ["points", "point", "rows", "position", "row"]) (sc := defScope s_checked) (by decide +kernel)) (fun _ _ _ _ _ => (pg_name (i := 1) sc_checked.nd rfl (by first | exact Or.inl rfl | exact Or.inr rfl))) (fun _ _ _ _ _ => pts_nil) (fun _ _ _ _ _ => (pe_call (ok_is_origin T) (hr.mono (by decide)) (by rfl) T.m_is_origin T.F_is_origin.kp (b_is_origin T) .nil pass0 (pa_cons (pv 1) pa_nil)))) pa_nil)))))) (pss_one ps_never) pss_nil)
 (pss_cons (ps_set (i := 2) sc_checked.nd rfl (by first | exact Or.inl rfl | exact Or.inr rfl) (pe_lst pa_nil))
 (pss_cons (ps_for PassesOwn.never rfl (pi_enumT (by rfl) T.b_enumerate (pa_cons (pv 0) pa_nil)) (pg_tupK (K := K) (n := 2) rfl rfl (pgs_cons (pg_name (i := 3) sc_checked.nd rfl (by first | exact Or.inl rfl | exact Or.inr rfl)) (pgs_cons (pg_name (i := 1) sc_checked.nd rfl (by first | exact Or.inl rfl | exact Or.inr rfl)) pgs_nil))) (pss_cons (ps_if (pt_not (pt_val (pe_call (ok_is_point T) (hr.mono (by decide)) (by rfl) T.m_is_point T.F_is_point.kp (b_is_point T) .nil pass0 (pa_cons (pv 1) pa_nil)))) (pss_one ps_never) pss_nil)
 (pss_cons (ps_set (i := 4) sc_checked.nd rfl (by first | exact Or.inl rfl | exact Or.inr rfl) (pe_tup (pa_cons (pe_call (ok_amount_of T) (hr.mono (by decide)) (by rfl) T.m_amount_of T.F_amount_of.kp (b_amount_of T) .nil pass0 (pa_cons (pe_ix (ix_tupK (K := K) rfl) (pv 1) (pe_glob (v := .int 0) rfl T.gFlow.choose_spec ⟨_, rfl⟩) (fun _ _ => rfl)) pa_nil)) (pa_cons (pe_call (ok_amount_of T) (hr.mono (by decide)) (by rfl) T.m_amount_of T.F_amount_of.kp (b_amount_of T) .nil pass0 (pa_cons (pe_ix (ix_tupK (K := K) rfl) (pv 1) (pe_glob (v := .int 1) rfl T.gDrop.choose_spec ⟨_, rfl⟩) (fun _ _ => rfl)) pa_nil)) pa_nil))))
 (pss_cons (ps_if (PW.pt (pw_and (pt_cmpR op_gt (pv 3) pe_int (nomark _)) (pw_and1 (pt_not (pt_val (pe_call (ok_rises_p T) (hr.mono (by decide)) (by rfl) T.m_rises_p T.F_rises_p.kp (b_rises_p T) .nil pass0 (pa_cons (pe_ix (ix_listK (K := K) rfl) (pv 2) (pe_un un_neg pe_int) (fun _ _ => rfl)) (pa_cons (pv 4) pa_nil)))))))) (pss_one ps_never) pss_nil)
 (pss_one (ps_expr (pe_bm PySem.F.plainAttrs_list PySem.F.slot_list_append PySem.F.type_list_append mt_append (pv 2) (pa_cons (pv 4) pa_nil))))))))
 (pss_cons (ps_if (pt_cmpR op_gt (pe_callB (call_lenK (K := K) rfl) (by rfl) T.b_len (by decide +kernel) (pa_cons (pv 2) pa_nil)) (pe_glob (v := .int 80) rfl T.gMost.choose_spec ⟨_, rfl⟩) (nomark _)) (pss_one ps_never) pss_nil)
 (pss_one (ps_ret (pv 2))))))), ?_⟩
    have lw : ws.length = zs.length := Paired.len pw
    have l80 := ps.most
    refine ⟨_, rfl, sz, fun tp htp => ?_⟩
    generalize e_H1 : upd _ tp _ = H1
    obtain ⟨s1, ft⟩ := al3 e_H1 htp
    clear e_H1
    (try dsimp only at ft)
    have el := s1 _ _ el
    have pw := Paired.imp pw fun _ _ h => PtP.same h s1
    refine ⟨_, tp, _, _, _, true, rfl, ft, .cons (.ty _) (.cons (.ty _) .nil), .base (.tup el), kit_lt (.inr rfl), true, rfl, iteF ?_⟩
    refine ⟨_, rfl, l, rfl, ⟨_, SqT.of el⟩, fun D hD => ?_⟩
    refine lc_tup (K := K) (a := l) (xs := ws) (fun i H' => Same H1 H' ∧ H' D = some (.lst (((zs.take i).map fun z => decide (z.1.1 = 0)).map V.bl))) ⟨Lb.Same.upd hD, upd_same⟩ (fun i H' _ b => SqT.of (b.1 _ _ el)) ?_ ?_
    · rintro i v H' hi ⟨s', eD⟩
      obtain ⟨z, hz, pz⟩ := Paired.at_ pw hi
      have lz := ps.l z (List.mem_of_getElem? hz)
      refine ⟨rfl, ?_⟩
      refine ⟨_, rfl, v, z, n, rfl, pz.same s', lz, by have := ps.n; omega, fun H'' s'' => ⟨_, s'' _ _ eD, ?_, Lb.Same.updl (s'.trans s'') hD, ?_⟩⟩
      · rw [List.length_map, List.length_map, List.length_take]
        exact szlt (by omega)
      · rw [upd_same, ← take_snoc hz, List.map_append, List.map_append]
        rfl
    rintro H2 ⟨s2, eD⟩
    rw [lw, List.take_length] at eD
    refine ⟨D, _, rfl, SqL.of eD, ?_⟩
    rw [all_org ps.some_]
    refine ⟨_, rfl, iteN (by simp) ?_⟩
    have el := s2 _ _ el
    have pw := Paired.imp pw fun _ _ h => PtP.same h s2
    have S2 := s1.trans s2
    refine ⟨sz, fun rl hrl => ?_⟩
    have sr := Lb.Same.upd (o := .lst []) hrl
    refine ⟨_, rfl, l, _, rfl, SqT.of (sr _ _ el), ?_⟩
    refine for_enumT (K := K) (a := l) (xs := ws) (fun i σ H' => ∃ u1 u3 u4, σ = [some (.ref l), u1, some (.ref rl), u3, u4] ∧ Same H2 H' ∧ ∃ rs : List Addr, H' rl = some (.lst (rs.map V.ref)) ∧ Paired (RowA a.c_Amount H') rs (zs.take i))
      ⟨_, _, _, rfl, sr, [], upd_same, .nil⟩ (fun i σ H' ⟨_, _, _, _, s, _⟩ => SqT.of (s _ _ el)) ?_ ?_
    · rintro i v T0 σ H' hi ⟨u1, u3, u4, rfl, sH, rs, er, prs⟩ hT0
      obtain ⟨z, hz, pz⟩ := Paired.at_ pw hi
      have lz := ps.l z (List.mem_of_getElem? hz)
      have lrs : rs.length = i := by
        have h1 := Paired.len prs
        have h2 := (List.getElem?_eq_some_iff.mp hz).1
        rw [List.length_take] at h1
        omega
      generalize e_H5 : upd _ T0 _ = H5
      obtain ⟨s5, f5⟩ := al3 e_H5 hT0
      clear e_H5
      (try dsimp only at f5)
      have S5 := sH.trans s5
      refine ⟨T0, _, rfl, SqT.of f5, rfl, _, _, rfl, _, _, rfl, rfl, ?_⟩
      refine ⟨_, rfl, v, z, n, rfl, pz.same S5, lz, by have := ps.n; omega, fun H6 s6 => ⟨true, rfl, iteF ?_⟩⟩
      have S6 := S5.trans s6
      obtain ⟨t, u, w', rfl, et, iu, iw⟩ := pz.same S6
      have hn := ps.n
      refine ⟨_, rfl, _, _, _, _, rfl, rfl, SqT.of et, at0, u, _, _, rfl, iu, lz.x.t.mono (by omega), fun H7 q s7 aq => ?_⟩
      refine ⟨_, rfl, _, _, _, _, rfl, rfl, SqT.of (s7 _ _ et), at1, w', _, _, rfl, iw.same s7, lz.y.t.mono (by omega), fun H8 q' s8 aq' => ⟨sz, fun r hr' => ?_⟩⟩
      generalize e_H9 : upd _ r _ = H9
      obtain ⟨s9, fr⟩ := al3 e_H9 hr'
      clear e_H9
      (try dsimp only at fr)
      have S69 := (s7.trans s8).trans s9
      have S9 := S6.trans S69
      have S59 := s6.trans S69
      have row : RowA a.c_Amount H9 r z := ⟨q, q', fr, (aq.same s8).same s9, aq'.same s9⟩
      have er := (s5.trans S59) _ _ er
      have prs := Paired.imp prs fun _ _ h => RowA.same h (s5.trans S59)
      have fin : ∀ σ', σ' = [some (V.ref l), some (V.ref t), some (V.ref rl), some (V.int i), some (V.ref r)] → ∃ u1 u3 u4, σ' = [some (.ref l), u1, some (.ref rl), u3, u4] ∧ Same H2 (upd H9 rl (.lst (rs.map V.ref ++ [V.ref r]))) ∧ ∃ rs' : List Addr, (upd H9 rl (.lst (rs.map V.ref ++ [V.ref r]))) rl = some (.lst (rs'.map V.ref)) ∧ Paired (RowA a.c_Amount (upd H9 rl (.lst (rs.map V.ref ++ [V.ref r])))) rs' (zs.take (i + 1)) := by
        intro σ' e
        have nl : ∀ {b : Addr} {z : Pt}, RowA a.c_Amount H9 b z → RowA a.c_Amount (upd H9 rl (.lst (rs.map V.ref ++ [V.ref r]))) b z := by
          rintro b z ⟨p1, p2, e1, ⟨d1, a1⟩, d2, a2⟩
          have ne : ∀ {c : Addr} {o : HO}, H9 c = some o → (∀ x, o ≠ .lst x) → upd H9 rl (.lst (rs.map V.ref ++ [V.ref r])) c = some o := fun {c o} hc ho => by
            have : c ≠ rl := fun q => by rw [q, er] at hc; exact ho _ (Option.some.inj hc).symm
            rw [upd_ne this]
            exact hc
          exact ⟨p1, p2, ne e1 (fun _ q => nomatch q), ⟨d1, ne a1 (fun _ q => nomatch q)⟩, d2, ne a2 (fun _ q => nomatch q)⟩
        refine ⟨_, _, _, e, Lb.Same.updl S9 hrl, rs ++ [r], by rw [upd_same, List.map_append]; rfl, ?_⟩
        rw [← take_snoc hz]
        exact paired_snoc (Paired.imp prs fun _ _ h => nl h) (nl row)
      refine ⟨_, rfl, _, _, rfl, rfl, _, rfl, ite2 (fun h0 => ?_) (fun h0 => ?_)⟩
      · have h0 : 0 < i := by
          have : (i : Int) > 0 := of_decide_eq_true h0
          omega
        obtain ⟨z0, hz0⟩ : ∃ z0, zs[i - 1]? = some z0 := ⟨_, List.getElem?_eq_getElem (by have := (List.getElem?_eq_some_iff.mp hz).1; omega)⟩
        have hz' : zs[i - 1 + 1]? = some z := by rw [show i - 1 + 1 = i by omega]; exact hz
        have up := ps.up (i - 1) z0 z hz0 hz'
        have lz0 := ps.l z0 (List.mem_of_getElem? hz0)
        obtain ⟨r0, hr0, row0⟩ := Paired.at_r prs (i := i - 1) (b := z0) (by rw [List.getElem?_take, if_pos (by omega)]; exact hz0)
        have at0' : atI (rs.map V.ref) (-1) = some (.ref r0) := by
          rw [atI_last (j := i - 1) (by rw [List.length_map]; omega), List.getElem?_map, hr0]
          rfl
        refine ⟨_, rfl, _, rfl, _, _, _, _, rfl, rfl, SqL.of er, at0', _, rfl, r0, r, z0, z, n, rfl, row0, row, lz0, lz, by omega, up.1, up.2, true, rfl, iteF ?_⟩
        refine ⟨_, rfl, .inl ⟨rfl, _, SqL.of er⟩, _, rfl, rl, _, _, rfl, rfl, er, szlt (by rw [List.length_map]; have := (List.getElem?_eq_some_iff.mp hz).1; omega), fin _ rfl⟩
      · refine ⟨_, rfl, .inl ⟨rfl, _, SqL.of er⟩, _, rfl, rl, _, _, rfl, rfl, er, szlt (by rw [List.length_map]; have := (List.getElem?_eq_some_iff.mp hz).1; omega), fin _ rfl⟩
    · rintro σ H5 ⟨u1, u3, u4, rfl, S5, rs, er, prs⟩
      rw [lw, List.take_length] at prs
      refine ⟨_, rfl, _, _, rfl, .inl (SqL.of er), _, _, rfl, rfl, _, rfl, iteN ?_ ?_⟩
      · have := Paired.len prs
        rw [List.length_map, decide_eq_true_eq]
        omega
      · exact ⟨_, rfl, k _ rl (S2.trans S5) ⟨rs, er, prs⟩⟩
end
end K15

set_option Elab.async false
set_option linter.all false
set_option maxRecDepth 100000
set_option maxHeartbeats 4000000
set_option exponentiation.threshold 10000
namespace K15
open PySem L2 Lb
/-- an instance that has no field yet is no part of a curve's points -/
theorem Crv.kept {A C q dx l : Addr} {H : Hp} {o : HO} {zs : List Pt} (h : Crv A H l zs) (hq : H q = some (.ins C dx [])) : Crv A (upd H q o) l zs := by
  have far : ∀ {b : Addr} {o' : HO}, H b = some o' → (∀ D d, o' ≠ .ins D d []) → upd H q o b = some o' := fun {b o'} hb no => by
    have : b ≠ q := by
      rintro rfl
      rw [hq] at hb
      exact no _ _ (Option.some.inj hb).symm
    rw [upd_ne this]
    exact hb
  have am_ne : ∀ {t b : Int} {D d D' d' : Addr}, HO.ins D d (am t b) ≠ .ins D' d' [] := by
    intro t b D d D' d' e
    injection e with _ _ e
    have := congrArg (fun f => f.lookup ("_top" : Str)) e
    cases this
  obtain ⟨rs, e, p⟩ := h.ex
  refine ⟨rs, far e (fun _ _ z => nomatch z), Paired.imp p ?_⟩
  rintro r z ⟨p1, p2, e1, ⟨d1, a1⟩, d2, a2⟩
  exact ⟨p1, p2, far e1 (fun _ _ z => nomatch z), ⟨d1, far a1 fun _ _ => am_ne⟩, d2, far a2 fun _ _ => am_ne⟩
def sp_Curve_init_ (A C : Addr) : Sp := fun vs H Q _ => ∃ (q dx l : Addr) (ws : List V) (zs : List Pt) (n : Nat), vs = [.ref q, .ref l] ∧ (H l = some (.lst ws) ∨ H l = some (.tup ws)) ∧ Paired (PtP A H) ws zs ∧ Pts n zs ∧ H q = some (.ins C dx []) ∧
  ∀ H' l', (∀ x o, x ≠ q → H x = some o → H' x = some o) → H l' = none → Crv A H' l' (withO zs) → H' q = some (.ins C dx (putF "_points" (.ref l') [])) → Q .non H'
section
variable {P : Program} {w : World} {K : PySem.W.Frag} {mg : Str → Option Value} {base : Heap} {a : Ad}
theorem ok_Curve_init_ (T : Txt K mg a) : FnOk P w K mg base CX0 8 a.f_Curve_init_ a.d_Curve_init_ ["self", "points"] (sp_Curve_init_ a.c_Amount a.c_Curve) := by
  refine T.F_Curve_init_.ok sc_Curve_init_ (fun vs H Q E h => ?_) (fun cdv A outer s H vs Q E hr h => ?_)
  · obtain ⟨q, dx, l, ws, zs, n, rfl, _⟩ := h
    rfl
  · obtain ⟨q, dx, l, ws, zs, n, rfl, el, pw, ps, hq, k⟩ := h
    have rest : ∀ {H1 : Hp} {l1 : Addr}, Same H H1 → H l1 = none → Crv a.c_Amount H1 l1 (withO zs) → Q .non (upd H1 q (.ins a.c_Curve dx (putF "_points" (.ref l1) []))) := by
      intro H1 l1 s1 n1 c1
      refine k _ l1 (fun x o n e => ?_) n1 (c1.kept (s1 _ _ hq)) upd_same
      rw [upd_ne n]
      exact s1 _ _ e
    rcases el with el | el
    · refine ⟨_, (pss_one (ps_fldK (K := K) rfl (pv 0) (pe_call (ok_with_origin T) (hr.mono (by decide)) (by rfl) T.m_with_origin T.F_with_origin.kp (b_with_origin T) .nil pass0 (pa_cons (pe_call (ok_checkedL T) (hr.mono (by decide)) (by rfl) T.m_checked T.F_checked.kp (b_checked T) .nil pass0 (pa_cons (pv 1) pa_nil)) pa_nil)) rfl)), ?_⟩
      refine ⟨_, rfl, l, ws, zs, n, rfl, el, pw, ps, fun H1 l1 s1 c1 => ⟨l1, zs, rfl, c1, by have := ps.most; omega, fun H2 l2 s2 n2 c2 => ?_⟩⟩
      exact ⟨_, rfl, q, _, dx, _, rfl, (s1.trans s2) _ _ hq, T.cl2, T.nP, (by show 0 < 1000; decide), rest (s1.trans s2) (s1.free' n2) c2⟩
    · refine ⟨_, (pss_one (ps_fldK (K := K) rfl (pv 0) (pe_call (ok_with_origin T) (hr.mono (by decide)) (by rfl) T.m_with_origin T.F_with_origin.kp (b_with_origin T) .nil pass0 (pa_cons (pe_call (ok_checkedT T) (hr.mono (by decide)) (by rfl) T.m_checked T.F_checked.kp (b_checked T) .nil pass0 (pa_cons (pv 1) pa_nil)) pa_nil)) rfl)), ?_⟩
      refine ⟨_, rfl, l, ws, zs, n, rfl, el, pw, ps, fun H1 l1 s1 c1 => ⟨l1, zs, rfl, c1, by have := ps.most; omega, fun H2 l2 s2 n2 c2 => ?_⟩⟩
      exact ⟨_, rfl, q, _, dx, _, rfl, (s1.trans s2) _ _ hq, T.cl2, T.nP, (by show 0 < 1000; decide), rest (s1.trans s2) (s1.free' n2) c2⟩
end
end K15

set_option Elab.async false
set_option linter.all false
set_option maxRecDepth 100000
set_option maxHeartbeats 4000000
set_option exponentiation.threshold 10000
namespace K15
open PySem L2 Lb
section
variable {P : Program} {w : World} {K : PySem.W.Frag} {mg : Str → Option Value} {base : Heap} {a : Ad}
theorem ok_Curvepoints (T : Txt K mg a) : FnOk P w K mg base CX0 2 a.f_Curvepoints a.d_Curvepoints ["self"] (sp_points_ a.c_Amount a.c_Curve) := by
  refine T.F_Curvepoints.ok sc_Curvepoints (fun vs H Q E h => ?_) (fun cdv A outer s H vs Q E hr h => ?_)
  · obtain ⟨c, zs, rfl, _⟩ := h
    rfl
  · obtain ⟨c, zs, rfl, hc, _, k⟩ := h
    refine ⟨_, (pss_one (ps_ret (pe_callTy call_list_of (by rfl) T.b_list (by decide +kernel) (pa_cons (pe_fldK (K := K) rfl (pv 0) rfl) pa_nil)))), ?_⟩
    obtain ⟨dx, l, ec, cr⟩ := hc.ex
    obtain ⟨rs, el, pr⟩ := cr.ex
    refine ⟨_, rfl, c, _, dx, _, _, rfl, ec, T.cl2, T.nP, cu_at _, ?_⟩
    refine ⟨_, _, rfl, .inl (SqL.of el), fun q hq => ?_⟩
    have sm := Lb.Same.upd (o := .lst (rs.map V.ref)) hq
    exact k _ q sm hq ⟨rs, upd_same, Paired.imp pr fun _ _ h => h.same sm⟩
/-- what Curve.straight makes, its steepness told -/
def sp_straight (K : PySem.W.Frag) (A C : Addr) : Sp := fun vs H Q _ => ∃ (v : V) (x : Q2) (n : Nat), vs = [v] ∧ IsP A H v x.1 x.2 ∧ Low n x ∧ n ≤ 1000 ∧ 0 < x.1 ∧ ∀ H' c, Same H H' → Cu A C H' c [org, (x, (1, 1))] → Q (.ref c) H'
theorem ok_Curvestraight (T : Txt K mg a) : FnOk P w K mg base CX0 10 a.f_Curvestraight a.d_Curvestraight ["conductance"] (sp_straight K a.c_Amount a.c_Curve) := by
  refine T.F_Curvestraight.ok sc_Curvestraight (fun vs H Q E h => ?_) (fun cdv A outer s H vs Q E hr h => ?_)
  · obtain ⟨v, x, n, rfl, _⟩ := h
    rfl
  · obtain ⟨v, x, n, rfl, iv, lx, hn, hx, k⟩ := h
    refine ⟨_, (pss_cons (ps_if (PW.pt (pw_or (pt_not (pt_val (pe_call (ok_is_amount T) (hr.mono (by decide)) (by rfl) T.m_is_amount T.F_is_amount.kp (b_is_amount T) .nil pass0 (pa_cons (pv 0) pa_nil)))) (pw_or1 (pt_cmpR op_ne (pe_prop (pe_call (ok_amount_of T) (hr.mono (by decide)) (by rfl) T.m_amount_of T.F_amount_of.kp (b_amount_of T) .nil pass0 (pa_cons (pv 0) pa_nil)) T.cl T.p_sign (ok_Amountsign T) (hr.mono (by decide)) (b_Amountsign T) .nil pass0 rfl) pe_int (nomark _))))) (pss_one ps_never) pss_nil)
 (pss_one (ps_ret (pe_make T.mkC (ok_Curve_init_ T) (hr.mono (by decide)) (by rfl) T.mC (b_Curve_init_ T) .nil pass0 (pa_cons (pe_lst (pa_cons (pe_tup (pa_cons (pv 0) (pa_cons pe_int pa_nil))) pa_nil)) pa_nil))))), ?_⟩
    refine ⟨_, rfl, v, _, _, rfl, iv, true, rfl, iteF ?_⟩
    refine ⟨_, rfl, v, _, _, rfl, iv, lx.t.mono (by omega), fun H1 q s1 aq => ?_⟩
    obtain ⟨dq, eq⟩ := id aq
    have one : sg x.1 = 1 := by
      unfold sg
      rw [if_neg (by omega), if_pos hx]
    refine ⟨q, dq, _, rfl, eq, q, _, _, rfl, aq, rfl, _, rfl, iteN ?_ ?_⟩
    · show ¬ (!decide (V.int (sg x.1) = V.int 1)) = true
      rw [one]
      simp
    refine ⟨_, rfl, sz, fun t ht => ⟨sz, fun l hl c dx hc hdx ne => ?_⟩⟩
    have s2 := Lb.Same.upd (o := .tup [v, .int 1]) ht
    have s3 := Lb.Same.upd (o := .lst [.ref t]) hl
    have s4 : Same _ (upd (upd (upd (upd H1 t (.tup [v, .int 1])) l (.lst [.ref t])) dx (.own c)) c (.ins a.c_Curve dx [])) := fun y o hy => by
      rw [upd_ne (ne_of_none hy hc), upd_ne (ne_of_none hy hdx)]
      exact hy
    have S := s1.trans (s2.trans (s3.trans s4))
    have S0 := s1.trans (s2.trans s3)
    refine ⟨c, dx, l, _, [(x, (1, 1))], n + 1, rfl, .inl (s4 _ _ upd_same), .cons ⟨t, v, .int 1, rfl, (s3.trans s4) _ _ upd_same, iv.same S, .inl ⟨rfl, rfl⟩⟩ .nil, ?_, upd_same, fun H' l' kp _ cr e => ⟨rfl, k H' c (fun y o hy => kp y o (ne_of_none (S0 _ _ hy) hc) (S _ _ hy)) ⟨dx, l', e, ?_⟩⟩⟩
    · refine ⟨fun z hz => ?_, by omega, fun i z z' _ h1 => ?_, ⟨_, List.mem_singleton.mpr rfl, by show x.1 ≠ 0; omega⟩, by show 1 ≤ 80; decide⟩
      · rw [List.mem_singleton.mp hz]
        exact ⟨lx.mono (by omega), ⟨bd_one, bd_one, by show (0 : Int) < 1; decide, by show Int.gcd 1 1 = 1; decide⟩, by rw [one]; rfl⟩
      · cases h1
    · have w1 : withO [(x, ((1, 1) : Q2))] = [org, (x, (1, 1))] := by
        unfold withO isNeg isPos
        simp [hx, show ¬ x.1 < 0 by omega]
      rw [← w1]
      exact cr
end
end K15

set_option Elab.async false
set_option linter.all false
set_option maxRecDepth 100000
set_option maxHeartbeats 4000000
set_option exponentiation.threshold 10000
namespace K15
open PySem L2 Lb
open C8 (pss_cut)
theorem SpR.nl {H H' : Hp} {r : Addr} {z : Pt} (h : SpR H r z) (s : NL H H') : SpR H' r z :=
  let ⟨p, q, e, a, b⟩ := h
  ⟨p, q, s _ _ (fun _ z => nomatch z) e, s _ _ (fun _ z => nomatch z) a, s _ _ (fun _ z => nomatch z) b⟩
theorem FrQ.nl {H H' : Hp} {q : Addr} {x : Q2} (h : FrQ H q x) (s : NL H H') : FrQ H' q x := s _ _ (fun _ z => nomatch z) h
theorem Spots.mov {p l : Addr} {H H' : Hp} {zs : List Pt} (h : Spots H l zs) (m : Mov p H H') (hp : PotAt H p) (n : l ≠ p) : Spots H' l zs :=
  let ⟨rs, e, q⟩ := h.ex
  ⟨rs, m.keep _ _ n e, Paired.imp q fun _ _ x => x.nl (NL.mov m hp)⟩
theorem org_low {n : Nat} : Low (n + 1) ((0, 1) : Q2) := ⟨(show (0 : Nat) < 2 ^ (n + 1) from Nat.pow_pos (by decide)), bd_one, by decide, by decide⟩
theorem PtL.mono {n m : Nat} {z : Pt} (h : PtL n z) (k : n ≤ m) : PtL m z := ⟨h.x.mono k, h.y.mono k, h.s⟩
theorem sg_p {t : Int} (h : 0 < t) : sg t = 1 := by
  unfold sg
  rw [if_neg (by omega), if_pos h]
theorem sg_n {t : Int} (h : t < 0) : sg t = -1 := by
  unfold sg
  rw [if_neg (by omega), if_neg (by omega)]
theorem asc_snoc {s : Nat} {zs : List Pt} {z z' : Pt} (h : Asc s zs) (hl : zs[zs.length - 1]? = some z') (lt : val (sd s z') < val (sd s z)) : Asc s (zs ++ [z]) := by
  intro i y y' hy hy'
  have hlt := (List.getElem?_eq_some_iff.mp hy').1
  rw [List.length_append, List.length_singleton] at hlt
  rcases Nat.lt_or_ge (i + 1) zs.length with c | c
  · rw [List.getElem?_append_left (by omega)] at hy
    rw [List.getElem?_append_left c] at hy'
    exact h i y y' hy hy'
  · have e : i + 1 = zs.length := by omega
    rw [List.getElem?_append_left (by omega)] at hy
    rw [List.getElem?_append_right (by omega), e, Nat.sub_self] at hy'
    rw [show i = zs.length - 1 by omega, hl] at hy
    have e1 := Option.some.inj hy
    have e2 : z = y' := by simpa using hy'
    rw [← e1, ← e2]
    exact lt
theorem asc_cons {s : Nat} {zs : List Pt} {z : Pt} (h : Asc s zs) (lt : ∀ y, zs[0]? = some y → val (sd s z) < val (sd s y)) : Asc s (z :: zs) := by
  intro i y y' hy hy'
  cases i with
  | zero =>
    have e : z = y := by simpa using hy
    rw [← e]
    exact lt y' (by simpa using hy')
  | succ i => exact h i y y' (by simpa using hy) (by simpa using hy')
/-- points, those below, (0, 0), those above -/
structure LQ (n : Nat) (zs : List Pt) : Prop where
  l : ∀ z ∈ zs, PtL n z
  up : ∀ s, s = 0 ∨ s = 1 → Asc s zs
  ex : ∃ ns ps, zs = ns ++ org :: ps ∧ (∀ z ∈ ns, z.1.1 < 0) ∧ (∀ z ∈ ps, 0 < z.1.1)
theorem LQ.start {n : Nat} : LQ (n + 1) [org] := by
  refine ⟨fun z hz => ?_, fun s _ i z z' _ h => ?_, [], [], rfl, fun z hz => absurd hz List.not_mem_nil, fun z hz => absurd hz List.not_mem_nil⟩
  · rw [List.mem_singleton.mp hz]
    exact ⟨org_low, org_low, rfl⟩
  · have := (List.getElem?_eq_some_iff.mp h).1
    simp at this
theorem LQ.snoc {n m : Nat} {zs : List Pt} {z z' : Pt} (h : LQ n zs) (hl : zs[zs.length - 1]? = some z') (hnm : n ≤ m) (lx : Low m z.1) (ly : Low m z.2) (h0 : val z'.1 < val z.1) (h1 : val z'.2 < val z.2) : LQ m (zs ++ [z]) := by
  have up : ∀ s, s = 0 ∨ s = 1 → Asc s (zs ++ [z]) := by
    rintro s (rfl | rfl)
    · exact asc_snoc (h.up 0 (.inl rfl)) hl h0
    · exact asc_snoc (h.up 1 (.inr rfl)) hl h1
  obtain ⟨ns, ps, e, hn, hp⟩ := h.ex
  have eo : (zs ++ [z])[ns.length]? = some org := by rw [e]; simp
  have ez : (zs ++ [z])[zs.length]? = some z := by simp
  have lt : ns.length < zs.length := by rw [e]; simp
  have p0 := (up 0 (.inl rfl)).lt lt eo ez
  have p1 := (up 1 (.inr rfl)).lt lt eo ez
  have q0 : 0 < z.1.1 := (val_pos lx.pos).mpr (by
    rw [show val (sd 0 org) = 0 from val_zero] at p0
    exact p0)
  have q1 : 0 < z.2.1 := (val_pos ly.pos).mpr (by
    rw [show val (sd 1 org) = 0 from val_zero] at p1
    exact p1)
  refine ⟨fun y hy => ?_, up, ns, ps ++ [z], by rw [e]; simp, hn, fun y hy => ?_⟩
  · rcases List.mem_append.mp hy with hy | hy
    · exact (h.l y hy).mono hnm
    · rw [List.mem_singleton.mp hy]
      exact ⟨lx, ly, by rw [sg_p q0, sg_p q1]⟩
  · rcases List.mem_append.mp hy with hy | hy
    · exact hp y hy
    · rw [List.mem_singleton.mp hy]
      exact q0
theorem LQ.cons {n m : Nat} {zs : List Pt} {z z' : Pt} (h : LQ n zs) (hl : zs[0]? = some z') (hnm : n ≤ m) (lx : Low m z.1) (ly : Low m z.2) (h0 : val z.1 < val z'.1) (h1 : val z.2 < val z'.2) : LQ m (z :: zs) := by
  have up : ∀ s, s = 0 ∨ s = 1 → Asc s (z :: zs) := by
    rintro s (rfl | rfl)
    · exact asc_cons (h.up 0 (.inl rfl)) fun y hy => by
        rw [hl] at hy
        cases hy
        exact h0
    · exact asc_cons (h.up 1 (.inr rfl)) fun y hy => by
        rw [hl] at hy
        cases hy
        exact h1
  obtain ⟨ns, ps, e, hn, hp⟩ := h.ex
  have eo : (z :: zs)[ns.length + 1]? = some org := by rw [e]; simp
  have ez : (z :: zs)[0]? = some z := rfl
  have p0 := (up 0 (.inl rfl)).lt (Nat.succ_pos _) ez eo
  have p1 := (up 1 (.inr rfl)).lt (Nat.succ_pos _) ez eo
  have q0 : z.1.1 < 0 := (val_negl lx.pos).mpr (by
    rw [show val (sd 0 org) = 0 from val_zero] at p0
    exact p0)
  have q1 : z.2.1 < 0 := (val_negl ly.pos).mpr (by
    rw [show val (sd 1 org) = 0 from val_zero] at p1
    exact p1)
  refine ⟨fun y hy => ?_, up, z :: ns, ps, by rw [e]; simp, fun y hy => ?_, hp⟩
  · rcases List.mem_cons.mp hy with hy | hy
    · rw [hy]
      exact ⟨lx, ly, by rw [sg_n q0, sg_n q1]⟩
    · exact (h.l y hy).mono hnm
  · rcases List.mem_cons.mp hy with hy | hy
    · rw [hy]
      exact q0
    · exact hn y hy
/-- the law's points -/
structure LP (zs : List Pt) : Prop where
  q : LQ 160 zs
  l2 : 2 ≤ zs.length
  l11 : zs.length ≤ 11
def sp_points : Sp := fun vs H Q _ => ∃ (p : Addr), vs = [.ref p] ∧ PotAt H p ∧ ∀ H' l zs, Mov p H H' → H l = none → Spots H' l zs → LP zs → Q (.ref l) H'
section
variable {P : Program} {w : World} {K : PySem.W.Frag} {mg : Str → Option Value} {base : Heap} {a : Ad}
theorem ok_points (T : Txt K mg a) : FnOk P w K mg base CX0 3 a.f_points a.d_points ["_law_pot_here"] sp_points := by
  refine T.F_points.ok sc_points (fun vs H Q E h => ?_) (fun cdv A outer s H vs Q E hr h => ?_)
  · obtain ⟨p, rfl, _⟩ := h
    rfl
  · obtain ⟨p, rfl, hp, k⟩ := h
    refine ⟨_, (pss_cons (ps_set (i := 1) sc_points.nd rfl (by first | exact Or.inl rfl | exact Or.inr rfl) (pe_lst (pa_cons (pe_call (ok_draw T) (hr.mono (by decide)) (by rfl) T.m_draw T.F_draw.kp (b_draw T) .nil pass0 (pa_cons (pv 0) (pa_cons pe_int pa_nil))) (pa_cons (pe_call (ok_draw T) (hr.mono (by decide)) (by rfl) T.m_draw T.F_draw.kp (b_draw T) .nil pass0 (pa_cons (pv 0) (pa_cons pe_int pa_nil))) pa_nil))))
 (pss_cut (ps_if (pt_cmpR (op_eqD hr.units) (pv 1) (pe_lst (pa_cons pe_int (pa_cons pe_int pa_nil))) (nomark _)) (pss_one (ps_asg pe_int (pg_sub (pv 1) (pe_call (ok_draw T) (hr.mono (by decide)) (by rfl) T.m_draw T.F_draw.kp (b_draw T) .nil pass0 (pa_cons (pv 0) (pa_cons pe_int pa_nil))) set_list))) pss_nil)
 (pss_cons (ps_set (i := 2) sc_points.nd rfl (by first | exact Or.inl rfl | exact Or.inr rfl) (pe_lst (pa_cons (pe_tup (pa_cons (pe_tup (pa_cons pe_int (pa_cons pe_int pa_nil))) (pa_cons (pe_tup (pa_cons pe_int (pa_cons pe_int pa_nil))) pa_nil))) pa_nil)))
 (pss_cons (ps_for PassesOwn.never rfl (pi_range1 rfl T.b_range (pa_cons (pe_ix (ix_listK (K := K) rfl) (pv 1) pe_int (fun _ _ => rfl)) pa_nil)) (pg_name (i := 3) sc_points.nd rfl (by first | exact Or.inl rfl | exact Or.inr rfl)) (pss_one (ps_expr (pe_bm PySem.F.plainAttrs_list PySem.F.slot_list_append PySem.F.type_list_append mt_append (pv 2) (pa_cons (pe_tup (pa_cons (pe_call (ok_plus T) (hr.mono (by decide)) (by rfl) T.m_plus T.F_plus.kp (b_plus T) .nil pass0 (pa_cons (pe_ix (ix_tupK (K := K) rfl) (pe_ix (ix_listK (K := K) rfl) (pv 2) (pe_un un_neg pe_int) (fun _ _ => rfl)) pe_int (fun _ _ => rfl)) (pa_cons (pe_call (ok_step T) (hr.mono (by decide)) (by rfl) T.m_step T.F_step.kp (b_step T) .nil pass0 (pa_cons (pv 0) pa_nil)) pa_nil))) (pa_cons (pe_call (ok_plus T) (hr.mono (by decide)) (by rfl) T.m_plus T.F_plus.kp (b_plus T) .nil pass0 (pa_cons (pe_ix (ix_tupK (K := K) rfl) (pe_ix (ix_listK (K := K) rfl) (pv 2) (pe_un un_neg pe_int) (fun _ _ => rfl)) pe_int (fun _ _ => rfl)) (pa_cons (pe_call (ok_step T) (hr.mono (by decide)) (by rfl) T.m_step T.F_step.kp (b_step T) .nil pass0 (pa_cons (pv 0) pa_nil)) pa_nil))) pa_nil))) pa_nil)))))
 (pss_cons (ps_for PassesOwn.never rfl (pi_range1 rfl T.b_range (pa_cons (pe_ix (ix_listK (K := K) rfl) (pv 1) pe_int (fun _ _ => rfl)) pa_nil)) (pg_name (i := 3) sc_points.nd rfl (by first | exact Or.inl rfl | exact Or.inr rfl)) (pss_cons (ps_set (i := 4) sc_points.nd rfl (by first | exact Or.inl rfl | exact Or.inr rfl) (pe_tup (pa_cons (pe_call (ok_minus T) (hr.mono (by decide)) (by rfl) T.m_minus T.F_minus.kp (b_minus T) .nil pass0 (pa_cons (pe_ix (ix_tupK (K := K) rfl) (pe_ix (ix_listK (K := K) rfl) (pv 2) pe_int (fun _ _ => rfl)) pe_int (fun _ _ => rfl)) (pa_cons (pe_call (ok_step T) (hr.mono (by decide)) (by rfl) T.m_step T.F_step.kp (b_step T) .nil pass0 (pa_cons (pv 0) pa_nil)) pa_nil))) (pa_cons (pe_call (ok_minus T) (hr.mono (by decide)) (by rfl) T.m_minus T.F_minus.kp (b_minus T) .nil pass0 (pa_cons (pe_ix (ix_tupK (K := K) rfl) (pe_ix (ix_listK (K := K) rfl) (pv 2) pe_int (fun _ _ => rfl)) pe_int (fun _ _ => rfl)) (pa_cons (pe_call (ok_step T) (hr.mono (by decide)) (by rfl) T.m_step T.F_step.kp (b_step T) .nil pass0 (pa_cons (pv 0) pa_nil)) pa_nil))) pa_nil))))
 (pss_one (ps_set (i := 2) sc_points.nd rfl (by first | exact Or.inl rfl | exact Or.inr rfl) (pe_op op_cat (pe_lst (pa_cons (pv 4) pa_nil)) (pv 2))))))
 (pss_one (ps_ret (pv 2)))))))), ?_⟩
    refine ⟨_, rfl, p, _, rfl, hp, by decide, by unfold Bd; decide, fun H1 d1 m1 a0 a1 => ?_⟩
    refine ⟨_, rfl, p, _, rfl, m1.pot, by decide, by unfold Bd; decide, fun H2 d2 m2 b0 b1 => ⟨sz, fun sl hsl => ?_⟩⟩
    obtain ⟨na, rfl⟩ := Int.eq_ofNat_of_zero_le a0
    obtain ⟨nb, rfl⟩ := Int.eq_ofNat_of_zero_le b0
    have M2 := m1.trans m2
    have nsl : sl ≠ p := M2.ne hsl
    have fsl := M2.free hp hsl
    generalize e_H3 : upd _ sl _ = H3
    obtain ⟨s3, e3⟩ := al3 e_H3 hsl
    clear e_H3
    (try dsimp only at e3)
    have M3 := M2.same s3
    refine ⟨fun σ H' => ∃ x y : Nat, x ≤ 5 ∧ y ≤ 5 ∧ 0 < x + y ∧ σ = [some (.ref p), some (.ref sl), none, none, none] ∧ Mov p H H' ∧ H' sl = some (.lst [.int (x : Int), .int (y : Int)]), ?_, ?_⟩
    · refine ⟨_, rfl, sz, fun l hl => ?_⟩
      have sl' := Lb.Same.upd (o := .lst [V.int 0, V.int 0]) hl
      have M4 := M3.same sl'
      have e4 := sl' _ _ e3
      have e5 : (upd H3 l (.lst [V.int 0, V.int 0])) l = some (.lst [V.int 0, V.int 0]) := upd_same
      generalize upd H3 l (.lst [V.int 0, V.int 0]) = H4 at *
      refine ⟨_, _, .lst (SqL.of e4) (.cons (.int _) (.cons (.int _) .nil)), .lst (SqL.of e5) (.cons (.int _) (.cons (.int _) .nil)), by rfl, by rfl, _, rfl, ?_⟩
      rw [eqv2]
      refine ite2 (fun h0 => ?_) (fun h0 => ?_)
      · have h0 : (na : Int) = 0 ∧ (nb : Int) = 0 := by simpa using h0
        refine ⟨_, rfl, _, rfl, p, _, rfl, M4.pot, by decide, by unfold Bd; decide, fun H5 d m5 c0 c1 => ?_⟩
        have e6 := m5.keep _ _ nsl e4
        have M5 := M4.trans m5
        rcases (show d = 0 ∨ d = 1 by omega) with rfl | rfl
        · refine ⟨_, _, _, 0, rfl, rfl, e6, rfl, 1, 0, by decide, by decide, by decide, rfl, Mov.updl M5 fsl nsl, ?_⟩
          rw [upd_same, h0.2]
          rfl
        · refine ⟨_, _, _, 1, rfl, rfl, e6, rfl, 0, 1, by decide, by decide, by decide, rfl, Mov.updl M5 fsl nsl, ?_⟩
          rw [upd_same, h0.1]
          rfl
      · have h0 : ¬ ((na : Int) = 0 ∧ (nb : Int) = 0) := by simpa using h0
        exact ⟨na, nb, by omega, by omega, by omega, rfl, M4, e4⟩
    rintro σ H5 ⟨x, y, hx, hy, hxy, rfl, M5, e5⟩
    refine ⟨sz, fun t1 h1 => ?_⟩
    generalize e_H6 : upd _ t1 _ = H6
    obtain ⟨s6, f1⟩ := al3 e_H6 h1
    clear e_H6
    (try dsimp only at f1)
    refine ⟨sz, fun t2 h2 => ?_⟩
    generalize e_H7 : upd _ t2 _ = H7
    obtain ⟨s7, f2⟩ := al3 e_H7 h2
    clear e_H7
    (try dsimp only at f2)
    refine ⟨sz, fun t3 h3 => ?_⟩
    generalize e_H8 : upd _ t3 _ = H8
    obtain ⟨s8, f3⟩ := al3 e_H8 h3
    clear e_H8
    (try dsimp only at f3)
    refine ⟨sz, fun f hf => ?_⟩
    have M8 := ((M5.same s6).same s7).same s8
    have nf : f ≠ p := M8.ne hf
    have ff := M8.free hp hf
    have e8 := s8 _ _ (s7 _ _ (s6 _ _ e5))
    have f1 := s8 _ _ (s7 _ _ f1)
    have f2 := s8 _ _ f2
    have nfs : f ≠ sl := (ne_of_none e8 hf).symm
    generalize e_H9 : upd _ f _ = H9
    obtain ⟨s9, ef⟩ := al3 e_H9 hf
    clear e_H9
    (try dsimp only at ef)
    have M9 := M8.same s9
    have e9 := s9 _ _ e8
    refine ⟨_, rfl, _, _, _, _, rfl, rfl, SqL.of e9, at0, _, rfl, by omega, by omega, ?_⟩
    refine for_range (n := x) (fun i σ H' => ∃ (u : Option V) (rs : List Addr) (zs : List Pt), σ = [some (.ref p), some (.ref sl), some (.ref f), u, none] ∧ Mov p H H' ∧ H' sl = some (.lst [.int (x : Int), .int (y : Int)]) ∧ H' f = some (.lst (rs.map V.ref)) ∧ Paired (SpR H') rs zs ∧ LQ 160 zs ∧ zs.length = i + 1 ∧ zs[0]? = some org ∧ ∃ z', zs[zs.length - 1]? = some z' ∧ PtN (1 + 31 * i) z')
      ⟨_, [t3], [org], rfl, M9, e9, ef, .cons ⟨t1, t2, s9 _ _ f3, s9 _ _ f1, s9 _ _ f2⟩ .nil, LQ.start, rfl, rfl, org, rfl, org_low, org_low⟩ ?_ ?_
    · rintro i σ H5 hi ⟨u, rs, zs, rfl, M, es, ef, pr, lq, ln, lo, z', hz', pz⟩
      have lrs := Paired.len pr
      obtain ⟨r, hr', p1, p2, er, f1, f2⟩ := Paired.at_r pr hz'
      have atl : atI (rs.map V.ref) (-1) = some (.ref r) := by
        rw [atI_last (j := i) (by rw [List.length_map]; omega), List.getElem?_map, show i = zs.length - 1 by omega, hr']
        rfl
      refine ⟨_, rfl, .inl ⟨rfl, _, SqL.of ef⟩, ?_⟩
      refine ⟨_, rfl, _, rfl, _, _, _, _, rfl, rfl, SqL.of ef, atl, _, _, _, _, rfl, rfl, SqT.of er, at0, _, rfl, p, rfl, M.pot, fun H6 q x1 m6 g6 l6 g0 => ?_⟩
      have N6 := NL.mov m6 M.pot
      have M6 := M.trans m6
      refine ⟨p1, q, z'.1, x1, 31 + 31 * i, rfl, FrQ.nl f1 N6, g6, pz.x.mono (by omega), l6.mono (by omega), by omega, fun H7 c1 s7 g7 => ?_⟩
      have lc1 : Low (1 + 31 * (i + 1)) (plusF z'.1 x1) := add_low pz.x l6 (by omega)
      have vc1 : val (plusF z'.1 x1) = val z'.1 + val x1 := val_add pz.x.pos l6.pos
      generalize plusF z'.1 x1 = w1 at *
      have N7 := N6.trans (NL.of s7)
      have M7 := M6.same s7
      have ef7 := s7 _ _ (m6.keep _ _ nf ef)
      have es7 := s7 _ _ (m6.keep _ _ nsl es)
      refine ⟨_, rfl, _, rfl, _, _, _, _, rfl, rfl, SqL.of ef7, atl, _, _, _, _, rfl, rfl, SqT.of (N7 _ _ (fun _ z => nomatch z) er), at1, _, rfl, p, rfl, M7.pot, fun H8 q' x2 m8 g8 l8 g0' => ?_⟩
      have N8 := N7.trans (NL.mov m8 M7.pot)
      have M8 := M7.trans m8
      refine ⟨p2, q', z'.2, x2, 31 + 31 * i, rfl, FrQ.nl f2 N8, g8, pz.y.mono (by omega), l8.mono (by omega), by omega, fun H9 c2 s9 g9 => ?_⟩
      have lc2 : Low (1 + 31 * (i + 1)) (plusF z'.2 x2) := add_low pz.y l8 (by omega)
      have vc2 : val (plusF z'.2 x2) = val z'.2 + val x2 := val_add pz.y.pos l8.pos
      generalize plusF z'.2 x2 = w2 at *
      have N9 := N8.trans (NL.of s9)
      have M9 := M8.same s9
      have ef9 := s9 _ _ (m8.keep _ _ nf ef7)
      have es9 := s9 _ _ (m8.keep _ _ nsl es7)
      have g7 : FrQ H9 c1 w1 := (FrQ.nl g7 (NL.mov m8 M7.pot)).same s9
      refine ⟨sz, fun t ht => ?_⟩
      generalize e_Ha : upd _ t _ = Ha
      obtain ⟨sa, fa⟩ := al3 e_Ha ht
      clear e_Ha
      (try dsimp only at fa)
      have efa := sa _ _ ef9
      have esa := sa _ _ es9
      refine ⟨f, _, _, rfl, rfl, efa, szlt (by rw [List.length_map]; omega), ?_⟩
      have Na := N9.trans (NL.of sa)
      have Nb : NL Ha (upd Ha f (.lst (rs.map V.ref ++ [V.ref t]))) := NL.upd efa
      refine ⟨_, rs ++ [t], zs ++ [(w1, w2)], rfl, Mov.updl (M9.same sa) ff nf, ?_, by rw [upd_same, List.map_append]; rfl, ?_, ?_, by rw [List.length_append, ln]; rfl, by rw [List.getElem?_append_left (by omega)]; exact lo, (w1, w2), by rw [List.length_append]; simp, lc1, lc2⟩
      · rw [upd_ne (Ne.symm nfs)]
        exact esa
      · refine paired_snoc (Paired.imp pr fun _ _ h => h.nl (Na.trans Nb)) (SpR.nl ⟨c1, c2, fa, g7.same sa, g9.same sa⟩ Nb)
      · refine lq.snoc hz' (Nat.le_refl _) (lc1.mono (by omega)) (lc2.mono (by omega)) ?_ ?_
        · have := (val_pos l6.pos).mp g0
          show val z'.1 < val w1
          grind
        · have := (val_pos l8.pos).mp g0'
          show val z'.2 < val w2
          grind
    rintro σ Hc ⟨u, rs, zs, rfl, M, es, ef, pr, lq, ln, lo, _⟩
    refine ⟨_, rfl, _, _, _, _, rfl, rfl, SqL.of es, at1, _, rfl, by omega, by omega, ?_⟩
    refine for_range (n := y) (fun i σ H' => ∃ (u v : Option V) (l : Addr) (rs : List Addr) (zs : List Pt), σ = [some (.ref p), some (.ref sl), some (.ref l), u, v] ∧ Mov p H H' ∧ H l = none ∧ l ≠ p ∧ H' l = some (.lst (rs.map V.ref)) ∧ Paired (SpR H') rs zs ∧ LQ 160 zs ∧ zs.length = x + i + 1 ∧ ∃ z', zs[0]? = some z' ∧ PtN (1 + 31 * i) z')
      ⟨_, _, f, rs, zs, rfl, M, ff, nf, ef, pr, lq, ln, org, lo, org_low, org_low⟩ ?_ ?_
    · rintro i σ H5 hi ⟨u, v, l, rs, zs, rfl, M, fl, nl, ef, pr, lq, ln, z', hz', pz⟩
      have lrs := Paired.len pr
      obtain ⟨r, hr', p1, p2, er, f1, f2⟩ := Paired.at_r pr hz'
      have atl : atI (rs.map V.ref) 0 = some (.ref r) := at_ref hr'
      refine ⟨_, rfl, _, _, _, _, rfl, rfl, SqL.of ef, atl, _, _, _, _, rfl, rfl, SqT.of er, at0, _, rfl, p, rfl, M.pot, fun H6 q x1 m6 g6 l6 g0 => ?_⟩
      have N6 := NL.mov m6 M.pot
      have M6 := M.trans m6
      refine ⟨p1, q, z'.1, x1, 31 + 31 * i, rfl, FrQ.nl f1 N6, g6, pz.x.mono (by omega), l6.mono (by omega), by omega, fun H7 c1 s7 g7 => ?_⟩
      have lc1 : Low (1 + 31 * (i + 1)) (minusF z'.1 x1) := sub_low pz.x l6 (by omega)
      have vc1 : val (minusF z'.1 x1) = val z'.1 - val x1 := val_sub pz.x.pos l6.pos
      generalize minusF z'.1 x1 = w1 at *
      have N7 := N6.trans (NL.of s7)
      have M7 := M6.same s7
      have ef7 := s7 _ _ (m6.keep _ _ nl ef)
      refine ⟨_, rfl, _, _, _, _, rfl, rfl, SqL.of ef7, atl, _, _, _, _, rfl, rfl, SqT.of (N7 _ _ (fun _ z => nomatch z) er), at1, _, rfl, p, rfl, M7.pot, fun H8 q' x2 m8 g8 l8 g0' => ?_⟩
      have N8 := N7.trans (NL.mov m8 M7.pot)
      have M8 := M7.trans m8
      refine ⟨p2, q', z'.2, x2, 31 + 31 * i, rfl, FrQ.nl f2 N8, g8, pz.y.mono (by omega), l8.mono (by omega), by omega, fun H9 c2 s9 g9 => ?_⟩
      have lc2 : Low (1 + 31 * (i + 1)) (minusF z'.2 x2) := sub_low pz.y l8 (by omega)
      have vc2 : val (minusF z'.2 x2) = val z'.2 - val x2 := val_sub pz.y.pos l8.pos
      generalize minusF z'.2 x2 = w2 at *
      have N9 := N8.trans (NL.of s9)
      have M9 := M8.same s9
      have ef9 := s9 _ _ (m8.keep _ _ nl ef7)
      have g7 : FrQ H9 c1 w1 := (FrQ.nl g7 (NL.mov m8 M7.pot)).same s9
      refine ⟨sz, fun t ht => ?_⟩
      generalize e_Ha : upd _ t _ = Ha
      obtain ⟨sa, fa⟩ := al3 e_Ha ht
      clear e_Ha
      (try dsimp only at fa)
      have efa := sa _ _ ef9
      refine ⟨_, rfl, sz, fun l1 hl1 => ?_⟩
      generalize e_Hb : upd _ l1 _ = Hb
      obtain ⟨sb, fb⟩ := al3 e_Hb hl1
      clear e_Hb
      (try dsimp only at fb)
      have efb := sb _ _ efa
      have Mb := (M9.same sa).same sb
      refine ⟨_, rfl, l1, l, _, _, rfl, rfl, fb, efb, szle (by rw [List.length_map]; show 1 + rs.length ≤ _; omega), fun l2 hl2 => ?_⟩
      have s2 := Lb.Same.upd (o := .lst ([V.ref t] ++ rs.map V.ref)) hl2
      have Na := ((N9.trans (NL.of sa)).trans (NL.of sb)).trans (NL.of s2)
      refine ⟨_, _, l2, t :: rs, (w1, w2) :: zs, rfl, Mb.same s2, Mb.free hp hl2, Mb.ne hl2, upd_same, ?_, ?_, by rw [List.length_cons, ln]; omega, (w1, w2), rfl, lc1, lc2⟩
      · exact .cons (SpR.same ⟨c1, c2, fa, g7.same sa, g9.same sa⟩ (sb.trans s2)) (Paired.imp pr fun _ _ h => h.nl Na)
      · refine lq.cons hz' (Nat.le_refl _) (lc1.mono (by omega)) (lc2.mono (by omega)) ?_ ?_
        · have := (val_pos l6.pos).mp g0
          show val w1 < val z'.1
          grind
        · have := (val_pos l8.pos).mp g0'
          show val w2 < val z'.2
          grind
    rintro σ Hd ⟨u, v, l, rs, zs, rfl, M, fl, nl, ef, pr, lq, ln, _⟩
    exact ⟨_, rfl, k _ l zs M fl ⟨rs, ef, pr⟩ ⟨lq, by omega, by omega⟩⟩
end
end K15

set_option Elab.async false
set_option linter.all false
set_option maxRecDepth 100000
set_option maxHeartbeats 4000000
set_option exponentiation.threshold 10000
namespace K15
open PySem L2 Lb
open C8 (pss_cut)
theorem cut_from {xs : List V} {k : Nat} (h : k ≤ xs.length) : cutV xs (some (k : Int)) none = xs.drop k := by
  unfold cutV
  rw [HT.sIx_nat, HT.sIx_none, Nat.min_eq_left h, List.take_of_length_le (by rw [List.length_drop]; omega)]
abbrev FrRows (H : Hp) (rs : List Addr) (xs : List Q2) : Prop := Paired (FrQ H) rs xs
theorem FrRows.same {H H' : Hp} {rs : List Addr} {xs : List Q2} (h : FrRows H rs xs) (s : Same H H') : FrRows H' rs xs := Paired.imp h fun _ _ q => FrQ.same q s
theorem FrRows.nl {H H' : Hp} {rs : List Addr} {xs : List Q2} (h : FrRows H rs xs) (s : NL H H') : FrRows H' rs xs := Paired.imp h fun _ _ q => FrQ.nl q s
def sp_asked : Sp := fun vs H Q _ => ∃ (p l : Addr) (s : Nat) (zs : List Pt), vs = [.ref p, .ref l, .int (s : Int)] ∧ (s = 0 ∨ s = 1) ∧ PotAt H p ∧ l ≠ p ∧ Spots H l zs ∧ LP zs ∧
  ∀ H' q rs xs, Mov p H H' → H q = none → H' q = some (.lst (rs.map V.ref)) → FrRows H' rs xs → (∀ x ∈ xs, Low 700 x) → 12 ≤ xs.length → xs.length ≤ 40 → Q (.ref q) H'
section
variable {P : Program} {w : World} {K : PySem.W.Frag} {mg : Str → Option Value} {base : Heap} {a : Ad}
theorem ok_asked (T : Txt K mg a) : FnOk P w K mg base CX0 3 a.f_asked a.d_asked ["_law_pot_here", "_law_spots", "_law_part"] sp_asked := by
  refine T.F_asked.ok sc_asked (fun vs H Q E h => ?_) (fun cdv A outer s H vs Q E hr h => ?_)
  · obtain ⟨p, l, s, zs, rfl, _⟩ := h
    rfl
  · obtain ⟨p, l, s, zs, rfl, hs, hp, nl, hl, lp, k⟩ := h
    refine ⟨_, (pss_cons (ps_set (i := 3) sc_asked.nd rfl (by first | exact Or.inl rfl | exact Or.inr rfl) (pe_op op_cat (pe_lc (own := [("_law_point", 4)]) (by rfl) sc_asked.nd (pi_listK (K := K) rfl (pv 1)) (blkOk_by (own := [("_law_point", 4)]) (N := ["_law_pot_here", "_law_spots", "_law_part", "_law_found", "_law_point", "_law_one", "_law_more", "_law_ends", "_law_far"]) (sc := defScope s_asked) (by decide +kernel)) (fun _ _ _ _ _ => (pg_name (i := 4) sc_asked.nd rfl (by first | exact Or.inl rfl | exact Or.inr rfl))) (fun _ _ _ _ _ => pts_nil) (fun _ _ _ _ _ => (pe_ix (ix_tupK (K := K) rfl) (pv 4) (pv 2) (fun _ _ => rfl)))) (pe_lst (pa_cons (pe_tup (pa_cons pe_int (pa_cons pe_int pa_nil))) pa_nil))))
 (pss_cons (ps_for PassesOwn.never rfl (pi_zip (by rfl) T.b_zip (pa_cons (pv 3) (pa_cons (pe_slice (sl_listK (K := K) rfl) (pv 3) (po_some pe_int) po_none) pa_nil))) (pg_tupK (K := K) (n := 2) rfl rfl (pgs_cons (pg_name (i := 5) sc_asked.nd rfl (by first | exact Or.inl rfl | exact Or.inr rfl)) (pgs_cons (pg_name (i := 6) sc_asked.nd rfl (by first | exact Or.inl rfl | exact Or.inr rfl)) pgs_nil))) (pss_one (ps_set (i := 3) sc_asked.nd rfl (by first | exact Or.inl rfl | exact Or.inr rfl) (pe_op op_cat (pv 3) (pe_lst (pa_cons (pe_call (ok_low T) (hr.mono (by decide)) (by rfl) T.m_low T.F_low.kp (b_low T) .nil pass0 (pa_cons (pe_op op_add (pe_op op_mulX (pe_ix (ix_tupK (K := K) rfl) (pv 5) pe_int (fun _ _ => rfl)) (pe_ix (ix_tupK (K := K) rfl) (pv 6) pe_int (fun _ _ => rfl))) (pe_op op_mulX (pe_ix (ix_tupK (K := K) rfl) (pv 6) pe_int (fun _ _ => rfl)) (pe_ix (ix_tupK (K := K) rfl) (pv 5) pe_int (fun _ _ => rfl)))) (pa_cons (pe_op op_mulX (pe_op op_mulX pe_int (pe_ix (ix_tupK (K := K) rfl) (pv 5) pe_int (fun _ _ => rfl))) (pe_ix (ix_tupK (K := K) rfl) (pv 6) pe_int (fun _ _ => rfl))) pa_nil))) pa_nil))))))
 (pss_cons (ps_set (i := 7) sc_asked.nd rfl (by first | exact Or.inl rfl | exact Or.inr rfl) (pe_lst (pa_cons (pe_call (ok_minus T) (hr.mono (by decide)) (by rfl) T.m_minus T.F_minus.kp (b_minus T) .nil pass0 (pa_cons (pe_ix (ix_tupK (K := K) rfl) (pe_ix (ix_listK (K := K) rfl) (pv 1) pe_int (fun _ _ => rfl)) (pv 2) (fun _ _ => rfl)) (pa_cons (pe_call (ok_step T) (hr.mono (by decide)) (by rfl) T.m_step T.F_step.kp (b_step T) .nil pass0 (pa_cons (pv 0) pa_nil)) pa_nil))) (pa_cons (pe_call (ok_plus T) (hr.mono (by decide)) (by rfl) T.m_plus T.F_plus.kp (b_plus T) .nil pass0 (pa_cons (pe_ix (ix_tupK (K := K) rfl) (pe_ix (ix_listK (K := K) rfl) (pv 1) (pe_un un_neg pe_int) (fun _ _ => rfl)) (pv 2) (fun _ _ => rfl)) (pa_cons (pe_call (ok_step T) (hr.mono (by decide)) (by rfl) T.m_step T.F_step.kp (b_step T) .nil pass0 (pa_cons (pv 0) pa_nil)) pa_nil))) pa_nil))))
 (pss_cons (ps_set (i := 8) sc_asked.nd rfl (by first | exact Or.inl rfl | exact Or.inr rfl) (pe_op op_mulX (pe_call (ok_draw T) (hr.mono (by decide)) (by rfl) T.m_draw T.F_draw.kp (b_draw T) .nil pass0 (pa_cons (pv 0) (pa_cons (pe_op op_pow pe_int pe_int) pa_nil))) (pe_op op_pow pe_int pe_int)))
 (pss_one (ps_ret (pe_op op_cat (pe_op op_cat (pv 3) (pv 7)) (pe_lst (pa_cons (pe_tup (pa_cons (pv 8) (pa_cons pe_int pa_nil))) (pa_cons (pe_tup (pa_cons (pe_un un_neg (pv 8)) (pa_cons pe_int pa_nil))) (pa_cons (pe_call (ok_low T) (hr.mono (by decide)) (by rfl) T.m_low T.F_low.kp (b_low T) .nil pass0 (pa_cons (pe_op op_add (pv 8) pe_int) (pa_cons pe_int pa_nil))) (pa_cons (pe_call (ok_step T) (hr.mono (by decide)) (by rfl) T.m_step T.F_step.kp (b_step T) .nil pass0 (pa_cons (pv 0) pa_nil)) (pa_cons (pe_call (ok_low T) (hr.mono (by decide)) (by rfl) T.m_low T.F_low.kp (b_low T) .nil pass0 (pa_cons (pe_un un_neg (pe_ix (ix_tupK (K := K) rfl) (pe_call (ok_step T) (hr.mono (by decide)) (by rfl) T.m_step T.F_step.kp (b_step T) .nil pass0 (pa_cons (pv 0) pa_nil)) pe_int (fun _ _ => rfl))) (pa_cons pe_int pa_nil))) pa_nil))))))))))))), ?_⟩
    obtain ⟨rs, el, pr⟩ := hl.ex
    have lrs := Paired.len pr
    have l2 := lp.l2
    have l11 := lp.l11
    refine ⟨_, rfl, l, rfl, ⟨_, SqL.of el⟩, fun D hD => ?_⟩
    refine lc_list (K := K) (a := l) (xs := rs.map V.ref) (fun i H' => Same H H' ∧ ∃ bs : List Addr, H' D = some (.lst (bs.map V.ref)) ∧ FrRows H bs ((zs.take i).map (sd s))) ⟨Lb.Same.upd hD, [], upd_same, .nil⟩ (fun i H' _ b => SqL.of (b.1 _ _ el)) ?_ ?_
    · rintro i v H' hi ⟨s', bs, eD, pb⟩
      obtain ⟨r, rfl, hr'⟩ := ref_at hi
      obtain ⟨z, hz, p1, p2, er, f1, f2⟩ := Paired.at_ pr hr'
      obtain ⟨y, ay, fy⟩ := fr_at hs f1 f2
      refine ⟨rfl, ?_⟩
      refine ⟨_, rfl, _, rfl, _, _, _, _, rfl, rfl, SqT.of (s' _ _ er), ay, bs.map V.ref, eD, ?_, Lb.Same.updl s' hD, bs ++ [y], by rw [upd_same, List.map_append]; rfl, ?_⟩
      · have h1 := Paired.len pb
        rw [List.length_map, List.length_take] at h1
        rw [List.length_map]
        exact szlt (by omega)
      · rw [← take_snoc hz, List.map_append]
        exact paired_snoc pb fy
    rintro H1 ⟨s1, bs, eD, pb⟩
    rw [show (rs.map V.ref).length = zs.length by rw [List.length_map, lrs], List.take_length] at pb
    refine ⟨sz, fun t ht => ?_⟩
    generalize e_H2 : upd _ t _ = H2
    obtain ⟨s2, f2⟩ := al3 e_H2 ht
    clear e_H2
    (try dsimp only at f2)
    refine ⟨sz, fun l1 hl1 => ?_⟩
    generalize e_H3 : upd _ l1 _ = H3
    obtain ⟨s3, f3⟩ := al3 e_H3 hl1
    clear e_H3
    (try dsimp only at f3)
    have lbs := Paired.len pb
    rw [List.length_map] at lbs
    have S3 := (s1.trans s2).trans s3
    refine ⟨D, l1, _, _, rfl, rfl, s3 _ _ (s2 _ _ eD), f3, szle (by rw [List.length_map, lbs]; show _ + 1 ≤ _; omega), fun q hq => ?_⟩
    generalize e_H4 : upd _ q _ = H4
    obtain ⟨s4, f4⟩ := al3 e_H4 hq
    clear e_H4
    (try dsimp only at f4)
    have S4 := S3.trans s4
    have f2 := s4 _ _ (s3 _ _ f2)
    have p0 : FrRows H4 (bs ++ [t]) (zs.map (sd s) ++ [(0, 1)]) := paired_snoc (FrRows.same pb S4) f2
    have f4 : H4 q = some (.lst ((bs ++ [t]).map V.ref)) := by rw [f4, List.map_append]; rfl
    have lx0 : ∀ x ∈ zs.map (sd s) ++ [((0, 1) : Q2)], Low 160 x := by
      intro x hx
      rcases List.mem_append.mp hx with hx | hx
      · obtain ⟨z, hz, rfl⟩ := List.mem_map.mp hx
        have := lp.q.l z hz
        exact PtN.sd ⟨this.x, this.y⟩
      · rw [List.mem_singleton.mp hx]
        exact org_low
    have ln0 : (zs.map (sd s) ++ [((0, 1) : Q2)]).length = zs.length + 1 := by rw [List.length_append, List.length_map]; rfl
    generalize bs ++ [t] = rs0 at *
    generalize zs.map (sd s) ++ [((0, 1) : Q2)] = xs0 at *
    have lr0 := Paired.len p0
    -- the middles
    refine ⟨_, rfl, _, rfl, 1, rfl, q, _, rfl, SqL.of f4, fun q1 hq1 => ?_⟩
    rw [show cutV (rs0.map V.ref) (some 1) none = (rs0.drop 1).map V.ref from (cut_from (k := 1) (by rw [List.length_map]; omega)).trans List.map_drop.symm]
    generalize e_H5 : upd _ q1 _ = H5
    obtain ⟨s5, f5⟩ := al3 e_H5 hq1
    clear e_H5
    (try dsimp only at f5)
    have S5 := S4.trans s5
    have f4 := s5 _ _ f4
    have p0 := FrRows.same p0 s5
    refine ⟨q, q1, _, _, rfl, SqL.of f4, SqL.of f5, ?_⟩
    refine for_it (walk_zip (K := K) (a := q) (b := q1) (xs := rs0.map V.ref) (ys := (rs0.drop 1).map V.ref) (n := zs.length) (by rw [List.length_map, List.length_map, List.length_drop, lr0, ln0]; omega))
      (fun i σ H' => ∃ (u4 u5 u6 : Option V) (l' : Addr) (rs : List Addr) (xs : List Q2), σ = [some (.ref p), some (.ref l), some (.int (s : Int)), some (.ref l'), u4, u5, u6, none, none] ∧ Same H5 H' ∧ H' l' = some (.lst (rs.map V.ref)) ∧ H l' = none ∧ FrRows H' rs xs ∧ (∀ x ∈ xs, Low 400 x) ∧ xs.length = zs.length + 1 + i)
      ⟨_, _, _, q, rs0, xs0, rfl, Same.refl _, f4, Lb.Same.free S3 hq, p0, fun x hx => (lx0 x hx).mono (by decide), ln0⟩ (fun i σ H' _ ⟨_, _, _, _, _, _, _, sH, _⟩ => ⟨SqL.of (sH _ _ f4), SqL.of (sH _ _ f5)⟩) ?_ ?_
    · rintro i v σ H6 H7 hi ⟨u4, u5, u6, l', rs, xs, rfl, S6, el', fl', px, lx, ln⟩ ⟨T0, x, y, rfl, hT, rfl, ex, ey⟩
      obtain ⟨r1, rfl, hr1⟩ := ref_at ex
      obtain ⟨r2, rfl, hr2⟩ := ref_at ey
      rw [List.getElem?_drop] at hr2
      obtain ⟨x1, hx1, g1⟩ := Paired.at_ p0 hr1
      obtain ⟨x2, hx2, g2⟩ := Paired.at_ p0 hr2
      have lx1 := lx0 _ (List.mem_of_getElem? hx1)
      have lx2 := lx0 _ (List.mem_of_getElem? hx2)
      have b1 : Bd 200 x1.1 := lx1.t.mono (by decide)
      have b2 : Bd 200 x1.2 := lx1.b.mono (by decide)
      have b3 : Bd 200 x2.1 := lx2.t.mono (by decide)
      have b4 : Bd 200 x2.2 := lx2.b.mono (by decide)
      generalize e_H8 : upd _ T0 _ = H8
      obtain ⟨s8, f8⟩ := al3 e_H8 hT
      clear e_H8
      (try dsimp only at f8)
      have S8 := S6.trans s8
      have g1 := FrQ.same g1 S8
      have g2 := FrQ.same g2 S8
      refine ⟨T0, _, rfl, SqT.of f8, rfl, _, _, rfl, _, _, rfl, rfl, ?_⟩
      refine ⟨_, rfl, ?_⟩
      refine ⟨_, rfl, _, _, _, _, rfl, rfl, SqT.of g1, at0, _, rfl, _, _, _, _, rfl, rfl, SqT.of g2, at1, _, _, rfl, rfl, b1.cm b4 (by decide), ?_⟩
      refine ⟨_, rfl, _, _, _, _, rfl, rfl, SqT.of g2, at0, _, rfl, _, _, _, _, rfl, rfl, SqT.of g1, at1, _, _, rfl, rfl, b3.cm b2 (by decide), _, _, rfl, rfl, ?_⟩
      have b5 : Bd 3 2 := by unfold Bd; decide
      refine ⟨_, rfl, _, _, _, _, rfl, rfl, SqT.of g1, at1, _, _, rfl, rfl, b5.cm b2 (by decide), _, rfl, _, _, _, _, rfl, rfl, SqT.of g2, at1, _, _, rfl, rfl, (b5.mul b2).cm b4 (by decide), ?_⟩
      have ne : 2 * x1.2 * x2.2 ≠ 0 := mul_pos_ne (by have := lx1.pos; omega) lx2.pos
      have t1 : Bd 500 (x1.1 * x2.2 + x2.1 * x1.2) := ((lx1.t.mul lx2.b).add (lx2.t.mul lx1.b)).mono (by decide)
      have t1' : Bd 400 (x1.1 * x2.2 + x2.1 * x1.2) := ((lx1.t.mul lx2.b).add (lx2.t.mul lx1.b)).mono (by decide)
      have t2 : Bd 400 (2 * x1.2 * x2.2) := ((b5.mul lx1.b).mul lx2.b).mono (by decide)
      refine ⟨_, _, rfl, ne, t1.mono (by decide), t2.mono (by decide), fun H9 r9 s9 f9 => ⟨sz, fun l9 hl9 => ?_⟩⟩
      have l0 := rd_low ne t1' t2
      generalize e_Ha : upd _ l9 _ = Ha
      obtain ⟨sa, fa⟩ := al3 e_Ha hl9
      clear e_Ha
      (try dsimp only at fa)
      have Sa := (s8.trans s9).trans sa
      have lrx := Paired.len px
      refine ⟨l', l9, _, _, rfl, rfl, Sa _ _ el', fa, szle (by rw [List.length_map]; show rs.length + 1 ≤ _; omega), fun lb hlb => ?_⟩
      have sb := Lb.Same.upd (o := .lst (rs.map V.ref ++ [V.ref r9])) hlb
      refine ⟨_, _, _, lb, rs ++ [r9], xs ++ [rd (x1.1 * x2.2 + x2.1 * x1.2) (2 * x1.2 * x2.2)], rfl, (S6.trans Sa).trans sb, by rw [upd_same, List.map_append]; rfl, Lb.Same.free ((S5.trans S6).trans Sa) hlb, ?_, ?_, by rw [List.length_append, ln]; rfl⟩
      · exact paired_snoc (FrRows.same px (Sa.trans sb)) ((FrQ.same f9 sa).same sb)
      · intro x hx
        rcases List.mem_append.mp hx with hx | hx
        · exact lx x hx
        · rw [List.mem_singleton.mp hx]
          exact l0
    rintro σ H6 ⟨u4, u5, u6, l', rs', xs, rfl, S6, el', fl', px, lx, ln⟩
    have S6 := S5.trans S6
    have M6 := Lb.Same.mov S6 hp
    have nl' : l' ≠ p := by
      obtain ⟨_, _, e, _⟩ := hp
      exact (ne_of_none e fl').symm
    have elS := S6 _ _ el
    -- the ends
    obtain ⟨z0, hz0⟩ : ∃ z, zs[0]? = some z := ⟨_, List.getElem?_eq_getElem (by omega)⟩
    obtain ⟨z1, hz1⟩ : ∃ z, zs[zs.length - 1]? = some z := ⟨_, List.getElem?_eq_getElem (by omega)⟩
    have q0 := lp.q.l z0 (List.mem_of_getElem? hz0)
    have q1' := lp.q.l z1 (List.mem_of_getElem? hz1)
    obtain ⟨r0, hr0, pr0⟩ := Paired.at_r pr hz0
    obtain ⟨r1, hr1, pr1⟩ := Paired.at_r pr hz1
    have a0 : atI (rs.map V.ref) 0 = some (.ref r0) := at_ref hr0
    have a1 : atI (rs.map V.ref) (-1) = some (.ref r1) := by
      rw [atI_last (j := zs.length - 1) (by rw [List.length_map]; omega), List.getElem?_map, hr1]
      rfl
    obtain ⟨p1, p2, er0, g1, g2⟩ := pr0.same S6
    obtain ⟨y0, ay0, fy0⟩ := fr_at hs g1 g2
    have ly0 : Low 160 (sd s z0) := PtN.sd ⟨q0.x, q0.y⟩
    have ly1 : Low 160 (sd s z1) := PtN.sd ⟨q1'.x, q1'.y⟩
    refine ⟨_, rfl, _, _, _, _, rfl, rfl, SqL.of elS, a0, _, rfl, _, _, _, _, rfl, rfl, SqT.of er0, ay0, _, rfl, p, rfl, M6.pot, fun H7 q7 x7 m7 f7 l7 g7 => ?_⟩
    have N7 := NL.mov m7 M6.pot
    have M7 := M6.trans m7
    refine ⟨y0, q7, _, x7, 160, rfl, FrQ.nl fy0 N7, f7, ly0, l7.mono (by decide), by decide, fun H8 r8 s8 f8 => ?_⟩
    have l8 : Low 400 (minusF (sd s z0) x7) := sub_low ly0 l7 (by decide)
    generalize minusF (sd s z0) x7 = v8 at *
    have N8 := N7.trans (NL.of s8)
    have M8 := M7.same s8
    have elS := s8 _ _ (m7.keep _ _ nl elS)
    have el' := s8 _ _ (m7.keep _ _ nl' el')
    have px := FrRows.nl px N8
    obtain ⟨p3, p4, er1, g3, g4⟩ := (pr1.same S6).nl N8
    obtain ⟨y1, ay1, fy1⟩ := fr_at hs g3 g4
    refine ⟨_, rfl, _, rfl, _, _, _, _, rfl, rfl, SqL.of elS, a1, _, rfl, _, _, _, _, rfl, rfl, SqT.of er1, ay1, _, rfl, p, rfl, M8.pot, fun H9 q9 x9 m9 f9 l9 g9 => ?_⟩
    have N9 := NL.mov m9 M8.pot
    have M9 := M8.trans m9
    refine ⟨y1, q9, _, x9, 160, rfl, FrQ.nl fy1 N9, f9, ly1, l9.mono (by decide), by decide, fun Ha ra sa fa => ?_⟩
    have la : Low 400 (plusF (sd s z1) x9) := add_low ly1 l9 (by decide)
    generalize plusF (sd s z1) x9 = va at *
    have Na := N9.trans (NL.of sa)
    have Ma := M9.same sa
    have el' := sa _ _ (m9.keep _ _ nl' el')
    have px := FrRows.nl px Na
    have f8 := FrQ.nl f8 Na
    refine ⟨sz, fun e he => ?_⟩
    have fe := Ma.free hp he
    have ne := Ma.ne he
    generalize e_Hb : upd _ e _ = Hb
    obtain ⟨sb, fb⟩ := al3 e_Hb he
    clear e_Hb
    (try dsimp only at fb)
    have Mb := Ma.same sb
    have el' := sb _ _ el'
    have px := FrRows.same px sb
    have pe2 : FrRows Hb [r8, ra] [v8, va] := .cons (FrQ.same f8 sb) (.cons (FrQ.same fa sb) .nil)
    -- far
    refine ⟨_, rfl, _, _, rfl, rfl, ⟨by decide, by decide, by decide⟩, p, _, rfl, Mb.pot, by decide, by unfold Bd; decide, fun Hc d mc d0 d1 => ?_⟩
    have e9 : (10 : Int) ^ (9 : Int).toNat = 1000000000 := by decide
    have bd9 : Bd 40 d := by unfold Bd; rw [e9] at d1; omega
    refine ⟨_, _, rfl, rfl, ⟨by decide, by decide, by decide⟩, _, _, rfl, rfl, mulx_ok (a := 100) (b := 100) (by rw [e9] at d1; omega) (by decide) (by decide), ?_⟩
    have Nc := NL.mov mc Mb.pot
    have Mc := Mb.trans mc
    have el' := mc.keep _ _ nl' el'
    have fb := mc.keep _ _ ne fb
    have px := FrRows.nl px Nc
    have pe2 := FrRows.nl pe2 Nc
    have bfar : Bd 80 (d * 10 ^ (9 : Int).toNat) := by rw [e9]; rw [e9] at d1; unfold Bd; omega
    have lrx := Paired.len px
    -- what is told
    refine ⟨_, rfl, _, rfl, l', e, _, _, rfl, rfl, el', fb, szle (by rw [List.length_map]; show rs'.length + 2 ≤ _; omega), fun l2' hl2' => ?_⟩
    have px2 : FrRows Hc (rs' ++ [r8, ra]) (xs ++ [v8, va]) := paired_append px pe2
    have nl2 := Mc.ne hl2'
    generalize e_Hd : upd _ l2' _ = Hd
    obtain ⟨sd', fd⟩ := al3 e_Hd hl2'
    clear e_Hd
    (try dsimp only at fd)
    have fd : Hd l2' = some (.lst ((rs' ++ [r8, ra]).map V.ref)) := by rw [fd, List.map_append]; rfl
    have Md := Mc.same sd'
    have px2 := FrRows.same px2 sd'
    refine ⟨_, rfl, sz, fun t1 ht1 => ?_⟩
    generalize e_He : upd _ t1 _ = He
    obtain ⟨se, fe1⟩ := al3 e_He ht1
    clear e_He
    (try dsimp only at fe1)
    refine ⟨_, rfl, _, rfl, sz, fun t2 ht2 => ?_⟩
    generalize e_Hf : upd _ t2 _ = Hf
    obtain ⟨sf, fe2⟩ := al3 e_Hf ht2
    clear e_Hf
    (try dsimp only at fe2)
    have b7 : Bd 4 7 := by unfold Bd; decide
    have bf1 : Bd 81 ((d * 10 ^ (9 : Int).toNat) + 1) := bfar.add (bd_one (n := 79))
    refine ⟨_, rfl, _, _, rfl, rfl, ?_⟩
    refine ⟨(d * 10 ^ (9 : Int).toNat) + 1, 7, rfl, by decide, bf1.mono (by decide), b7.mono (by decide), fun Hg t3 sg' fe3 => ?_⟩
    have l3 : Low 100 (rd ((d * 10 ^ (9 : Int).toNat) + 1) 7) := rd_low (n := 100) (by decide) (bf1.mono (by decide)) (b7.mono (by decide))
    have Mg := ((Md.same se).same sf).same sg'
    refine ⟨_, rfl, p, rfl, Mg.pot, fun Hh t4 x4 mh fe4 l4 _ => ?_⟩
    have Mh := Mg.trans mh
    refine ⟨_, rfl, p, rfl, Mh.pot, fun Hi t5' x5 mi fe5' l5' _ => ?_⟩
    have Mi := Mh.trans mi
    have b3 : Bd 4 3 := by unfold Bd; decide
    refine ⟨_, _, _, _, rfl, rfl, SqT.of fe5', at0, _, rfl, _, _, rfl, by decide, l5'.t.neg.mono (by decide), b3.mono (by decide), fun Hj t5 sj fe5 => ⟨sz, fun l3' hl3' => ?_⟩⟩
    have l5 : Low 100 (rd (-x5.1) 3) := rd_low (n := 100) (by decide) (l5'.t.neg.mono (by decide)) (b3.mono (by decide))
    have Mj := Mi.same sj
    generalize e_Hk : upd _ l3' _ = Hk
    obtain ⟨sk, fk⟩ := al3 e_Hk hl3'
    clear e_Hk
    (try dsimp only at fk)
    have Mk' := Mj.same sk
    have Nk : NL Hg Hk := (((NL.mov mh Mg.pot).trans (NL.mov mi Mh.pot)).trans (NL.of sj)).trans (NL.of sk)
    have Sg := (se.trans sf).trans sg'
    have keep : ∀ {b : Addr} {o : HO}, b ≠ p → Hg b = some o → Hk b = some o := fun {b o} n h => sk _ _ (sj _ _ (mi.keep _ _ n (mh.keep _ _ n h)))
    have fdk := keep nl2 (Sg _ _ fd)
    have px2 := FrRows.nl (FrRows.same px2 Sg) Nk
    have lrx2 := Paired.len px2
    have ln2 : (xs ++ [v8, va]).length = zs.length + 1 + zs.length + 2 := by rw [List.length_append, ln]; rfl
    have px3 : FrRows Hk [t1, t2, t3, t4, t5] [((d * 10 ^ (9 : Int).toNat), 1), (-(d * 10 ^ (9 : Int).toNat), 1), rd ((d * 10 ^ (9 : Int).toNat) + 1) 7, x4, rd (-x5.1) 3] :=
      .cons (FrQ.nl (FrQ.same fe1 (sf.trans sg')) Nk) (.cons (FrQ.nl (FrQ.same fe2 sg') Nk) (.cons (FrQ.nl fe3 Nk) (.cons (FrQ.nl fe4 (((NL.mov mi Mh.pot).trans (NL.of sj)).trans (NL.of sk))) (.cons (FrQ.same fe5 sk) .nil))))
    refine ⟨l2', l3', _, _, rfl, rfl, fdk, fk, szle (by rw [List.length_map]; show (rs' ++ [r8, ra]).length + 5 ≤ _; omega), fun q' hq' => ?_⟩
    have s' := Lb.Same.upd (o := .lst ((rs' ++ [r8, ra]).map V.ref ++ [V.ref t1, V.ref t2, V.ref t3, V.ref t4, V.ref t5])) hq'
    refine k _ q' (rs' ++ [r8, ra] ++ [t1, t2, t3, t4, t5]) (xs ++ [v8, va] ++ [((d * 10 ^ (9 : Int).toNat), 1), (-(d * 10 ^ (9 : Int).toNat), 1), rd ((d * 10 ^ (9 : Int).toNat) + 1) 7, x4, rd (-x5.1) 3]) (Mk'.same s') (Mk'.free hp hq') (by rw [upd_same]; simp only [List.map_append]; rfl) (FrRows.same (paired_append px2 px3) s') ?_ ?_ ?_
    · intro x hx
      rcases List.mem_append.mp hx with hx | hx
      · rcases List.mem_append.mp hx with hx | hx
        · exact (lx x hx).mono (by decide)
        · simp only [List.mem_cons, List.not_mem_nil, or_false] at hx
          rcases hx with rfl | rfl
          · exact l8.mono (by decide)
          · exact la.mono (by decide)
      · have lf : ∀ z : Int, Bd 80 z → Low 700 ((z, 1) : Q2) := fun z b => ⟨b.mono (by decide), bd_one, by show (0 : Int) < 1; decide, by simp⟩
        simp only [List.mem_cons, List.not_mem_nil, or_false] at hx
        rcases hx with rfl | rfl | rfl | rfl | rfl
        · exact lf _ bfar
        · exact lf _ bfar.neg
        · exact l3.mono (by decide)
        · exact l4.mono (by decide)
        · exact l5.mono (by decide)
    · rw [List.length_append, ln2]
      show 12 ≤ _ + 5
      omega
    · rw [List.length_append, ln2]
      show _ + 5 ≤ 40
      omega
end
end K15

set_option Elab.async false
set_option linter.all false
set_option maxRecDepth 100000
set_option maxHeartbeats 4000000
set_option exponentiation.threshold 10000
namespace K15
open PySem L2 Lb
open C8 (pss_cut)
def sp_points_right (A C : Addr) : Sp := fun vs H Q _ => ∃ (c l : Addr) (zs : List Pt), vs = [.ref c, .ref l] ∧ Cu A C H c zs ∧ Spots H l zs ∧ zs.length ≤ 11 ∧ ∀ H', Same H H' → Q (.bl true) H'
def sp_rises (A C : Addr) : Sp := fun vs H Q _ => ∃ (c q : Addr) (zs : List Pt) (rs : List Addr) (xs : List Q2), vs = [.ref c, .ref q] ∧ Cu A C H c zs ∧ CuN 160 zs ∧ H q = some (.lst (rs.map V.ref)) ∧ FrRows H rs xs ∧ (∀ x ∈ xs, Low 700 x) ∧ ∀ H', Same H H' → Q (.bl true) H'
def sp_straight_right : Sp := fun vs H Q _ => ∃ (p : Addr), vs = [.ref p] ∧ PotAt H p ∧ ∀ H', Mov p H H' → Q (.bl true) H'
theorem slope_lt {A B D c x y : Rat} (hB : 0 < B) (hD : 0 < D) (h : x < y) : A + B * ((x - c) / D) < A + B * ((y - c) / D) := by
  have h1 : (x - c) / D < (y - c) / D := by
    rw [Rat.div_def, Rat.div_def]
    exact Rat.mul_lt_mul_of_pos_right (by grind) (Rat.inv_pos.mpr hD)
  have h2 := Rat.mul_lt_mul_of_pos_right h1 hB
  grind
theorem line_lt {s : Nat} {z z' : Pt} {x y : Rat} (h1 : val (sd s z) < val (sd s z')) (h2 : val (sd (1 - s) z) < val (sd (1 - s) z')) (h : x < y) : onLine s z z' x < onLine s z z' y := by
  unfold onLine
  exact slope_lt (by grind) (by grind) h
theorem line_lo {s : Nat} {z z' : Pt} (h1 : val (sd s z) < val (sd s z')) : onLine s z z' (val (sd s z)) = val (sd (1 - s) z) := by
  unfold onLine
  have : val (sd s z') - val (sd s z) ≠ 0 := by grind
  grind
theorem line_hi {s : Nat} {z z' : Pt} (h1 : val (sd s z) < val (sd s z')) : onLine s z z' (val (sd s z')) = val (sd (1 - s) z') := by
  unfold onLine
  have : val (sd s z') - val (sd s z) ≠ 0 := by grind
  grind
/-- a curve rises -/
theorem line_mono {s : Nat} {zs : List Pt} {x y : Q2} {i j : Nat} {z z' w w' : Pt} (hs : s = 0 ∨ s = 1) (h : ∀ s, s = 0 ∨ s = 1 → Asc s zs) (p : PieceAt zs s x i) (q : PieceAt zs s y j) (hz : zs[i]? = some z) (hz' : zs[i + 1]? = some z') (hw : zs[j]? = some w) (hw' : zs[j + 1]? = some w')
    (lt : val x < val y) : onLine s z z' (val x) < onLine s w w' (val y) := by
  have hs' : 1 - s = 0 ∨ 1 - s = 1 := by omega
  have A := h s hs
  have B := h (1 - s) hs'
  have a1 := A i z z' hz hz'
  have a2 := B i z z' hz hz'
  have b1 := A j w w' hw hw'
  have b2 := B j w w' hw hw'
  rcases Nat.lt_trichotomy i j with c | c | c
  · have e1 : val x < val (sd s z') := by
      rcases p.hi with e | ⟨u, hu, e⟩
      · have := q.lt
        omega
      · rw [hz'] at hu
        cases hu
        exact e
    have e2 : val (sd s w) ≤ val y := by
      rcases q.lo with e | ⟨u, hu, e⟩
      · omega
      · rw [hw] at hu
        cases hu
        exact e
    have h1 := line_lt a1 a2 e1
    rw [line_hi a1] at h1
    have h2 : val (sd (1 - s) w) ≤ onLine s w w' (val y) := by
      by_cases e : val (sd s w) = val y
      · rw [← e, line_lo b1]
        exact Rat.le_refl
      · have := line_lt b1 b2 (show val (sd s w) < val y by grind)
        rw [line_lo b1] at this
        exact Rat.le_of_lt this
    have h3 : val (sd (1 - s) z') ≤ val (sd (1 - s) w) := by
      rcases Nat.lt_or_ge (i + 1) j with d | d
      · exact Rat.le_of_lt (B.lt d hz' hw)
      · rw [show i + 1 = j by omega, hw] at hz'
        cases hz'
        exact Rat.le_refl
    grind
  · subst c
    rw [hz] at hw
    rw [hz'] at hw'
    cases hw
    cases hw'
    exact line_lt a1 a2 lt
  · exfalso
    have e1 : val y < val (sd s w') := by
      rcases q.hi with e | ⟨u, hu, e⟩
      · have := p.lt
        omega
      · rw [hw'] at hu
        cases hu
        exact e
    have e2 : val (sd s z) ≤ val x := by
      rcases p.lo with e | ⟨u, hu, e⟩
      · omega
      · rw [hz] at hu
        cases hu
        exact e
    have h3 : val (sd s w') ≤ val (sd s z) := by
      rcases Nat.lt_or_ge (j + 1) i with d | d
      · exact Rat.le_of_lt (A.lt d hw' hz)
      · rw [show j + 1 = i by omega, hz] at hw'
        cases hw'
        exact Rat.le_refl
    grind
theorem val_one : val ((1, 1) : Q2) = 1 := by
  show ((1 : Int) : Rat) / ((1 : Int) : Rat) = 1
  rw [Rat.intCast_one]
  decide +kernel
section
variable {P : Program} {w : World} {K : PySem.W.Frag} {mg : Str → Option Value} {base : Heap} {a : Ad}
theorem ok_points_right (T : Txt K mg a) : FnOk P w K mg base CX0 4 a.f_points_right a.d_points_right ["_law_made", "_law_spots"] (sp_points_right a.c_Amount a.c_Curve) := by
  refine T.F_points_right.ok sc_points_right (fun vs H Q E h => ?_) (fun cdv A outer s H vs Q E hr h => ?_)
  · obtain ⟨c, l, zs, rfl, _⟩ := h
    rfl
  · obtain ⟨c, ls, zs, rfl, hc, hl, l11, k⟩ := h
    refine ⟨_, (pss_cons (ps_set (i := 2) sc_points_right.nd rfl (by first | exact Or.inl rfl | exact Or.inr rfl) (pe_meth0 (pv 0) T.cl2 T.mPts (ok_Curvepoints T) (hr.mono (by decide)) (b_Curvepoints T) .nil pass0))
 (pss_cons (ps_if (PW.pt (pw_or (pt_not (pt_val (pe_callB (call_isiK' (K := K) rfl) (by rfl) T.b_isinstance (by decide +kernel) (pa_cons (pv 2) (pa_cons (pe_bltn (v := .ty "list") (by rfl) T.b_list (by decide +kernel) rfl) pa_nil))))) (pw_or1 (pt_not (pt_val (pe_callB (cr_allK (K := K) rfl rfl) (by rfl) T.b_all (by decide +kernel) (pa_cons (pe_lc (own := [("_law_pair", 3)]) (by rfl) sc_points_right.nd (pi_listK (K := K) rfl (pv 2)) (blkOk_by (own := [("_law_pair", 3)]) (N := ["_law_made", "_law_spots", "_law_told", "_law_pair", "_law_due"]) (sc := defScope s_points_right) (by decide +kernel)) (fun _ _ _ _ _ => (pg_name (i := 3) sc_points_right.nd rfl (by first | exact Or.inl rfl | exact Or.inr rfl))) (fun _ _ _ _ _ => pts_nil) (fun _ _ _ _ _ => (pe_and (pe_callB (call_isiK' (K := K) rfl) (by rfl) T.b_isinstance (by decide +kernel) (pa_cons (pv 3) (pa_cons (pe_bltn (v := .ty "tuple") (by rfl) T.b_tuple (by decide +kernel) rfl) pa_nil))) (pe_one (pe_cmpR op_eq (pe_callB (call_lenK (K := K) rfl) (by rfl) T.b_len (by decide +kernel) (pa_cons (pv 3) pa_nil)) pe_int (nomark _)))))) pa_nil))))))) (pss_one (ps_ret pe_bl)) pss_nil)
 (pss_cons (ps_if (pt_not (pt_val (pe_callB (cr_allK (K := K) rfl rfl) (by rfl) T.b_all (by decide +kernel) (pa_cons (pe_lc (own := [("_law_pair", 3), ("_law_due", 4)]) (by rfl) sc_points_right.nd (pi_zip (by rfl) T.b_zip (pa_cons (pv 2) (pa_cons (pv 1) pa_nil))) (blkOk_by (own := [("_law_pair", 3), ("_law_due", 4)]) (N := ["_law_made", "_law_spots", "_law_told", "_law_pair", "_law_due"]) (sc := defScope s_points_right) (by decide +kernel)) (fun _ _ _ _ _ => (pg_tupK (K := K) (n := 2) rfl rfl (pgs_cons (pg_name (i := 3) sc_points_right.nd rfl (by first | exact Or.inl rfl | exact Or.inr rfl)) (pgs_cons (pg_name (i := 4) sc_points_right.nd rfl (by first | exact Or.inl rfl | exact Or.inr rfl)) pgs_nil)))) (fun _ _ _ _ _ => pts_nil) (fun _ _ _ _ _ => (pe_and (pe_call (ok_is T) (hr.mono (by decide)) (by rfl) T.m_is T.F_is.kp (b_is T) .nil pass0 (pa_cons (pe_ix (ix_tupK (K := K) rfl) (pv 3) pe_int (fun _ _ => rfl)) (pa_cons (pe_ix (ix_tupK (K := K) rfl) (pv 4) pe_int (fun _ _ => rfl)) pa_nil))) (pe_one (pe_call (ok_is T) (hr.mono (by decide)) (by rfl) T.m_is T.F_is.kp (b_is T) .nil pass0 (pa_cons (pe_ix (ix_tupK (K := K) rfl) (pv 3) pe_int (fun _ _ => rfl)) (pa_cons (pe_ix (ix_tupK (K := K) rfl) (pv 4) pe_int (fun _ _ => rfl)) pa_nil))))))) pa_nil)))) (pss_one (ps_ret pe_bl)) pss_nil)
 (pss_one (ps_ret (pe_cmpR op_eq (pe_callB (call_lenK (K := K) rfl) (by rfl) T.b_len (by decide +kernel) (pa_cons (pv 2) pa_nil)) (pe_callB (call_lenK (K := K) rfl) (by rfl) T.b_len (by decide +kernel) (pa_cons (pv 1) pa_nil)) (nomark _))))))), ?_⟩
    obtain ⟨dx, l0, ec, _⟩ := hc.ex
    refine ⟨_, rfl, c, dx, _, rfl, ec, cu_no _ (by decide +kernel), c, zs, rfl, hc, by omega, fun H1 l s1 hl0 cr => ?_⟩
    obtain ⟨rs, e1, pr⟩ := cr.ex
    obtain ⟨qs, e2, ps⟩ := (hl.same s1).ex
    have lrs := Paired.len pr
    have lqs := Paired.len ps
    refine ⟨_, rfl, _, _, _, _, true, rfl, .ty _, .base (.lst e1), kit_ty (by decide +kernel), true, rfl, iteF ?_⟩
    refine ⟨_, rfl, l, rfl, ⟨_, SqL.of e1⟩, fun D hD => ?_⟩
    refine lc_list (K := K) (a := l) (xs := rs.map V.ref) (fun i H' => Same H1 H' ∧ H' D = some (.lst ((List.replicate i true).map V.bl))) ⟨Lb.Same.upd hD, upd_same⟩ (fun i H' _ b => SqL.of (b.1 _ _ e1)) ?_ ?_
    · rintro i v H' hi ⟨s', eD⟩
      obtain ⟨r, rfl, hr'⟩ := ref_at hi
      obtain ⟨z, hz, p1, p2, er, f1, f2⟩ := Paired.at_ pr hr'
      have hi' := (List.getElem?_eq_some_iff.mp hr').1
      refine ⟨rfl, ?_⟩
      refine ⟨_, rfl, _, _, _, _, true, rfl, .ty _, .base (.tup (s' _ _ er)), kit_ty (by decide +kernel), true, rfl, iteT ?_⟩
      refine ⟨_, rfl, _, _, rfl, .inr (SqT.of (s' _ _ er)), rfl, _, eD, ?_, Lb.Same.updl s' hD, ?_⟩
      · rw [List.length_map, List.length_replicate]
        exact szlt (by omega)
      · rw [upd_same, List.replicate_succ', List.map_append]
        rfl
    rintro H2 ⟨s2, eD⟩
    refine ⟨D, _, rfl, SqL.of eD, ?_⟩
    rw [all_replicate_true]
    refine ⟨true, rfl, iteF ?_⟩
    have e1 := s2 _ _ e1
    have e2 := s2 _ _ e2
    have pr := Paired.imp pr fun _ _ h => RowA.same h s2
    have ps := Paired.imp ps fun _ _ h => SpR.same h s2
    refine ⟨_, rfl, _, rfl, l, ls, _, _, rfl, SqL.of e1, SqL.of e2, fun D2 hD2 => ?_⟩
    refine lc_it (walk_zip (K := K) (a := l) (b := ls) (xs := rs.map V.ref) (ys := qs.map V.ref) (n := zs.length) (by rw [List.length_map, List.length_map, lrs, lqs]; omega)) (fun i H' => Same H2 H' ∧ H' D2 = some (.lst ((List.replicate i true).map V.bl))) ⟨Lb.Same.upd hD2, upd_same⟩ (fun i H' _ b => ⟨SqL.of (b.1 _ _ e1), SqL.of (b.1 _ _ e2)⟩) ?_ ?_
    · rintro i v H5 H6 hi ⟨s', eD⟩ ⟨T0, x, y, rfl, hT, rfl, ex, ey⟩
      obtain ⟨r, rfl, hr'⟩ := ref_at ex
      obtain ⟨r2, rfl, hr2⟩ := ref_at ey
      obtain ⟨z, hz, pz⟩ := Paired.at_ pr hr'
      obtain ⟨z2, hz2, pz2⟩ := Paired.at_ ps hr2
      rw [hz] at hz2
      cases hz2
      have sT := Lb.Same.upd (o := .tup [V.ref r, V.ref r2]) hT
      have S := s'.trans sT
      obtain ⟨p1, p2, er, f1, f2⟩ := pz.same S
      obtain ⟨p3, p4, er2, f3, f4⟩ := pz2.same S
      refine ⟨T0, _, rfl, SqT.of upd_same, rfl, _, _, rfl, _, _, rfl, rfl, rfl, ?_⟩
      refine ⟨_, rfl, _, _, _, _, rfl, rfl, SqT.of er, at0, _, rfl, _, _, _, _, rfl, rfl, SqT.of er2, at0, p1, p3, z.1, rfl, f1, f3, fun H7 s7 => ⟨true, rfl, iteT ?_⟩⟩
      refine ⟨_, rfl, _, _, _, _, rfl, rfl, SqT.of (s7 _ _ er), at1, _, rfl, _, _, _, _, rfl, rfl, SqT.of (s7 _ _ er2), at1, p2, p4, z.2, rfl, AmQ.same f2 s7, FrQ.same f4 s7, fun H8 s8 => ⟨_, s8 _ _ (s7 _ _ (sT _ _ eD)), ?_, Lb.Same.updl ((S.trans s7).trans s8) hD2, ?_⟩⟩
      · rw [List.length_map, List.length_replicate]
        exact szlt (by omega)
      · rw [upd_same, List.replicate_succ', List.map_append]
        rfl
    rintro H3 ⟨s3, eD2⟩
    refine ⟨D2, _, rfl, SqL.of eD2, ?_⟩
    rw [all_replicate_true]
    refine ⟨true, rfl, iteF ?_⟩
    refine ⟨_, rfl, _, _, rfl, .inl (SqL.of (s3 _ _ e1)), _, rfl, _, _, rfl, .inl (SqL.of (s3 _ _ e2)), rfl, ?_⟩
    have e := k _ ((s1.trans s2).trans s3)
    show Q (.bl (decide (V.int _ = V.int _))) H3
    rw [List.length_map, List.length_map, lrs, lqs, decide_eq_true rfl]
    exact e
theorem ok_rises (T : Txt K mg a) : FnOk P w K mg base CX0 8 a.f_rises a.d_rises ["_law_made", "_law_some"] (sp_rises a.c_Amount a.c_Curve) := by
  refine T.F_rises.ok sc_rises (fun vs H Q E h => ?_) (fun cdv A outer s H vs Q E hr h => ?_)
  · obtain ⟨c, q, zs, rs, xs, rfl, _⟩ := h
    rfl
  · obtain ⟨c, q, zs, rs, xs, rfl, hc, hn, eq, pf, lx, k⟩ := h
    refine ⟨_, (pss_cons (ps_for PassesOwn.never rfl (pi_listK (K := K) rfl (pv 1)) (pg_name (i := 2) sc_rises.nd rfl (by first | exact Or.inl rfl | exact Or.inr rfl)) (pss_one (ps_for PassesOwn.never rfl (pi_listK (K := K) rfl (pv 1)) (pg_name (i := 3) sc_rises.nd rfl (by first | exact Or.inl rfl | exact Or.inr rfl)) (pss_one (ps_if (PW.pt (pw_and (pt_val (pe_call (ok_less T) (hr.mono (by decide)) (by rfl) T.m_less T.F_less.kp (b_less T) .nil pass0 (pa_cons (pv 2) (pa_cons (pv 3) pa_nil)))) (pw_and1 (pt_not (pt_cmpR (op_ownCmp (n := 1) (C := a.c_Amount) (K := K) rfl (fun _ _ => rfl) T.cLt.at_ T.cLt.fn ((ok_Amount_lt_ T).raw (b_Amount_lt_ T) .nil) (hr.mono (by decide)) pass0) (pe_callI (pv 0) T.cCall ((ok_Curve_call_ T).raw (b_Curve_call_ T) .nil) (hr.mono (by decide)) pass0 (pa_cons (pe_call (ok_amount T) (hr.mono (by decide)) (by rfl) T.m_amount T.F_amount.kp (b_amount T) .nil pass0 (pa_cons (pv 2) pa_nil)) pa_nil)) (pe_callI (pv 0) T.cCall ((ok_Curve_call_ T).raw (b_Curve_call_ T) .nil) (hr.mono (by decide)) pass0 (pa_cons (pe_call (ok_amount T) (hr.mono (by decide)) (by rfl) T.m_amount T.F_amount.kp (b_amount T) .nil pass0 (pa_cons (pv 3) pa_nil)) pa_nil)) (nomark _)))))) (pss_one (ps_ret pe_bl)) pss_nil)))))
 (pss_one (ps_ret pe_bl))), ?_⟩
    refine ⟨_, rfl, q, rfl, ⟨_, SqL.of eq⟩, ?_⟩
    refine for_list (K := K) (a := q) (xs := rs.map V.ref) (fun i σ H' => ∃ u v, σ = [some (.ref c), some (.ref q), u, v] ∧ Same H H') ⟨_, _, rfl, Same.refl _⟩ (fun i σ H' _ ⟨_, _, _, s⟩ => SqL.of (s _ _ eq)) ?_ ?_
    · rintro i x σ H1 hi ⟨u, v, rfl, s1⟩
      obtain ⟨r, rfl, hr'⟩ := ref_at hi
      obtain ⟨x1, hx1, f1⟩ := Paired.at_ pf hr'
      have l1 := lx x1 (List.mem_of_getElem? hx1)
      refine ⟨_, rfl, q, rfl, ⟨_, SqL.of (s1 _ _ eq)⟩, ?_⟩
      refine for_list (K := K) (a := q) (xs := rs.map V.ref) (fun j σ H' => ∃ v, σ = [some (.ref c), some (.ref q), some (.ref r), v] ∧ Same H H') ⟨_, rfl, s1⟩ (fun i σ H' _ ⟨_, _, s⟩ => SqL.of (s _ _ eq)) ?_ ?_
      · rintro j y σ H2 hj ⟨v, rfl, s2⟩
        obtain ⟨r2, rfl, hr2⟩ := ref_at hj
        obtain ⟨x2, hx2, f2⟩ := Paired.at_ pf hr2
        have l2 := lx x2 (List.mem_of_getElem? hx2)
        refine ⟨_, rfl, _, rfl, r, r2, x1, x2, 700, rfl, f1.same s2, f2.same s2, l1, l2, by decide, _, rfl, ite2 (fun h => ?_) (fun h => ?_)⟩
        · have h : val x1 < val x2 := of_decide_eq_true h
          refine ⟨_, rfl, c, rfl, _, rfl, r, x1, 700, rfl, f1.same s2, l1, by decide, fun H3 v3 s3 iv3 => ⟨((hc.same s2).same s3).ins, ?_⟩⟩
          refine ⟨c, v3, zs, x1, 160, 700, rfl, (hc.same s2).same s3, hn, iv3, l1, by decide, fun H4 t4 i4 w4 w4' r4 s4 p4 hw4 hw4' a4 lr4 v4 => ?_⟩
          have S4 := (s2.trans s3).trans s4
          refine ⟨_, rfl, c, rfl, _, rfl, r2, x2, 700, rfl, f2.same S4, l2, by decide, fun H5 v5 s5 iv5 => ⟨((hc.same S4).same s5).ins, ?_⟩⟩
          refine ⟨c, v5, zs, x2, 160, 700, rfl, (hc.same S4).same s5, hn, iv5, l2, by decide, fun H6 t6 i6 w6 w6' r6 s6 p6 hw6 hw6' a6 lr6 v6 => ?_⟩
          have a4 := a4.same (s5.trans s6)
          obtain ⟨d4, e4⟩ := id a4
          obtain ⟨d6, e6⟩ := id a6
          have lt : r4.1 * r6.2 < r6.1 * r4.2 := by
            rw [val_lt lr4.pos lr6.pos, v4, v6]
            exact line_mono (.inl rfl) hn.up p4 p6 hw4 hw4' hw6 hw6' h
          refine ⟨t4, d4, _, _, rfl, e4, T.I.ty T.cl e6, Inst.nSelf, t4, t6, _, _, _, _, rfl, a4, a6, lr4.t.mono (by decide), lr4.b.mono (by decide), lr6.t.mono (by decide), lr6.b.mono (by decide), _, rfl, iteN ?_ ?_⟩
          · show ¬ (!decide (r4.1 * r6.2 < r6.1 * r4.2)) = true
            rw [decide_eq_true lt]
            simp
          · exact ⟨_, rfl, (S4.trans s5).trans s6⟩
        · exact ⟨_, rfl, s2⟩
      · rintro σ H2 ⟨v, rfl, s2⟩
        exact ⟨_, _, rfl, s2⟩
    · rintro σ H2 ⟨u, v, rfl, s2⟩
      exact k _ s2
theorem ok_straight_right (T : Txt K mg a) : FnOk P w K mg base CX0 11 a.f_straight_right a.d_straight_right ["_law_pot_here"] sp_straight_right := by
  refine T.F_straight_right.ok sc_straight_right (fun vs H Q E h => ?_) (fun cdv A outer s H vs Q E hr h => ?_)
  · obtain ⟨p, rfl, _⟩ := h
    rfl
  · obtain ⟨p, rfl, hp, k⟩ := h
    refine ⟨_, (pss_cons (ps_par (i := 1) (j := 2) rfl sc_straight_right.nd rfl rfl (by decide) rfl rfl (pa_cons (pe_call (ok_step T) (hr.mono (by decide)) (by rfl) T.m_step T.F_step.kp (b_step T) .nil pass0 (pa_cons (pv 0) pa_nil)) (pa_cons (pe_call (ok_step T) (hr.mono (by decide)) (by rfl) T.m_step T.F_step.kp (b_step T) .nil pass0 (pa_cons (pv 0) pa_nil)) pa_nil)) (by rfl))
 (pss_cons (ps_set (i := 3) sc_straight_right.nd rfl (by first | exact Or.inl rfl | exact Or.inr rfl) (pe_smeth (pe_glob (v := .ref a.c_Curve) rfl T.mC rfl) T.sStr (ok_Curvestraight T) (hr.mono (by decide)) (b_Curvestraight T) .nil pass0 (pa_cons (pe_call (ok_amount T) (hr.mono (by decide)) (by rfl) T.m_amount T.F_amount.kp (b_amount T) .nil pass0 (pa_cons (pv 1) pa_nil)) pa_nil)))
 (pss_cons (ps_if (PW.pt (pw_or (pt_not (pt_val (pe_call (ok_is T) (hr.mono (by decide)) (by rfl) T.m_is T.F_is.kp (b_is T) .nil pass0 (pa_cons (pe_meth (pv 3) T.cl2 T.mBack (ok_Curveback T) (hr.mono (by decide)) (b_Curveback T) .nil pass0 (pa_cons (pe_call (ok_amount T) (hr.mono (by decide)) (by rfl) T.m_amount T.F_amount.kp (b_amount T) .nil pass0 (pa_cons (pv 2) pa_nil)) pa_nil)) (pa_cons (pe_call (ok_times T) (hr.mono (by decide)) (by rfl) T.m_times T.F_times.kp (b_times T) .nil pass0 (pa_cons (pv 1) (pa_cons (pv 2) pa_nil))) pa_nil))))) (pw_or1 (pt_not (pt_val (pe_call (ok_is T) (hr.mono (by decide)) (by rfl) T.m_is T.F_is.kp (b_is T) .nil pass0 (pa_cons (pe_callI (pv 3) T.cCall ((ok_Curve_call_ T).raw (b_Curve_call_ T) .nil) (hr.mono (by decide)) pass0 (pa_cons pe_int pa_nil)) (pa_cons (pe_tup (pa_cons pe_int (pa_cons pe_int pa_nil))) pa_nil)))))))) (pss_one (ps_ret pe_bl)) pss_nil)
 (pss_one (ps_ret (pe_call (ok_is T) (hr.mono (by decide)) (by rfl) T.m_is T.F_is.kp (b_is T) .nil pass0 (pa_cons (pe_callI (pv 3) T.cCall ((ok_Curve_call_ T).raw (b_Curve_call_ T) .nil) (hr.mono (by decide)) pass0 (pa_cons (pe_call (ok_amount T) (hr.mono (by decide)) (by rfl) T.m_amount T.F_amount.kp (b_amount T) .nil pass0 (pa_cons (pv 2) pa_nil)) pa_nil)) (pa_cons (pe_call (ok_low T) (hr.mono (by decide)) (by rfl) T.m_low T.F_low.kp (b_low T) .nil pass0 (pa_cons (pe_op op_mulX (pe_ix (ix_tupK (K := K) rfl) (pv 2) pe_int (fun _ _ => rfl)) (pe_ix (ix_tupK (K := K) rfl) (pv 1) pe_int (fun _ _ => rfl))) (pa_cons (pe_op op_mulX (pe_ix (ix_tupK (K := K) rfl) (pv 2) pe_int (fun _ _ => rfl)) (pe_ix (ix_tupK (K := K) rfl) (pv 1) pe_int (fun _ _ => rfl))) pa_nil))) pa_nil)))))))), ?_⟩
    refine ⟨_, rfl, p, rfl, hp, fun H1 q1 st m1 f1 l1 g1 => ⟨_, rfl, p, rfl, m1.pot, fun H2 q2 x m2 f2 l2 g2 => ⟨_, _, rfl, ?_⟩⟩⟩
    have M2 := m1.trans m2
    have f1 := FrQ.nl f1 (NL.mov m2 m1.pot)
    refine ⟨rfl, _, rfl, q1, st, 30, rfl, f1, l1, by decide, fun H3 v s3 iv => ⟨v, st, 30, rfl, iv, l1, by decide, g1, fun H4 c s4 hc => ?_⟩⟩
    have S4 := s3.trans s4
    have vs0 := (val_pos l1.pos).mp g1
    have hn : CuN 31 [org, (st, (1, 1))] := by
      refine ⟨fun z hz => ?_, (by show 2 ≤ 2; decide), (by show 2 ≤ 200; decide), fun s hs i z z' hz hz' => ?_⟩
      · simp only [List.mem_cons, List.not_mem_nil, or_false] at hz
        rcases hz with rfl | rfl
        · exact ⟨org_low, org_low⟩
        · exact ⟨l1.mono (by decide), bd_one, bd_one, by show (0 : Int) < 1; decide, by show Int.gcd 1 1 = 1; decide⟩
      · have := (List.getElem?_eq_some_iff.mp hz').1
        obtain rfl : i = 0 := by simp at this; omega
        cases hz
        cases hz'
        rcases hs with rfl | rfl
        · show val (0, 1) < val st
          rw [val_zero]
          exact vs0
        · show val (0, 1) < val (1, 1)
          rw [val_zero, val_one]
          decide
    have two : ∀ {s : Nat} {x : Q2} {i : Nat} {z z' : Pt}, PieceAt [org, (st, (1, 1))] s x i → [org, (st, ((1, 1) : Q2))][i]? = some z → [org, (st, ((1, 1) : Q2))][i + 1]? = some z' → z = org ∧ z' = (st, (1, 1)) := by
      intro s x i z z' p h1 h2
      have := p.lt
      obtain rfl : i = 0 := by simp at this; omega
      cases h1
      cases h2
      exact ⟨rfl, rfl⟩
    have lin1 : ∀ y : Rat, onLine 1 org (st, (1, 1)) y = val st * y := by
      intro y
      show val (0, 1) + (val st - val (0, 1)) * ((y - val (0, 1)) / (val (1, 1) - val (0, 1))) = _
      rw [val_zero, val_one]
      grind
    have lin0 : ∀ y : Rat, onLine 0 org (st, (1, 1)) y = y / val st := by
      intro y
      show val (0, 1) + (val (1, 1) - val (0, 1)) * ((y - val (0, 1)) / (val st - val (0, 1))) = _
      rw [val_zero, val_one]
      grind
    obtain ⟨dx, l0, ec, _⟩ := hc.ex
    refine ⟨_, rfl, c, dx, _, rfl, ec, cu_no _ (by decide +kernel), _, rfl, q2, x, 30, rfl, f2.same S4, l2, by decide, fun H5 v5 s5 iv5 => ?_⟩
    refine ⟨c, v5, _, x, 31, 30, rfl, hc.same s5, hn, iv5, l2, by decide, fun H6 t6 i6 z6 z6' r6 s6 p6 hz6 hz6' a6 lr6 v6 => ?_⟩
    obtain ⟨rfl, rfl⟩ := two p6 hz6 hz6'
    have S6 := (S4.trans s5).trans s6
    refine ⟨_, rfl, _, rfl, q1, q2, st, x, 30, rfl, f1.same S6, f2.same S6, l1, l2, by decide, fun H7 d7 s7 f7 => ?_⟩
    have e7 : timesF st x = r6 := val_inj (mul_low l1 l2 (Nat.le_refl _)) lr6 (by
      rw [v6, lin1]
      exact val_mul l1.pos l2.pos)
    rw [e7] at f7
    refine ⟨t6, d7, r6, rfl, a6.same s7, f7, fun H8 s8 => ⟨true, rfl, iteF ?_⟩⟩
    have S8 := (s5.trans s6).trans (s7.trans s8)
    have hc8 := hc.same S8
    refine ⟨_, rfl, c, rfl, hc8.ins, c, .int 0, _, (0, 1), 31, 1, rfl, hc8, hn, .inl ⟨rfl, rfl⟩, org_low, by decide, fun H9 t9 i9 z9 z9' r9 s9 p9 hz9 hz9' a9 lr9 v9 => ⟨sz, fun t ht => ?_⟩⟩
    obtain ⟨rfl, rfl⟩ := two p9 hz9 hz9'
    have e9 : r9 = (0, 1) := val_inj (m := 1) lr9 org_low (by
      rw [v9, lin0, val_zero]
      grind)
    rw [e9] at a9
    have st' := Lb.Same.upd (o := .tup [V.int 0, V.int 1]) ht
    refine ⟨t9, t, (0, 1), rfl, a9.same st', upd_same, fun Ha sa => ⟨true, rfl, iteF ?_⟩⟩
    have Sa := (s9.trans st').trans sa
    have S4a := S4.trans (S8.trans Sa)
    refine ⟨_, rfl, c, rfl, _, rfl, q2, x, 30, rfl, f2.same S4a, l2, by decide, fun Hb vb sb ivb => ⟨((hc8.same Sa).same sb).ins, ?_⟩⟩
    refine ⟨c, vb, _, x, 31, 30, rfl, (hc8.same Sa).same sb, hn, ivb, l2, by decide, fun Hc tc ic zc zc' rc sc pc hzc hzc' ac lrc vc => ?_⟩
    obtain ⟨rfl, rfl⟩ := two pc hzc hzc'
    have Sc := (S4a.trans sb).trans sc
    have b1 : Bd 30 x.1 := l2.t
    have b2 : Bd 30 x.2 := l2.b
    have b3 : Bd 30 st.1 := l1.t
    have b4 : Bd 30 st.2 := l1.b
    refine ⟨_, rfl, _, _, _, _, rfl, rfl, SqT.of (f2.same Sc), at0, _, rfl, _, _, _, _, rfl, rfl, SqT.of (f1.same Sc), at1, _, _, rfl, rfl, b1.cm b4 (by decide), _, rfl, _, _, _, _, rfl, rfl, SqT.of (f2.same Sc), at1, _, rfl, _, _, _, _, rfl, rfl, SqT.of (f1.same Sc), at0, _, _, rfl, rfl, b2.cm b3 (by decide), ?_⟩
    refine ⟨_, _, rfl, Int.mul_ne_zero (by have := l2.pos; omega) (by omega), (b1.mul b4).mono (by decide), (b2.mul b3).mono (by decide), fun Hd dd sd' fd => ?_⟩
    have ed : rd (x.1 * st.2) (x.2 * st.1) = rc := val_inj (div_low l2 l1 (by omega) (Nat.le_refl _)) lrc (by
      rw [vc, lin0]
      exact val_div l2.pos l1.pos (by omega))
    rw [ed] at fd
    exact ⟨tc, dd, rc, rfl, ac.same sd', fd, fun He se => k _ (M2.same ((Sc.trans sd').trans se))⟩
end
end K15

set_option Elab.async false
set_option linter.all false
set_option maxRecDepth 100000
set_option maxHeartbeats 8000000
set_option exponentiation.threshold 10000
namespace K15
open PySem L2 Lb
open C8 (pss_cut)
theorem kb_Curve_init_ {K : PySem.W.Frag} {mg : Str → Option Value} {a : Ad} (T : Txt K mg a) : KBn K a.d_Curve_init_ ["self", "points"] 1 ["points"] (fun us ws => us ++ ws) (fun vs zs => vs ++ zs) :=
  kbn_of T.F_Curve_init_ fun _ _ _ _ _ _ us ws h1 h2 => match us, ws, h1, h2 with | [_], [_], _, _ => rfl
theorem AmAt.nl {C p : Addr} {H H' : Hp} {t b : Int} (h : AmAt C H p t b) (s : NL H H') : AmAt C H' p t b := let ⟨dx, e⟩ := h; ⟨dx, s _ _ (fun _ z => nomatch z) e⟩
theorem IsP.nl {C : Addr} {v : V} {H H' : Hp} {t b : Int} (h : IsP C H v t b) (s : NL H H') : IsP C H' v t b := by
  rcases h with h | ⟨q, e, h⟩
  · exact .inl h
  · exact .inr ⟨q, e, h.nl s⟩
theorem PtP.nl {C : Addr} {H H' : Hp} {v : V} {z : Pt} (h : PtP C H v z) (s : NL H H') : PtP C H' v z :=
  let ⟨t, u, w, e, et, p, q⟩ := h
  ⟨t, u, w, e, s _ _ (fun _ z => nomatch z) et, p.nl s, q.nl s⟩
theorem RowA.nl {C : Addr} {H H' : Hp} {r : Addr} {z : Pt} (h : RowA C H r z) (s : NL H H') : RowA C H' r z :=
  let ⟨p, q, e, ap, aq⟩ := h
  ⟨p, q, s _ _ (fun _ z => nomatch z) e, ap.nl s, aq.nl s⟩
/-- a curve, the address of its points told -/
structure CuAt (A C : Addr) (H : Hp) (c l : Addr) (zs : List Pt) : Prop where
  e : ∃ dx, H c = some (.ins C dx (putF "_points" (.ref l) []))
  r : Crv A H l zs
theorem CuAt.cu {A C : Addr} {H : Hp} {c l : Addr} {zs : List Pt} (h : CuAt A C H c l zs) : Cu A C H c zs := let ⟨dx, e⟩ := h.e; ⟨dx, l, e, h.r⟩
/-- lists are changed, not that one -/
theorem CuAt.nl {A C : Addr} {H H' : Hp} {c l : Addr} {zs : List Pt} (h : CuAt A C H c l zs) (s : NL H H') (k : ∀ o, H l = some o → H' l = some o) : CuAt A C H' c l zs :=
  let ⟨dx, e⟩ := h.e
  let ⟨rs, el, p⟩ := h.r.ex
  ⟨⟨dx, s _ _ (fun _ z => nomatch z) e⟩, rs, k _ el, Paired.imp p fun _ _ q => q.nl s⟩
theorem CuAt.same {A C : Addr} {H H' : Hp} {c l : Addr} {zs : List Pt} (h : CuAt A C H c l zs) (s : Same H H') : CuAt A C H' c l zs := h.nl (NL.of s) fun _ e => s _ _ e
theorem CuAt.mov {A C p : Addr} {H H' : Hp} {c l : Addr} {zs : List Pt} (h : CuAt A C H c l zs) (m : Mov p H H') (hp : PotAt H p) (n : l ≠ p) : CuAt A C H' c l zs := h.nl (NL.mov m hp) fun _ e => m.keep _ _ n e
def nz (z : Pt) : Bool := !decide (z.1.1 = 0)
theorem filt_all {α : Type} {f : α → Bool} {l : List α} (h : ∀ z ∈ l, f z = true) : l.filter f = l := List.filter_eq_self.mpr h
theorem filt_no {α : Type} {f : α → Bool} {l : List α} (h : ∀ z ∈ l, f z = false) : l.filter f = [] := List.filter_eq_nil_iff.mpr fun z hz => by rw [h z hz]; simp
theorem isNeg_org : isNeg org = false := by decide
theorem isPos_org : isPos org = false := by decide
theorem nz_org : nz org = false := by decide
theorem withO_self {zs : List Pt} (h : ∃ ns ps, zs = ns ++ org :: ps ∧ (∀ z ∈ ns, z.1.1 < 0) ∧ (∀ z ∈ ps, 0 < z.1.1)) : withO zs = zs ∧ withO (zs.filter nz) = zs := by
  obtain ⟨ns, ps, e, hn, hp⟩ := h
  have f1 : ns.filter isNeg = ns := filt_all fun z hz => by have := hn z hz; simp [isNeg, this]
  have f2 : ns.filter isPos = [] := filt_no fun z hz => by have := hn z hz; simp [isPos]; omega
  have f3 : ps.filter isNeg = [] := filt_no fun z hz => by have := hp z hz; simp [isNeg]; omega
  have f4 : ps.filter isPos = ps := filt_all fun z hz => by have := hp z hz; simp [isPos, this]
  have f5 : ns.filter nz = ns := filt_all fun z hz => by have := hn z hz; simp [nz]; omega
  have f6 : ps.filter nz = ps := filt_all fun z hz => by have := hp z hz; simp [nz]; omega
  have e1 : zs.filter nz = ns ++ ps := by
    rw [e, List.filter_append, List.filter_cons, nz_org, f5, f6]
    simp
  constructor
  · unfold withO
    rw [e, List.filter_append, List.filter_append, List.filter_cons, List.filter_cons, isNeg_org, isPos_org, f1, f2, f3, f4]
    simp
  · unfold withO
    rw [e1, e, List.filter_append, List.filter_append, f1, f2, f3, f4]
    simp
theorem ltq_of {x y : Q2} {n m : Nat} (lx : Low n x) (ly : Low m y) (h : val x < val y) : ltQ x y := (val_lt lx.pos ly.pos).mpr h
theorem asc_filter {s : Nat} {zs : List Pt} (f : Pt → Bool) (h : Asc s zs) : Asc s (zs.filter f) := by
  have key : ∀ l : List Pt, l.Sublist zs → Asc s l := by
    intro l hl i z z' hz hz'
    have hl2 : [z, z'].Sublist zs := by
      refine List.Sublist.trans ?_ hl
      have h1 := (List.getElem?_eq_some_iff.mp hz').1
      have e : l.drop i = z :: z' :: l.drop (i + 2) := by
        have e1 := List.getElem?_eq_some_iff.mp hz
        have e2 := List.getElem?_eq_some_iff.mp hz'
        obtain ⟨g1, g2⟩ := e1
        obtain ⟨g3, g4⟩ := e2
        rw [List.drop_eq_getElem_cons g1, List.drop_eq_getElem_cons g3, g2, g4]
      refine List.Sublist.trans ?_ (List.drop_sublist i l)
      rw [e]
      exact .cons₂ _ (.cons₂ _ (List.nil_sublist _))
    obtain ⟨is, h2, h3⟩ := List.sublist_eq_map_getElem hl2
    have hlen : is.length = 2 := by
      have := congrArg List.length h2
      simpa using this.symm
    obtain ⟨i1, i2, rfl⟩ : ∃ a b, is = [a, b] := by
      match is, hlen with
      | [a, b], _ => exact ⟨a, b, rfl⟩
    simp only [List.map_cons, List.map_nil, List.cons.injEq, and_true] at h2
    have h4 : i1 < i2 := by
      have := h3
      simp at this
      exact this
    exact h.lt (i := i1.val) (j := i2.val) h4 (by rw [h2.1]; simp) (by rw [h2.2]; simp)
  exact key _ List.filter_sublist
theorem pts_of {zs : List Pt} {f : Pt → Bool} (lp : LP zs) (h : ∃ z ∈ zs.filter f, z.1.1 ≠ 0) : Pts 160 (zs.filter f) := by
  have hl : ∀ z ∈ zs.filter f, PtL 160 z := fun z hz => lp.q.l z (List.mem_filter.mp hz).1
  have l11 := lp.l11
  refine ⟨hl, by decide, fun i z z' hz hz' => ?_, h, ?_⟩
  · have p1 := hl z (List.mem_of_getElem? hz)
    have p2 := hl z' (List.mem_of_getElem? hz')
    exact ⟨ltq_of p1.x p2.x (asc_filter f (lp.q.up 0 (.inl rfl)) i z z' hz hz'), ltq_of p1.y p2.y (asc_filter f (lp.q.up 1 (.inr rfl)) i z z' hz hz')⟩
  · have := List.length_filter_le f zs
    omega
theorem lp_some {zs : List Pt} (lp : LP zs) : ∃ z ∈ zs, z.1.1 ≠ 0 := by
  obtain ⟨ns, ps, e, hn, hp⟩ := lp.q.ex
  have l2 := lp.l2
  cases ns with
  | cons z _ => exact ⟨z, by rw [e]; simp, by have := hn z (by simp); omega⟩
  | nil =>
    cases ps with
    | cons z _ => exact ⟨z, by rw [e]; simp, by have := hp z (by simp); omega⟩
    | nil => rw [e] at l2; simp at l2
/-- the other curve -/
def more : List Pt := [org, ((1, 1), (2, 1)), ((3, 1), (9, 1))]
theorem v0 : val ((0, 1) : Q2) = 0 := val_zero
theorem vN (n : Int) : val ((n, 1) : Q2) = (n : Rat) := by
  show (n : Rat) / ((1 : Int) : Rat) = n
  rw [Rat.intCast_one]
  grind
theorem lowN {n : Int} (h : n.natAbs < 1000) : Low 20 ((n, 1) : Q2) := ⟨(show n.natAbs < 2 ^ 20 from Nat.lt_trans h (by decide)), bd_one, by show (0 : Int) < 1; decide, by simp⟩
theorem more_n : CuN 20 more := by
  refine ⟨fun z hz => ?_, by decide, by decide, fun s hs i z z' hz hz' => ?_⟩
  · unfold more at hz
    simp only [List.mem_cons, List.not_mem_nil, or_false] at hz
    rcases hz with rfl | rfl | rfl
    · exact ⟨lowN (by decide), lowN (by decide)⟩
    · exact ⟨lowN (by decide), lowN (by decide)⟩
    · exact ⟨lowN (by decide), lowN (by decide)⟩
  · have := (List.getElem?_eq_some_iff.mp hz').1
    have : i = 0 ∨ i = 1 := by
      unfold more at this
      simp at this
      omega
    rcases this with rfl | rfl
    · cases hz
      cases hz'
      rcases hs with rfl | rfl
      · show val (0, 1) < val (1, 1)
        rw [vN, vN]; decide +kernel
      · show val (0, 1) < val (2, 1)
        rw [vN, vN]; decide +kernel
    · cases hz
      cases hz'
      rcases hs with rfl | rfl
      · show val (1, 1) < val (3, 1)
        rw [vN, vN]; decide +kernel
      · show val (2, 1) < val (9, 1)
        rw [vN, vN]; decide +kernel
theorem more_lo {s : Nat} {x : Q2} {i : Nat} {z z' : Pt} (p : PieceAt more s x i) (hx : val x < val (sd s ((1, 1), (2, 1)))) (h1 : more[i]? = some z) (h2 : more[i + 1]? = some z') : z = org ∧ z' = ((1, 1), (2, 1)) := by
  have h3 := p.lt
  have : i = 0 ∨ i = 1 := by
    unfold more at h3
    simp at h3
    omega
  rcases this with rfl | rfl
  · cases h1
    cases h2
    exact ⟨rfl, rfl⟩
  · exfalso
    rcases p.lo with e | ⟨u, hu, e⟩
    · omega
    · cases hu
      grind
theorem more_hi {s : Nat} {x : Q2} {i : Nat} {z z' : Pt} (p : PieceAt more s x i) (hx : val (sd s ((1, 1), (2, 1))) ≤ val x) (h1 : more[i]? = some z) (h2 : more[i + 1]? = some z') : z = ((1, 1), (2, 1)) ∧ z' = ((3, 1), (9, 1)) := by
  have h3 := p.lt
  have : i = 0 ∨ i = 1 := by
    unfold more at h3
    simp at h3
    omega
  rcases this with rfl | rfl
  · exfalso
    rcases p.hi with e | ⟨u, hu, e⟩
    · unfold more at e
      simp at e
    · cases hu
      grind
  · cases h1
    cases h2
    exact ⟨rfl, rfl⟩
theorem made_same {C : Addr} {H : Hp} {x dx : Addr} (h1 : H x = none) (h2 : H dx = none) : Same H (upd (upd H dx (.own x)) x (.ins C dx [])) := fun y o hy => by
  rw [upd_ne (ne_of_none hy h1), upd_ne (ne_of_none hy h2)]
  exact hy
theorem cut_map (rs : List Addr) (lo hi : Option Int) : cutV (rs.map V.ref) lo hi = ((rs.drop (HT.sIx rs.length 0 lo)).take (HT.sIx rs.length rs.length hi - HT.sIx rs.length 0 lo)).map V.ref := by
  unfold cutV
  rw [List.length_map, List.map_take, List.map_drop]
theorem paired_drop {α β : Type} {R : α → β → Prop} : ∀ {as : List α} {bs : List β} {i : Nat}, Paired R as bs → Paired R (as.drop i) (bs.drop i)
  | _, _, 0, h => by simpa using h
  | _, _, _ + 1, .nil => by simpa using Paired.nil
  | _, _, i + 1, .cons _ t => by simpa using paired_drop (i := i) t
theorem paired_take {α β : Type} {R : α → β → Prop} : ∀ {as : List α} {bs : List β} {i : Nat}, Paired R as bs → Paired R (as.take i) (bs.take i)
  | _, _, 0, h => by simpa using Paired.nil
  | _, _, _ + 1, .nil => by simpa using Paired.nil
  | _, _, i + 1, .cons h t => by simpa using Paired.cons h (paired_take (i := i) t)
theorem paired_cut {α β : Type} {R : α → β → Prop} {as : List α} {bs : List β} {i j : Nat} (h : Paired R as bs) : Paired R ((as.drop i).take j) ((bs.drop i).take j) := paired_take (paired_drop h)
def sp_right : Sp := fun vs H Q _ => ∃ (p : Addr), vs = [.ref p] ∧ PotAt H p ∧ ∀ H', Mov p H H' → Q (.bl true) H'
section
variable {P : Program} {w : World} {K : PySem.W.Frag} {mg : Str → Option Value} {base : Heap} {a : Ad}
theorem ok_right (T : Txt K mg a) : FnOk P w K mg base CX0 12 a.f_right a.d_right ["_law_pot_here"] sp_right := by
  refine T.F_right.ok sc_right (fun vs H Q E h => ?_) (fun cdv A outer s H vs Q E hr h => ?_)
  · obtain ⟨p, rfl, _⟩ := h
    rfl
  · obtain ⟨p, rfl, hp, k⟩ := h
    refine ⟨_, (pss_cons (ps_set (i := 1) sc_right.nd rfl (by first | exact Or.inl rfl | exact Or.inr rfl) (pe_call (ok_points T) (hr.mono (by decide)) (by rfl) T.m_points T.F_points.kp (b_points T) .nil pass0 (pa_cons (pv 0) pa_nil)))
 (pss_cons (ps_setLc (i := 2) (own := [("_law_x", 3), ("_law_y", 4)]) rfl sc_right.nd rfl rfl (sw_true rfl rfl rfl (by decide +kernel)) (pi_listK (K := K) rfl (pv 1)) (blkOk_by (own := [("_law_x", 3), ("_law_y", 4)]) (N := ["_law_pot_here", "_law_spots", "_law_rows", "_law_x", "_law_y", "_law_pair", "_law_point", "_law_handed", "_law_made", "_law_more", "_law_some"]) (sc := defScope s_right) (by decide +kernel)) (fun _ _ _ _ _ => (pg_tupK (K := K) (n := 2) rfl rfl (pgs_cons (pg_name (i := 3) sc_right.nd rfl (by first | exact Or.inl rfl | exact Or.inr rfl)) (pgs_cons (pg_name (i := 4) sc_right.nd rfl (by first | exact Or.inl rfl | exact Or.inr rfl)) pgs_nil)))) (fun _ _ _ _ _ => pts_nil) (fun _ _ _ _ _ => (pe_tup (pa_cons (pe_call (ok_amount T) (hr.mono (by decide)) (by rfl) T.m_amount T.F_amount.kp (b_amount T) .nil pass0 (pa_cons (pv 3) pa_nil)) (pa_cons (pe_call (ok_amount T) (hr.mono (by decide)) (by rfl) T.m_amount T.F_amount.kp (b_amount T) .nil pass0 (pa_cons (pv 4) pa_nil)) pa_nil)))))
 (pss_cut (ps_if (pt_cmpR op_eq (pe_call (ok_draw T) (hr.mono (by decide)) (by rfl) T.m_draw T.F_draw.kp (b_draw T) .nil pass0 (pa_cons (pv 0) (pa_cons pe_int pa_nil))) pe_int (nomark _)) (pss_one (ps_setLc (i := 2) (own := [("_law_pair", 5), ("_law_point", 6)]) rfl sc_right.nd rfl rfl (sw_true rfl rfl rfl (by decide +kernel)) (pi_zip (by rfl) T.b_zip (pa_cons (pv 2) (pa_cons (pv 1) pa_nil))) (blkOk_by (own := [("_law_pair", 5), ("_law_point", 6)]) (N := ["_law_pot_here", "_law_spots", "_law_rows", "_law_x", "_law_y", "_law_pair", "_law_point", "_law_handed", "_law_made", "_law_more", "_law_some"]) (sc := defScope s_right) (by decide +kernel)) (fun _ _ _ _ _ => (pg_tupK (K := K) (n := 2) rfl rfl (pgs_cons (pg_name (i := 5) sc_right.nd rfl (by first | exact Or.inl rfl | exact Or.inr rfl)) (pgs_cons (pg_name (i := 6) sc_right.nd rfl (by first | exact Or.inl rfl | exact Or.inr rfl)) pgs_nil)))) (fun _ _ _ _ _ => pts_one (pt_cmpR op_ne (pe_ix (ix_tupK (K := K) rfl) (pe_ix (ix_tupK (K := K) rfl) (pv 6) pe_int (fun _ _ => rfl)) pe_int (fun _ _ => rfl)) pe_int (nomark _))) (fun _ _ _ _ _ => (pv 5)))) pss_nil)
 (pss_cons (ps_set (i := 7) sc_right.nd rfl (by first | exact Or.inl rfl | exact Or.inr rfl) (pe_ix (ix_listK (K := K) rfl) (pe_lst (pa_cons (pv 2) (pa_cons (pe_callTy call_tuple_of (by rfl) T.b_tuple (by decide +kernel) (pa_cons (pv 2) pa_nil)) pa_nil))) (pe_call (ok_draw T) (hr.mono (by decide)) (by rfl) T.m_draw T.F_draw.kp (b_draw T) .nil pass0 (pa_cons (pv 0) (pa_cons pe_int pa_nil))) (fun _ _ => rfl)))
 (pss_cons (ps_set (i := 8) sc_right.nd rfl (by first | exact Or.inl rfl | exact Or.inr rfl) (pe_make T.mkC (ok_Curve_init_ T) (hr.mono (by decide)) (by rfl) T.mC (b_Curve_init_ T) .nil pass0 (pa_cons (pv 7) pa_nil)))
 (pss_cons (ps_expr (pe_bm PySem.F.plainAttrs_list PySem.F.slot_list_append PySem.F.type_list_append mt_append (pv 2) (pa_cons (pe_tup (pa_cons (pe_op op_pow pe_int pe_int) (pa_cons (pe_op op_pow pe_int pe_int) pa_nil))) pa_nil)))
 (pss_cons (ps_set (i := 9) sc_right.nd rfl (by first | exact Or.inl rfl | exact Or.inr rfl) (pe_makeK0 T.mkC (ok_Curve_init_ T) (hr.mono (by decide)) (by rfl) T.mC (kb_Curve_init_ T) pass0 (pk_cons (pe_lst (pa_cons (pe_tup (pa_cons pe_int (pa_cons pe_int pa_nil))) (pa_cons (pe_tup (pa_cons pe_int (pa_cons pe_int pa_nil))) pa_nil))) pk_nil)))
 (pss_cons (ps_set (i := 10) sc_right.nd rfl (by first | exact Or.inl rfl | exact Or.inr rfl) (pe_op op_cat (pe_call (ok_asked T) (hr.mono (by decide)) (by rfl) T.m_asked T.F_asked.kp (b_asked T) .nil pass0 (pa_cons (pv 0) (pa_cons (pv 1) (pa_cons pe_int pa_nil)))) (pe_call (ok_asked T) (hr.mono (by decide)) (by rfl) T.m_asked T.F_asked.kp (b_asked T) .nil pass0 (pa_cons (pv 0) (pa_cons (pv 1) (pa_cons pe_int pa_nil))))))
 (pss_cons (ps_if (PW.pt (pw_or (pt_not (pt_val (pe_callB (cr_allK (K := K) rfl rfl) (by rfl) T.b_all (by decide +kernel) (pa_cons (pe_lc (own := [("_law_x", 3)]) (by rfl) sc_right.nd (pi_listK (K := K) rfl (pv 10)) (blkOk_by (own := [("_law_x", 3)]) (N := ["_law_pot_here", "_law_spots", "_law_rows", "_law_x", "_law_y", "_law_pair", "_law_point", "_law_handed", "_law_made", "_law_more", "_law_some"]) (sc := defScope s_right) (by decide +kernel)) (fun _ _ _ _ _ => (pg_name (i := 3) sc_right.nd rfl (by first | exact Or.inl rfl | exact Or.inr rfl))) (fun _ _ _ _ _ => pts_nil) (fun _ _ _ _ _ => (pe_call (ok_one_right T) (hr.mono (by decide)) (by rfl) T.m_one_right T.F_one_right.kp (b_one_right T) .nil pass0 (pa_cons (pv 8) (pa_cons (pv 1) (pa_cons (pv 3) pa_nil)))))) pa_nil)))) (pw_or1 (pt_not (pt_val (pe_call (ok_points_right T) (hr.mono (by decide)) (by rfl) T.m_points_right T.F_points_right.kp (b_points_right T) .nil pass0 (pa_cons (pv 8) (pa_cons (pv 1) pa_nil)))))))) (pss_one (ps_ret pe_bl)) pss_nil)
 (pss_cons (ps_expr (pe_bm PySem.F.plainAttrs_list PySem.F.slot_list_append PySem.F.type_list_append mt_append (pe_meth0 (pv 8) T.cl2 T.mPts (ok_Curvepoints T) (hr.mono (by decide)) (b_Curvepoints T) .nil pass0) (pa_cons pe_non pa_nil)))
 (pss_cons (ps_expr (pe_bm0 PySem.F.plainAttrs_list PySem.F.slot_list_clear PySem.F.type_list_clear mt_clear (pe_meth0 (pv 8) T.cl2 T.mPts (ok_Curvepoints T) (hr.mono (by decide)) (b_Curvepoints T) .nil pass0)))
 (pss_cons (ps_if (PW.pt (pw_or (pt_not (pt_val (pe_call (ok_points_right T) (hr.mono (by decide)) (by rfl) T.m_points_right T.F_points_right.kp (b_points_right T) .nil pass0 (pa_cons (pv 8) (pa_cons (pv 1) pa_nil))))) (pw_or1 (pt_not (pt_val (pe_call (ok_rises T) (hr.mono (by decide)) (by rfl) T.m_rises T.F_rises.kp (b_rises T) .nil pass0 (pa_cons (pv 8) (pa_cons (pe_op op_cat (pe_slice (sl_listK (K := K) rfl) (pv 10) po_none (po_some pe_int)) (pe_slice (sl_listK (K := K) rfl) (pv 10) (po_some (pe_un un_neg pe_int)) po_none)) pa_nil)))))))) (pss_one (ps_ret pe_bl)) pss_nil)
 (pss_cons (ps_if (pt_cmpR (op_neD hr.units) (pe_lst (pa_cons (pe_callTy (call_strOwn T.cSt.at_ T.cSt.fn ((ok_Amount_str_ T).raw (b_Amount_str_ T) .nil) (hr.mono (by decide)) pass0) (by rfl) T.b_str (by decide +kernel) (pa_cons (pe_callI (pv 9) T.cCall ((ok_Curve_call_ T).raw (b_Curve_call_ T) .nil) (hr.mono (by decide)) pass0 (pa_cons pe_int pa_nil)) pa_nil)) (pa_cons (pe_callTy (call_strOwn T.cSt.at_ T.cSt.fn ((ok_Amount_str_ T).raw (b_Amount_str_ T) .nil) (hr.mono (by decide)) pass0) (by rfl) T.b_str (by decide +kernel) (pa_cons (pe_callI (pv 9) T.cCall ((ok_Curve_call_ T).raw (b_Curve_call_ T) .nil) (hr.mono (by decide)) pass0 (pa_cons pe_int pa_nil)) pa_nil)) (pa_cons (pe_callTy (call_strOwn T.cSt.at_ T.cSt.fn ((ok_Amount_str_ T).raw (b_Amount_str_ T) .nil) (hr.mono (by decide)) pass0) (by rfl) T.b_str (by decide +kernel) (pa_cons (pe_meth (pv 9) T.cl2 T.mBack (ok_Curveback T) (hr.mono (by decide)) (b_Curveback T) .nil pass0 (pa_cons pe_int pa_nil)) pa_nil)) (pa_cons (pe_callTy (call_strOwn T.cSt.at_ T.cSt.fn ((ok_Amount_str_ T).raw (b_Amount_str_ T) .nil) (hr.mono (by decide)) pass0) (by rfl) T.b_str (by decide +kernel) (pa_cons (pe_callI (pv 9) T.cCall ((ok_Curve_call_ T).raw (b_Curve_call_ T) .nil) (hr.mono (by decide)) pass0 (pa_cons (pe_un un_neg pe_int) pa_nil)) pa_nil)) pa_nil))))) (pe_lst (pa_cons pe_str (pa_cons pe_str (pa_cons pe_str (pa_cons pe_str pa_nil))))) (nomark _)) (pss_one (ps_ret pe_bl)) pss_nil)
 (pss_one (ps_ret (pe_and (pe_call (ok_one_right T) (hr.mono (by decide)) (by rfl) T.m_one_right T.F_one_right.kp (b_one_right T) .nil pass0 (pa_cons (pv 8) (pa_cons (pv 1) (pa_cons (pe_ix (ix_listK (K := K) rfl) (pv 10) pe_int (fun _ _ => rfl)) pa_nil)))) (pe_one (pe_call (ok_straight_right T) (hr.mono (by decide)) (by rfl) T.m_straight_right T.F_straight_right.kp (b_straight_right T) .nil pass0 (pa_cons (pv 0) pa_nil))))))))))))))))))), ?_⟩
    refine ⟨_, rfl, p, rfl, hp, fun H1 ls zs m1 fls hl lp => ?_⟩
    have nls : ls ≠ p := by
      obtain ⟨_, _, e, _⟩ := hp
      exact (ne_of_none e fls).symm
    have l11 := lp.l11
    obtain ⟨rs, el, pr⟩ := id hl.ex
    have lrs := Paired.len pr
    -- rows
    refine ⟨_, rfl, ls, rfl, ⟨_, SqL.of el⟩, fun R hR => ?_⟩
    refine lc_list (K := K) (a := ls) (xs := rs.map V.ref) (fun i H' => Same H1 H' ∧ ∃ ws : List V, H' R = some (.lst ws) ∧ Paired (PtP a.c_Amount H') ws (zs.take i)) ⟨Lb.Same.upd hR, [], upd_same, .nil⟩ (fun i H' _ b => SqL.of (b.1 _ _ el)) ?_ ?_
    · rintro i v H' hi ⟨s', ws, eR, pw⟩
      obtain ⟨r, rfl, hr'⟩ := ref_at hi
      obtain ⟨z, hz, pz⟩ := Paired.at_ pr hr'
      have lz := lp.q.l z (List.mem_of_getElem? hz)
      obtain ⟨p1, p2, er, f1, f2⟩ := pz.same s'
      refine ⟨r, _, rfl, SqT.of er, rfl, _, _, rfl, _, _, rfl, rfl, rfl, ?_⟩
      refine ⟨_, rfl, p1, z.1, 160, rfl, f1, lz.x, by decide, fun H2 v1 s2 iv1 => ?_⟩
      refine ⟨_, rfl, p2, z.2, 160, rfl, f2.same s2, lz.y, by decide, fun H3 v2 s3 iv2 => ⟨sz, fun t ht => ?_⟩⟩
      generalize e_H4 : upd _ t _ = H4
      obtain ⟨s4, f4⟩ := al3 e_H4 ht
      clear e_H4
      (try dsimp only at f4)
      have S4 := (s2.trans s3).trans s4
      have eR := S4 _ _ eR
      have h1 := Paired.len pw
      rw [List.length_take] at h1
      have N : NL H4 (upd H4 R (.lst (ws ++ [V.ref t]))) := NL.upd eR
      refine ⟨ws, eR, szlt (by omega), Lb.Same.updl (s'.trans S4) hR, ws ++ [.ref t], upd_same, ?_⟩
      rw [← take_snoc hz]
      exact paired_snoc (Paired.imp pw fun _ _ h => PtP.nl h ((NL.of S4).trans N)) ⟨t, v1, v2, rfl, N _ _ (fun _ z => nomatch z) f4, ((iv1.same s3).same s4).nl N, (iv2.same s4).nl N⟩
    rintro H2 ⟨s2, ws, eR, pw⟩
    rw [show (rs.map V.ref).length = zs.length by rw [List.length_map, lrs], List.take_length] at pw
    have M2 := m1.same s2
    have fR := m1.free hp hR
    have nR := m1.ne hR
    have nRl : R ≠ ls := (ne_of_none el hR).symm
    have lw := Paired.len pw
    obtain ⟨wself, wfilt⟩ := withO_self lp.q.ex
    -- bare or not
    refine ⟨fun σ H' => ∃ (R' : Addr) (ws' : List V) (zs' : List Pt) (u3 u4 u5 u6 : Option V), σ = [some (.ref p), some (.ref ls), some (.ref R'), u3, u4, u5, u6, none, none, none, none] ∧ Mov p H H' ∧ R' ≠ p ∧ R' ≠ ls ∧ H R' = none ∧ Spots H' ls zs ∧ H' R' = some (.lst ws') ∧ Paired (PtP a.c_Amount H') ws' zs' ∧ Pts 160 zs' ∧ withO zs' = zs ∧ ws'.length ≤ 11, ?_, ?_⟩
    · refine ⟨_, rfl, p, _, rfl, M2.pot, by decide, by unfold Bd; decide, fun H3 d m3 d0 d1 => ⟨rfl, _, rfl, ?_⟩⟩
      have M3 := M2.trans m3
      have N3 := NL.mov m3 M2.pot
      have hl3 := (hl.same s2).mov m3 M2.pot nls
      have eR := m3.keep _ _ nR eR
      have pw := Paired.imp pw fun _ _ h => PtP.nl h N3
      obtain ⟨qs, el3, ps⟩ := id hl3.ex
      have lqs := Paired.len ps
      refine ite2 (fun _ => ?_) (fun _ => ?_)
      · refine ⟨_, rfl, _, rfl, R, ls, _, _, rfl, SqL.of eR, SqL.of el3, fun D hD => ?_⟩
        refine lc_it (walk_zip (K := K) (a := R) (b := ls) (xs := ws) (ys := qs.map V.ref) (n := zs.length) (by rw [List.length_map, lw, lqs]; omega)) (fun i H' => Same H3 H' ∧ ∃ ws' : List V, H' D = some (.lst ws') ∧ Paired (PtP a.c_Amount H3) ws' ((zs.take i).filter nz)) ⟨Lb.Same.upd hD, [], upd_same, .nil⟩ (fun i H' _ b => ⟨SqL.of (b.1 _ _ eR), SqL.of (b.1 _ _ el3)⟩) ?_ ?_
        · rintro i v H5 H6 hi ⟨s', ws', eD, pb⟩ ⟨T0, x, y, rfl, hT, rfl, ex, ey⟩
          obtain ⟨r2, rfl, hr2⟩ := ref_at ey
          obtain ⟨z, hz, pz⟩ := Paired.at_ pw ex
          obtain ⟨z2, hz2, pz2⟩ := Paired.at_ ps hr2
          rw [hz] at hz2
          cases hz2
          have sT := Lb.Same.upd (o := .tup [x, V.ref r2]) hT
          have S := s'.trans sT
          obtain ⟨p3, p4, er2, f3, f4⟩ := pz2.same S
          refine ⟨T0, _, rfl, SqT.of upd_same, rfl, _, _, rfl, _, _, rfl, rfl, rfl, ?_⟩
          refine ⟨_, rfl, _, _, _, _, rfl, rfl, SqT.of er2, at0, _, _, _, _, rfl, rfl, SqT.of f3, at0, rfl, _, rfl, ?_⟩
          rw [← take_snoc hz, filter_snoc]
          have h1 := Paired.len pb
          have h2 := List.length_filter_le nz (zs.take i)
          rw [List.length_take] at h2
          refine ite2 (fun h => ?_) (fun h => ?_)
          · have h : nz z = true := by simpa [nz] using h
            rw [if_pos h]
            exact ⟨_, rfl, ws', sT _ _ eD, szlt (by omega), Lb.Same.updl S hD, ws' ++ [x], upd_same, paired_snoc pb pz⟩
          · have h : ¬ nz z = true := by simpa [nz] using h
            rw [if_neg h]
            exact ⟨S, ws', sT _ _ eD, pb⟩
        rintro H4 ⟨s4, ws', eD, pb⟩
        rw [List.take_length] at pb
        have h1 := Paired.len pb
        have h2 := List.length_filter_le nz zs
        refine ⟨D, ws', zs.filter nz, _, _, _, _, rfl, M3.same s4, M3.ne hD, (ne_of_none el3 hD).symm, M3.free hp hD, hl3.same s4, eD, Paired.imp pb fun _ _ h => PtP.same h s4, pts_of lp ?_, wfilt, by omega⟩
        obtain ⟨z, hz, h0⟩ := lp_some lp
        exact ⟨z, List.mem_filter.mpr ⟨hz, by simp [nz, h0]⟩, h0⟩
      · refine ⟨R, ws, zs, _, _, _, _, rfl, M3, nR, nRl, fR, hl3, eR, pw, ?_, wself, by omega⟩
        have := pts_of (f := fun _ => true) lp (by
          obtain ⟨z, hz, h0⟩ := lp_some lp
          exact ⟨z, List.mem_filter.mpr ⟨hz, rfl⟩, h0⟩)
        rw [filt_all (f := fun _ => true) (l := zs) fun _ _ => rfl] at this
        exact this
    rintro σ H5 ⟨R, ws, zs', u3, u4, u5, u6, rfl, M5, nR, nRl, fR, hl, eR, pw, pts, wO, lw⟩
    -- handed
    refine ⟨_, rfl, _, rfl, R, ws, rfl, .inl ⟨SqL.of eR, fun tt htt => ?_⟩⟩
    generalize e_H6 : upd _ tt _ = H6
    obtain ⟨s6, f6⟩ := al3 e_H6 htt
    clear e_H6
    (try dsimp only at f6)
    refine ⟨sz, fun l0 hl0 => ?_⟩
    have S6 := s6
    have M6 := M5.same s6
    have nl0 := M6.ne hl0
    generalize e_H7 : upd _ l0 _ = H7
    obtain ⟨s7, f7⟩ := al3 e_H7 hl0
    clear e_H7
    (try dsimp only at f7)
    have M7 := M6.same s7
    refine ⟨_, rfl, p, _, rfl, M7.pot, by decide, by unfold Bd; decide, fun H8 d m8 d0 d1 => ?_⟩
    have M8 := M7.trans m8
    have N8 := (NL.of (s6.trans s7)).trans (NL.mov m8 M7.pot)
    have eR8 := m8.keep _ _ nR ((s6.trans s7) _ _ eR)
    have hl8 := (hl.same (s6.trans s7)).mov m8 M7.pot nls
    have pw8 := Paired.imp pw fun _ _ h => PtP.nl h N8
    obtain ⟨hd, ahd, ehd⟩ : ∃ hd, atI [V.ref R, V.ref tt] d = some (.ref hd) ∧ (H8 hd = some (.lst ws) ∨ H8 hd = some (.tup ws)) := by
      rcases (show d = 0 ∨ d = 1 by omega) with rfl | rfl
      · exact ⟨R, at0, .inl eR8⟩
      · exact ⟨tt, at1, .inr (m8.tup M7.pot (s7 _ _ f6))⟩
    refine ⟨_, _, _, _, rfl, rfl, SqL.of (m8.keep _ _ nl0 f7), ahd, ?_⟩
    -- the curve
    refine ⟨_, rfl, fun c dx hc hdx ne => ?_⟩
    have ms := made_same (C := a.c_Curve) hc hdx
    refine ⟨c, dx, hd, ws, zs', 160, rfl, ehd.imp (ms _ _) (ms _ _), Paired.imp pw8 fun _ _ h => PtP.same h ms, pts, upd_same, fun H9 l' kp fl' cr e => ⟨rfl, ?_⟩⟩
    have s9 : Same H8 H9 := fun y o hy => kp y o (ne_of_none hy hc) (ms _ _ hy)
    have fl8 := ms.free' fl'
    rw [wO] at cr
    have cu : CuAt a.c_Amount a.c_Curve H9 c l' zs := ⟨⟨dx, e⟩, cr⟩
    have M9 := M8.same s9
    have hl9 := hl8.same s9
    have eR9 := s9 _ _ eR8
    have nlR : l' ≠ R := (ne_of_none eR8 fl8).symm
    have nlp : l' ≠ p := M8.ne fl8
    -- what was passed is changed
    refine ⟨_, rfl, .inl ⟨rfl, _, SqL.of eR9⟩, _, _, rfl, rfl, ⟨by decide, by decide, by decide⟩, _, _, rfl, rfl, ⟨by decide, by decide, by decide⟩, sz, fun t ht => ?_⟩
    generalize e_Ha : upd _ t _ = Ha
    obtain ⟨sa, fa⟩ := al3 e_Ha ht
    clear e_Ha
    (try dsimp only at fa)
    have eRa := sa _ _ eR9
    refine ⟨R, _, _, rfl, rfl, eRa, szlt (by omega), ?_⟩
    have Nb : NL Ha (upd Ha R (.lst (ws ++ [V.ref t]))) := NL.upd eRa
    have kb : ∀ {b : Addr} {o : HO}, b ≠ R → Ha b = some o → (upd Ha R (.lst (ws ++ [V.ref t]))) b = some o := fun n h => by
      rw [upd_ne n]
      exact h
    have cu := (cu.same sa).nl Nb fun _ h => kb nlR h
    have Mb := Mov.updl (o := .lst (ws ++ [V.ref t])) (M9.same sa) fR nR
    have hlb : Spots (upd Ha R (.lst (ws ++ [V.ref t]))) ls zs := by
      obtain ⟨q, e, pq⟩ := (hl9.same sa).ex
      exact ⟨q, kb (Ne.symm nRl) e, Paired.imp pq fun _ _ h => h.nl Nb⟩
    clear eRa Nb kb
    generalize upd Ha R (.lst (ws ++ [V.ref t])) = Hb at *
    -- the other curve
    refine ⟨sz, fun t1 h1 => ?_⟩
    generalize e_Hc : upd _ t1 _ = Hc
    obtain ⟨sc', fc⟩ := al3 e_Hc h1
    clear e_Hc
    (try dsimp only at fc)
    refine ⟨sz, fun t2 h2 => ?_⟩
    generalize e_Hd : upd _ t2 _ = Hd
    obtain ⟨sd', fd⟩ := al3 e_Hd h2
    clear e_Hd
    (try dsimp only at fd)
    refine ⟨sz, fun l1 hl1 => ?_⟩
    generalize e_He : upd _ l1 _ = He
    obtain ⟨se, fe⟩ := al3 e_He hl1
    clear e_He
    (try dsimp only at fe)
    refine ⟨rfl, rfl, fun c2 dx2 hc2 hdx2 ne2 => ?_⟩
    have ms2 := made_same (C := a.c_Curve) hc2 hdx2
    refine ⟨c2, dx2, l1, _, [((1, 1), (2, 1)), ((3, 1), (9, 1))], 20, rfl, .inl (ms2 _ _ fe), .cons ⟨t1, .int 1, .int 2, rfl, ms2 _ _ (se _ _ (sd' _ _ fc)), .inl ⟨rfl, rfl⟩, .inl ⟨rfl, rfl⟩⟩ (.cons ⟨t2, .int 3, .int 9, rfl, ms2 _ _ (se _ _ fd), .inl ⟨rfl, rfl⟩, .inl ⟨rfl, rfl⟩⟩ .nil), ?_, upd_same, fun Hf l2 kp2 fl2 cr2 e2 => ⟨rfl, ?_⟩⟩
    · refine ⟨fun z hz => ?_, by decide, fun i z z' hz hz' => ?_, ⟨_, List.mem_cons_self, by decide⟩, by decide⟩
      · simp only [List.mem_cons, List.not_mem_nil, or_false] at hz
        rcases hz with rfl | rfl
        · exact ⟨lowN (by decide), lowN (by decide), rfl⟩
        · exact ⟨lowN (by decide), lowN (by decide), rfl⟩
      · have := (List.getElem?_eq_some_iff.mp hz').1
        obtain rfl : i = 0 := by simp at this; omega
        cases hz
        cases hz'
        exact ⟨by unfold ltQ; decide, by unfold ltQ; decide⟩
    have s2' : Same He Hf := fun y o hy => kp2 y o (ne_of_none hy hc2) (ms2 _ _ hy)
    rw [show withO [((1, 1), (2, 1)), ((3, 1), (9, 1))] = more from rfl] at cr2
    have fl2e := ms2.free' fl2
    have Sf := ((sc'.trans sd').trans se).trans s2'
    have cu2 : CuAt a.c_Amount a.c_Curve Hf c2 l2 more := ⟨⟨dx2, e2⟩, cr2⟩
    have cu := cu.same Sf
    have Mf := Mb.same Sf
    have hlf := hlb.same Sf
    have nl2p : l2 ≠ p := (Mb.same ((sc'.trans sd').trans se)).ne fl2e
    -- some
    refine ⟨_, rfl, _, rfl, p, ls, 0, zs, rfl, .inl rfl, Mf.pot, nls, hlf, lp, fun Hg qa ra xa mg' fqa ea pa lxa la1 la2 => ?_⟩
    have Mg := Mf.trans mg'
    have cu := cu.mov mg' Mf.pot nlp
    have cu2 := cu2.mov mg' Mf.pot nl2p
    have hlg := hlf.mov mg' Mf.pot nls
    have nqa : qa ≠ p := by
      obtain ⟨_, _, e, _⟩ := Mf.pot
      exact (ne_of_none e fqa).symm
    refine ⟨_, rfl, _, rfl, p, ls, 1, zs, rfl, .inr rfl, Mg.pot, nls, hlg, lp, fun Hh qb rb xb mh fqb eb pb lxb lb1 lb2 => ?_⟩
    have Mh := Mg.trans mh
    have cu := cu.mov mh Mg.pot nlp
    have cu2 := cu2.mov mh Mg.pot nl2p
    have hlh := hlg.mov mh Mg.pot nls
    have ea := mh.keep _ _ nqa ea
    have pa := FrRows.nl pa (NL.mov mh Mg.pot)
    have lra := Paired.len pa
    have lrb := Paired.len pb
    refine ⟨qa, qb, _, _, rfl, rfl, ea, eb, szle (by rw [List.length_map, List.length_map]; omega), fun qs hqs => ?_⟩
    have pab := paired_append pa pb
    have lxs : ∀ x ∈ xa ++ xb, Low 700 x := fun x hx => by
      rcases List.mem_append.mp hx with hx | hx
      · exact lxa x hx
      · exact lxb x hx
    have lxn : 24 ≤ (xa ++ xb).length ∧ (xa ++ xb).length ≤ 80 := by rw [List.length_append]; omega
    rw [show ra.map V.ref ++ rb.map V.ref = (ra ++ rb).map V.ref from List.map_append.symm]
    have nqs : qs ≠ p := Mh.ne hqs
    generalize e_Hi : upd _ qs _ = Hi
    obtain ⟨si, es⟩ := al3 e_Hi hqs
    clear e_Hi
    (try dsimp only at es)
    have Mi := Mh.same si
    have cu := cu.same si
    have cu2 := cu2.same si
    have hli := hlh.same si
    have pab := FrRows.same pab si
    generalize ra ++ rb = rab at *
    generalize xa ++ xb = xab at *
    have lrab := Paired.len pab
    have zn : CuN 160 zs := ⟨fun z hz => ⟨(lp.q.l z hz).x, (lp.q.l z hz).y⟩, lp.l2, by omega, lp.q.up⟩
    -- all of them
    refine ⟨_, rfl, qs, rfl, ⟨_, SqL.of es⟩, fun D hD => ?_⟩
    refine lc_list (K := K) (a := qs) (xs := rab.map V.ref) (fun i H' => Same Hi H' ∧ H' D = some (.lst ((List.replicate i true).map V.bl))) ⟨Lb.Same.upd hD, upd_same⟩ (fun i H' _ b => SqL.of (b.1 _ _ es)) ?_ ?_
    · rintro i v H' hi ⟨s', eD⟩
      obtain ⟨r, rfl, hr'⟩ := ref_at hi
      obtain ⟨x, hx, fx⟩ := Paired.at_ pab hr'
      have lx := lxs x (List.mem_of_getElem? hx)
      have hi' := (List.getElem?_eq_some_iff.mp hr').1
      refine ⟨rfl, ?_⟩
      refine ⟨_, rfl, _, rfl, _, rfl, c, ls, r, zs, x, 160, 700, rfl, (cu.same s').cu, hli.same s', FrQ.same fx s', zn, lx, by decide, fun H'' s'' => ⟨_, s'' _ _ eD, ?_, Lb.Same.updl (s'.trans s'') hD, ?_⟩⟩
      · rw [List.length_map, List.length_replicate]
        exact szlt (by omega)
      · rw [upd_same, List.replicate_succ', List.map_append]
        rfl
    rintro Hj ⟨sj, eD⟩
    refine ⟨D, _, rfl, SqL.of eD, ?_⟩
    rw [all_replicate_true]
    refine ⟨true, rfl, iteF ?_⟩
    refine ⟨_, rfl, _, rfl, c, ls, zs, rfl, (cu.same sj).cu, hli.same sj, l11, fun Hk sk => ⟨true, rfl, iteF ?_⟩⟩
    have Sk := sj.trans sk
    -- what is told can be changed
    have cuk := cu.same Sk
    obtain ⟨dk, ek⟩ := cuk.e
    refine ⟨_, rfl, c, dk, _, rfl, ek, cu_no _ (by decide +kernel), c, zs, rfl, cuk.cu, by omega, fun Hl la sl' fla cra => ?_⟩
    obtain ⟨rla, ela, pla⟩ := cra.ex
    refine ⟨.inl ⟨rfl, _, SqL.of ela⟩, la, _, _, rfl, rfl, ela, szlt (by rw [List.length_map, Paired.len pla]; omega), ?_⟩
    have Sl := Sk.trans (Lb.Same.updl (o := .lst (rla.map V.ref ++ [V.non])) sl' fla)
    generalize upd Hl la (.lst (rla.map V.ref ++ [V.non])) = Hm at *
    have cum := cu.same Sl
    obtain ⟨dm, em⟩ := cum.e
    refine ⟨_, rfl, c, dm, _, rfl, em, cu_no _ (by decide +kernel), c, zs, rfl, cum.cu, by omega, fun Hn lb sn' flb crb => ?_⟩
    obtain ⟨rlb, elb, plb⟩ := crb.ex
    refine ⟨.inl ⟨rfl, _, SqL.of elb⟩, lb, _, rfl, rfl, elb, ?_⟩
    have So := Sl.trans (Lb.Same.updl (o := .lst []) sn' flb)
    generalize upd Hn lb (.lst []) = Ho at *
    refine ⟨_, rfl, _, rfl, c, ls, zs, rfl, (cu.same So).cu, hli.same So, l11, fun Hp' sp' => ⟨true, rfl, iteF ?_⟩⟩
    have Sp' := So.trans sp'
    refine ⟨_, rfl, _, rfl, 8, rfl, qs, _, rfl, SqL.of (Sp' _ _ es), fun q1 hq1 => ?_⟩
    rw [cut_map]
    generalize e_Hq : upd _ q1 _ = Hq
    obtain ⟨sq, fq1⟩ := al3 e_Hq hq1
    clear e_Hq
    (try dsimp only at fq1)
    refine ⟨_, rfl, _, rfl, -4, rfl, qs, _, rfl, SqL.of (sq _ _ (Sp' _ _ es)), fun q2 hq2 => ?_⟩
    rw [cut_map]
    generalize e_Hr : upd _ q2 _ = Hr
    obtain ⟨sr, fq2⟩ := al3 e_Hr hq2
    clear e_Hr
    (try dsimp only at fq2)
    have fq1 := sr _ _ fq1
    have Sr := (Sp'.trans sq).trans sr
    have pc1 := fun i j => paired_cut (i := i) (j := j) (FrRows.same pab Sr)
    have lc1 : ∀ i j : Nat, ((rab.drop i).take j).length ≤ 80 := fun i j => by
      rw [List.length_take, List.length_drop]
      omega
    refine ⟨q1, q2, _, _, rfl, rfl, fq1, fq2, szle (by
      rw [List.length_map, List.length_map]
      have h1 := lc1 (HT.sIx rab.length 0 none) (HT.sIx rab.length rab.length (some 8) - HT.sIx rab.length 0 none)
      have h2 := lc1 (HT.sIx rab.length 0 (some (-4))) (HT.sIx rab.length rab.length none - HT.sIx rab.length 0 (some (-4)))
      omega), fun q3 hq3 => ?_⟩
    rw [← List.map_append]
    have p3 := paired_append (pc1 (HT.sIx rab.length 0 none) (HT.sIx rab.length rab.length (some 8) - HT.sIx rab.length 0 none)) (pc1 (HT.sIx rab.length 0 (some (-4))) (HT.sIx rab.length rab.length none - HT.sIx rab.length 0 (some (-4))))
    have lo3 : ∀ x ∈ ((xab.drop (HT.sIx rab.length 0 none)).take (HT.sIx rab.length rab.length (some 8) - HT.sIx rab.length 0 none)) ++ ((xab.drop (HT.sIx rab.length 0 (some (-4)))).take (HT.sIx rab.length rab.length none - HT.sIx rab.length 0 (some (-4)))), Low 700 x := by
      intro x hx
      rcases List.mem_append.mp hx with hx | hx
      · exact lxs x (List.mem_of_mem_drop (List.mem_of_mem_take hx))
      · exact lxs x (List.mem_of_mem_drop (List.mem_of_mem_take hx))
    generalize e_Hs : upd _ q3 _ = Hs
    obtain ⟨ss, fq3⟩ := al3 e_Hs hq3
    clear e_Hs
    (try dsimp only at fq3)
    have Ss := Sr.trans ss
    refine ⟨c, q3, zs, _, _, rfl, (cu.same Ss).cu, zn, fq3, FrRows.same p3 ss, lo3, fun Ht st' => ⟨true, rfl, iteF ?_⟩⟩
    have St := Ss.trans st'
    have cut := cu2.same St
    clear p3 lo3 pc1 lc1 fq1 fq2 fq3
    -- the other curve's texts
    refine ⟨_, rfl, c2, rfl, cut.cu.ins, c2, .int 1, more, (1, 1), 20, 20, rfl, cut.cu, more_n, .inl ⟨rfl, rfl⟩, lowN (by decide), by decide, fun Hu k1 i1 z1 z1' x1 su p1 hz1 hz1' a1 l1' v1 => ?_⟩
    obtain ⟨rfl, rfl⟩ := more_hi p1 (Rat.le_refl) hz1 hz1'
    have x1e : x1 = (2, 1) := val_inj (m := 20) l1' (lowN (by decide)) (by
      rw [v1]
      show val (2, 1) + (val (9, 1) - val (2, 1)) * ((val (1, 1) - val (1, 1)) / (val (3, 1) - val (1, 1))) = _
      rw [vN, vN, vN, vN]
      decide +kernel)
    subst x1e
    obtain ⟨dk1, ek1⟩ := id a1
    refine ⟨k1, dk1, _, rfl, ek1, k1, _, _, rfl, a1, l1'.t.mono (by decide), l1'.b.mono (by decide), fun Hu1 su1 => ⟨_, rfl, ?_⟩⟩
    have cut := (cut.same su).same su1
    refine ⟨_, rfl, c2, rfl, cut.cu.ins, c2, .int 2, more, (2, 1), 20, 20, rfl, cut.cu, more_n, .inl ⟨rfl, rfl⟩, lowN (by decide), by decide, fun Hv k2 i2 z2 z2' x2 sv p2 hz2 hz2' a2 l2' v2 => ?_⟩
    obtain ⟨rfl, rfl⟩ := more_hi p2 (by show val (1, 1) ≤ val (2, 1); rw [vN, vN]; decide +kernel) hz2 hz2'
    have x2e : x2 = (11, 2) := val_inj (m := 20) l2' ⟨by unfold Bd; decide, by unfold Bd; decide, by decide, by decide⟩ (by
      rw [v2]
      show val (2, 1) + (val (9, 1) - val (2, 1)) * ((val (2, 1) - val (1, 1)) / (val (3, 1) - val (1, 1))) = ((11 : Int) : Rat) / ((2 : Int) : Rat)
      rw [vN, vN, vN, vN]
      decide +kernel)
    subst x2e
    obtain ⟨dk2, ek2⟩ := id a2
    refine ⟨k2, dk2, _, rfl, ek2, k2, _, _, rfl, a2, l2'.t.mono (by decide), l2'.b.mono (by decide), fun Hv1 sv1 => ⟨_, rfl, ?_⟩⟩
    have cut := (cut.same sv).same sv1
    obtain ⟨d9, e9⟩ := cut.e
    refine ⟨_, rfl, c2, d9, _, rfl, e9, cu_no _ (by decide +kernel), c2, .int 9, more, (9, 1), 20, 20, rfl, cut.cu, more_n, .inl ⟨rfl, rfl⟩, lowN (by decide), by decide, fun Hw k3 i3 z3 z3' x3 sw' p3 hz3 hz3' a3 l3' v3 => ?_⟩
    obtain ⟨rfl, rfl⟩ := more_hi p3 (by show val (2, 1) ≤ val (9, 1); rw [vN, vN]; decide +kernel) hz3 hz3'
    have x3e : x3 = (3, 1) := val_inj (m := 20) l3' (lowN (by decide)) (by
      rw [v3]
      show val (1, 1) + (val (3, 1) - val (1, 1)) * ((val (9, 1) - val (2, 1)) / (val (9, 1) - val (2, 1))) = _
      rw [vN, vN, vN, vN]
      decide +kernel)
    subst x3e
    obtain ⟨dk3, ek3⟩ := id a3
    refine ⟨k3, dk3, _, rfl, ek3, k3, _, _, rfl, a3, l3'.t.mono (by decide), l3'.b.mono (by decide), fun Hw1 sw1 => ⟨_, rfl, ?_⟩⟩
    have cut := (cut.same sw').same sw1
    refine ⟨_, rfl, c2, rfl, _, rfl, cut.cu.ins, c2, .int (-4), more, (-4, 1), 20, 20, rfl, cut.cu, more_n, .inl ⟨rfl, rfl⟩, lowN (by decide), by decide, fun Hx k4 i4 z4 z4' x4 sx p4 hz4 hz4' a4 l4' v4 => ?_⟩
    obtain ⟨rfl, rfl⟩ := more_lo p4 (by show val (-4, 1) < val (1, 1); rw [vN, vN]; decide +kernel) hz4 hz4'
    have x4e : x4 = (-8, 1) := val_inj (m := 20) l4' (lowN (by decide)) (by
      rw [v4]
      show val (0, 1) + (val (2, 1) - val (0, 1)) * ((val (-4, 1) - val (0, 1)) / (val (1, 1) - val (0, 1))) = _
      rw [vN, vN, vN, vN, vN]
      decide +kernel)
    subst x4e
    obtain ⟨dk4, ek4⟩ := id a4
    refine ⟨k4, dk4, _, rfl, ek4, k4, _, _, rfl, a4, l4'.t.mono (by decide), l4'.b.mono (by decide), fun Hx1 sx1 => ⟨_, rfl, sz, fun lp1 hlp1 => ?_⟩⟩
    generalize e_Hy : upd _ lp1 _ = Hy
    obtain ⟨sy, fy1⟩ := al3 e_Hy hlp1
    clear e_Hy
    (try dsimp only at fy1)
    refine ⟨sz, fun lp2 hlp2 => ?_⟩
    generalize e_Hz : upd _ lp2 _ = Hz
    obtain ⟨sz', fy2⟩ := al3 e_Hz hlp2
    clear e_Hz
    (try dsimp only at fy2)
    have fy1 := sz' _ _ fy1
    refine ⟨_, _, .lst (SqL.of fy1) (.cons (.str _) (.cons (.str _) (.cons (.str _) (.cons (.str _) .nil)))), .lst (SqL.of fy2) (.cons (.str _) (.cons (.str _) (.cons (.str _) (.cons (.str _) .nil)))), by decide +kernel, by decide +kernel, _, rfl, iteN ?_ ?_⟩
    · have e : PyData.eqv (.list [.str (txS 2 1), .str (txS 11 2), .str (txS 3 1), .str (txS (-8) 1)]) (.list [.str "2", .str "11/2", .str "3", .str "-8"]) = true := by decide +kernel
      show ¬ (!PyData.eqv (.list [.str (txS 2 1), .str (txS 11 2), .str (txS 3 1), .str (txS (-8) 1)]) (.list [.str "2", .str "11/2", .str "3", .str "-8"])) = true
      rw [e]
      decide
    have Sz := ((((((((St.trans su).trans su1).trans sv).trans sv1).trans sw').trans sw1).trans sx).trans sx1).trans (sy.trans sz')
    -- the first one again
    obtain ⟨x0, hx0⟩ : ∃ x, xab[0]? = some x := ⟨_, List.getElem?_eq_getElem (by omega)⟩
    obtain ⟨r0, hr0, f0⟩ := Paired.at_r (FrRows.same pab Sz) hx0
    refine ⟨_, rfl, _, rfl, _, rfl, _, _, _, _, rfl, rfl, SqL.of (Sz _ _ es), at_ref (i := 0) hr0, c, ls, r0, zs, x0, 160, 700, rfl, (cu.same Sz).cu, hli.same Sz, f0, zn, lxs x0 (List.mem_of_getElem? hx0), by decide, fun HA sA => ⟨true, rfl, iteT ?_⟩⟩
    have MA := Mi.same (Sz.trans sA)
    exact ⟨_, rfl, p, rfl, MA.pot, fun HB mB => k _ (MA.trans mB)⟩
/-- the law -/
def sp_law (K : PySem.W.Frag) : Sp := fun vs H Q _ => ∃ (a : Addr) (ns : List Int), vs = [.ref a] ∧ SqL K H a (ns.map V.int) ∧ ns.length ≤ 63 ∧ ∀ H', Q (.bl true) H'
theorem ok_law (T : Txt K mg a) : FnG P w K mg base CX0 13 a.f_law a.d_law ["_law_script"] (sp_law K) := by
  refine okG T.F_law sc_law (fun vs H Q E h => ?_) (fun cdv A outer s H vs Q E gu hr h => ?_)
  · obtain ⟨sc, ns, rfl, _⟩ := h
    rfl
  · obtain ⟨sc, ns, rfl, hS, hlen, k⟩ := h
    refine ⟨_, (pss_one (ps_ret (pe_callB (cr_allK (K := K) rfl rfl) (by rfl) T.b_all (by decide +kernel) (pa_cons (pe_lc (own := [("_law_k", 1)]) (by rfl) sc_law.nd (pi_range1 rfl T.b_range (pa_cons (pe_callB (call_max2 rfl) (by rfl) T.b_max (by decide +kernel) (pa_cons pe_int (pa_cons (pe_callB (call_min2 rfl) (by rfl) T.b_min (by decide +kernel) (pa_cons pe_int (pa_cons (pe_callB (call_lenK (K := K) rfl) (by rfl) T.b_len (by decide +kernel) (pa_cons (pv 0) pa_nil)) pa_nil))) pa_nil))) pa_nil)) (blkOk_by (own := [("_law_k", 1)]) (N := ["_law_script", "_law_k"]) (sc := defScope s_law) (by decide +kernel)) (fun _ _ _ _ _ => (pg_name (i := 1) sc_law.nd rfl (by first | exact Or.inl rfl | exact Or.inr rfl))) (fun _ _ _ _ _ => pts_nil) (fun _ _ _ _ _ => (pe_call (ok_right T) (hr.mono (by decide)) (by rfl) T.m_right T.F_right.kp (b_right T) .nil pass0 (pa_cons (pe_call (ok_pot T) (hr.mono (by decide)) (by rfl) T.m_pot T.F_pot.kp (b_pot T) .nil pass0 (pa_cons (pv 0) (pa_cons (pv 1) pa_nil))) pa_nil)))) pa_nil)))), ?_⟩
    refine ⟨_, rfl, _, _, rfl, .inl hS, _, _, rfl, _, _, rfl, ?_⟩
    have hn : ∃ n : Nat, n ≤ 4 ∧ (if (if (((ns.map V.int).length : Nat) : Int) < 4 then (((ns.map V.int).length : Nat) : Int) else 4) > 1 then (if (((ns.map V.int).length : Nat) : Int) < 4 then (((ns.map V.int).length : Nat) : Int) else 4) else 1) = (n : Int) := by
      rw [List.length_map]
      refine ⟨(if (if ns.length < 4 then ns.length else 4) > 1 then (if ns.length < 4 then ns.length else 4) else 1), ?_, ?_⟩
      · split <;> (try split) <;> omega
      · split <;> split <;> (try split) <;> (try split) <;> omega
    obtain ⟨n, hn4, en⟩ := hn
    rw [en]
    refine ⟨_, rfl, (by omega), (by omega), fun D hD => ?_⟩
    refine lc_range (lo := 0) (n := n) (fun i H' => Same H H' ∧ H' D = some (.lst ((List.replicate i true).map V.bl))) ⟨Lb.Same.upd hD, upd_same⟩ ?_ ?_
    · rintro i H' hi ⟨s1, e1⟩
      refine ⟨rfl, ?_⟩
      refine ⟨_, rfl, _, rfl, sc, ns, i, by simp, Same.seq s1 hS, hlen, by omega, fun H2 p s2 hp pot => ?_⟩
      refine ⟨p, rfl, pot, fun H3 m3 => ?_⟩
      have nD : D ≠ p := fun q => by
        rw [← q, e1] at hp
        cases hp
      have keep : ∀ b o, H' b = some o → H3 b = some o := fun b o e => m3.keep b o (ne_of_none e hp) (s2 _ _ e)
      refine ⟨_, keep _ _ e1, ?_, ?_, ?_⟩
      · rw [List.length_map, List.length_replicate]
        exact szlt (by omega)
      · exact Lb.Same.updl (s1.trans keep) hD
      · rw [upd_same, List.replicate_succ', List.map_append]
        rfl
    · rintro H' ⟨s1, e1⟩
      refine ⟨D, _, rfl, SqL.of e1, ?_⟩
      rw [all_replicate_true]
      exact k _
end
end K15

set_option Elab.async false
set_option linter.all false
set_option maxRecDepth 100000
namespace K15
open PySem L2 Lb
set_option maxHeartbeats 0 in
theorem all_mk {l : PySem.W.OpenLaw} {w : World} {K : PySem.W.Frag} {h : Heap} {mg : Str → Option Value} (X : K.In h) (G : h.Ns mainGlobals mg) {fa : Addr} (hfa : mg "law" = some (.ref fa))
    {c_Amount : Addr}
    {c_Curve : Addr}
    {p_top : Addr}
    {p_bottom : Addr}
    {p_sign : Addr}
    {p_straight : Addr}
    {f_is_integer : Addr} {od_0 an_0 : Option Addr} {sl_0 : Array (Option Value)} {oc_0 kV_0 dc_0 pm_0 cd_0 ct_0 : Value}
    {f_is_amount : Addr} {od_1 an_1 : Option Addr} {sl_1 : Array (Option Value)} {oc_1 kV_1 dc_1 pm_1 cd_1 ct_1 : Value}
    {f_amount_of : Addr} {od_2 an_2 : Option Addr} {sl_2 : Array (Option Value)} {oc_2 kV_2 dc_2 pm_2 cd_2 ct_2 : Value}
    {f_decimal : Addr} {od_3 an_3 : Option Addr} {sl_3 : Array (Option Value)} {oc_3 kV_3 dc_3 pm_3 cd_3 ct_3 : Value}
    {f_Amount_init_ : Addr} {od_4 an_4 : Option Addr} {sl_4 : Array (Option Value)} {oc_4 kV_4 dc_4 pm_4 cd_4 ct_4 : Value}
    {T_4 : Addr} {o_4 : Obj} {dn_4 : Nat} {its_4 : List Value}
    {f_Amounttop : Addr} {od_5 an_5 : Option Addr} {sl_5 : Array (Option Value)} {oc_5 kV_5 dc_5 pm_5 cd_5 ct_5 : Value}
    {rest_5 : List Value}
    {f_Amountbottom : Addr} {od_6 an_6 : Option Addr} {sl_6 : Array (Option Value)} {oc_6 kV_6 dc_6 pm_6 cd_6 ct_6 : Value}
    {rest_6 : List Value}
    {f_Amountsign : Addr} {od_7 an_7 : Option Addr} {sl_7 : Array (Option Value)} {oc_7 kV_7 dc_7 pm_7 cd_7 ct_7 : Value}
    {rest_7 : List Value}
    {f_Amount_add_ : Addr} {od_8 an_8 : Option Addr} {sl_8 : Array (Option Value)} {oc_8 kV_8 dc_8 pm_8 cd_8 ct_8 : Value}
    {f_Amount_radd_ : Addr} {od_9 an_9 : Option Addr} {sl_9 : Array (Option Value)} {oc_9 kV_9 dc_9 pm_9 cd_9 ct_9 : Value}
    {f_Amount_sub_ : Addr} {od_10 an_10 : Option Addr} {sl_10 : Array (Option Value)} {oc_10 kV_10 dc_10 pm_10 cd_10 ct_10 : Value}
    {f_Amount_rsub_ : Addr} {od_11 an_11 : Option Addr} {sl_11 : Array (Option Value)} {oc_11 kV_11 dc_11 pm_11 cd_11 ct_11 : Value}
    {f_Amount_mul_ : Addr} {od_12 an_12 : Option Addr} {sl_12 : Array (Option Value)} {oc_12 kV_12 dc_12 pm_12 cd_12 ct_12 : Value}
    {f_Amount_rmul_ : Addr} {od_13 an_13 : Option Addr} {sl_13 : Array (Option Value)} {oc_13 kV_13 dc_13 pm_13 cd_13 ct_13 : Value}
    {f_Amountover : Addr} {od_14 an_14 : Option Addr} {sl_14 : Array (Option Value)} {oc_14 kV_14 dc_14 pm_14 cd_14 ct_14 : Value}
    {f_Amount_lt_ : Addr} {od_15 an_15 : Option Addr} {sl_15 : Array (Option Value)} {oc_15 kV_15 dc_15 pm_15 cd_15 ct_15 : Value}
    {f_Amount_le_ : Addr} {od_16 an_16 : Option Addr} {sl_16 : Array (Option Value)} {oc_16 kV_16 dc_16 pm_16 cd_16 ct_16 : Value}
    {f_Amount_str_ : Addr} {od_17 an_17 : Option Addr} {sl_17 : Array (Option Value)} {oc_17 kV_17 dc_17 pm_17 cd_17 ct_17 : Value}
    {f_is_point : Addr} {od_18 an_18 : Option Addr} {sl_18 : Array (Option Value)} {oc_18 kV_18 dc_18 pm_18 cd_18 ct_18 : Value}
    {f_is_origin : Addr} {od_19 an_19 : Option Addr} {sl_19 : Array (Option Value)} {oc_19 kV_19 dc_19 pm_19 cd_19 ct_19 : Value}
    {f_checked : Addr} {od_20 an_20 : Option Addr} {sl_20 : Array (Option Value)} {oc_20 kV_20 dc_20 pm_20 cd_20 ct_20 : Value}
    {f_rises_p : Addr} {od_21 an_21 : Option Addr} {sl_21 : Array (Option Value)} {oc_21 kV_21 dc_21 pm_21 cd_21 ct_21 : Value}
    {f_with_origin : Addr} {od_22 an_22 : Option Addr} {sl_22 : Array (Option Value)} {oc_22 kV_22 dc_22 pm_22 cd_22 ct_22 : Value}
    {f_piece : Addr} {od_23 an_23 : Option Addr} {sl_23 : Array (Option Value)} {oc_23 kV_23 dc_23 pm_23 cd_23 ct_23 : Value}
    {f_across : Addr} {od_24 an_24 : Option Addr} {sl_24 : Array (Option Value)} {oc_24 kV_24 dc_24 pm_24 cd_24 ct_24 : Value}
    {f_Curve_init_ : Addr} {od_25 an_25 : Option Addr} {sl_25 : Array (Option Value)} {oc_25 kV_25 dc_25 pm_25 cd_25 ct_25 : Value}
    {f_Curve_call_ : Addr} {od_26 an_26 : Option Addr} {sl_26 : Array (Option Value)} {oc_26 kV_26 dc_26 pm_26 cd_26 ct_26 : Value}
    {f_Curveback : Addr} {od_27 an_27 : Option Addr} {sl_27 : Array (Option Value)} {oc_27 kV_27 dc_27 pm_27 cd_27 ct_27 : Value}
    {f_Curvepoints : Addr} {od_28 an_28 : Option Addr} {sl_28 : Array (Option Value)} {oc_28 kV_28 dc_28 pm_28 cd_28 ct_28 : Value}
    {f_Curvestraight : Addr} {od_29 an_29 : Option Addr} {sl_29 : Array (Option Value)} {oc_29 kV_29 dc_29 pm_29 cd_29 ct_29 : Value}
    {rest_29 : List Value}
    {f_pot : Addr} {od_30 an_30 : Option Addr} {sl_30 : Array (Option Value)} {oc_30 kV_30 dc_30 pm_30 cd_30 ct_30 : Value}
    {f_draw : Addr} {od_31 an_31 : Option Addr} {sl_31 : Array (Option Value)} {oc_31 kV_31 dc_31 pm_31 cd_31 ct_31 : Value}
    {f_low : Addr} {od_32 an_32 : Option Addr} {sl_32 : Array (Option Value)} {oc_32 kV_32 dc_32 pm_32 cd_32 ct_32 : Value}
    {f_minus : Addr} {od_33 an_33 : Option Addr} {sl_33 : Array (Option Value)} {oc_33 kV_33 dc_33 pm_33 cd_33 ct_33 : Value}
    {f_amount : Addr} {od_34 an_34 : Option Addr} {sl_34 : Array (Option Value)} {oc_34 kV_34 dc_34 pm_34 cd_34 ct_34 : Value}
    {f_plus : Addr} {od_35 an_35 : Option Addr} {sl_35 : Array (Option Value)} {oc_35 kV_35 dc_35 pm_35 cd_35 ct_35 : Value}
    {f_times : Addr} {od_36 an_36 : Option Addr} {sl_36 : Array (Option Value)} {oc_36 kV_36 dc_36 pm_36 cd_36 ct_36 : Value}
    {f_less : Addr} {od_37 an_37 : Option Addr} {sl_37 : Array (Option Value)} {oc_37 kV_37 dc_37 pm_37 cd_37 ct_37 : Value}
    {f_step : Addr} {od_38 an_38 : Option Addr} {sl_38 : Array (Option Value)} {oc_38 kV_38 dc_38 pm_38 cd_38 ct_38 : Value}
    {f_points : Addr} {od_39 an_39 : Option Addr} {sl_39 : Array (Option Value)} {oc_39 kV_39 dc_39 pm_39 cd_39 ct_39 : Value}
    {f_on : Addr} {od_40 an_40 : Option Addr} {sl_40 : Array (Option Value)} {oc_40 kV_40 dc_40 pm_40 cd_40 ct_40 : Value}
    {f_asked : Addr} {od_41 an_41 : Option Addr} {sl_41 : Array (Option Value)} {oc_41 kV_41 dc_41 pm_41 cd_41 ct_41 : Value}
    {f_is : Addr} {od_42 an_42 : Option Addr} {sl_42 : Array (Option Value)} {oc_42 kV_42 dc_42 pm_42 cd_42 ct_42 : Value}
    {f_one_right : Addr} {od_43 an_43 : Option Addr} {sl_43 : Array (Option Value)} {oc_43 kV_43 dc_43 pm_43 cd_43 ct_43 : Value}
    {f_points_right : Addr} {od_44 an_44 : Option Addr} {sl_44 : Array (Option Value)} {oc_44 kV_44 dc_44 pm_44 cd_44 ct_44 : Value}
    {f_rises : Addr} {od_45 an_45 : Option Addr} {sl_45 : Array (Option Value)} {oc_45 kV_45 dc_45 pm_45 cd_45 ct_45 : Value}
    {f_straight_right : Addr} {od_46 an_46 : Option Addr} {sl_46 : Array (Option Value)} {oc_46 kV_46 dc_46 pm_46 cd_46 ct_46 : Value}
    {f_right : Addr} {od_47 an_47 : Option Addr} {sl_47 : Array (Option Value)} {oc_47 kV_47 dc_47 pm_47 cd_47 ct_47 : Value}
    {f_law : Addr} {od_48 an_48 : Option Addr} {sl_48 : Array (Option Value)} {oc_48 kV_48 dc_48 pm_48 cd_48 ct_48 : Value}
    {tP : Tok}
    {tL : Tok}
    {fo_add ro_add : Option Value}
    {fo_sub ro_sub : Option Value}
    {fo_mul ro_mul : Option Value}
    {tkFlow : Tok}
    {tkDrop : Tok}
    {tkMost : Tok}
    (aC_Amount : PySem.W.nsIn K mainGlobals "Amount" = some (some (.ref c_Amount)))
    (aC_Curve : PySem.W.nsIn K mainGlobals "Curve" = some (some (.ref c_Curve)))
    (a_is_integer : PySem.W.nsIn K mainGlobals "is_integer" = some (some (.ref f_is_integer)))
    (l_is_integer : K.lookup f_is_integer = some ⟨oc_0, od_0, .func (PySem.W.fnOf "is_integer" "is_integer" (defArgs s_is_integer) (defBody s_is_integer) (defScope s_is_integer) .none kV_0 dc_0 pm_0 an_0 cd_0 ct_0), sl_0⟩)
    (k1_is_integer : PySem.W.codeIn K cd_0 "is_integer" = true)
    (k2_is_integer : PySem.W.keepIn K (.ref f_is_integer) = true)
    (a_is_amount : PySem.W.nsIn K mainGlobals "is_amount" = some (some (.ref f_is_amount)))
    (l_is_amount : K.lookup f_is_amount = some ⟨oc_1, od_1, .func (PySem.W.fnOf "is_amount" "is_amount" (defArgs s_is_amount) (defBody s_is_amount) (defScope s_is_amount) .none kV_1 dc_1 pm_1 an_1 cd_1 ct_1), sl_1⟩)
    (k1_is_amount : PySem.W.codeIn K cd_1 "is_amount" = true)
    (k2_is_amount : PySem.W.keepIn K (.ref f_is_amount) = true)
    (a_amount_of : PySem.W.nsIn K mainGlobals "amount_of" = some (some (.ref f_amount_of)))
    (l_amount_of : K.lookup f_amount_of = some ⟨oc_2, od_2, .func (PySem.W.fnOf "amount_of" "amount_of" (defArgs s_amount_of) (defBody s_amount_of) (defScope s_amount_of) .none kV_2 dc_2 pm_2 an_2 cd_2 ct_2), sl_2⟩)
    (k1_amount_of : PySem.W.codeIn K cd_2 "amount_of" = true)
    (k2_amount_of : PySem.W.keepIn K (.ref f_amount_of) = true)
    (a_decimal : PySem.W.nsIn K mainGlobals "_decimal" = some (some (.ref f_decimal)))
    (l_decimal : K.lookup f_decimal = some ⟨oc_3, od_3, .func (PySem.W.fnOf "_decimal" "_decimal" (defArgs s_decimal) (defBody s_decimal) (defScope s_decimal) .none kV_3 dc_3 pm_3 an_3 cd_3 ct_3), sl_3⟩)
    (k1_decimal : PySem.W.codeIn K cd_3 "_decimal" = true)
    (k2_decimal : PySem.W.keepIn K (.ref f_decimal) = true)
    (a_Amount_init_ : PySem.W.findIn K (.ref c_Amount) "__init__" = some (some (.ref f_Amount_init_)))
    (i_Amount_init_ : PySem.W.isFn K (.ref f_Amount_init_) = true)
    (l_Amount_init_ : K.lookup f_Amount_init_ = some ⟨oc_4, od_4, .func (PySem.W.fnOf "__init__" "Amount.__init__" (defArgs s_Amount_init_) (defBody s_Amount_init_) (defScope s_Amount_init_) (.ref T_4) kV_4 dc_4 pm_4 an_4 cd_4 ct_4), sl_4⟩)
    (k1_Amount_init_ : PySem.W.codeIn K cd_4 "Amount.__init__" = true)
    (k2_Amount_init_ : PySem.W.keepIn K (.ref f_Amount_init_) = true)
    (dl_Amount_init_ : K.lookup T_4 = some o_4)
    (do_Amount_init_ : o_4.data = .seq its_4.toArray dn_4)
    (dv_Amount_init_ : Vals [.int 1] its_4)
    (pa_Amounttop : PySem.W.findIn K (.ref c_Amount) "top" = some (some (.ref p_top)))
    (pg_Amounttop : PySem.W.specialIn K (.ref p_top) "__get__" = some (some (.builtin "property.__get__")))
    (pt_Amounttop : PySem.W.takesIn K (.ref p_top) = some true)
    (pr_Amounttop : PySem.W.recIn K p_top "property" = some (.ref f_Amounttop :: rest_5))
    (l_Amounttop : K.lookup f_Amounttop = some ⟨oc_5, od_5, .func (PySem.W.fnOf "top" "Amount.top" (defArgs s_Amounttop) (defBody s_Amounttop) (defScope s_Amounttop) .none kV_5 dc_5 pm_5 an_5 cd_5 ct_5), sl_5⟩)
    (k1_Amounttop : PySem.W.codeIn K cd_5 "Amount.top" = true)
    (k2_Amounttop : PySem.W.keepIn K (.ref f_Amounttop) = true)
    (pa_Amountbottom : PySem.W.findIn K (.ref c_Amount) "bottom" = some (some (.ref p_bottom)))
    (pg_Amountbottom : PySem.W.specialIn K (.ref p_bottom) "__get__" = some (some (.builtin "property.__get__")))
    (pt_Amountbottom : PySem.W.takesIn K (.ref p_bottom) = some true)
    (pr_Amountbottom : PySem.W.recIn K p_bottom "property" = some (.ref f_Amountbottom :: rest_6))
    (l_Amountbottom : K.lookup f_Amountbottom = some ⟨oc_6, od_6, .func (PySem.W.fnOf "bottom" "Amount.bottom" (defArgs s_Amountbottom) (defBody s_Amountbottom) (defScope s_Amountbottom) .none kV_6 dc_6 pm_6 an_6 cd_6 ct_6), sl_6⟩)
    (k1_Amountbottom : PySem.W.codeIn K cd_6 "Amount.bottom" = true)
    (k2_Amountbottom : PySem.W.keepIn K (.ref f_Amountbottom) = true)
    (pa_Amountsign : PySem.W.findIn K (.ref c_Amount) "sign" = some (some (.ref p_sign)))
    (pg_Amountsign : PySem.W.specialIn K (.ref p_sign) "__get__" = some (some (.builtin "property.__get__")))
    (pt_Amountsign : PySem.W.takesIn K (.ref p_sign) = some true)
    (pr_Amountsign : PySem.W.recIn K p_sign "property" = some (.ref f_Amountsign :: rest_7))
    (l_Amountsign : K.lookup f_Amountsign = some ⟨oc_7, od_7, .func (PySem.W.fnOf "sign" "Amount.sign" (defArgs s_Amountsign) (defBody s_Amountsign) (defScope s_Amountsign) .none kV_7 dc_7 pm_7 an_7 cd_7 ct_7), sl_7⟩)
    (k1_Amountsign : PySem.W.codeIn K cd_7 "Amount.sign" = true)
    (k2_Amountsign : PySem.W.keepIn K (.ref f_Amountsign) = true)
    (a_Amount_add_ : PySem.W.findIn K (.ref c_Amount) "__add__" = some (some (.ref f_Amount_add_)))
    (i_Amount_add_ : PySem.W.isFn K (.ref f_Amount_add_) = true)
    (l_Amount_add_ : K.lookup f_Amount_add_ = some ⟨oc_8, od_8, .func (PySem.W.fnOf "__add__" "Amount.__add__" (defArgs s_Amount_add_) (defBody s_Amount_add_) (defScope s_Amount_add_) .none kV_8 dc_8 pm_8 an_8 cd_8 ct_8), sl_8⟩)
    (k1_Amount_add_ : PySem.W.codeIn K cd_8 "Amount.__add__" = true)
    (k2_Amount_add_ : PySem.W.keepIn K (.ref f_Amount_add_) = true)
    (a_Amount_radd_ : PySem.W.findIn K (.ref c_Amount) "__radd__" = some (some (.ref f_Amount_radd_)))
    (i_Amount_radd_ : PySem.W.isFn K (.ref f_Amount_radd_) = true)
    (l_Amount_radd_ : K.lookup f_Amount_radd_ = some ⟨oc_9, od_9, .func (PySem.W.fnOf "__radd__" "Amount.__radd__" (defArgs s_Amount_radd_) (defBody s_Amount_radd_) (defScope s_Amount_radd_) .none kV_9 dc_9 pm_9 an_9 cd_9 ct_9), sl_9⟩)
    (k1_Amount_radd_ : PySem.W.codeIn K cd_9 "Amount.__radd__" = true)
    (k2_Amount_radd_ : PySem.W.keepIn K (.ref f_Amount_radd_) = true)
    (a_Amount_sub_ : PySem.W.findIn K (.ref c_Amount) "__sub__" = some (some (.ref f_Amount_sub_)))
    (i_Amount_sub_ : PySem.W.isFn K (.ref f_Amount_sub_) = true)
    (l_Amount_sub_ : K.lookup f_Amount_sub_ = some ⟨oc_10, od_10, .func (PySem.W.fnOf "__sub__" "Amount.__sub__" (defArgs s_Amount_sub_) (defBody s_Amount_sub_) (defScope s_Amount_sub_) .none kV_10 dc_10 pm_10 an_10 cd_10 ct_10), sl_10⟩)
    (k1_Amount_sub_ : PySem.W.codeIn K cd_10 "Amount.__sub__" = true)
    (k2_Amount_sub_ : PySem.W.keepIn K (.ref f_Amount_sub_) = true)
    (a_Amount_rsub_ : PySem.W.findIn K (.ref c_Amount) "__rsub__" = some (some (.ref f_Amount_rsub_)))
    (i_Amount_rsub_ : PySem.W.isFn K (.ref f_Amount_rsub_) = true)
    (l_Amount_rsub_ : K.lookup f_Amount_rsub_ = some ⟨oc_11, od_11, .func (PySem.W.fnOf "__rsub__" "Amount.__rsub__" (defArgs s_Amount_rsub_) (defBody s_Amount_rsub_) (defScope s_Amount_rsub_) .none kV_11 dc_11 pm_11 an_11 cd_11 ct_11), sl_11⟩)
    (k1_Amount_rsub_ : PySem.W.codeIn K cd_11 "Amount.__rsub__" = true)
    (k2_Amount_rsub_ : PySem.W.keepIn K (.ref f_Amount_rsub_) = true)
    (a_Amount_mul_ : PySem.W.findIn K (.ref c_Amount) "__mul__" = some (some (.ref f_Amount_mul_)))
    (i_Amount_mul_ : PySem.W.isFn K (.ref f_Amount_mul_) = true)
    (l_Amount_mul_ : K.lookup f_Amount_mul_ = some ⟨oc_12, od_12, .func (PySem.W.fnOf "__mul__" "Amount.__mul__" (defArgs s_Amount_mul_) (defBody s_Amount_mul_) (defScope s_Amount_mul_) .none kV_12 dc_12 pm_12 an_12 cd_12 ct_12), sl_12⟩)
    (k1_Amount_mul_ : PySem.W.codeIn K cd_12 "Amount.__mul__" = true)
    (k2_Amount_mul_ : PySem.W.keepIn K (.ref f_Amount_mul_) = true)
    (a_Amount_rmul_ : PySem.W.findIn K (.ref c_Amount) "__rmul__" = some (some (.ref f_Amount_rmul_)))
    (i_Amount_rmul_ : PySem.W.isFn K (.ref f_Amount_rmul_) = true)
    (l_Amount_rmul_ : K.lookup f_Amount_rmul_ = some ⟨oc_13, od_13, .func (PySem.W.fnOf "__rmul__" "Amount.__rmul__" (defArgs s_Amount_rmul_) (defBody s_Amount_rmul_) (defScope s_Amount_rmul_) .none kV_13 dc_13 pm_13 an_13 cd_13 ct_13), sl_13⟩)
    (k1_Amount_rmul_ : PySem.W.codeIn K cd_13 "Amount.__rmul__" = true)
    (k2_Amount_rmul_ : PySem.W.keepIn K (.ref f_Amount_rmul_) = true)
    (a_Amountover : PySem.W.findIn K (.ref c_Amount) "over" = some (some (.ref f_Amountover)))
    (i_Amountover : PySem.W.isFn K (.ref f_Amountover) = true)
    (l_Amountover : K.lookup f_Amountover = some ⟨oc_14, od_14, .func (PySem.W.fnOf "over" "Amount.over" (defArgs s_Amountover) (defBody s_Amountover) (defScope s_Amountover) .none kV_14 dc_14 pm_14 an_14 cd_14 ct_14), sl_14⟩)
    (k1_Amountover : PySem.W.codeIn K cd_14 "Amount.over" = true)
    (k2_Amountover : PySem.W.keepIn K (.ref f_Amountover) = true)
    (a_Amount_lt_ : PySem.W.findIn K (.ref c_Amount) "__lt__" = some (some (.ref f_Amount_lt_)))
    (i_Amount_lt_ : PySem.W.isFn K (.ref f_Amount_lt_) = true)
    (l_Amount_lt_ : K.lookup f_Amount_lt_ = some ⟨oc_15, od_15, .func (PySem.W.fnOf "__lt__" "Amount.__lt__" (defArgs s_Amount_lt_) (defBody s_Amount_lt_) (defScope s_Amount_lt_) .none kV_15 dc_15 pm_15 an_15 cd_15 ct_15), sl_15⟩)
    (k1_Amount_lt_ : PySem.W.codeIn K cd_15 "Amount.__lt__" = true)
    (k2_Amount_lt_ : PySem.W.keepIn K (.ref f_Amount_lt_) = true)
    (a_Amount_le_ : PySem.W.findIn K (.ref c_Amount) "__le__" = some (some (.ref f_Amount_le_)))
    (i_Amount_le_ : PySem.W.isFn K (.ref f_Amount_le_) = true)
    (l_Amount_le_ : K.lookup f_Amount_le_ = some ⟨oc_16, od_16, .func (PySem.W.fnOf "__le__" "Amount.__le__" (defArgs s_Amount_le_) (defBody s_Amount_le_) (defScope s_Amount_le_) .none kV_16 dc_16 pm_16 an_16 cd_16 ct_16), sl_16⟩)
    (k1_Amount_le_ : PySem.W.codeIn K cd_16 "Amount.__le__" = true)
    (k2_Amount_le_ : PySem.W.keepIn K (.ref f_Amount_le_) = true)
    (a_Amount_str_ : PySem.W.findIn K (.ref c_Amount) "__str__" = some (some (.ref f_Amount_str_)))
    (i_Amount_str_ : PySem.W.isFn K (.ref f_Amount_str_) = true)
    (l_Amount_str_ : K.lookup f_Amount_str_ = some ⟨oc_17, od_17, .func (PySem.W.fnOf "__str__" "Amount.__str__" (defArgs s_Amount_str_) (defBody s_Amount_str_) (defScope s_Amount_str_) .none kV_17 dc_17 pm_17 an_17 cd_17 ct_17), sl_17⟩)
    (k1_Amount_str_ : PySem.W.codeIn K cd_17 "Amount.__str__" = true)
    (k2_Amount_str_ : PySem.W.keepIn K (.ref f_Amount_str_) = true)
    (a_is_point : PySem.W.nsIn K mainGlobals "_is_point" = some (some (.ref f_is_point)))
    (l_is_point : K.lookup f_is_point = some ⟨oc_18, od_18, .func (PySem.W.fnOf "_is_point" "_is_point" (defArgs s_is_point) (defBody s_is_point) (defScope s_is_point) .none kV_18 dc_18 pm_18 an_18 cd_18 ct_18), sl_18⟩)
    (k1_is_point : PySem.W.codeIn K cd_18 "_is_point" = true)
    (k2_is_point : PySem.W.keepIn K (.ref f_is_point) = true)
    (a_is_origin : PySem.W.nsIn K mainGlobals "_is_origin" = some (some (.ref f_is_origin)))
    (l_is_origin : K.lookup f_is_origin = some ⟨oc_19, od_19, .func (PySem.W.fnOf "_is_origin" "_is_origin" (defArgs s_is_origin) (defBody s_is_origin) (defScope s_is_origin) .none kV_19 dc_19 pm_19 an_19 cd_19 ct_19), sl_19⟩)
    (k1_is_origin : PySem.W.codeIn K cd_19 "_is_origin" = true)
    (k2_is_origin : PySem.W.keepIn K (.ref f_is_origin) = true)
    (a_checked : PySem.W.nsIn K mainGlobals "_checked" = some (some (.ref f_checked)))
    (l_checked : K.lookup f_checked = some ⟨oc_20, od_20, .func (PySem.W.fnOf "_checked" "_checked" (defArgs s_checked) (defBody s_checked) (defScope s_checked) .none kV_20 dc_20 pm_20 an_20 cd_20 ct_20), sl_20⟩)
    (k1_checked : PySem.W.codeIn K cd_20 "_checked" = true)
    (k2_checked : PySem.W.keepIn K (.ref f_checked) = true)
    (a_rises_p : PySem.W.nsIn K mainGlobals "_rises" = some (some (.ref f_rises_p)))
    (l_rises_p : K.lookup f_rises_p = some ⟨oc_21, od_21, .func (PySem.W.fnOf "_rises" "_rises" (defArgs s_rises_p) (defBody s_rises_p) (defScope s_rises_p) .none kV_21 dc_21 pm_21 an_21 cd_21 ct_21), sl_21⟩)
    (k1_rises_p : PySem.W.codeIn K cd_21 "_rises" = true)
    (k2_rises_p : PySem.W.keepIn K (.ref f_rises_p) = true)
    (a_with_origin : PySem.W.nsIn K mainGlobals "_with_origin" = some (some (.ref f_with_origin)))
    (l_with_origin : K.lookup f_with_origin = some ⟨oc_22, od_22, .func (PySem.W.fnOf "_with_origin" "_with_origin" (defArgs s_with_origin) (defBody s_with_origin) (defScope s_with_origin) .none kV_22 dc_22 pm_22 an_22 cd_22 ct_22), sl_22⟩)
    (k1_with_origin : PySem.W.codeIn K cd_22 "_with_origin" = true)
    (k2_with_origin : PySem.W.keepIn K (.ref f_with_origin) = true)
    (a_piece : PySem.W.nsIn K mainGlobals "_piece" = some (some (.ref f_piece)))
    (l_piece : K.lookup f_piece = some ⟨oc_23, od_23, .func (PySem.W.fnOf "_piece" "_piece" (defArgs s_piece) (defBody s_piece) (defScope s_piece) .none kV_23 dc_23 pm_23 an_23 cd_23 ct_23), sl_23⟩)
    (k1_piece : PySem.W.codeIn K cd_23 "_piece" = true)
    (k2_piece : PySem.W.keepIn K (.ref f_piece) = true)
    (a_across : PySem.W.nsIn K mainGlobals "_across" = some (some (.ref f_across)))
    (l_across : K.lookup f_across = some ⟨oc_24, od_24, .func (PySem.W.fnOf "_across" "_across" (defArgs s_across) (defBody s_across) (defScope s_across) .none kV_24 dc_24 pm_24 an_24 cd_24 ct_24), sl_24⟩)
    (k1_across : PySem.W.codeIn K cd_24 "_across" = true)
    (k2_across : PySem.W.keepIn K (.ref f_across) = true)
    (a_Curve_init_ : PySem.W.findIn K (.ref c_Curve) "__init__" = some (some (.ref f_Curve_init_)))
    (i_Curve_init_ : PySem.W.isFn K (.ref f_Curve_init_) = true)
    (l_Curve_init_ : K.lookup f_Curve_init_ = some ⟨oc_25, od_25, .func (PySem.W.fnOf "__init__" "Curve.__init__" (defArgs s_Curve_init_) (defBody s_Curve_init_) (defScope s_Curve_init_) .none kV_25 dc_25 pm_25 an_25 cd_25 ct_25), sl_25⟩)
    (k1_Curve_init_ : PySem.W.codeIn K cd_25 "Curve.__init__" = true)
    (k2_Curve_init_ : PySem.W.keepIn K (.ref f_Curve_init_) = true)
    (a_Curve_call_ : PySem.W.findIn K (.ref c_Curve) "__call__" = some (some (.ref f_Curve_call_)))
    (i_Curve_call_ : PySem.W.isFn K (.ref f_Curve_call_) = true)
    (l_Curve_call_ : K.lookup f_Curve_call_ = some ⟨oc_26, od_26, .func (PySem.W.fnOf "__call__" "Curve.__call__" (defArgs s_Curve_call_) (defBody s_Curve_call_) (defScope s_Curve_call_) .none kV_26 dc_26 pm_26 an_26 cd_26 ct_26), sl_26⟩)
    (k1_Curve_call_ : PySem.W.codeIn K cd_26 "Curve.__call__" = true)
    (k2_Curve_call_ : PySem.W.keepIn K (.ref f_Curve_call_) = true)
    (a_Curveback : PySem.W.findIn K (.ref c_Curve) "back" = some (some (.ref f_Curveback)))
    (i_Curveback : PySem.W.isFn K (.ref f_Curveback) = true)
    (l_Curveback : K.lookup f_Curveback = some ⟨oc_27, od_27, .func (PySem.W.fnOf "back" "Curve.back" (defArgs s_Curveback) (defBody s_Curveback) (defScope s_Curveback) .none kV_27 dc_27 pm_27 an_27 cd_27 ct_27), sl_27⟩)
    (k1_Curveback : PySem.W.codeIn K cd_27 "Curve.back" = true)
    (k2_Curveback : PySem.W.keepIn K (.ref f_Curveback) = true)
    (a_Curvepoints : PySem.W.findIn K (.ref c_Curve) "points" = some (some (.ref f_Curvepoints)))
    (i_Curvepoints : PySem.W.isFn K (.ref f_Curvepoints) = true)
    (l_Curvepoints : K.lookup f_Curvepoints = some ⟨oc_28, od_28, .func (PySem.W.fnOf "points" "Curve.points" (defArgs s_Curvepoints) (defBody s_Curvepoints) (defScope s_Curvepoints) .none kV_28 dc_28 pm_28 an_28 cd_28 ct_28), sl_28⟩)
    (k1_Curvepoints : PySem.W.codeIn K cd_28 "Curve.points" = true)
    (k2_Curvepoints : PySem.W.keepIn K (.ref f_Curvepoints) = true)
    (pa_Curvestraight : PySem.W.findCls K (.ref c_Curve) (.type "type") "straight" = some (.get (.builtin "staticmethod.__get__") (.ref p_straight) .none (.ref c_Curve)))
    (pr_Curvestraight : PySem.W.recIn K p_straight "staticmethod" = some (.ref f_Curvestraight :: rest_29))
    (l_Curvestraight : K.lookup f_Curvestraight = some ⟨oc_29, od_29, .func (PySem.W.fnOf "straight" "Curve.straight" (defArgs s_Curvestraight) (defBody s_Curvestraight) (defScope s_Curvestraight) .none kV_29 dc_29 pm_29 an_29 cd_29 ct_29), sl_29⟩)
    (k1_Curvestraight : PySem.W.codeIn K cd_29 "Curve.straight" = true)
    (k2_Curvestraight : PySem.W.keepIn K (.ref f_Curvestraight) = true)
    (a_pot : PySem.W.nsIn K mainGlobals "_law_pot" = some (some (.ref f_pot)))
    (l_pot : K.lookup f_pot = some ⟨oc_30, od_30, .func (PySem.W.fnOf "_law_pot" "_law_pot" (defArgs s_pot) (defBody s_pot) (defScope s_pot) .none kV_30 dc_30 pm_30 an_30 cd_30 ct_30), sl_30⟩)
    (k1_pot : PySem.W.codeIn K cd_30 "_law_pot" = true)
    (k2_pot : PySem.W.keepIn K (.ref f_pot) = true)
    (a_draw : PySem.W.nsIn K mainGlobals "_law_draw" = some (some (.ref f_draw)))
    (l_draw : K.lookup f_draw = some ⟨oc_31, od_31, .func (PySem.W.fnOf "_law_draw" "_law_draw" (defArgs s_draw) (defBody s_draw) (defScope s_draw) .none kV_31 dc_31 pm_31 an_31 cd_31 ct_31), sl_31⟩)
    (k1_draw : PySem.W.codeIn K cd_31 "_law_draw" = true)
    (k2_draw : PySem.W.keepIn K (.ref f_draw) = true)
    (a_low : PySem.W.nsIn K mainGlobals "_law_low" = some (some (.ref f_low)))
    (l_low : K.lookup f_low = some ⟨oc_32, od_32, .func (PySem.W.fnOf "_law_low" "_law_low" (defArgs s_low) (defBody s_low) (defScope s_low) .none kV_32 dc_32 pm_32 an_32 cd_32 ct_32), sl_32⟩)
    (k1_low : PySem.W.codeIn K cd_32 "_law_low" = true)
    (k2_low : PySem.W.keepIn K (.ref f_low) = true)
    (a_minus : PySem.W.nsIn K mainGlobals "_law_minus" = some (some (.ref f_minus)))
    (l_minus : K.lookup f_minus = some ⟨oc_33, od_33, .func (PySem.W.fnOf "_law_minus" "_law_minus" (defArgs s_minus) (defBody s_minus) (defScope s_minus) .none kV_33 dc_33 pm_33 an_33 cd_33 ct_33), sl_33⟩)
    (k1_minus : PySem.W.codeIn K cd_33 "_law_minus" = true)
    (k2_minus : PySem.W.keepIn K (.ref f_minus) = true)
    (a_amount : PySem.W.nsIn K mainGlobals "_law_amount" = some (some (.ref f_amount)))
    (l_amount : K.lookup f_amount = some ⟨oc_34, od_34, .func (PySem.W.fnOf "_law_amount" "_law_amount" (defArgs s_amount) (defBody s_amount) (defScope s_amount) .none kV_34 dc_34 pm_34 an_34 cd_34 ct_34), sl_34⟩)
    (k1_amount : PySem.W.codeIn K cd_34 "_law_amount" = true)
    (k2_amount : PySem.W.keepIn K (.ref f_amount) = true)
    (a_plus : PySem.W.nsIn K mainGlobals "_law_plus" = some (some (.ref f_plus)))
    (l_plus : K.lookup f_plus = some ⟨oc_35, od_35, .func (PySem.W.fnOf "_law_plus" "_law_plus" (defArgs s_plus) (defBody s_plus) (defScope s_plus) .none kV_35 dc_35 pm_35 an_35 cd_35 ct_35), sl_35⟩)
    (k1_plus : PySem.W.codeIn K cd_35 "_law_plus" = true)
    (k2_plus : PySem.W.keepIn K (.ref f_plus) = true)
    (a_times : PySem.W.nsIn K mainGlobals "_law_times" = some (some (.ref f_times)))
    (l_times : K.lookup f_times = some ⟨oc_36, od_36, .func (PySem.W.fnOf "_law_times" "_law_times" (defArgs s_times) (defBody s_times) (defScope s_times) .none kV_36 dc_36 pm_36 an_36 cd_36 ct_36), sl_36⟩)
    (k1_times : PySem.W.codeIn K cd_36 "_law_times" = true)
    (k2_times : PySem.W.keepIn K (.ref f_times) = true)
    (a_less : PySem.W.nsIn K mainGlobals "_law_less" = some (some (.ref f_less)))
    (l_less : K.lookup f_less = some ⟨oc_37, od_37, .func (PySem.W.fnOf "_law_less" "_law_less" (defArgs s_less) (defBody s_less) (defScope s_less) .none kV_37 dc_37 pm_37 an_37 cd_37 ct_37), sl_37⟩)
    (k1_less : PySem.W.codeIn K cd_37 "_law_less" = true)
    (k2_less : PySem.W.keepIn K (.ref f_less) = true)
    (a_step : PySem.W.nsIn K mainGlobals "_law_step" = some (some (.ref f_step)))
    (l_step : K.lookup f_step = some ⟨oc_38, od_38, .func (PySem.W.fnOf "_law_step" "_law_step" (defArgs s_step) (defBody s_step) (defScope s_step) .none kV_38 dc_38 pm_38 an_38 cd_38 ct_38), sl_38⟩)
    (k1_step : PySem.W.codeIn K cd_38 "_law_step" = true)
    (k2_step : PySem.W.keepIn K (.ref f_step) = true)
    (a_points : PySem.W.nsIn K mainGlobals "_law_points" = some (some (.ref f_points)))
    (l_points : K.lookup f_points = some ⟨oc_39, od_39, .func (PySem.W.fnOf "_law_points" "_law_points" (defArgs s_points) (defBody s_points) (defScope s_points) .none kV_39 dc_39 pm_39 an_39 cd_39 ct_39), sl_39⟩)
    (k1_points : PySem.W.codeIn K cd_39 "_law_points" = true)
    (k2_points : PySem.W.keepIn K (.ref f_points) = true)
    (a_on : PySem.W.nsIn K mainGlobals "_law_on" = some (some (.ref f_on)))
    (l_on : K.lookup f_on = some ⟨oc_40, od_40, .func (PySem.W.fnOf "_law_on" "_law_on" (defArgs s_on) (defBody s_on) (defScope s_on) .none kV_40 dc_40 pm_40 an_40 cd_40 ct_40), sl_40⟩)
    (k1_on : PySem.W.codeIn K cd_40 "_law_on" = true)
    (k2_on : PySem.W.keepIn K (.ref f_on) = true)
    (a_asked : PySem.W.nsIn K mainGlobals "_law_asked" = some (some (.ref f_asked)))
    (l_asked : K.lookup f_asked = some ⟨oc_41, od_41, .func (PySem.W.fnOf "_law_asked" "_law_asked" (defArgs s_asked) (defBody s_asked) (defScope s_asked) .none kV_41 dc_41 pm_41 an_41 cd_41 ct_41), sl_41⟩)
    (k1_asked : PySem.W.codeIn K cd_41 "_law_asked" = true)
    (k2_asked : PySem.W.keepIn K (.ref f_asked) = true)
    (a_is : PySem.W.nsIn K mainGlobals "_law_is" = some (some (.ref f_is)))
    (l_is : K.lookup f_is = some ⟨oc_42, od_42, .func (PySem.W.fnOf "_law_is" "_law_is" (defArgs s_is) (defBody s_is) (defScope s_is) .none kV_42 dc_42 pm_42 an_42 cd_42 ct_42), sl_42⟩)
    (k1_is : PySem.W.codeIn K cd_42 "_law_is" = true)
    (k2_is : PySem.W.keepIn K (.ref f_is) = true)
    (a_one_right : PySem.W.nsIn K mainGlobals "_law_one_right" = some (some (.ref f_one_right)))
    (l_one_right : K.lookup f_one_right = some ⟨oc_43, od_43, .func (PySem.W.fnOf "_law_one_right" "_law_one_right" (defArgs s_one_right) (defBody s_one_right) (defScope s_one_right) .none kV_43 dc_43 pm_43 an_43 cd_43 ct_43), sl_43⟩)
    (k1_one_right : PySem.W.codeIn K cd_43 "_law_one_right" = true)
    (k2_one_right : PySem.W.keepIn K (.ref f_one_right) = true)
    (a_points_right : PySem.W.nsIn K mainGlobals "_law_points_right" = some (some (.ref f_points_right)))
    (l_points_right : K.lookup f_points_right = some ⟨oc_44, od_44, .func (PySem.W.fnOf "_law_points_right" "_law_points_right" (defArgs s_points_right) (defBody s_points_right) (defScope s_points_right) .none kV_44 dc_44 pm_44 an_44 cd_44 ct_44), sl_44⟩)
    (k1_points_right : PySem.W.codeIn K cd_44 "_law_points_right" = true)
    (k2_points_right : PySem.W.keepIn K (.ref f_points_right) = true)
    (a_rises : PySem.W.nsIn K mainGlobals "_law_rises" = some (some (.ref f_rises)))
    (l_rises : K.lookup f_rises = some ⟨oc_45, od_45, .func (PySem.W.fnOf "_law_rises" "_law_rises" (defArgs s_rises) (defBody s_rises) (defScope s_rises) .none kV_45 dc_45 pm_45 an_45 cd_45 ct_45), sl_45⟩)
    (k1_rises : PySem.W.codeIn K cd_45 "_law_rises" = true)
    (k2_rises : PySem.W.keepIn K (.ref f_rises) = true)
    (a_straight_right : PySem.W.nsIn K mainGlobals "_law_straight_right" = some (some (.ref f_straight_right)))
    (l_straight_right : K.lookup f_straight_right = some ⟨oc_46, od_46, .func (PySem.W.fnOf "_law_straight_right" "_law_straight_right" (defArgs s_straight_right) (defBody s_straight_right) (defScope s_straight_right) .none kV_46 dc_46 pm_46 an_46 cd_46 ct_46), sl_46⟩)
    (k1_straight_right : PySem.W.codeIn K cd_46 "_law_straight_right" = true)
    (k2_straight_right : PySem.W.keepIn K (.ref f_straight_right) = true)
    (a_right : PySem.W.nsIn K mainGlobals "_law_right" = some (some (.ref f_right)))
    (l_right : K.lookup f_right = some ⟨oc_47, od_47, .func (PySem.W.fnOf "_law_right" "_law_right" (defArgs s_right) (defBody s_right) (defScope s_right) .none kV_47 dc_47 pm_47 an_47 cd_47 ct_47), sl_47⟩)
    (k1_right : PySem.W.codeIn K cd_47 "_law_right" = true)
    (k2_right : PySem.W.keepIn K (.ref f_right) = true)
    (a_law : PySem.W.nsIn K mainGlobals "law" = some (some (.ref f_law)))
    (l_law : K.lookup f_law = some ⟨oc_48, od_48, .func (PySem.W.fnOf "law" "law" (defArgs s_law) (defBody s_law) (defScope s_law) .none kV_48 dc_48 pm_48 an_48 cd_48 ct_48), sl_48⟩)
    (k1_law : PySem.W.codeIn K cd_48 "law" = true)
    (k2_law : PySem.W.keepIn K (.ref f_law) = true)
    (pgA : PySem.W.plainGet K c_Amount Str.empty = true)
    (hdA : PySem.W.hasDictIn K c_Amount = true)
    (poA : PySem.W.plainOver K c_Amount = true)
    (saA : PySem.W.findIn K (.ref c_Amount) "__setattr__" = some (some (.builtin "object.__setattr__")))
    (nTA : PySem.W.findIn K (.ref c_Amount) "_top" = some none)
    (nBA : PySem.W.findIn K (.ref c_Amount) "_bottom" = some none)
    (mkA_ : PySem.W.makesIn K c_Amount = true)
    (kcA : PySem.W.keepIn K (.ref c_Amount) = true)
    (gcd_ : PySem.W.nsIn K mainGlobals "gcd" = some (some (.builtin "math.gcd")))
    (ca_ : PySem.W.findIn K (.ref c_Amount) "__class__" = some (some (.builtin "object.__class__")))
    (cn_ : PySem.W.specialIn K (.builtin "object.__class__") "__get__" = some (some (.builtin "getset_descriptor.__get__")))
    (ct_ : PySem.W.takesIn K (.builtin "object.__class__") = some true)
    (cm_ : PySem.W.mroIn K c_Amount (.type "object") = some true)
    (ic_ : PySem.W.isClsIn K c_Amount = true)
    (it_ : PySem.W.typeIn K (.ref c_Amount) = some (.type "type"))
    (sb_NoneType : PySem.W.subIn K (.type "NoneType") (.ref c_Amount) = some false)
    (sb_bool : PySem.W.subIn K (.type "bool") (.ref c_Amount) = some false)
    (sb_int : PySem.W.subIn K (.type "int") (.ref c_Amount) = some false)
    (sb_str : PySem.W.subIn K (.type "str") (.ref c_Amount) = some false)
    (sb_list : PySem.W.subIn K (.type "list") (.ref c_Amount) = some false)
    (sb_tuple : PySem.W.subIn K (.type "tuple") (.ref c_Amount) = some false)
    (sb_dict : PySem.W.subIn K (.type "dict") (.ref c_Amount) = some false)
    (part_ : PySem.W.nsIn K mainGlobals "PART" = some (some (.int 1000000000000000000000000000000000000000000000000000000000000 tP)))
    (plen_ : PySem.W.nsIn K mainGlobals "PART_LENGTH" = some (some (.int 60 tL)))
    (sf_ : PySem.W.selfFirst K c_Amount = true)
    (s2_ : PySem.W.subIn K (.ref c_Amount) (.type "int") = some false)
    (o1_add : PySem.W.findIn K (.ref c_Amount) (PySem.dunder (PySem.Operator.info PySem.Operator.Add).2) = some (some (.ref f_Amount_add_)))
    (o2_add : PySem.W.findIn K (.ref c_Amount) (PySem.dunderR (PySem.Operator.info PySem.Operator.Add).2) = some (some (.ref f_Amount_radd_)))
    (o3_add : PySem.W.findIn K (.type "int") (PySem.dunder (PySem.Operator.info PySem.Operator.Add).2) = some fo_add)
    (o4_add : PySem.W.findIn K (.type "int") (PySem.dunderR (PySem.Operator.info PySem.Operator.Add).2) = some ro_add)
    (o1_sub : PySem.W.findIn K (.ref c_Amount) (PySem.dunder (PySem.Operator.info PySem.Operator.Sub).2) = some (some (.ref f_Amount_sub_)))
    (o2_sub : PySem.W.findIn K (.ref c_Amount) (PySem.dunderR (PySem.Operator.info PySem.Operator.Sub).2) = some (some (.ref f_Amount_rsub_)))
    (o3_sub : PySem.W.findIn K (.type "int") (PySem.dunder (PySem.Operator.info PySem.Operator.Sub).2) = some fo_sub)
    (o4_sub : PySem.W.findIn K (.type "int") (PySem.dunderR (PySem.Operator.info PySem.Operator.Sub).2) = some ro_sub)
    (o1_mul : PySem.W.findIn K (.ref c_Amount) (PySem.dunder (PySem.Operator.info PySem.Operator.Mult).2) = some (some (.ref f_Amount_mul_)))
    (o2_mul : PySem.W.findIn K (.ref c_Amount) (PySem.dunderR (PySem.Operator.info PySem.Operator.Mult).2) = some (some (.ref f_Amount_rmul_)))
    (o3_mul : PySem.W.findIn K (.type "int") (PySem.dunder (PySem.Operator.info PySem.Operator.Mult).2) = some fo_mul)
    (o4_mul : PySem.W.findIn K (.type "int") (PySem.dunderR (PySem.Operator.info PySem.Operator.Mult).2) = some ro_mul)
    (gl_Flow : PySem.W.nsIn K mainGlobals "FLOW" = some (some (.int 0 tkFlow)))
    (gl_Drop : PySem.W.nsIn K mainGlobals "DROP" = some (some (.int 1 tkDrop)))
    (gl_Most : PySem.W.nsIn K mainGlobals "MOST_POINTS" = some (some (.int 80 tkMost)))
    (pgC : PySem.W.plainGet K c_Curve Str.empty = true)
    (hdC : PySem.W.hasDictIn K c_Curve = true)
    (poC : PySem.W.plainOver K c_Curve = true)
    (saC : PySem.W.findIn K (.ref c_Curve) "__setattr__" = some (some (.builtin "object.__setattr__")))
    (nPC : PySem.W.findIn K (.ref c_Curve) "_points" = some none)
    (mkC_ : PySem.W.makesIn K c_Curve = true)
    (kcC : PySem.W.keepIn K (.ref c_Curve) = true)
    (fi_call : PySem.W.fnIn K f_Curve_call_ = true)
    (tyC_ : PySem.W.typeIn K (.ref c_Curve) = some (.type "type"))
    (rdC_ : PySem.W.readsIn K c_Curve (.type "type") = true)
    (gaC_ : PySem.W.specialIn K (.ref c_Curve) "__getattribute__" = some (some (.builtin "type.__getattribute__")))
    (z_len : PySem.W.nsIn K mainGlobals "len" = some none)
    (z_abs : PySem.W.nsIn K mainGlobals "abs" = some none)
    (z_max : PySem.W.nsIn K mainGlobals "max" = some none)
    (z_min : PySem.W.nsIn K mainGlobals "min" = some none)
    (z_int : PySem.W.nsIn K mainGlobals "int" = some none)
    (z_divmod : PySem.W.nsIn K mainGlobals "divmod" = some none)
    (z_all : PySem.W.nsIn K mainGlobals "all" = some none)
    (z_repr : PySem.W.nsIn K mainGlobals "repr" = some none)
    (z_isinstance : PySem.W.nsIn K mainGlobals "isinstance" = some none)
    (z_str : PySem.W.nsIn K mainGlobals "str" = some none)
    (z_range : PySem.W.nsIn K mainGlobals "range" = some none)
    (z_bool : PySem.W.nsIn K mainGlobals "bool" = some none)
    (z_list : PySem.W.nsIn K mainGlobals "list" = some none)
    (z_tuple : PySem.W.nsIn K mainGlobals "tuple" = some none)
    (z_enumerate : PySem.W.nsIn K mainGlobals "enumerate" = some none)
    (z_zip : PySem.W.nsIn K mainGlobals "zip" = some none) :
    ∃ fd : FuncData, (∀ (s : Shared) (v : Value), BindsTo s fd ⟨[v], []⟩ [("_law_script", v)]) ∧ ∀ base : Heap, K.In base → base.Ns mainGlobals mg → FnG l.prog w K mg base CX0 13 fa fd ["_law_script"] (sp_law K) := by
  have e := (PySem.W.mg_of X G a_law).symm.trans hfa
  cases e
  have T : Txt K mg { f_is_integer := f_is_integer, d_is_integer := PySem.W.fnOf "is_integer" "is_integer" (defArgs s_is_integer) (defBody s_is_integer) (defScope s_is_integer) .none kV_0 dc_0 pm_0 an_0 cd_0 ct_0, f_is_amount := f_is_amount, d_is_amount := PySem.W.fnOf "is_amount" "is_amount" (defArgs s_is_amount) (defBody s_is_amount) (defScope s_is_amount) .none kV_1 dc_1 pm_1 an_1 cd_1 ct_1, f_amount_of := f_amount_of, d_amount_of := PySem.W.fnOf "amount_of" "amount_of" (defArgs s_amount_of) (defBody s_amount_of) (defScope s_amount_of) .none kV_2 dc_2 pm_2 an_2 cd_2 ct_2, f_decimal := f_decimal, d_decimal := PySem.W.fnOf "_decimal" "_decimal" (defArgs s_decimal) (defBody s_decimal) (defScope s_decimal) .none kV_3 dc_3 pm_3 an_3 cd_3 ct_3, f_Amount_init_ := f_Amount_init_, d_Amount_init_ := PySem.W.fnOf "__init__" "Amount.__init__" (defArgs s_Amount_init_) (defBody s_Amount_init_) (defScope s_Amount_init_) (.ref T_4) kV_4 dc_4 pm_4 an_4 cd_4 ct_4, f_Amounttop := f_Amounttop, d_Amounttop := PySem.W.fnOf "top" "Amount.top" (defArgs s_Amounttop) (defBody s_Amounttop) (defScope s_Amounttop) .none kV_5 dc_5 pm_5 an_5 cd_5 ct_5, f_Amountbottom := f_Amountbottom, d_Amountbottom := PySem.W.fnOf "bottom" "Amount.bottom" (defArgs s_Amountbottom) (defBody s_Amountbottom) (defScope s_Amountbottom) .none kV_6 dc_6 pm_6 an_6 cd_6 ct_6, f_Amountsign := f_Amountsign, d_Amountsign := PySem.W.fnOf "sign" "Amount.sign" (defArgs s_Amountsign) (defBody s_Amountsign) (defScope s_Amountsign) .none kV_7 dc_7 pm_7 an_7 cd_7 ct_7, f_Amount_add_ := f_Amount_add_, d_Amount_add_ := PySem.W.fnOf "__add__" "Amount.__add__" (defArgs s_Amount_add_) (defBody s_Amount_add_) (defScope s_Amount_add_) .none kV_8 dc_8 pm_8 an_8 cd_8 ct_8, f_Amount_radd_ := f_Amount_radd_, d_Amount_radd_ := PySem.W.fnOf "__radd__" "Amount.__radd__" (defArgs s_Amount_radd_) (defBody s_Amount_radd_) (defScope s_Amount_radd_) .none kV_9 dc_9 pm_9 an_9 cd_9 ct_9, f_Amount_sub_ := f_Amount_sub_, d_Amount_sub_ := PySem.W.fnOf "__sub__" "Amount.__sub__" (defArgs s_Amount_sub_) (defBody s_Amount_sub_) (defScope s_Amount_sub_) .none kV_10 dc_10 pm_10 an_10 cd_10 ct_10, f_Amount_rsub_ := f_Amount_rsub_, d_Amount_rsub_ := PySem.W.fnOf "__rsub__" "Amount.__rsub__" (defArgs s_Amount_rsub_) (defBody s_Amount_rsub_) (defScope s_Amount_rsub_) .none kV_11 dc_11 pm_11 an_11 cd_11 ct_11, f_Amount_mul_ := f_Amount_mul_, d_Amount_mul_ := PySem.W.fnOf "__mul__" "Amount.__mul__" (defArgs s_Amount_mul_) (defBody s_Amount_mul_) (defScope s_Amount_mul_) .none kV_12 dc_12 pm_12 an_12 cd_12 ct_12, f_Amount_rmul_ := f_Amount_rmul_, d_Amount_rmul_ := PySem.W.fnOf "__rmul__" "Amount.__rmul__" (defArgs s_Amount_rmul_) (defBody s_Amount_rmul_) (defScope s_Amount_rmul_) .none kV_13 dc_13 pm_13 an_13 cd_13 ct_13, f_Amountover := f_Amountover, d_Amountover := PySem.W.fnOf "over" "Amount.over" (defArgs s_Amountover) (defBody s_Amountover) (defScope s_Amountover) .none kV_14 dc_14 pm_14 an_14 cd_14 ct_14, f_Amount_lt_ := f_Amount_lt_, d_Amount_lt_ := PySem.W.fnOf "__lt__" "Amount.__lt__" (defArgs s_Amount_lt_) (defBody s_Amount_lt_) (defScope s_Amount_lt_) .none kV_15 dc_15 pm_15 an_15 cd_15 ct_15, f_Amount_le_ := f_Amount_le_, d_Amount_le_ := PySem.W.fnOf "__le__" "Amount.__le__" (defArgs s_Amount_le_) (defBody s_Amount_le_) (defScope s_Amount_le_) .none kV_16 dc_16 pm_16 an_16 cd_16 ct_16, f_Amount_str_ := f_Amount_str_, d_Amount_str_ := PySem.W.fnOf "__str__" "Amount.__str__" (defArgs s_Amount_str_) (defBody s_Amount_str_) (defScope s_Amount_str_) .none kV_17 dc_17 pm_17 an_17 cd_17 ct_17, f_is_point := f_is_point, d_is_point := PySem.W.fnOf "_is_point" "_is_point" (defArgs s_is_point) (defBody s_is_point) (defScope s_is_point) .none kV_18 dc_18 pm_18 an_18 cd_18 ct_18, f_is_origin := f_is_origin, d_is_origin := PySem.W.fnOf "_is_origin" "_is_origin" (defArgs s_is_origin) (defBody s_is_origin) (defScope s_is_origin) .none kV_19 dc_19 pm_19 an_19 cd_19 ct_19, f_checked := f_checked, d_checked := PySem.W.fnOf "_checked" "_checked" (defArgs s_checked) (defBody s_checked) (defScope s_checked) .none kV_20 dc_20 pm_20 an_20 cd_20 ct_20, f_rises_p := f_rises_p, d_rises_p := PySem.W.fnOf "_rises" "_rises" (defArgs s_rises_p) (defBody s_rises_p) (defScope s_rises_p) .none kV_21 dc_21 pm_21 an_21 cd_21 ct_21, f_with_origin := f_with_origin, d_with_origin := PySem.W.fnOf "_with_origin" "_with_origin" (defArgs s_with_origin) (defBody s_with_origin) (defScope s_with_origin) .none kV_22 dc_22 pm_22 an_22 cd_22 ct_22, f_piece := f_piece, d_piece := PySem.W.fnOf "_piece" "_piece" (defArgs s_piece) (defBody s_piece) (defScope s_piece) .none kV_23 dc_23 pm_23 an_23 cd_23 ct_23, f_across := f_across, d_across := PySem.W.fnOf "_across" "_across" (defArgs s_across) (defBody s_across) (defScope s_across) .none kV_24 dc_24 pm_24 an_24 cd_24 ct_24, f_Curve_init_ := f_Curve_init_, d_Curve_init_ := PySem.W.fnOf "__init__" "Curve.__init__" (defArgs s_Curve_init_) (defBody s_Curve_init_) (defScope s_Curve_init_) .none kV_25 dc_25 pm_25 an_25 cd_25 ct_25, f_Curve_call_ := f_Curve_call_, d_Curve_call_ := PySem.W.fnOf "__call__" "Curve.__call__" (defArgs s_Curve_call_) (defBody s_Curve_call_) (defScope s_Curve_call_) .none kV_26 dc_26 pm_26 an_26 cd_26 ct_26, f_Curveback := f_Curveback, d_Curveback := PySem.W.fnOf "back" "Curve.back" (defArgs s_Curveback) (defBody s_Curveback) (defScope s_Curveback) .none kV_27 dc_27 pm_27 an_27 cd_27 ct_27, f_Curvepoints := f_Curvepoints, d_Curvepoints := PySem.W.fnOf "points" "Curve.points" (defArgs s_Curvepoints) (defBody s_Curvepoints) (defScope s_Curvepoints) .none kV_28 dc_28 pm_28 an_28 cd_28 ct_28, f_Curvestraight := f_Curvestraight, d_Curvestraight := PySem.W.fnOf "straight" "Curve.straight" (defArgs s_Curvestraight) (defBody s_Curvestraight) (defScope s_Curvestraight) .none kV_29 dc_29 pm_29 an_29 cd_29 ct_29, f_pot := f_pot, d_pot := PySem.W.fnOf "_law_pot" "_law_pot" (defArgs s_pot) (defBody s_pot) (defScope s_pot) .none kV_30 dc_30 pm_30 an_30 cd_30 ct_30, f_draw := f_draw, d_draw := PySem.W.fnOf "_law_draw" "_law_draw" (defArgs s_draw) (defBody s_draw) (defScope s_draw) .none kV_31 dc_31 pm_31 an_31 cd_31 ct_31, f_low := f_low, d_low := PySem.W.fnOf "_law_low" "_law_low" (defArgs s_low) (defBody s_low) (defScope s_low) .none kV_32 dc_32 pm_32 an_32 cd_32 ct_32, f_minus := f_minus, d_minus := PySem.W.fnOf "_law_minus" "_law_minus" (defArgs s_minus) (defBody s_minus) (defScope s_minus) .none kV_33 dc_33 pm_33 an_33 cd_33 ct_33, f_amount := f_amount, d_amount := PySem.W.fnOf "_law_amount" "_law_amount" (defArgs s_amount) (defBody s_amount) (defScope s_amount) .none kV_34 dc_34 pm_34 an_34 cd_34 ct_34, f_plus := f_plus, d_plus := PySem.W.fnOf "_law_plus" "_law_plus" (defArgs s_plus) (defBody s_plus) (defScope s_plus) .none kV_35 dc_35 pm_35 an_35 cd_35 ct_35, f_times := f_times, d_times := PySem.W.fnOf "_law_times" "_law_times" (defArgs s_times) (defBody s_times) (defScope s_times) .none kV_36 dc_36 pm_36 an_36 cd_36 ct_36, f_less := f_less, d_less := PySem.W.fnOf "_law_less" "_law_less" (defArgs s_less) (defBody s_less) (defScope s_less) .none kV_37 dc_37 pm_37 an_37 cd_37 ct_37, f_step := f_step, d_step := PySem.W.fnOf "_law_step" "_law_step" (defArgs s_step) (defBody s_step) (defScope s_step) .none kV_38 dc_38 pm_38 an_38 cd_38 ct_38, f_points := f_points, d_points := PySem.W.fnOf "_law_points" "_law_points" (defArgs s_points) (defBody s_points) (defScope s_points) .none kV_39 dc_39 pm_39 an_39 cd_39 ct_39, f_on := f_on, d_on := PySem.W.fnOf "_law_on" "_law_on" (defArgs s_on) (defBody s_on) (defScope s_on) .none kV_40 dc_40 pm_40 an_40 cd_40 ct_40, f_asked := f_asked, d_asked := PySem.W.fnOf "_law_asked" "_law_asked" (defArgs s_asked) (defBody s_asked) (defScope s_asked) .none kV_41 dc_41 pm_41 an_41 cd_41 ct_41, f_is := f_is, d_is := PySem.W.fnOf "_law_is" "_law_is" (defArgs s_is) (defBody s_is) (defScope s_is) .none kV_42 dc_42 pm_42 an_42 cd_42 ct_42, f_one_right := f_one_right, d_one_right := PySem.W.fnOf "_law_one_right" "_law_one_right" (defArgs s_one_right) (defBody s_one_right) (defScope s_one_right) .none kV_43 dc_43 pm_43 an_43 cd_43 ct_43, f_points_right := f_points_right, d_points_right := PySem.W.fnOf "_law_points_right" "_law_points_right" (defArgs s_points_right) (defBody s_points_right) (defScope s_points_right) .none kV_44 dc_44 pm_44 an_44 cd_44 ct_44, f_rises := f_rises, d_rises := PySem.W.fnOf "_law_rises" "_law_rises" (defArgs s_rises) (defBody s_rises) (defScope s_rises) .none kV_45 dc_45 pm_45 an_45 cd_45 ct_45, f_straight_right := f_straight_right, d_straight_right := PySem.W.fnOf "_law_straight_right" "_law_straight_right" (defArgs s_straight_right) (defBody s_straight_right) (defScope s_straight_right) .none kV_46 dc_46 pm_46 an_46 cd_46 ct_46, f_right := f_right, d_right := PySem.W.fnOf "_law_right" "_law_right" (defArgs s_right) (defBody s_right) (defScope s_right) .none kV_47 dc_47 pm_47 an_47 cd_47 ct_47, f_law := fa, d_law := PySem.W.fnOf "law" "law" (defArgs s_law) (defBody s_law) (defScope s_law) .none kV_48 dc_48 pm_48 an_48 cd_48 ct_48, c_Amount := c_Amount, c_Curve := c_Curve, p_top := p_top, p_bottom := p_bottom, p_sign := p_sign, p_straight := p_straight } := {
    F_is_integer := fun_mk (st := s_is_integer) l_is_integer k1_is_integer k2_is_integer,
    m_is_integer := PySem.W.mg_of X G a_is_integer,
    F_is_amount := fun_mk (st := s_is_amount) l_is_amount k1_is_amount k2_is_amount,
    m_is_amount := PySem.W.mg_of X G a_is_amount,
    F_amount_of := fun_mk (st := s_amount_of) l_amount_of k1_amount_of k2_amount_of,
    m_amount_of := PySem.W.mg_of X G a_amount_of,
    F_decimal := fun_mk (st := s_decimal) l_decimal k1_decimal k2_decimal,
    m_decimal := PySem.W.mg_of X G a_decimal,
    F_Amount_init_ := ⟨⟨_, _, _, _, _, _, _, _, _, _, rfl, l_Amount_init_, k1_Amount_init_, .inr ⟨by simp, _, _, _, _, rfl, dl_Amount_init_, do_Amount_init_, dv_Amount_init_⟩, .inl rfl⟩, k2_Amount_init_⟩,
    F_Amounttop := fun_mk (st := s_Amounttop) l_Amounttop k1_Amounttop k2_Amounttop,
    F_Amountbottom := fun_mk (st := s_Amountbottom) l_Amountbottom k1_Amountbottom k2_Amountbottom,
    F_Amountsign := fun_mk (st := s_Amountsign) l_Amountsign k1_Amountsign k2_Amountsign,
    F_Amount_add_ := fun_mk (st := s_Amount_add_) l_Amount_add_ k1_Amount_add_ k2_Amount_add_,
    F_Amount_radd_ := fun_mk (st := s_Amount_radd_) l_Amount_radd_ k1_Amount_radd_ k2_Amount_radd_,
    F_Amount_sub_ := fun_mk (st := s_Amount_sub_) l_Amount_sub_ k1_Amount_sub_ k2_Amount_sub_,
    F_Amount_rsub_ := fun_mk (st := s_Amount_rsub_) l_Amount_rsub_ k1_Amount_rsub_ k2_Amount_rsub_,
    F_Amount_mul_ := fun_mk (st := s_Amount_mul_) l_Amount_mul_ k1_Amount_mul_ k2_Amount_mul_,
    F_Amount_rmul_ := fun_mk (st := s_Amount_rmul_) l_Amount_rmul_ k1_Amount_rmul_ k2_Amount_rmul_,
    F_Amountover := fun_mk (st := s_Amountover) l_Amountover k1_Amountover k2_Amountover,
    F_Amount_lt_ := fun_mk (st := s_Amount_lt_) l_Amount_lt_ k1_Amount_lt_ k2_Amount_lt_,
    F_Amount_le_ := fun_mk (st := s_Amount_le_) l_Amount_le_ k1_Amount_le_ k2_Amount_le_,
    F_Amount_str_ := fun_mk (st := s_Amount_str_) l_Amount_str_ k1_Amount_str_ k2_Amount_str_,
    F_is_point := fun_mk (st := s_is_point) l_is_point k1_is_point k2_is_point,
    m_is_point := PySem.W.mg_of X G a_is_point,
    F_is_origin := fun_mk (st := s_is_origin) l_is_origin k1_is_origin k2_is_origin,
    m_is_origin := PySem.W.mg_of X G a_is_origin,
    F_checked := fun_mk (st := s_checked) l_checked k1_checked k2_checked,
    m_checked := PySem.W.mg_of X G a_checked,
    F_rises_p := fun_mk (st := s_rises_p) l_rises_p k1_rises_p k2_rises_p,
    m_rises_p := PySem.W.mg_of X G a_rises_p,
    F_with_origin := fun_mk (st := s_with_origin) l_with_origin k1_with_origin k2_with_origin,
    m_with_origin := PySem.W.mg_of X G a_with_origin,
    F_piece := fun_mk (st := s_piece) l_piece k1_piece k2_piece,
    m_piece := PySem.W.mg_of X G a_piece,
    F_across := fun_mk (st := s_across) l_across k1_across k2_across,
    m_across := PySem.W.mg_of X G a_across,
    F_Curve_init_ := fun_mk (st := s_Curve_init_) l_Curve_init_ k1_Curve_init_ k2_Curve_init_,
    F_Curve_call_ := fun_mk (st := s_Curve_call_) l_Curve_call_ k1_Curve_call_ k2_Curve_call_,
    F_Curveback := fun_mk (st := s_Curveback) l_Curveback k1_Curveback k2_Curveback,
    F_Curvepoints := fun_mk (st := s_Curvepoints) l_Curvepoints k1_Curvepoints k2_Curvepoints,
    F_Curvestraight := fun_mk (st := s_Curvestraight) l_Curvestraight k1_Curvestraight k2_Curvestraight,
    F_pot := fun_mk (st := s_pot) l_pot k1_pot k2_pot,
    m_pot := PySem.W.mg_of X G a_pot,
    F_draw := fun_mk (st := s_draw) l_draw k1_draw k2_draw,
    m_draw := PySem.W.mg_of X G a_draw,
    F_low := fun_mk (st := s_low) l_low k1_low k2_low,
    m_low := PySem.W.mg_of X G a_low,
    F_minus := fun_mk (st := s_minus) l_minus k1_minus k2_minus,
    m_minus := PySem.W.mg_of X G a_minus,
    F_amount := fun_mk (st := s_amount) l_amount k1_amount k2_amount,
    m_amount := PySem.W.mg_of X G a_amount,
    F_plus := fun_mk (st := s_plus) l_plus k1_plus k2_plus,
    m_plus := PySem.W.mg_of X G a_plus,
    F_times := fun_mk (st := s_times) l_times k1_times k2_times,
    m_times := PySem.W.mg_of X G a_times,
    F_less := fun_mk (st := s_less) l_less k1_less k2_less,
    m_less := PySem.W.mg_of X G a_less,
    F_step := fun_mk (st := s_step) l_step k1_step k2_step,
    m_step := PySem.W.mg_of X G a_step,
    F_points := fun_mk (st := s_points) l_points k1_points k2_points,
    m_points := PySem.W.mg_of X G a_points,
    F_on := fun_mk (st := s_on) l_on k1_on k2_on,
    m_on := PySem.W.mg_of X G a_on,
    F_asked := fun_mk (st := s_asked) l_asked k1_asked k2_asked,
    m_asked := PySem.W.mg_of X G a_asked,
    F_is := fun_mk (st := s_is) l_is k1_is k2_is,
    m_is := PySem.W.mg_of X G a_is,
    F_one_right := fun_mk (st := s_one_right) l_one_right k1_one_right k2_one_right,
    m_one_right := PySem.W.mg_of X G a_one_right,
    F_points_right := fun_mk (st := s_points_right) l_points_right k1_points_right k2_points_right,
    m_points_right := PySem.W.mg_of X G a_points_right,
    F_rises := fun_mk (st := s_rises) l_rises k1_rises k2_rises,
    m_rises := PySem.W.mg_of X G a_rises,
    F_straight_right := fun_mk (st := s_straight_right) l_straight_right k1_straight_right k2_straight_right,
    m_straight_right := PySem.W.mg_of X G a_straight_right,
    F_right := fun_mk (st := s_right) l_right k1_right k2_right,
    m_right := PySem.W.mg_of X G a_right,
    F_law := fun_mk (st := s_law) l_law k1_law k2_law,
    m_law := PySem.W.mg_of X G a_law,
    cl := ⟨pgA, hdA, poA, saA⟩,
    nT := nTA,
    nB := nBA,
    mA := PySem.W.mg_of X G aC_Amount,
    mkA := ⟨mkA_, a_Amount_init_, i_Amount_init_, kcA⟩,
    m_gcd := PySem.W.mg_of X G gcd_,
    I := ⟨ca_, cn_, ct_, cm_, (kit_own ic_ it_ sb_NoneType).1, (kit_own ic_ it_ sb_bool).1, (kit_own ic_ it_ sb_int).1, (kit_own ic_ it_ sb_str).1, (kit_own ic_ it_ sb_list).1, (kit_own ic_ it_ sb_tuple).1, (kit_own ic_ it_ sb_dict).1, (kit_own ic_ it_ sb_NoneType).2, (kit_own ic_ it_ sb_bool).2, (kit_own ic_ it_ sb_int).2, (kit_own ic_ it_ sb_str).2, (kit_own ic_ it_ sb_list).2, (kit_own ic_ it_ sb_tuple).2, (kit_own ic_ it_ sb_dict).2⟩,
    p_top := ⟨pa_Amounttop, pg_Amounttop, pt_Amounttop, ⟨_, pr_Amounttop⟩⟩,
    p_bottom := ⟨pa_Amountbottom, pg_Amountbottom, pt_Amountbottom, ⟨_, pr_Amountbottom⟩⟩,
    p_sign := ⟨pa_Amountsign, pg_Amountsign, pt_Amountsign, ⟨_, pr_Amountsign⟩⟩,
    gPart := ⟨tP, (show (10 : Int) ^ 60 = 1000000000000000000000000000000000000000000000000000000000000 by decide) ▸ PySem.W.mg_of X G part_⟩,
    gLen := ⟨tL, PySem.W.mg_of X G plen_⟩,
    oAdd := { first := sf_, at_ := o1_add, fn := i_Amount_add_, rat := o2_add, rfn := i_Amount_radd_, i1 := ⟨_, o3_add⟩, i2 := ⟨_, o4_add⟩, ss1 := sb_int, ss2 := s2_ },
    oSub := { first := sf_, at_ := o1_sub, fn := i_Amount_sub_, rat := o2_sub, rfn := i_Amount_rsub_, i1 := ⟨_, o3_sub⟩, i2 := ⟨_, o4_sub⟩, ss1 := sb_int, ss2 := s2_ },
    oMul := { first := sf_, at_ := o1_mul, fn := i_Amount_mul_, rat := o2_mul, rfn := i_Amount_rmul_, i1 := ⟨_, o3_mul⟩, i2 := ⟨_, o4_mul⟩, ss1 := sb_int, ss2 := s2_ },
    cLt := ⟨a_Amount_lt_, i_Amount_lt_⟩,
    cLe := ⟨a_Amount_le_, i_Amount_le_⟩,
    cSt := ⟨a_Amount_str_, i_Amount_str_⟩,
    mOver := ⟨a_Amountover, i_Amountover, k2_Amountover⟩,
    gFlow := ⟨tkFlow, PySem.W.mg_of X G gl_Flow⟩,
    gDrop := ⟨tkDrop, PySem.W.mg_of X G gl_Drop⟩,
    gMost := ⟨tkMost, PySem.W.mg_of X G gl_Most⟩,
    cl2 := ⟨pgC, hdC, poC, saC⟩,
    nP := nPC,
    mC := PySem.W.mg_of X G aC_Curve,
    mkC := ⟨mkC_, a_Curve_init_, i_Curve_init_, kcC⟩,
    mBack := ⟨a_Curveback, i_Curveback, k2_Curveback⟩,
    mPts := ⟨a_Curvepoints, i_Curvepoints, k2_Curvepoints⟩,
    cCall := ⟨a_Curve_call_, i_Curve_call_, fi_call⟩,
    sStr := ⟨tyC_, rdC_, gaC_, pa_Curvestraight, ⟨_, pr_Curvestraight⟩, k2_Curvestraight⟩,
    b_len := PySem.W.mg_none_of X G z_len,
    b_abs := PySem.W.mg_none_of X G z_abs,
    b_max := PySem.W.mg_none_of X G z_max,
    b_min := PySem.W.mg_none_of X G z_min,
    b_int := PySem.W.mg_none_of X G z_int,
    b_divmod := PySem.W.mg_none_of X G z_divmod,
    b_all := PySem.W.mg_none_of X G z_all,
    b_repr := PySem.W.mg_none_of X G z_repr,
    b_isinstance := PySem.W.mg_none_of X G z_isinstance,
    b_str := PySem.W.mg_none_of X G z_str,
    b_range := PySem.W.mg_none_of X G z_range,
    b_bool := PySem.W.mg_none_of X G z_bool,
    b_list := PySem.W.mg_none_of X G z_list,
    b_tuple := PySem.W.mg_none_of X G z_tuple,
    b_enumerate := PySem.W.mg_none_of X G z_enumerate,
    b_zip := PySem.W.mg_none_of X G z_zip }
  exact ⟨_, fun s v => (BindsTo.of_eq rfl : BindsTo s (PySem.W.fnOf "law" "law" (defArgs s_law) (defBody s_law) (defScope s_law) .none kV_48 dc_48 pm_48 an_48 cd_48 ct_48) ⟨[v], []⟩ [("_law_script", v)]), fun base _ _ => ok_law T⟩
theorem walk {l : PySem.W.OpenLaw} {q : Program} {loose : List Str} {XP : (Str → Option Value) → Heap → Prop} {YP : World → Heap → Prop} {d : DefRec} {K : Params → PySem.W.Frag} (hn : l.most = some 63) (hdf : d.params.defaults = [])
    (hY : ∀ (w : World) (h : Heap), YP w h → (K w.params).In h)
    (F : ∀ (w : World) (mg : Str → Option Value) (fa : Addr) (h : Heap), (K w.params).In h → h.Ns mainGlobals mg → mg d.name = some (.ref fa) →
      ∃ fd : FuncData, (∀ (s : Shared) (u : Value), BindsTo s fd ⟨[u], []⟩ [("_law_script", u)]) ∧ ∀ base : Heap, (K w.params).In base → base.Ns mainGlobals mg → FnG l.prog w (K w.params) mg base CX0 13 fa fd ["_law_script"] (sp_law (K w.params))) :
    PySem.W.WalkO q loose XP YP l.row.toRowW d [] (fun f vs => PySem.call f vs) :=
  walkG (n := 63) (k := 13) (x := "_law_script") (sp := fun K => sp_law K) hn (by decide) hdf ⟨rfl, by decide, by decide⟩ hY F (fun K H a ns hl _ hS => ⟨a, ns, rfl, hS, hl, fun _ => rfl⟩)
end K15

open PySem PySem.W PyProof.Rows in
set_option maxRecDepth 100000 in
set_option maxHeartbeats 0 in
theorem PySem.Challenge.cw_surepipes_k15_whole_curves_at_flows_and_holds : PySem.Challenge.rw_surepipes_k15_whole_curves_at_flows_and.Holds := by
  w_on; o_law; k_head; (case hw => w_witness2)
  k_fill
  refine K15.walk (l := PySem.Challenge.rw_surepipes_k15_whole_curves_at_flows_and) rfl rfl (fun w h Y => PySem.W.kIn_of Y) ?F
  case F =>
    intro w mg fa h KX G hmg
    refine' K15.all_mk KX G hmg ?aC_Amount ?aC_Curve ?a_is_integer ?l_is_integer ?k1_is_integer ?k2_is_integer ?a_is_amount ?l_is_amount ?k1_is_amount ?k2_is_amount ?a_amount_of ?l_amount_of ?k1_amount_of ?k2_amount_of ?a_decimal ?l_decimal ?k1_decimal ?k2_decimal ?a_Amount_init_ ?i_Amount_init_ ?l_Amount_init_ ?k1_Amount_init_ ?k2_Amount_init_ ?dl_Amount_init_ ?do_Amount_init_ ?dv_Amount_init_ ?pa_Amounttop ?pg_Amounttop ?pt_Amounttop ?pr_Amounttop ?l_Amounttop ?k1_Amounttop ?k2_Amounttop ?pa_Amountbottom ?pg_Amountbottom ?pt_Amountbottom ?pr_Amountbottom ?l_Amountbottom ?k1_Amountbottom ?k2_Amountbottom ?pa_Amountsign ?pg_Amountsign ?pt_Amountsign ?pr_Amountsign ?l_Amountsign ?k1_Amountsign ?k2_Amountsign ?a_Amount_add_ ?i_Amount_add_ ?l_Amount_add_ ?k1_Amount_add_ ?k2_Amount_add_ ?a_Amount_radd_ ?i_Amount_radd_ ?l_Amount_radd_ ?k1_Amount_radd_ ?k2_Amount_radd_ ?a_Amount_sub_ ?i_Amount_sub_ ?l_Amount_sub_ ?k1_Amount_sub_ ?k2_Amount_sub_ ?a_Amount_rsub_ ?i_Amount_rsub_ ?l_Amount_rsub_ ?k1_Amount_rsub_ ?k2_Amount_rsub_ ?a_Amount_mul_ ?i_Amount_mul_ ?l_Amount_mul_ ?k1_Amount_mul_ ?k2_Amount_mul_ ?a_Amount_rmul_ ?i_Amount_rmul_ ?l_Amount_rmul_ ?k1_Amount_rmul_ ?k2_Amount_rmul_ ?a_Amountover ?i_Amountover ?l_Amountover ?k1_Amountover ?k2_Amountover ?a_Amount_lt_ ?i_Amount_lt_ ?l_Amount_lt_ ?k1_Amount_lt_ ?k2_Amount_lt_ ?a_Amount_le_ ?i_Amount_le_ ?l_Amount_le_ ?k1_Amount_le_ ?k2_Amount_le_ ?a_Amount_str_ ?i_Amount_str_ ?l_Amount_str_ ?k1_Amount_str_ ?k2_Amount_str_ ?a_is_point ?l_is_point ?k1_is_point ?k2_is_point ?a_is_origin ?l_is_origin ?k1_is_origin ?k2_is_origin ?a_checked ?l_checked ?k1_checked ?k2_checked ?a_rises_p ?l_rises_p ?k1_rises_p ?k2_rises_p ?a_with_origin ?l_with_origin ?k1_with_origin ?k2_with_origin ?a_piece ?l_piece ?k1_piece ?k2_piece ?a_across ?l_across ?k1_across ?k2_across ?a_Curve_init_ ?i_Curve_init_ ?l_Curve_init_ ?k1_Curve_init_ ?k2_Curve_init_ ?a_Curve_call_ ?i_Curve_call_ ?l_Curve_call_ ?k1_Curve_call_ ?k2_Curve_call_ ?a_Curveback ?i_Curveback ?l_Curveback ?k1_Curveback ?k2_Curveback ?a_Curvepoints ?i_Curvepoints ?l_Curvepoints ?k1_Curvepoints ?k2_Curvepoints ?pa_Curvestraight ?pr_Curvestraight ?l_Curvestraight ?k1_Curvestraight ?k2_Curvestraight ?a_pot ?l_pot ?k1_pot ?k2_pot ?a_draw ?l_draw ?k1_draw ?k2_draw ?a_low ?l_low ?k1_low ?k2_low ?a_minus ?l_minus ?k1_minus ?k2_minus ?a_amount ?l_amount ?k1_amount ?k2_amount ?a_plus ?l_plus ?k1_plus ?k2_plus ?a_times ?l_times ?k1_times ?k2_times ?a_less ?l_less ?k1_less ?k2_less ?a_step ?l_step ?k1_step ?k2_step ?a_points ?l_points ?k1_points ?k2_points ?a_on ?l_on ?k1_on ?k2_on ?a_asked ?l_asked ?k1_asked ?k2_asked ?a_is ?l_is ?k1_is ?k2_is ?a_one_right ?l_one_right ?k1_one_right ?k2_one_right ?a_points_right ?l_points_right ?k1_points_right ?k2_points_right ?a_rises ?l_rises ?k1_rises ?k2_rises ?a_straight_right ?l_straight_right ?k1_straight_right ?k2_straight_right ?a_right ?l_right ?k1_right ?k2_right ?a_law ?l_law ?k1_law ?k2_law ?pgA ?hdA ?poA ?saA ?nTA ?nBA ?mkA_ ?kcA ?gcd_ ?ca_ ?cn_ ?ct_ ?cm_ ?ic_ ?it_ ?sb_NoneType ?sb_bool ?sb_int ?sb_str ?sb_list ?sb_tuple ?sb_dict ?part_ ?plen_ ?sf_ ?s2_ ?o1_add ?o2_add ?o3_add ?o4_add ?o1_sub ?o2_sub ?o3_sub ?o4_sub ?o1_mul ?o2_mul ?o3_mul ?o4_mul ?gl_Flow ?gl_Drop ?gl_Most ?pgC ?hdC ?poC ?saC ?nPC ?mkC_ ?kcC ?fi_call ?tyC_ ?rdC_ ?gaC_ ?z_len ?z_abs ?z_max ?z_min ?z_int ?z_divmod ?z_all ?z_repr ?z_isinstance ?z_str ?z_range ?z_bool ?z_list ?z_tuple ?z_enumerate ?z_zip
    (case aC_Amount => k_is)
    (case aC_Curve => k_is)
    (case a_is_integer => k_is)
    (case l_is_integer => k_is)
    (case k1_is_integer => k_is)
    (case k2_is_integer => k_is)
    (case a_is_amount => k_is)
    (case l_is_amount => k_is)
    (case k1_is_amount => k_is)
    (case k2_is_amount => k_is)
    (case a_amount_of => k_is)
    (case l_amount_of => k_is)
    (case k1_amount_of => k_is)
    (case k2_amount_of => k_is)
    (case a_decimal => k_is)
    (case l_decimal => k_is)
    (case k1_decimal => k_is)
    (case k2_decimal => k_is)
    (case a_Amount_init_ => k_is)
    (case i_Amount_init_ => k_is)
    (case l_Amount_init_ => k_is)
    (case k1_Amount_init_ => k_is)
    (case k2_Amount_init_ => k_is)
    (case dl_Amount_init_ => k_is)
    (case do_Amount_init_ => rfl)
    (case dv_Amount_init_ => exact .cons ⟨_, rfl⟩ .nil)
    (case pa_Amounttop => k_is)
    (case pg_Amounttop => k_is)
    (case pt_Amounttop => k_is)
    (case pr_Amounttop => k_is)
    (case l_Amounttop => k_is)
    (case k1_Amounttop => k_is)
    (case k2_Amounttop => k_is)
    (case pa_Amountbottom => k_is)
    (case pg_Amountbottom => k_is)
    (case pt_Amountbottom => k_is)
    (case pr_Amountbottom => k_is)
    (case l_Amountbottom => k_is)
    (case k1_Amountbottom => k_is)
    (case k2_Amountbottom => k_is)
    (case pa_Amountsign => k_is)
    (case pg_Amountsign => k_is)
    (case pt_Amountsign => k_is)
    (case pr_Amountsign => k_is)
    (case l_Amountsign => k_is)
    (case k1_Amountsign => k_is)
    (case k2_Amountsign => k_is)
    (case a_Amount_add_ => k_is)
    (case i_Amount_add_ => k_is)
    (case l_Amount_add_ => k_is)
    (case k1_Amount_add_ => k_is)
    (case k2_Amount_add_ => k_is)
    (case a_Amount_radd_ => k_is)
    (case i_Amount_radd_ => k_is)
    (case l_Amount_radd_ => k_is)
    (case k1_Amount_radd_ => k_is)
    (case k2_Amount_radd_ => k_is)
    (case a_Amount_sub_ => k_is)
    (case i_Amount_sub_ => k_is)
    (case l_Amount_sub_ => k_is)
    (case k1_Amount_sub_ => k_is)
    (case k2_Amount_sub_ => k_is)
    (case a_Amount_rsub_ => k_is)
    (case i_Amount_rsub_ => k_is)
    (case l_Amount_rsub_ => k_is)
    (case k1_Amount_rsub_ => k_is)
    (case k2_Amount_rsub_ => k_is)
    (case a_Amount_mul_ => k_is)
    (case i_Amount_mul_ => k_is)
    (case l_Amount_mul_ => k_is)
    (case k1_Amount_mul_ => k_is)
    (case k2_Amount_mul_ => k_is)
    (case a_Amount_rmul_ => k_is)
    (case i_Amount_rmul_ => k_is)
    (case l_Amount_rmul_ => k_is)
    (case k1_Amount_rmul_ => k_is)
    (case k2_Amount_rmul_ => k_is)
    (case a_Amountover => k_is)
    (case i_Amountover => k_is)
    (case l_Amountover => k_is)
    (case k1_Amountover => k_is)
    (case k2_Amountover => k_is)
    (case a_Amount_lt_ => k_is)
    (case i_Amount_lt_ => k_is)
    (case l_Amount_lt_ => k_is)
    (case k1_Amount_lt_ => k_is)
    (case k2_Amount_lt_ => k_is)
    (case a_Amount_le_ => k_is)
    (case i_Amount_le_ => k_is)
    (case l_Amount_le_ => k_is)
    (case k1_Amount_le_ => k_is)
    (case k2_Amount_le_ => k_is)
    (case a_Amount_str_ => k_is)
    (case i_Amount_str_ => k_is)
    (case l_Amount_str_ => k_is)
    (case k1_Amount_str_ => k_is)
    (case k2_Amount_str_ => k_is)
    (case a_is_point => k_is)
    (case l_is_point => k_is)
    (case k1_is_point => k_is)
    (case k2_is_point => k_is)
    (case a_is_origin => k_is)
    (case l_is_origin => k_is)
    (case k1_is_origin => k_is)
    (case k2_is_origin => k_is)
    (case a_checked => k_is)
    (case l_checked => k_is)
    (case k1_checked => k_is)
    (case k2_checked => k_is)
    (case a_rises_p => k_is)
    (case l_rises_p => k_is)
    (case k1_rises_p => k_is)
    (case k2_rises_p => k_is)
    (case a_with_origin => k_is)
    (case l_with_origin => k_is)
    (case k1_with_origin => k_is)
    (case k2_with_origin => k_is)
    (case a_piece => k_is)
    (case l_piece => k_is)
    (case k1_piece => k_is)
    (case k2_piece => k_is)
    (case a_across => k_is)
    (case l_across => k_is)
    (case k1_across => k_is)
    (case k2_across => k_is)
    (case a_Curve_init_ => k_is)
    (case i_Curve_init_ => k_is)
    (case l_Curve_init_ => k_is)
    (case k1_Curve_init_ => k_is)
    (case k2_Curve_init_ => k_is)
    (case a_Curve_call_ => k_is)
    (case i_Curve_call_ => k_is)
    (case l_Curve_call_ => k_is)
    (case k1_Curve_call_ => k_is)
    (case k2_Curve_call_ => k_is)
    (case a_Curveback => k_is)
    (case i_Curveback => k_is)
    (case l_Curveback => k_is)
    (case k1_Curveback => k_is)
    (case k2_Curveback => k_is)
    (case a_Curvepoints => k_is)
    (case i_Curvepoints => k_is)
    (case l_Curvepoints => k_is)
    (case k1_Curvepoints => k_is)
    (case k2_Curvepoints => k_is)
    (case pa_Curvestraight => k_is)
    (case pr_Curvestraight => k_is)
    (case l_Curvestraight => k_is)
    (case k1_Curvestraight => k_is)
    (case k2_Curvestraight => k_is)
    (case a_pot => k_is)
    (case l_pot => k_is)
    (case k1_pot => k_is)
    (case k2_pot => k_is)
    (case a_draw => k_is)
    (case l_draw => k_is)
    (case k1_draw => k_is)
    (case k2_draw => k_is)
    (case a_low => k_is)
    (case l_low => k_is)
    (case k1_low => k_is)
    (case k2_low => k_is)
    (case a_minus => k_is)
    (case l_minus => k_is)
    (case k1_minus => k_is)
    (case k2_minus => k_is)
    (case a_amount => k_is)
    (case l_amount => k_is)
    (case k1_amount => k_is)
    (case k2_amount => k_is)
    (case a_plus => k_is)
    (case l_plus => k_is)
    (case k1_plus => k_is)
    (case k2_plus => k_is)
    (case a_times => k_is)
    (case l_times => k_is)
    (case k1_times => k_is)
    (case k2_times => k_is)
    (case a_less => k_is)
    (case l_less => k_is)
    (case k1_less => k_is)
    (case k2_less => k_is)
    (case a_step => k_is)
    (case l_step => k_is)
    (case k1_step => k_is)
    (case k2_step => k_is)
    (case a_points => k_is)
    (case l_points => k_is)
    (case k1_points => k_is)
    (case k2_points => k_is)
    (case a_on => k_is)
    (case l_on => k_is)
    (case k1_on => k_is)
    (case k2_on => k_is)
    (case a_asked => k_is)
    (case l_asked => k_is)
    (case k1_asked => k_is)
    (case k2_asked => k_is)
    (case a_is => k_is)
    (case l_is => k_is)
    (case k1_is => k_is)
    (case k2_is => k_is)
    (case a_one_right => k_is)
    (case l_one_right => k_is)
    (case k1_one_right => k_is)
    (case k2_one_right => k_is)
    (case a_points_right => k_is)
    (case l_points_right => k_is)
    (case k1_points_right => k_is)
    (case k2_points_right => k_is)
    (case a_rises => k_is)
    (case l_rises => k_is)
    (case k1_rises => k_is)
    (case k2_rises => k_is)
    (case a_straight_right => k_is)
    (case l_straight_right => k_is)
    (case k1_straight_right => k_is)
    (case k2_straight_right => k_is)
    (case a_right => k_is)
    (case l_right => k_is)
    (case k1_right => k_is)
    (case k2_right => k_is)
    (case a_law => k_is)
    (case l_law => k_is)
    (case k1_law => k_is)
    (case k2_law => k_is)
    (case pgA => k_is)
    (case hdA => k_is)
    (case poA => k_is)
    (case saA => k_is)
    (case nTA => k_is)
    (case nBA => k_is)
    (case mkA_ => k_is)
    (case kcA => k_is)
    (case gcd_ => k_is)
    (case ca_ => k_is)
    (case cn_ => k_is)
    (case ct_ => k_is)
    (case cm_ => k_is)
    (case ic_ => k_is)
    (case it_ => k_is)
    (case sb_NoneType => k_is)
    (case sb_bool => k_is)
    (case sb_int => k_is)
    (case sb_str => k_is)
    (case sb_list => k_is)
    (case sb_tuple => k_is)
    (case sb_dict => k_is)
    (case part_ => k_is)
    (case plen_ => k_is)
    (case sf_ => k_is)
    (case s2_ => k_is)
    (case o1_add => k_is)
    (case o2_add => k_is)
    (case o3_add => k_is)
    (case o4_add => k_is)
    (case o1_sub => k_is)
    (case o2_sub => k_is)
    (case o3_sub => k_is)
    (case o4_sub => k_is)
    (case o1_mul => k_is)
    (case o2_mul => k_is)
    (case o3_mul => k_is)
    (case o4_mul => k_is)
    (case gl_Flow => k_is)
    (case gl_Drop => k_is)
    (case gl_Most => k_is)
    (case pgC => k_is)
    (case hdC => k_is)
    (case poC => k_is)
    (case saC => k_is)
    (case nPC => k_is)
    (case mkC_ => k_is)
    (case kcC => k_is)
    (case fi_call => k_is)
    (case tyC_ => k_is)
    (case rdC_ => k_is)
    (case gaC_ => k_is)
    (case z_len => k_is)
    (case z_abs => k_is)
    (case z_max => k_is)
    (case z_min => k_is)
    (case z_int => k_is)
    (case z_divmod => k_is)
    (case z_all => k_is)
    (case z_repr => k_is)
    (case z_isinstance => k_is)
    (case z_str => k_is)
    (case z_range => k_is)
    (case z_bool => k_is)
    (case z_list => k_is)
    (case z_tuple => k_is)
    (case z_enumerate => k_is)
    (case z_zip => k_is)
#print axioms PySem.Challenge.cw_surepipes_k15_whole_curves_at_flows_and_holds

