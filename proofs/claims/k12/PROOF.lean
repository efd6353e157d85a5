import PyProof.Rows.All
import Wide.All
import OpenK.AllK
import Wide.FinOn
import HandS.ForMost
import HandS.OwnEq
import HandS.SlotsOwn
import HandS.Property
import HandS.Gcd
import HandS.WideBits
import HandS.Style
import HandS.FStr
import HandS.IsInst
import HandS.RaiseMore
import HandS.Codes
import HandS.Defaults
import KE.RegKCallOwn
import PyProof.ReprRoads
import PySem.Challenge.RW_surepipes_k12_amounts_compared
set_option Elab.async false
set_option linter.all false
set_option maxRecDepth 100000
set_option maxHeartbeats 4000000
namespace Lb
open PySem PySem.Spec PyProof.Rows L2
open SlX (cmpback)

/-! own operators of plain instances -/
section
variable {X : Cx} {CX : CXT} {pins : List (Addr × Obj)} {σ : L2.St} {H : Hp} {s : Shared} {a C dx p g : Addr} {f : Str} {n : Nat} {sp : Sp} {E : XK} {v : V} {u : Value}

/-- what a comparison sees as the type of a value -/
theorem looks_ty {x : V} {u t : Value} (I : Inv X pins σ H s) (rx : RelV x u) (ty : TyOf X.K H x t) : PySem.W.Looks (model X.prog X.w) s.heap (typeOf u) t := by
  obtain ⟨P, k, hp, _⟩ := kit_of I rx (.base ty)
  exact k.ty _ _ I.kIn hp

/-- the instance as the library takes it -/
theorem inst_at {fs : List (Str × V)} (I : Inv X pins σ H s) (e : H a = some (.ins C dx fs)) : ∃ od, PySem.W.InstAt s.heap a (PySem.W.instObj C dx) C (some od) := by
  obtain ⟨mA, O, _⟩ := ins_get I.hok e
  obtain ⟨od, J, _⟩ := O.look
  exact ⟨od, J⟩

/-- x OP y by the def of the class of x for OP -/
def rOwnOp (K : PySem.W.Frag) (C : Addr) (sp : Sp) (E : XK) : R2 := fun x y H Q =>
  ∃ a dx fs t, x = .ref a ∧ H a = some (.ins C dx fs) ∧ TyOf K H y t ∧ PySem.W.notFirst K C t = true ∧ sp [x, y] H Q E
theorem op_ownCmp {K : PySem.W.Frag} {op : CmpOp} (hK : X.K = K) (hop : ∀ a b, compareOp op a b = richCompare op a b)
    (hs : PySem.W.findIn K (.ref C) (cmpInfo op).2.1 = some (some (.ref g))) (hf : PySem.W.isFn K (.ref g) = true)
    (F : FnR X.prog X.w X.K X.mg X.base CX n g sp) (hr : Room n X.A) (hx : Passes CX X E) : OpR X (compareOp op) (rOwnOp K C sp E) := by
  subst hK
  intro pins s σ H x y v u Q I rx ry h
  obtain ⟨a, dx, fs, t, rfl, ha, ty, hn, q⟩ := h
  cases (show v = Value.ref a from rx)
  obtain ⟨od, J⟩ := inst_at I ha
  obtain ⟨m, hF⟩ := I.fr
  rw [hop]
  refine PySem.W.cmp_K (op := op) (tb := t) hr.units0 hF I.ok.mod.kin J (looks_ty I ry ty) hn hs hf ?_
  refine wpAny_mono (wpAny_call (SlX.run_at (us := [.ref a, u]) (ws := [.ref a, y]) F hr I.env0 hx I (.cons rfl (.cons ry .nil)) q)) (fun w s' z => ?_) fun _ _ x => x
  obtain ⟨z', H', I', rz, qz⟩ := z
  exact cmpback rz ⟨z', H', I', rz, qz⟩

/-- x != y where the class of x has __eq__ alone: its answer turned -/
theorem ne_try {K : PySem.W.Frag} {prog : Program} {w : World} {A : Around} {EE : Value → Shared → Prop} {s : Shared} {x C f : Addr} {ox : Obj} {od : Option Obj} {b : Value} {Q : Option Value → Shared → Prop}
    (hu : A.units + 1 < cLine) (KX : K.In s.heap) (J : PySem.W.InstAt s.heap x ox C od)
    (hne : PySem.W.findIn K (.ref C) "__ne__" = some (some (.builtin "object.__ne__"))) (hm : PySem.W.mroIn K C (.type "object") = some true)
    (he : PySem.W.findIn K (.ref C) "__eq__" = some (some (.ref f))) (hf : PySem.W.isFn K (.ref f) = true)
    (h : wpAny (model prog w) A.in1 (call (.ref f) [.ref x, b]) (fun v s' => ∃ k, v = .bool k ∧ Q (some (.bool (!k))) s') EE s) :
    wpAny (model prog w) A (tryCompare (.ref x) "__ne__" b) Q EE s := by
  have hb := PySem.F.cmp_object.ne.bind
  simp only [tryCompare, callSpecialIfBound?, bindSpecialIfBound?]
  refine wpAny_bind (wpAny_holding (wpAny_bind (wpAny_bind (wpAny_bind (J.type.here ((PySem.W.looks_findIn KX hne).here ?_))))))
  refine wpAny_bind (wpAny_askSetting (wpAny_ite ?_))
  have body : wpAny (model prog w) A (call (.builtin "object.__ne__") ([.ref x] ++ [b])) (fun v s' => ∃ k, v = .bool k ∧ Q (some (.bool k)) s') EE s := by
    refine wpAny_call (codeAny_call_builtin PySem.F.cmp_object.ne.plain PySem.F.cmpEntry_ne
      (PySem.W.check_slot PySem.F.cmpKind_ne PySem.F.cmpSplit_ne (J.type.andThen (PySem.W.looks_mroIn KX hm)) (PySem.F.cmpArgs_ne _ _) ?_))
    unfold Builtin.«object.__ne__»
    refine wpAny_bind (m := slotArgs "__ne__" 1 _) (wpAny_pure ?_)
    refine wpAny_bind (m := cRoomFor _ _) (wpAny_cRoomFor hu ?_)
    refine wpAny_bind (m := callSpecialIfBound? (.ref x) (Str.ofString "__eq__") [b]) (PySem.W.ifBound_K KX J he hf (wpAny_mono h (fun v s' z => ?_) fun _ _ e => e))
    obtain ⟨k, rfl, q⟩ := z
    refine wpAny_bind (wpAny_truthy_bool ?_)
    exact wpAny_pure ⟨!k, rfl, q⟩
  have fin : wpAny (model prog w) A (call (.builtin "object.__ne__") ([.ref x] ++ [b]) >>= fun v => pure (some v)) (fun r s' => ∃ k, r = some (.bool k) ∧ Q (some (.bool k)) s') EE s :=
    wpAny_bind (wpAny_mono body (fun v s' ⟨k, e, q⟩ => wpAny_pure ⟨k, by rw [e], q⟩) fun _ _ e => e)
  have fin2 : wpAny (model prog w) A (call (.builtin "object.__ne__") ([.ref x] ++ [b]) >>= fun v => pure (some v)) (fun r s' => wpAny (model prog w) A (match r with
      | some .notImplemented | none => pure none
      | some v => pure (some v)) Q EE s') EE s := wpAny_mono fin (fun r s' ⟨k, e, q⟩ => by subst e; exact wpAny_pure q) fun _ _ e => e
  split
  · exact wpAny_bind ((PySem.W.Looks.of_pure (hb _)).here (wpAny_pure (by exact fin2)))
  · exact wpAny_tryCatch (wpAny_bind ((PySem.W.Looks.of_pure (hb _)).here (wpAny_pure (by exact fin2))))

/-- how a promise at a bool is handed back -/
def rOwnNe (K : PySem.W.Frag) (C : Addr) (sp : Sp) (E : XK) : R2 := fun x y H Q =>
  ∃ a dx fs t, x = .ref a ∧ H a = some (.ins C dx fs) ∧ TyOf K H y t ∧ PySem.W.notFirst K C t = true ∧ sp [x, y] H (fun z H' => ∃ k, z = .bl k ∧ Q (.bl (!k)) H') E
theorem op_ownNe {K : PySem.W.Frag} (hK : X.K = K) (hne : PySem.W.findIn K (.ref C) "__ne__" = some (some (.builtin "object.__ne__"))) (hm : PySem.W.mroIn K C (.type "object") = some true)
    (hs : PySem.W.findIn K (.ref C) "__eq__" = some (some (.ref g))) (hf : PySem.W.isFn K (.ref g) = true)
    (F : FnR X.prog X.w X.K X.mg X.base CX n g sp) (hr : Room (n + 1) X.A) (hx : Passes CX X E) : OpR X (compareOp .NotEq) (rOwnNe K C sp E) := by
  subst hK
  intro pins s σ H x y v u Q I rx ry h
  obtain ⟨a, dx, fs, t, rfl, ha, ty, hn, q⟩ := h
  cases (show v = Value.ref a from rx)
  obtain ⟨od, J⟩ := inst_at I ha
  have KX := I.kIn
  have hb := looks_ty I ry ty
  have hu := hr.units
  have body : wpAny (model X.prog X.w) X.A.in1 (call (.ref g) [.ref a, u]) (fun v s' => ∃ k, v = .bool k ∧ EP X pins σ Q (.bool (!k)) s') X.xe s := by
    refine wpAny_mono (wpAny_call (SlX.run_at (us := [.ref a, u]) (ws := [.ref a, y]) F hr.in1 I.env0.in1 hx I (.cons rfl (.cons ry .nil)) q)) (fun w s' z => ?_) fun _ _ x => x
    obtain ⟨z', H', I', rz, k, ez, qz⟩ := z
    subst ez
    exact ⟨k, rz, .bl (!k), H', I', rfl, qz⟩
  have one : wpAny (model X.prog X.w) X.A (tryCompare (.ref a) "__ne__" u) (fun r s' => ∃ v, r = some v ∧ EP X pins σ Q v s') X.xe s :=
    ne_try (by omega) KX J hne hm hs hf (wpAny_mono body (fun v s' ⟨k, e, q⟩ => ⟨k, e, _, rfl, q⟩) fun _ _ e => e)
  show wpAny (model X.prog X.w) X.A (richCompare .NotEq (.ref a) u) (EP X pins σ Q) X.xe s
  unfold richCompare
  simp only [oneThing_ref]
  refine wpAny_holding (wpAny_bind (wpAny_cRoomFor hr.units0 ?_))
  refine wpAny_bind (J.type.here (wpAny_bind (hb.here ?_)))
  split
  · rename_i q'
    have e : PySem.W.subIn X.K t (.ref C) = some false := by
      rcases Bool.or_eq_true_iff.mp hn with e | e
      · rw [beq_iff_eq.mp e] at q'; simp at q'
      · exact beq_iff_eq.mp e
    refine wpAny_bind ((PySem.W.looks_subIn KX e).here ?_)
    simp only [Bool.false_eq_true, if_false]
    refine wpAny_bind (wpAny_mono one (fun r s' z => ?_) fun _ _ e => e)
    obtain ⟨v, rfl, hq⟩ := z
    exact wpAny_pure hq
  · refine wpAny_bind (wpAny_pure ?_)
    simp only [Bool.false_eq_true, if_false]
    refine wpAny_bind (wpAny_mono one (fun r s' z => ?_) fun _ _ e => e)
    obtain ⟨v, rfl, hq⟩ := z
    exact wpAny_pure hq

/-- str(x), x an instance whose class has __str__ -/
def rOwnTx (C : Addr) (sp : Sp) (E : XK) : List V → Hp → VK → Prop := fun xs H Q =>
  ∃ a dx fs, xs = [.ref a] ∧ H a = some (.ins C dx fs) ∧ sp xs H (fun z H' => ∃ y, z = .str y ∧ Q z H') E
theorem call_strOwn (hs : PySem.W.findIn X.K (.ref C) "__str__" = some (some (.ref g))) (hf : PySem.W.isFn X.K (.ref g) = true)
    (F : FnR X.prog X.w X.K X.mg X.base CX n g sp) (hr : Room (n + 2) X.A) (hx : Passes CX X E) : CallR X (.type "str") (rOwnTx C sp E) := by
  intro pins s σ H xs us Q I r h
  obtain ⟨a, dx, fs, rfl, ha, q⟩ := h
  obtain ⟨u, rfl, ru⟩ := vals1 r
  cases (show u = Value.ref a from ru)
  obtain ⟨od, J⟩ := inst_at I ha
  have hu := hr.units
  have hr2 : Room n X.A.in1.in1 := (show Room (n + 1) X.A.in1 from Room.in1 hr).in1
  refine PySem.W.kso_call (by show X.A.units + 1 + 1 < cLine; omega) I.kIn J hs hf ?_
  refine wpAny_mono (wpAny_call (SlX.run_at (us := [.ref a]) (ws := [.ref a]) F hr2 I.env0.in1.in1 hx I (.cons rfl .nil) q)) (fun w s' z => ?_) fun _ _ x => x
  obtain ⟨z', H', I', rz, y, ez, qz⟩ := z
  subst ez
  obtain ⟨t, rfl⟩ := (show ∃ t, w = Value.str y t from rz)
  exact ⟨.str y, H', I', ⟨t, rfl⟩, qz⟩
/-- repr(x), x an instance whose class has __repr__ -/
theorem call_reprOwn (hs : PySem.W.findIn X.K (.ref C) "__repr__" = some (some (.ref g))) (hf : PySem.W.isFn X.K (.ref g) = true)
    (F : FnR X.prog X.w X.K X.mg X.base CX n g sp) (hr : Room (n + 1) X.A) (hx : Passes CX X E) : CallR X (.builtin "repr") (rOwnTx C sp E) := by
  intro pins s σ H xs us Q I r h
  obtain ⟨a, dx, fs, rfl, ha, q⟩ := h
  obtain ⟨u, rfl, ru⟩ := vals1 r
  cases (show u = Value.ref a from ru)
  obtain ⟨od, J⟩ := inst_at I ha
  have hu := hr.units
  refine Calls.call_function_entry PySem.F.kind_repr PySem.F.plain_repr PySem.F.entry_repr (PySem.F.args_repr1 _) ?_
  unfold Builtin.«repr»
  refine wpAny_bind (m := oneArg "repr" _) (wpAny_pure ?_)
  refine wpAny_bind (m := cRoomFor _ _) (wpAny_cRoomFor (by show X.A.units + 1 < cLine; omega) ?_)
  refine wpAny_bind (wpAny_bind (J.type.here ((PySem.W.looks_findIn I.kIn hs).here ?_)))
  refine wpAny_bind (m := callSpecialIfBound? (.ref a) (Str.ofString "__repr__")) (PySem.W.ifBound_K I.kIn J hs hf ?_)
  refine wpAny_mono (wpAny_call (SlX.run_at (us := [.ref a]) (ws := [.ref a]) F hr.in1 I.env0.in1 hx I (.cons rfl .nil) q)) (fun w s' z => ?_) fun _ _ x => x
  obtain ⟨z', H', I', rz, y, ez, qz⟩ := z
  subst ez
  obtain ⟨t, rfl⟩ := (show ∃ t, w = Value.str y t from rz)
  refine wpAny_bind (wpAny_isInstance (T := "str") (b := true) rfl isSubtype_str_str ?_)
  exact wpAny_pure ⟨_, rfl, .str y, H', I', ⟨t, rfl⟩, qz⟩
end
end Lb

set_option Elab.async false
set_option linter.all false
set_option maxRecDepth 100000
set_option maxHeartbeats 4000000
namespace Lb
open PySem PySem.Spec PyProof.Rows L2
open SlX (cmpback)

/-! repr of data: wants that no repr is running -/
mutual
theorem dp_plain {K : PySem.W.Frag} {H : Hp} : ∀ (d : PyData) (v : V), Dp K H v d → d.hasDict = false
  | .none, _, _ => by simp only [PyData.hasDict]
  | .bool _, _, _ => by simp only [PyData.hasDict]
  | .int _, _, _ => by simp only [PyData.hasDict]
  | .str _, _, _ => by simp only [PyData.hasDict]
  | .list ds, _, h => by
    cases h with
    | lst _ q => simp only [PyData.hasDict]; exact dp_plains ds _ q
  | .tuple ds, _, h => by
    cases h with
    | tup _ q => simp only [PyData.hasDict]; exact dp_plains ds _ q
  | .dict _, _, h => by cases h
theorem dp_plains {K : PySem.W.Frag} {H : Hp} : ∀ (ds : List PyData) (vs : List V), DpAll K H vs ds → PyData.hasDictAll ds = false
  | [], _, _ => by simp only [PyData.hasDictAll]
  | d :: ds, _, h => by
    cases h with
    | cons h1 h2 => simp only [PyData.hasDictAll, dp_plain d _ h1, dp_plains ds _ h2, Bool.or_self]
end
section
variable {X : Cx}
def rRepr (K : PySem.W.Frag) : List V → Hp → VK → Prop := fun xs H Q =>
  ∃ x d, xs = [x] ∧ Dp K H x d ∧ d.showable = true ∧ d.shown.length ≤ sizeLine ∧ d.depth ≤ 60 ∧ Q (.str d.shown) H
theorem call_repr {K : PySem.W.Frag} (hK : X.K = K) (hg : X.A.guards = some []) (hu : X.A.units + 64 < cLine) : CallR X (.builtin "repr") (rRepr K) := by
  subst hK
  intro pins s σ H xs us Q I r h
  obtain ⟨x, d, rfl, hd, hs, hz, hdp, q⟩ := h
  obtain ⟨u, rfl, ru⟩ := vals1 r
  have hpl := dp_plain d x hd
  obtain ⟨as, rd⟩ := Dp.reads I d x u hd ru
  cases x with
  | non =>
    cases hd
    cases (show u = Value.none from ru)
    exact PySem.P.repr_of_none ⟨.str _, H, I.tok _, ⟨_, rfl⟩, q⟩
  | bl b =>
    cases hd
    cases (show u = Value.bool b from ru)
    exact PySem.P.repr_of_bool ⟨.str _, H, I.tok _, ⟨_, rfl⟩, q⟩
  | int i =>
    cases hd
    obtain ⟨t, rfl⟩ := (show ∃ t, u = Value.int i t from ru)
    have hi : i.natAbs.log2 < 1920 := of_decide_eq_true (by simpa only [PyData.showable] using hs)
    exact PySem.P.repr_of_int hi ⟨.str _, H, I.tok _, ⟨_, rfl⟩, q⟩
  | str y =>
    cases hd
    obtain ⟨t, rfl⟩ := (show ∃ t, u = Value.str y t from ru)
    exact PySem.P.repr_of_str ⟨.str _, H, I.tok _, ⟨_, rfl⟩, q⟩ hz
  | byt y => cases hd
  | flt y => cases hd
  | ty y => cases hd
  | ref a =>
    cases (show u = Value.ref a from ru)
    refine PySem.repr_of_reads' rd hs (PyData.noDict_hsm hpl) hg (by omega) (fun _ _ e => e) (fun h' w tk k => ?_) hz
    exact ⟨.str _, H, I.kept k, ⟨_, rfl⟩, q⟩

/-! the layer's rules with the written part told apart (within a comprehension the context is another) -/
variable {K : PySem.W.Frag}
theorem ix_listK (hK : X.K = K) : IxR X (rIxL K) := by subst hK; exact ix_list
theorem ix_tupK (hK : X.K = K) : IxR X (rIxT K) := by subst hK; exact ix_tup
theorem sl_listK (hK : X.K = K) : SlR X (rSlL K) := by subst hK; exact sl_list
theorem call_lenK (hK : X.K = K) : CallR X (.builtin "len") (fun xs H Q => ∃ p ys, xs = [.ref p] ∧ (SqL K H p ys ∨ SqT K H p ys) ∧ Q (.int ys.length) H) := by subst hK; exact call_len_seq
theorem call_isiK' (hK : X.K = K) : CallR X (.builtin "isinstance") (rIsi K) := by subst hK; exact call_isi
theorem cr_allK (hK : X.K = K) (hc : X.calm = true) : CallR X (.builtin "all") (rAll K) := by subst hK; exact cr_all hc
theorem cr_anyK (hK : X.K = K) (hc : X.calm = true) : CallR X (.builtin "any") (rAny K) := by subst hK; exact cr_any hc
theorem pe_fldK {e : Expr} {f : Str} {pos : Pos} {ta : TE} (hK : X.K = K) (he : PE X e ta) (hb : attributeBase e f X.env (eval e X.env) = eval e X.env) : PE X (.Attribute e f pos) (tFld K ta f) := by subst hK; exact pe_fld he hb
theorem ps_fldK {o value : Expr} {f : Str} {pos pos' : Pos} {ta tv : TE} (hK : X.K = K) (ha : PE X o ta) (hv : PE X value tv) (hs : swapsWith value (some (.Attribute o f pos')) pos.line X.env = pure false) :
    PS X (.Assign [.Attribute o f pos'] value pos) (sFld K ta tv f) := by subst hK; exact ps_fld ha hv hs
theorem pg_tupK {pos : Pos} {es : List Expr} {k : Nat} {t : TGs} {n : Nat} (hK : X.K = K) (hc : X.calm = true) (h : PGs X es t)
    (hn : (assignEach es X.env).length = n := by rfl) (hst : (assignEach es X.env).findIdx? (·.1) = none := by rfl) : PG X (.Tuple es k pos) (gTup K n t) := by subst hK; exact pg_tup hc h hn hst
theorem pi_listK {tg l : Expr} {tl : TE} (hK : X.K = K) (hl : PE X l tl) : PI X tg l (iList K tl) := by subst hK; exact pi_list hl
end
end Lb

set_option Elab.async false
set_option linter.all false
set_option maxRecDepth 100000
set_option maxHeartbeats 4000000
namespace Lb
open PySem PySem.Spec PyProof.Rows L2

/-! defs that may show data (repr): they are called where no repr runs -/
structure FnG (P : Program) (w : World) (K : PySem.W.Frag) (mg : Str → Option Value) (base : Heap) (CX : CXT)
    (k : Nat) (f : Addr) (fd : FuncData) (ps : List Str) (sp : Sp) : Prop where
  len : ∀ vs H Q E, sp vs H Q E → vs.length = ps.length
  run : ∀ (A : Around) (outer : List Env) (s : Shared) (H : Hp) (args : Args) (us : List Value) (vs : List V) (Q : VK) (E : XK),
    A.guards = some [] → Room k A → Env0 P w K mg base A outer s H → BindsTo s fd args (ps.zip us) → Vals vs us → sp vs H Q E →
    codeAny (model P w) A (.call (.ref f) args) (CR CX outer P w H s Q E) s

section
variable {P : Program} {w : World} {K : PySem.W.Frag} {mg : Str → Option Value} {base : Heap} {CX : CXT} {k j : Nat} {f : Addr} {fd : FuncData} {ps : List Str} {sp : Sp}
theorem FnG.of (F : FnOk P w K mg base CX k f fd ps sp) : FnG P w K mg base CX k f fd ps sp :=
  ⟨F.len, fun A outer s H args us vs Q E _ hr e0 hb r hs => F.run A outer s H args us vs Q E hr e0 hb r hs⟩
theorem FnG.mono (F : FnG P w K mg base CX j f fd ps sp) (h : j ≤ k) : FnG P w K mg base CX k f fd ps sp :=
  ⟨F.len, fun A outer s H args us vs Q E g hr => F.run A outer s H args us vs Q E g (hr.mono h)⟩
/-- the rule for the body of such a def -/
theorem okG {x qual : Str} {st : Stmt} {N : List Str} (F : Fun K x qual st f fd) (S : FnScope N ps (defScope st))
    (len : ∀ vs H Q E, sp vs H Q E → vs.length = ps.length)
    (hbody : ∀ (cdv : Value) (A : Around) (outer : List Env) (s : Shared) (H : Hp) (vs : List V) (Q : VK) (E : XK),
      (A.deeper (envOfC qual (defScope st) s.heap.objs.size f cdv)).guards = some [] →
      Room k (A.deeper (envOfC qual (defScope st) s.heap.objs.size f cdv)) → sp vs H Q E →
      ∃ t, PSs (cxOf CX P w K mg base N qual (defScope st) f cdv A outer s H E).nox (defBody st) t ∧
        t { nx := fun _ H' => Q .non H', rt := Q } (start N vs) H) :
    FnG P w K mg base CX (k + 1) f fd ps sp := by
  obtain ⟨oc, od, kV, doc, pm, an, cdv, ct, osl, rfl, lk, hcd⟩ := F.ex
  refine ⟨len, fun A outer s H args us vs Q E hgu hr e0 hb r hsp => ?_⟩
  have hl := len vs H Q E hsp
  have KX : K.In s.heap := e0.mod.kin.keeps fun b o e => (e0.bs b o e).1
  have lim : s.heap.NoLimit := e0.mod.nolimit.keeps fun b o e => (e0.bs b o e).1
  have hkind : ∀ y ∈ ps.zip us, (defScope st).names.lookup y.1 = some .local ∨
      ((defScope st).names.lookup y.1 = some .cell ∧ ((cellsFrom (s.heap.objs.size + 1) (defScope st).names []).lookup y.1).isSome = true) := by
    rintro ⟨n, v⟩ hy
    rcases S.par n (List.of_mem_zip hy).1 with q | q
    · exact .inl q
    · exact .inr ⟨q, PySem.W.cellsFrom_some _ _ _ (.inl q)⟩
  refine codeAny_call_function hr.depth (KX _ _ lk) rfl S.co S.gen rfl (PySem.W.codeRec_of KX hcd) (hb _ _ _ _ ?_)
  refine wpAny_newFunctionEnv_cells S.kind hkind fun env he s1 y => ?_
  subst he
  refine ⟨lim.keeps y.toInCall.keep, codeAny_func ?_⟩
  have hgd : (A.deeper (envOfC qual (defScope st) s.heap.objs.size f cdv)).guards = some [] := by
    first
      | exact hgu
      | simpa [Around.deeper] using hgu
  obtain ⟨t, ht, hq⟩ := hbody cdv A outer s H vs Q E hgd (hr.deeper _) hsp
  have I := inv_start (CX := CX) (E := E) S hr.hd e0 hl r y
  have fin : ∀ {σ' : L2.St} {H' : Hp} {s' : Shared} {v : V} {u : Value},
      Inv (cxOf CX P w K mg base N qual (defScope st) f cdv A outer s H E) [] σ' H' s' → RelV v u → Q v H' → CE outer P w H s Q u s' :=
    fun {σ' H' s' v u} J rv q => ⟨v, H', J.os, J.bare, J.base, J.hok, rv, q⟩
  refine wpAny_mono (ht.nox.run [] s1 (start N vs) H _ I hq) (fun fl s' hs => ?_) fun _ _ hs => hs
  cases fl with
  | ret u =>
    obtain ⟨v, σ', H', J, rv, q⟩ := hs
    exact fin J rv q
  | next =>
    obtain ⟨σ', H', J, q⟩ := hs
    exact fin (v := V.non) (u := Value.none) J rfl q
  | brk => exact hs.elim fun _ h => h.elim fun _ h => h.2.elim
  | cont => exact hs.elim fun _ h => h.elim fun _ h => h.2.elim
end

section
variable {X : Cx} {CX : CXT} {k : Nat} {f : Addr} {fd : FuncData} {ps : List Str} {sp : Sp} {dvs : List V} {ds : List Value} {E : XK} {x : Str} {p pos : Pos} {e : Expr} {es : List Expr} {t : TA}
theorem run_fnG {pins : List (Addr × Obj)} {σ : L2.St} {H : Hp} {s : Shared} {Q : VK} {us : List Value} {vs : List V} (F : FnG X.prog X.w X.K X.mg X.base CX k f fd ps sp) (gu : X.A.guards = some [])
    (hr : Room k X.A) (hb : Binds X.K fd ps ds) (hd : Vals dvs ds) (hx : Passes CX X E) (I : Inv X pins σ H s) (r : Vals vs us) (h : sp (vs ++ dvs) H Q E) :
    wpAny (model X.prog X.w) X.A (call (.ref f) us) (EP X pins σ Q) X.xe s := by
  have r2 := r.append hd
  have hl : (us ++ ds).length = ps.length := r2.length ▸ F.len _ H Q E h
  have code := F.run X.A X.stack s H ⟨us, []⟩ (us ++ ds) (vs ++ dvs) Q E gu hr I.env0 (hb s us I.kIn hl) r2 h
  refine wpAny_call (codeAny_mono code fun r s' hq => ?_)
  rcases r with er | fl
  · first | exact hx pins σ H s er s' I hq | (cases er <;> first | exact I.after hq | exact hq.elim)
  · first | (cases fl <;> first | exact I.after hq | exact hq.elim) | exact hx pins σ H s fl s' I hq
theorem pe_callG (F : FnG X.prog X.w X.K X.mg X.base CX k f fd ps sp) (gu : X.A.guards = some []) (hr : Room k X.A) (hg : Gl X x) (hm : X.mg x = some (.ref f))
    (hk : PySem.W.keepIn X.K (.ref f) = true) (hb : Binds X.K fd ps ds) (hd : Vals dvs ds) (hx : Passes CX X E) (ha : PA X (e :: es) t)
    (hdb : (x == ("__debug__" : Str)) = false := by decide) (he : starEach (e :: es) X.env = (false, eval e X.env) :: starEach es X.env := by rfl)
    (hpl : (backTo pos (starEach es X.env)).any (·.1) = false := by rfl) : PE X (.Call (.Name x p) (e :: es) [] pos) (tCall sp dvs E t) := by
  refine ⟨fun pins s σ H Q I h => wpAny_Call_Name_kw (ld_glob I hg hm ?_ hdb)⟩
  refine PySem.W.callWith_K (h₀ := X.base) I.ok.mod.kin hk (thn (ha.run pos pins s σ H _ I h) fun us s1 q => ?_) he hpl
  obtain ⟨vs, H1, I1, r, q⟩ := q
  exact ⟨I1.kIn, run_fnG F gu hr hb hd hx I1 r q⟩
theorem pe_call0G (F : FnG X.prog X.w X.K X.mg X.base CX k f fd ps sp) (gu : X.A.guards = some []) (hr : Room k X.A) (hg : Gl X x) (hm : X.mg x = some (.ref f))
    (hk : PySem.W.keepIn X.K (.ref f) = true) (hb : Binds X.K fd ps ds) (hd : Vals dvs ds) (hx : Passes CX X E)
    (hdb : (x == ("__debug__" : Str)) = false := by decide) : PE X (.Call (.Name x p) [] [] pos) (tCall sp dvs E tNil) :=
  ⟨fun pins s σ H Q I h => wpAny_Call_Name_kw (ld_glob I hg hm (PySem.W.callWith_K0 I.kIn hk (run_fnG (us := []) F gu hr hb hd hx I .nil h)) hdb)⟩
end

/-- the law's call: like the layer's own end, for such a def -/
theorem law_callG {P : Program} {w : World} {K : PySem.W.Frag} {mg mb : Str → Option Value} {CX : CXT} {k : Nat} {fa a : Addr} {fd : FuncData} {x : Str} {sp : Sp} {s1 : Shared} {vs : List Value} {ns : List Int}
    (KX : K.In s1.heap) (hns : s1.heap.Ns mainGlobals mg) (hb : s1.heap.Ns builtinsNs mb) (hbb : ∀ x : Str, x ≠ "__name__" → mb x = bootBuiltins x) (hlim : s1.heap.NoLimit) (hg : s1.gens = #[])
    (ha : s1.heap.get? a = some { cls := .type "list", data := .seq vs.toArray }) (hi : IntsAre vs ns) (hl : ns.length ≤ sizeLine) (hr : Room k callerA)
    (F : ∀ base : Heap, K.In base → base.Ns mainGlobals mg → FnG P w K mg base CX k fa fd [x] sp) (hbind : ∀ (s : Shared) (u : Value), BindsTo s fd ⟨[u], []⟩ [(x, u)])
    (hsp : ∀ H : Hp, Only H → SqL K H a (ns.map V.int) → sp [.ref a] H (fun v _ => v = .bl true) fun _ _ _ => False)
    (hCX : ∀ H e s', CX [] H s1 (fun _ _ _ => False) e s' → False) :
    codeAny (model P w) callerA (.call (.ref fa) ⟨[.ref a], []⟩) (fun r s' => r = .ok (.ret (.bool true)) ∧ OldK s1.heap s'.heap ∧ s'.os = s1.os ∧ AllBare s'.gens) s1 := by
  have rv := vals_ints hi
  have core : ∀ H : Hp, Only H → SqL K H a (ns.map V.int) → HOk P w H s1.heap → (∀ b u, H b = some u → b = a) → (∀ u, H a = some u → K.lookup a = none) →
      codeAny (model P w) callerA (.call (.ref fa) ⟨[.ref a], []⟩) (fun r s' => r = .ok (.ret (.bool true)) ∧ OldK s1.heap s'.heap ∧ s'.os = s1.os ∧ AllBare s'.gens) s1 := by
    intro H hO hS hok hA hK
    have free_of : ∀ {b : Addr} {o : Obj}, s1.heap.get? b = some o → (∀ z : Data, o.data = z → ∃ es ep, z = .dict es ep) → H b = none := by
      intro b o e d
      cases q : H b with
      | none => rfl
      | some u =>
        cases hA b u q
        rw [ha] at e
        cases e
        obtain ⟨es, ep, z⟩ := d _ rfl
        cases z
    have nsK : ∀ {b : Addr} {m : Str → Option Value}, s1.heap.Ns b m → (hidT s1.heap H).Ns b m := by
      rintro b m ⟨o, es, ep, e, d, r⟩
      exact ⟨o, es, ep, hidT_get e (free_of e fun z hz => ⟨es, ep, hz ▸ d⟩), d, r⟩
    have hKb : K.In (hidT s1.heap H) := by
      intro b o e
      refine hidT_get (KX b o e) ?_
      cases q : H b with
      | none => rfl
      | some u =>
        cases hA b u q
        rw [hK u q] at e
        cases e
    have hM : Mod K mg (hidT s1.heap H) := by
      obtain ⟨mc, c1, c2⟩ := hlim
      exact ⟨hKb, nsK hns, ⟨mb, nsK hb, hbb⟩, ⟨mc, nsK c1, c2⟩⟩
    have e0 : Env0 P w K mg (hidT s1.heap H) callerA [] s1 H :=
      ⟨rfl, hM, fun b o e => of_hidT e, Nat.le_of_eq (hidT_size _ _), trivial, fun b hb => (List.not_mem_nil hb).elim, hok, .of_eq hg⟩
    have code := (F _ hKb (nsK hns)).run callerA [] s1 H ⟨[.ref a], []⟩ [.ref a] [.ref a] _ _ rfl hr e0 (hbind s1 (.ref a)) (.cons rfl .nil) (hsp H hO hS)
    refine codeAny_mono code fun r s' h => ?_
    cases r with
    | error e => exact (hCX H e s' h).elim
    | ok fl =>
      cases fl with
      | ret u =>
        obtain ⟨v, H', os, bare, un, hok', r', q⟩ := h
        cases (show v = .bl true from q)
        cases (show u = Value.bool true from r')
        refine ⟨rfl, .of_keep fun b o e => ?_, os, bare⟩
        rcases hO b with z | ⟨ob, xs, z⟩
        · exact un.keep b o e z (fun z => List.not_mem_nil z) (fun z => List.not_mem_nil z)
        · obtain ⟨e1, _⟩ := hok b _ z
          obtain ⟨e2, _⟩ := hok' b _ (un.frzs b ob _ z)
          rw [e] at e1
          cases e1
          exact e2
      | next => exact h.elim
      | brk => exact h.elim
      | cont => exact h.elim
  cases hk : K.lookup a with
  | some o =>
    have e := KX a o hk
    rw [ha] at e
    cases e
    refine core (fun _ => none) (fun _ => .inl rfl) (.inr ⟨_, vs.toArray, _, hk, rfl, rfl, rfl, ?_, ?_⟩) (fun b u z => nomatch (show (none : Option HO) = some u from z)) (fun b u z => nomatch (show (none : Option HO) = some u from z)) (fun u z => nomatch (show (none : Option HO) = some u from z))
    · rw [List.size_toArray, hi.length]
      exact hl
    · simpa using rv
  | none =>
    have at_ : ∀ {b : Addr} {u : HO}, (if b = a then some (HO.frz { cls := .type "list", data := .seq vs.toArray } (.lst (ns.map V.int))) else none) = some u →
        b = a ∧ u = HO.frz { cls := .type "list", data := .seq vs.toArray } (.lst (ns.map V.int)) := by
      intro b u e
      by_cases hb : b = a
      · rw [if_pos hb] at e
        exact ⟨hb, (Option.some.inj e).symm⟩
      · rw [if_neg hb] at e
        cases e
    refine core (fun b => if b = a then some (.frz { cls := .type "list", data := .seq vs.toArray } (.lst (ns.map V.int))) else none) (fun b => ?_)
      (.inl (.inr ⟨{ cls := .type "list", data := .seq vs.toArray }, if_pos rfl⟩)) (fun b u e => ?_) (fun b u e => (at_ e).1) (fun _ _ => hk)
    · by_cases hb : b = a
      · exact .inr ⟨_, _, if_pos hb⟩
      · exact .inl (if_neg hb)
    · obtain ⟨rfl, rfl⟩ := at_ e
      exact ⟨ha, by rw [List.length_map]; exact hl, vs, _, rv, ha⟩

theorem walkG {l : PySem.W.OpenLaw} {n k : Nat} {q : Program} {loose : List Str} {XP : (Str → Option Value) → Heap → Prop} {YP : World → Heap → Prop} {d : DefRec} {K : Params → PySem.W.Frag} {sp : PySem.W.Frag → Sp} {x : Str}
    (hn : l.most = some n) (hn2 : n ≤ sizeLine) (hdf : d.params.defaults = []) (hr : Room k callerA)
    (hY : ∀ (w : World) (h : Heap), YP w h → (K w.params).In h)
    (F : ∀ (w : World) (mg : Str → Option Value) (fa : Addr) (h : Heap), (K w.params).In h → h.Ns mainGlobals mg → mg d.name = some (.ref fa) →
      ∃ fd : FuncData, (∀ (s : Shared) (u : Value), BindsTo s fd ⟨[u], []⟩ [(x, u)]) ∧
        ∀ base : Heap, (K w.params).In base → base.Ns mainGlobals mg → FnG l.prog w (K w.params) mg base CX0 k fa fd [x] (sp (K w.params)))
    (hsp : ∀ (K : PySem.W.Frag) (H : Hp) (a : Addr) (ns : List Int), ns.length ≤ n → Only H → SqL K H a (ns.map V.int) → sp K [.ref a] H (fun v _ => v = .bl true) fun _ _ _ => False) :
    PySem.W.WalkO q loose XP YP l.row.toRowW d [] (fun f vs => PySem.call f vs) := by
  refine Att.attach_call hn hdf fun w s0 s1 mg mb fa o pm cd doc a vs ns G Y ho hd hcd hmg hobj hints hlen hg => ?_
  obtain ⟨fd, hb, hF⟩ := F w mg fa _ (hY w _ Y) G.T.g hmg
  exact law_callG (hY w _ Y) G.T.g G.T.b G.T.builtins G.T.nolimit hg hobj hints (Nat.le_trans hlen hn2) hr hF hb (fun H hO hS => hsp _ H a ns hlen hO hS) fun _ _ _ z => z
end Lb

set_option Elab.async false
set_option linter.all false
set_option maxRecDepth 100000
set_option maxHeartbeats 4000000
namespace Lb
open PySem PySem.Spec PyProof.Rows L2

/-! sizes of ints -/
/-- fewer than n bits -/
def Bd (n : Nat) (x : Int) : Prop := x.natAbs < 2 ^ n
theorem Bd.mono {n m : Nat} {x : Int} (h : Bd n x) (k : n ≤ m) : Bd m x := Nat.lt_of_lt_of_le h (Nat.pow_le_pow_right (by decide) k)
theorem Bd.mul {n m : Nat} {x y : Int} (h : Bd n x) (k : Bd m y) : Bd (n + m) (x * y) := by
  unfold Bd at *
  rw [Int.natAbs_mul, Nat.pow_add]
  exact Nat.mul_lt_mul'' h k
theorem Bd.add {n : Nat} {x y : Int} (h : Bd n x) (k : Bd n y) : Bd (n + 1) (x + y) := by
  unfold Bd at *
  have := Int.natAbs_add_le x y
  rw [Nat.pow_succ]
  omega
theorem Bd.neg {n : Nat} {x : Int} (h : Bd n x) : Bd n (-x) := by
  unfold Bd at *
  rw [Int.natAbs_neg]
  exact h
theorem Bd.sub {n : Nat} {x y : Int} (h : Bd n x) (k : Bd n y) : Bd (n + 1) (x - y) := by
  rw [Int.sub_eq_add_neg]
  exact h.add k.neg
theorem Bd.le {n : Nat} {x y : Int} (h : Bd n x) (k : y.natAbs ≤ x.natAbs) : Bd n y := Nat.lt_of_le_of_lt k h
theorem Bd.of {n : Nat} {x : Int} (h : x.natAbs < 2 ^ n) : Bd n x := h
theorem Bd.cm {n m : Nat} {x y : Int} (h : Bd n x) (k : Bd m y) (l : n + m ≤ 134217728) : CMulX x y := mulx_ok h k l
theorem Bd.log {n : Nat} {x : Int} (h : Bd n x) (p : 0 < n) : x.natAbs.log2 < n := PySem.Flt.log2_lt_of p h
theorem Bd.cd {n : Nat} {x y : Int} (h : Bd n y) (p : 0 < y) (l : n ≤ 8999) : CDivW x y := wide_div p (h.mono (Nat.le_succ n)) (Nat.succ_pos n) (by omega)
/-- a divisor of few bits is divided by C itself -/
theorem divp_small {i j : Int} (p : 0 < j) (h : Bd 8000 j) : CDivP i j := by
  refine ⟨p, ?_⟩
  have hj : (j == 0) = false := by simpa using (show j ≠ 0 by omega)
  have hl := h.log (by decide)
  have h1 : (j.natAbs.log2) / 30 + 1 ≤ 300 := by omega
  show (decide ((if j == 0 then 0 else j.natAbs.log2 / 30 + 1) > 300) && _) = false
  rw [hj]
  simp only [Bool.false_eq_true, if_false]
  rw [decide_eq_false (by omega), Bool.false_and]

/-! the pot: two ints, turned by each draw -/
def PotAt (H : Hp) (p : Addr) : Prop := ∃ a b : Int, H p = some (.lst [.int a, .int b]) ∧ 0 ≤ a ∧ 0 ≤ b ∧ b ≤ 2147483629
/-- all but p is kept -/
structure Mov (p : Addr) (H H' : Hp) : Prop where
  keep : ∀ b o, b ≠ p → H b = some o → H' b = some o
  pot : PotAt H' p
theorem Mov.trans {p : Addr} {H H1 H2 : Hp} (a : Mov p H H1) (b : Mov p H1 H2) : Mov p H H2 := ⟨fun c o n e => b.keep c o n (a.keep c o n e), b.pot⟩
theorem Mov.same {p : Addr} {H H1 H2 : Hp} (a : Mov p H H1) (b : Same H1 H2) : Mov p H H2 :=
  ⟨fun c o n e => b _ _ (a.keep c o n e), let ⟨x, y, e, r⟩ := a.pot; ⟨x, y, b _ _ e, r⟩⟩
theorem Same.mov {p : Addr} {H H1 : Hp} (a : Same H H1) (q : PotAt H p) : Mov p H H1 :=
  ⟨fun c o _ e => a _ _ e, let ⟨x, y, e, r⟩ := q; ⟨x, y, a _ _ e, r⟩⟩
theorem Mov.refl {p : Addr} {H : Hp} (q : PotAt H p) : Mov p H H := ⟨fun _ _ _ e => e, q⟩
theorem Mov.tup {p b : Addr} {H H1 : Hp} {xs : List V} (a : Mov p H H1) (q : PotAt H p) (e : H b = some (.tup xs)) : H1 b = some (.tup xs) :=
  a.keep _ _ (let ⟨_, _, e', _⟩ := q; ne_of e e' (fun z => nomatch z)) e
theorem Mov.ins {p b C dx : Addr} {H H1 : Hp} {fs : List (Str × V)} (a : Mov p H H1) (q : PotAt H p) (e : H b = some (.ins C dx fs)) : H1 b = some (.ins C dx fs) :=
  a.keep _ _ (let ⟨_, _, e', _⟩ := q; ne_of e e' (fun z => nomatch z)) e
theorem Mov.free {p b : Addr} {H H1 : Hp} (a : Mov p H H1) (q : PotAt H p) (e : H1 b = none) : H b = none := by
  cases z : H b with
  | none => rfl
  | some o =>
    by_cases hb : b = p
    · subst hb
      obtain ⟨_, _, e', _⟩ := a.pot
      rw [e] at e'
      cases e'
    · rw [a.keep b o hb z] at e
      cases e
theorem Same.upd {H : Hp} {p : Addr} {o : HO} (h : H p = none) : Same H (upd H p o) := fun a u e => by
  rw [upd_ne (ne_of_none e h)]
  exact e
theorem SqL.mov {K : PySem.W.Frag} {p a : Addr} {H H1 : Hp} {xs : List V} (m : Mov p H H1) (n : a ≠ p) (h : SqL K H a xs) : SqL K H1 a xs := by
  rcases h with (h | ⟨o, h⟩) | h
  · exact .inl (.inl (m.keep _ _ n h))
  · exact .inl (.inr ⟨o, m.keep _ _ n h⟩)
  · exact .inr h
theorem SqT.same {K : PySem.W.Frag} {a : Addr} {H H1 : Hp} {xs : List V} (m : Same H H1) (h : SqT K H a xs) : SqT K H1 a xs := by
  rcases h with (h | ⟨o, h⟩) | h
  · exact .inl (.inl (m _ _ h))
  · exact .inl (.inr ⟨o, m _ _ h⟩)
  · exact .inr h
/-- a written list's size -/
theorem sz {n : Nat} (h : Nat.ble n 1000 = true := by rfl) : n ≤ sizeLine :=
  Nat.le_trans (Nat.le_of_ble_eq_true h) (by decide)
theorem szlt {n : Nat} (k : n ≤ 10000) : n < sizeLine := Nat.lt_of_le_of_lt k (by decide)
theorem szle {n : Nat} (k : n ≤ 10000) : n ≤ sizeLine := Nat.le_of_lt (szlt k)
end Lb

set_option Elab.async false
set_option linter.all false
set_option maxRecDepth 100000
set_option maxHeartbeats 4000000
namespace Lb
open PySem PySem.Spec PyProof.Rows L2

/-- // by any divisor but 0, of few bits -/
def CDivX (_ j : Int) : Prop := j ≠ 0 ∧ j.natAbs.log2 < 9000
theorem op_fdivX {X : Cx} : OpR X (binaryOp .FloorDiv) (rI CDivX fun i j => .int (i.fdiv j)) :=
  opI fun i j _ _ _ _ _ hc q => floordiv_int hc.1 q (.inl (PyProof.noPylong_of_log2 hc.2))
theorem Bd.cx {n : Nat} {x y : Int} (h : Bd n y) (p : y ≠ 0) (l : n ≤ 8999) : CDivX x y :=
  ⟨p, Nat.lt_of_lt_of_le ((h.mono (Nat.le_succ n)).log (Nat.succ_pos n)) (by omega)⟩

/-! two lists, item by item -/
theorem Paired.imp {α β : Type} {F G : α → β → Prop} : ∀ {xs : List α} {ys : List β}, Paired F xs ys → (∀ a b, F a b → G a b) → Paired G xs ys
  | _, _, .nil, _ => .nil
  | _, _, .cons r t, f => .cons (f _ _ r) (Paired.imp t f)
theorem Paired.snoc {α β : Type} {F : α → β → Prop} {a : α} {b : β} (h : F a b) : ∀ {xs : List α} {ys : List β}, Paired F xs ys → Paired F (xs ++ [a]) (ys ++ [b])
  | _, _, .nil => .cons h .nil
  | _, _, .cons r t => .cons r (Paired.snoc h t)
theorem Paired.at_ {α β : Type} {F : α → β → Prop} : ∀ {xs : List α} {ys : List β} {i : Nat} {a : α}, Paired F xs ys → xs[i]? = some a → ∃ b, ys[i]? = some b ∧ F a b
  | _, _, i, _, .nil, e => by simp at e
  | _, _, 0, a, .cons r t, e => by simp at e; subst e; exact ⟨_, rfl, r⟩
  | _, _, i + 1, a, .cons r t, e => by
    obtain ⟨b, h1, h2⟩ := Paired.at_ (i := i) (a := a) t (by simpa using e)
    exact ⟨b, by simpa using h1, h2⟩
theorem Paired.at_r {α β : Type} {F : α → β → Prop} : ∀ {xs : List α} {ys : List β} {i : Nat} {b : β}, Paired F xs ys → ys[i]? = some b → ∃ a, xs[i]? = some a ∧ F a b
  | _, _, i, _, .nil, e => by simp at e
  | _, _, 0, a, .cons r t, e => by simp at e; subst e; exact ⟨_, rfl, r⟩
  | _, _, i + 1, a, .cons r t, e => by
    obtain ⟨b, h1, h2⟩ := Paired.at_r (i := i) (b := a) t (by simpa using e)
    exact ⟨b, by simpa using h1, h2⟩
theorem Paired.len {α β : Type} {F : α → β → Prop} : ∀ {xs : List α} {ys : List β}, Paired F xs ys → xs.length = ys.length
  | _, _, .nil => rfl
  | _, _, .cons _ t => congrArg Nat.succ (Paired.len t)
/-- a tuple of two ints -/
def Fr (H : Hp) (q : Addr) (t b : Int) : Prop := H q = some (.tup [.int t, .int b])
abbrev Rows (H : Hp) (as : List Addr) (fr : List (Int × Int)) : Prop := Paired (fun a x => Fr H a x.1 x.2) as fr
theorem Rows.same {H H' : Hp} {as : List Addr} {fr : List (Int × Int)} (r : Rows H as fr) (s : Same H H') : Rows H' as fr := Paired.imp r fun _ _ h => s _ _ h
theorem Rows.mov {p : Addr} {H H' : Hp} {as : List Addr} {fr : List (Int × Int)} (r : Rows H as fr) (m : Mov p H H') (hp : PotAt H p) : Rows H' as fr := Paired.imp r fun _ _ h => m.tup hp h
/-- a test with a known answer -/
theorem iteP {c A B : Prop} [Decidable c] (hc : c) (h : A) : if c then A else B := by rw [if_pos hc]; exact h
theorem iteN {c A B : Prop} [Decidable c] (hc : ¬ c) (h : B) : if c then A else B := by rw [if_neg hc]; exact h
theorem al3 {H H2 : Hp} {p : Addr} {o : HO} (e : upd H p o = H2) (h : H p = none) : Same H H2 ∧ H2 p = some o := by
  subst e
  exact ⟨Lb.Same.upd h, upd_same⟩
theorem Rows.snoc {H : Hp} {as : List Addr} {fr : List (Int × Int)} {q : Addr} {t b : Int} (r : Rows H as fr) (f : H q = some (.tup [.int t, .int b])) : Rows H (as ++ [q]) (fr ++ [(t, b)]) := Paired.snoc (F := fun (a : Addr) (x : Int × Int) => Fr H a x.1 x.2) (b := (t, b)) f r
theorem Rows.nil {H : Hp} : Rows H [] [] := Paired.nil
theorem Mov.ne {p l : Addr} {H H1 : Hp} (m : Mov p H H1) (h : H1 l = none) : l ≠ p := by
  obtain ⟨_, _, e, _⟩ := m.pot
  exact (ne_of_none e h).symm
/-- a list of another length is not the pot -/
theorem PotAt.ne {p l : Addr} {H : Hp} {xs : List V} (m : PotAt H p) (h : H l = some (.lst xs)) (n : xs.length ≠ 2) : l ≠ p := by
  rintro rfl
  obtain ⟨_, _, e, _⟩ := m
  rw [h] at e
  injection e with e
  injection e with e
  rw [e] at n
  exact n rfl
/-- a new object is changed -/
theorem Same.updl {H H2 : Hp} {l : Addr} {o : HO} (s : L2.Same H H2) (hl : H l = none) : L2.Same H (L2.upd H2 l o) := fun b u e => by
  rw [upd_ne (ne_of_none e hl)]
  exact s _ _ e
/-- what isinstance and the comparisons ask of the class at C -/
structure Inst (K : PySem.W.Frag) (C : Addr) : Prop where
  ca : PySem.W.findIn K (.ref C) "__class__" = some (some (.builtin "object.__class__"))
  cn : PySem.W.specialIn K (.builtin "object.__class__") "__get__" = some (some (.builtin "getset_descriptor.__get__"))
  ct : PySem.W.takesIn K (.builtin "object.__class__") = some true
  cm : PySem.W.mroIn K C (.type "object") = some true
  kNone : PySem.W.kitOne K (.type "NoneType") (.ref C) = some false
  kBool : PySem.W.kitOne K (.type "bool") (.ref C) = some false
  kInt : PySem.W.kitOne K (.type "int") (.ref C) = some false
  kStr : PySem.W.kitOne K (.type "str") (.ref C) = some false
  kList : PySem.W.kitOne K (.type "list") (.ref C) = some false
  kTup : PySem.W.kitOne K (.type "tuple") (.ref C) = some false
  kDict : PySem.W.kitOne K (.type "dict") (.ref C) = some false
  nNone : PySem.W.notFirst K C (.type "NoneType") = true
  nBool : PySem.W.notFirst K C (.type "bool") = true
  nInt : PySem.W.notFirst K C (.type "int") = true
  nStr : PySem.W.notFirst K C (.type "str") = true
  nList : PySem.W.notFirst K C (.type "list") = true
  nTup : PySem.W.notFirst K C (.type "tuple") = true
  nDict : PySem.W.notFirst K C (.type "dict") = true
theorem Inst.kSelf {K : PySem.W.Frag} {C : Addr} : PySem.W.kitOne K (.ref C) (.ref C) = some true := by
  unfold PySem.W.kitOne
  rw [if_pos (beq_self_eq_true _)]
theorem Inst.nSelf {K : PySem.W.Frag} {C : Addr} : PySem.W.notFirst K C (.ref C) = true := by
  unfold PySem.W.notFirst
  rw [beq_self_eq_true, Bool.true_or]
theorem Inst.ty {K : PySem.W.Frag} {C x dx : Addr} {H : Hp} {fs : List (Str × V)} (I : Inst K C) (cl : Cls K C) (e : H x = some (.ins C dx fs)) : TyOf K H (.ref x) (.ref C) := .ins e cl I.ca I.cn I.ct I.cm
theorem kit_own {K : PySem.W.Frag} {C : Addr} {T : String} (h1 : PySem.W.isClsIn K C = true) (h2 : PySem.W.typeIn K (.ref C) = some (.type "type")) (h3 : PySem.W.subIn K (.type T) (.ref C) = some false) :
    PySem.W.kitOne K (.type T) (.ref C) = some false ∧ PySem.W.notFirst K C (.type T) = true := by
  have ne : (Value.type T == Value.ref C) = false := Bool.eq_false_iff.mpr fun q => nomatch beq_iff_eq.mp q
  constructor
  · unfold PySem.W.kitOne
    rw [ne, if_neg (by decide)]
    unfold PySem.W.kitCls
    have h1' : (PySem.W.clsIn K C).isSome = true := h1
    dsimp only
    rw [h1', h2]
    rw [if_pos (by simp)]
    exact h3
  · unfold PySem.W.notFirst
    rw [h3]
    simp
/-- a def of the class by its special name -/
structure OwnM (K : PySem.W.Frag) (C : Addr) (x : Str) (f : Addr) : Prop where
  at_ : PySem.W.findIn K (.ref C) x = some (some (.ref f))
  fn : PySem.W.isFn K (.ref f) = true
/-- a value that is plainly no instance of the class at C: how isinstance and the comparisons see it -/
def NotC (K : PySem.W.Frag) (C : Addr) (H : Hp) (y : V) : Prop := ∃ t, TyOf K H y t ∧ PySem.W.kitOne K t (.ref C) = some false ∧ PySem.W.notFirst K C t = true
end Lb

set_option Elab.async false
set_option linter.all false
set_option maxRecDepth 100000
set_option maxHeartbeats 4000000
namespace Lb
open PySem PySem.Spec PyProof.Rows L2

/-! lists of bools, shown -/
theorem dp_bools {K : PySem.W.Frag} {H : Hp} : ∀ bs : List Bool, DpAll K H (bs.map V.bl) (bs.map PyData.bool)
  | [] => .nil
  | b :: r => .cons (.bl b) (dp_bools r)
theorem show_bools : ∀ bs : List Bool, PyData.showableAll (bs.map PyData.bool) = true
  | [] => by simp only [List.map_nil, PyData.showableAll]
  | b :: r => by simp only [List.map_cons, PyData.showableAll, PyData.showable, show_bools r, Bool.and_self]
theorem depth_bools : ∀ bs : List Bool, PyData.depthAll (bs.map PyData.bool) ≤ 1
  | [] => by simp only [List.map_nil, PyData.depthAll]; omega
  | b :: r => by
    have := depth_bools r
    simp only [List.map_cons, PyData.depthAll, PyData.depth]
    omega
theorem len_bools : ∀ bs : List Bool, ((PyData.shownAll (bs.map PyData.bool)).map (·.length)).sum ≤ 5 * bs.length ∧ (PyData.shownAll (bs.map PyData.bool)).length = bs.length
  | [] => by simp only [List.map_nil, PyData.shownAll]; exact ⟨Nat.le_refl _, rfl⟩
  | b :: r => by
    obtain ⟨h1, h2⟩ := len_bools r
    simp only [List.map_cons, PyData.shownAll, List.sum_cons, List.length_cons, h2]
    refine ⟨?_, trivial⟩
    have : (PyData.shown (.bool b)).length ≤ 5 := by
      simp only [PyData.shown]
      cases b <;> decide +kernel
    omega
theorem bools_ok (bs : List Bool) (n : bs.length ≤ 1000) : (PyData.list (bs.map PyData.bool)).showable = true ∧ (PyData.list (bs.map PyData.bool)).shown.length ≤ sizeLine ∧ (PyData.list (bs.map PyData.bool)).depth ≤ 60 := by
  refine ⟨?_, ?_, ?_⟩
  · simp only [PyData.showable, show_bools]
  · have e := listText_len_le (PyData.shownAll (bs.map PyData.bool))
    obtain ⟨h1, h2⟩ := len_bools bs
    simp only [PyData.shown]
    have : sizeLine = 16777216 := by decide
    omega
  · have := depth_bools bs
    simp only [PyData.depth]
    omega
theorem TyOf.same {K : PySem.W.Frag} {H H' : Hp} {y : V} {t : Value} (s : L2.Same H H') (h : TyOf K H y t) : TyOf K H' y t := by
  cases h with
  | non => exact .non
  | bl x => exact .bl x
  | int i => exact .int i
  | str x => exact .str x
  | flt x => exact .flt x
  | lst e => exact .lst (s _ _ e)
  | frz e => exact .frz (s _ _ e)
  | tup e => exact .tup (s _ _ e)
  | dK e => exact .dK (s _ _ e)
  | dT e => exact .dT (s _ _ e)
  | ins e cl a b c d => exact .ins (s _ _ e) cl a b c d
theorem NotC.same {K : PySem.W.Frag} {C : Addr} {H H' : Hp} {y : V} (s : L2.Same H H') (h : NotC K C H y) : NotC K C H' y := by
  obtain ⟨t, a, b, c⟩ := h
  exact ⟨t, TyOf.same s a, b, c⟩
theorem map_replicate_bl (n : Nat) (b : Bool) : (List.replicate n b).map V.bl = List.replicate n (V.bl b) := by simp
theorem all_replicate_true (n : Nat) : (List.replicate n true).all id = true := by simp
end Lb

set_option Elab.async false
set_option linter.all false
set_option maxRecDepth 100000
set_option maxHeartbeats 4000000
namespace Lb
open PySem PySem.Spec PyProof.Rows L2

/-- for i, x in enumerate(xs) -/
theorem for_enum {K : PySem.W.Frag} {a : Addr} {xs : List V} {g : TG} {tb : TS} {D : Ends} {σ : L2.St} {H : Hp} (Pv : Nat → L2.St → Hp → Prop) (h0 : Pv 0 σ H) (hq : ∀ i σ H, Pv i σ H → SqL K H a xs)
    (hs : ∀ (i : Nat) (x : V) (T : Addr) (σ : L2.St) (H : Hp), xs[i]? = some x → Pv i σ H → H T = none → g (.ref T) σ (L2.upd H T (.tup [.int (i : Nat), x])) fun σ2 H2 => tb { D with nx := Pv (i + 1), ct := Pv (i + 1), bk := D.nx } σ2 H2)
    (hd : ∀ σ H, Pv xs.length σ H → D.nx σ H) :
    ∃ W : Nat → Nat → L2.St → Hp → Prop, (∃ m, W 0 m σ H) ∧ ∀ i m σ H, W i m σ H →
      ((Ite K a).stop i H ∧ D.nx σ H) ∨ ((Ite K a).go i H ∧ ∃ N : L2.St → Hp → Prop, (∀ σ' H', N σ' H' → ∃ m', m' < m ∧ W (i + 1) m' σ' H') ∧
        ∀ v H', (Ite K a).yld i H v H' → g v σ H' fun σ2 H2 => tb { D with nx := N, ct := N, bk := D.nx } σ2 H2) := by
  refine ⟨fun i m σ H => m = xs.length - i ∧ i ≤ xs.length ∧ Pv i σ H, ⟨xs.length, rfl, Nat.zero_le _, h0⟩, ?_⟩
  rintro i m σ H ⟨rfl, hi, p⟩
  have q := hq i σ H p
  rcases Nat.lt_or_ge i xs.length with h | h
  · have hx : xs[i]? = some xs[i] := List.getElem?_eq_getElem h
    refine .inr ⟨⟨xs, _, q, hx⟩, Pv (i + 1), fun σ' H' p' => ⟨xs.length - (i + 1), by omega, rfl, h, p'⟩, ?_⟩
    rintro v H' ⟨T, x, rfl, hT, rfl, f⟩
    exact hs i x T σ H (f xs q) p hT
  · have e : i = xs.length := by omega
    subst e
    exact .inl ⟨⟨xs, q, Nat.le_refl _⟩, hd σ H p⟩

/-! a list that is being made at D, above the heap H0 -/
structure Blt {α : Type} (R : Hp → Addr → α → Prop) (H0 : Hp) (D : Addr) (done : List α) (H : Hp) : Prop where
  same : L2.Same H0 H
  ex : ∃ bs : List Addr, H D = some (.lst (bs.map V.ref)) ∧ Paired (R H) bs done
theorem Blt.start {α : Type} {R : Hp → Addr → α → Prop} {H0 : Hp} {D : Addr} (h : H0 D = none) : Blt R H0 D [] (L2.upd H0 D (.lst [])) :=
  ⟨Lb.Same.upd h, [], upd_same, .nil⟩
/-- one more item, made on the way from H to H2 -/
theorem Blt.step {α : Type} {R : Hp → Addr → α → Prop} {H0 H H2 : Hp} {D r : Addr} {done : List α} {x : α} (b : Blt R H0 D done H) (hD : H0 D = none) (s : L2.Same H H2)
    (keep : ∀ H H' a x, R H a x → (∀ o, H a = some o → H' a = some o) → R H' a x) (nl : ∀ H a x l, R H a x → H a = some (.lst l) → False) (hr : R H2 r x) :
    ∃ acc, H2 D = some (.lst acc) ∧ acc.length = done.length ∧ Blt R H0 D (done ++ [x]) (L2.upd H2 D (.lst (acc ++ [V.ref r]))) := by
  obtain ⟨s0, bs, e, p⟩ := b
  have e2 := s _ _ e
  have ch : ∀ a y, R H2 a y → R (L2.upd H2 D (.lst (bs.map V.ref ++ [V.ref r]))) a y := by
    intro a y h
    refine keep _ _ a y h fun o ho => ?_
    have na : a ≠ D := by
      rintro rfl
      exact nl _ _ _ _ h e2
    rw [upd_ne na]
    exact ho
  refine ⟨_, e2, by rw [List.length_map, Paired.len p], Same.updl (s0.trans s) hD, bs ++ [r], by rw [upd_same, List.map_append]; rfl, ?_⟩
  exact Paired.snoc (ch _ _ hr) (Paired.imp p fun a y h => ch _ _ (keep _ _ a y h fun o ho => s _ _ ho))

/-! an element of a list of ints -/
theorem inV_ints (z : Int) : ∀ ns : List Int, inV (.int z) (ns.map V.int) = decide (z ∈ ns)
  | [] => by simp [inV]
  | n :: r => by
    have ih := inV_ints z r
    unfold inV at ih ⊢
    rw [List.map_cons, List.any_cons, ih]
    have : eqV (.int n) (.int z) = decide (z = n) := by
      by_cases h : z = n
      · subst h; simp [eqV]
      · have h' : ¬ n = z := fun e => h e.symm
        simp [eqV, h, h']
    rw [this]
    by_cases h : z = n <;> simp [h]
theorem flat_ints : ∀ ns : List Int, (ns.map V.int).all flatV = true
  | [] => rfl
  | n :: r => by rw [List.map_cons, List.all_cons, flat_ints r]; rfl
end Lb

set_option Elab.async false
set_option linter.all false
set_option maxRecDepth 100000
set_option maxHeartbeats 4000000
namespace K12
open PySem L2 Lb
def top (i : Nat) : Stmt := PySem.Challenge.pw_surepipes_k12_amounts_compared.main.body.getD i (.Pass ⟨0, 0, 0, 0⟩)
abbrev s_is_integer : Stmt := (top 11)
theorem sc_is_integer : FnScope ["value"] ["value"] (defScope s_is_integer) := ⟨rfl, rfl, rfl, by decide +kernel, rfl, by decide +kernel, by decide +kernel⟩
abbrev s_Amount_init_ : Stmt := (inClass (top 18) 0)
theorem sc_Amount_init_ : FnScope ["self", "top", "bottom", "divisor"] ["self", "top", "bottom"] (defScope s_Amount_init_) := ⟨rfl, rfl, rfl, by decide +kernel, rfl, by decide +kernel, by decide +kernel⟩
abbrev s_Amount_eq_ : Stmt := (inClass (top 18) 14)
theorem sc_Amount_eq_ : FnScope ["self", "other"] ["self", "other"] (defScope s_Amount_eq_) := ⟨rfl, rfl, rfl, by decide +kernel, rfl, by decide +kernel, by decide +kernel⟩
abbrev s_Amount_lt_ : Stmt := (inClass (top 18) 15)
theorem sc_Amount_lt_ : FnScope ["self", "other"] ["self", "other"] (defScope s_Amount_lt_) := ⟨rfl, rfl, rfl, by decide +kernel, rfl, by decide +kernel, by decide +kernel⟩
abbrev s_Amount_le_ : Stmt := (inClass (top 18) 16)
theorem sc_Amount_le_ : FnScope ["self", "other"] ["self", "other"] (defScope s_Amount_le_) := ⟨rfl, rfl, rfl, by decide +kernel, rfl, by decide +kernel, by decide +kernel⟩
abbrev s_Amount_gt_ : Stmt := (inClass (top 18) 17)
theorem sc_Amount_gt_ : FnScope ["self", "other"] ["self", "other"] (defScope s_Amount_gt_) := ⟨rfl, rfl, rfl, by decide +kernel, rfl, by decide +kernel, by decide +kernel⟩
abbrev s_Amount_ge_ : Stmt := (inClass (top 18) 18)
theorem sc_Amount_ge_ : FnScope ["self", "other"] ["self", "other"] (defScope s_Amount_ge_) := ⟨rfl, rfl, rfl, by decide +kernel, rfl, by decide +kernel, by decide +kernel⟩
abbrev s_decimal : Stmt := (top 14)
theorem sc_decimal : FnScope ["number", "parts", "part"] ["number"] (defScope s_decimal) := ⟨rfl, rfl, rfl, by decide +kernel, rfl, by decide +kernel, by decide +kernel⟩
abbrev s_Amount_str_ : Stmt := (inClass (top 18) 19)
theorem sc_Amount_str_ : FnScope ["self"] ["self"] (defScope s_Amount_str_) := ⟨rfl, rfl, rfl, by decide +kernel, rfl, by decide +kernel, by decide +kernel⟩
abbrev s_Amount_repr_ : Stmt := (inClass (top 18) 20)
theorem sc_Amount_repr_ : FnScope ["self"] ["self"] (defScope s_Amount_repr_) := ⟨rfl, rfl, rfl, by decide +kernel, rfl, by decide +kernel, by decide +kernel⟩
abbrev s_Amounttop : Stmt := (inClass (top 18) 1)
theorem sc_Amounttop : FnScope ["self"] ["self"] (defScope s_Amounttop) := ⟨rfl, rfl, rfl, by decide +kernel, rfl, by decide +kernel, by decide +kernel⟩
abbrev s_pot : Stmt := (top 20)
theorem sc_pot : FnScope ["_law_script", "_law_k", "_law_cell"] ["_law_script", "_law_k"] (defScope s_pot) := ⟨rfl, rfl, rfl, by decide +kernel, rfl, by decide +kernel, by decide +kernel⟩
abbrev s_draw : Stmt := (top 21)
theorem sc_draw : FnScope ["_law_pot_here", "_law_size", "_law_digit"] ["_law_pot_here", "_law_size"] (defScope s_draw) := ⟨rfl, rfl, rfl, by decide +kernel, rfl, by decide +kernel, by decide +kernel⟩
abbrev s_choice : Stmt := (top 22)
theorem sc_choice : FnScope ["_law_pot_here", "_law_some"] ["_law_pot_here", "_law_some"] (defScope s_choice) := ⟨rfl, rfl, rfl, by decide +kernel, rfl, by decide +kernel, by decide +kernel⟩
abbrev s_number : Stmt := (top 23)
theorem sc_number : FnScope ["_law_pot_here", "_law_way", "_law_number_here"] ["_law_pot_here"] (defScope s_number) := ⟨rfl, rfl, rfl, by decide +kernel, rfl, by decide +kernel, by decide +kernel⟩
abbrev s_drawn : Stmt := (top 24)
theorem sc_drawn : FnScope ["_law_pot_here", "_law_bottom"] ["_law_pot_here"] (defScope s_drawn) := ⟨rfl, rfl, rfl, by decide +kernel, rfl, by decide +kernel, by decide +kernel⟩
abbrev s_divided : Stmt := (top 25)
theorem sc_divided : FnScope ["_law_one", "_law_other"] ["_law_one", "_law_other"] (defScope s_divided) := ⟨rfl, rfl, rfl, by decide +kernel, rfl, by decide +kernel, by decide +kernel⟩
abbrev s_near : Stmt := (top 26)
theorem sc_near : FnScope ["_law_top", "_law_bottom", "_law_sign_here", "_law_old", "_law_new", "_law_was", "_law_here", "_law_times", "_law_size"] ["_law_top", "_law_bottom", "_law_sign_here"] (defScope s_near) := ⟨rfl, rfl, rfl, by decide +kernel, rfl, by decide +kernel, by decide +kernel⟩
abbrev s_fractions : Stmt := (top 27)
theorem sc_fractions : FnScope ["_law_pot_here", "_law_top", "_law_bottom", "_law_both", "_law_found"] ["_law_pot_here"] (defScope s_fractions) := ⟨rfl, rfl, rfl, by decide +kernel, rfl, by decide +kernel, by decide +kernel⟩
abbrev s_sign : Stmt := (top 28)
theorem sc_sign : FnScope ["_law_one", "_law_other", "_law_less"] ["_law_one", "_law_other"] (defScope s_sign) := ⟨rfl, rfl, rfl, by decide +kernel, rfl, by decide +kernel, by decide +kernel⟩
abbrev s_pair_right : Stmt := (top 29)
theorem sc_pair_right : FnScope ["_law_one", "_law_other", "_law_sign_here", "_law_told"] ["_law_one", "_law_other", "_law_sign_here"] (defScope s_pair_right) := ⟨rfl, rfl, rfl, by decide +kernel, rfl, by decide +kernel, by decide +kernel⟩
abbrev s_alone_right : Stmt := (top 30)
theorem sc_alone_right : FnScope ["_law_made", "_law_fraction", "_law_things", "_law_thing"] ["_law_made", "_law_fraction"] (defScope s_alone_right) := ⟨rfl, rfl, rfl, by decide +kernel, rfl, by decide +kernel, by decide +kernel⟩
abbrev s_right : Stmt := (top 31)
theorem sc_right : FnScope ["_law_pot_here", "_law_fractions_here", "_law_top", "_law_bottom", "_law_made", "_law_greatest", "_law_least", "_law_k", "_law_fraction", "_law_j", "_law_other", "_law_signs"] ["_law_pot_here"] (defScope s_right) := ⟨rfl, rfl, rfl, by decide +kernel, rfl, by decide +kernel, by decide +kernel⟩
abbrev s_law : Stmt := (top 32)
theorem sc_law : FnScope ["_law_script", "_law_k"] ["_law_script"] (defScope s_law) := ⟨rfl, rfl, rfl, by decide +kernel, rfl, by decide +kernel, by decide +kernel⟩
structure Ad where
  f_is_integer : Addr
  d_is_integer : FuncData
  f_Amount_init_ : Addr
  d_Amount_init_ : FuncData
  f_Amount_eq_ : Addr
  d_Amount_eq_ : FuncData
  f_Amount_lt_ : Addr
  d_Amount_lt_ : FuncData
  f_Amount_le_ : Addr
  d_Amount_le_ : FuncData
  f_Amount_gt_ : Addr
  d_Amount_gt_ : FuncData
  f_Amount_ge_ : Addr
  d_Amount_ge_ : FuncData
  f_decimal : Addr
  d_decimal : FuncData
  f_Amount_str_ : Addr
  d_Amount_str_ : FuncData
  f_Amount_repr_ : Addr
  d_Amount_repr_ : FuncData
  f_Amounttop : Addr
  d_Amounttop : FuncData
  f_pot : Addr
  d_pot : FuncData
  f_draw : Addr
  d_draw : FuncData
  f_choice : Addr
  d_choice : FuncData
  f_number : Addr
  d_number : FuncData
  f_drawn : Addr
  d_drawn : FuncData
  f_divided : Addr
  d_divided : FuncData
  f_near : Addr
  d_near : FuncData
  f_fractions : Addr
  d_fractions : FuncData
  f_sign : Addr
  d_sign : FuncData
  f_pair_right : Addr
  d_pair_right : FuncData
  f_alone_right : Addr
  d_alone_right : FuncData
  f_right : Addr
  d_right : FuncData
  f_law : Addr
  d_law : FuncData
  c_Amount : Addr
  p_top : Addr
structure Txt (K : PySem.W.Frag) (mg : Str → Option Value) (a : Ad) : Prop where
  F_is_integer : Fun K "is_integer" "is_integer" s_is_integer a.f_is_integer a.d_is_integer
  m_is_integer : mg "is_integer" = some (.ref a.f_is_integer)
  F_Amount_init_ : FunD K "__init__" "Amount.__init__" (defArgs s_Amount_init_) (defBody s_Amount_init_) (defScope s_Amount_init_) [.int 1] [] a.f_Amount_init_ a.d_Amount_init_
  F_Amount_eq_ : Fun K "__eq__" "Amount.__eq__" s_Amount_eq_ a.f_Amount_eq_ a.d_Amount_eq_
  F_Amount_lt_ : Fun K "__lt__" "Amount.__lt__" s_Amount_lt_ a.f_Amount_lt_ a.d_Amount_lt_
  F_Amount_le_ : Fun K "__le__" "Amount.__le__" s_Amount_le_ a.f_Amount_le_ a.d_Amount_le_
  F_Amount_gt_ : Fun K "__gt__" "Amount.__gt__" s_Amount_gt_ a.f_Amount_gt_ a.d_Amount_gt_
  F_Amount_ge_ : Fun K "__ge__" "Amount.__ge__" s_Amount_ge_ a.f_Amount_ge_ a.d_Amount_ge_
  F_decimal : Fun K "_decimal" "_decimal" s_decimal a.f_decimal a.d_decimal
  m_decimal : mg "_decimal" = some (.ref a.f_decimal)
  F_Amount_str_ : Fun K "__str__" "Amount.__str__" s_Amount_str_ a.f_Amount_str_ a.d_Amount_str_
  F_Amount_repr_ : Fun K "__repr__" "Amount.__repr__" s_Amount_repr_ a.f_Amount_repr_ a.d_Amount_repr_
  F_Amounttop : Fun K "top" "Amount.top" s_Amounttop a.f_Amounttop a.d_Amounttop
  F_pot : Fun K "_law_pot" "_law_pot" s_pot a.f_pot a.d_pot
  m_pot : mg "_law_pot" = some (.ref a.f_pot)
  F_draw : Fun K "_law_draw" "_law_draw" s_draw a.f_draw a.d_draw
  m_draw : mg "_law_draw" = some (.ref a.f_draw)
  F_choice : Fun K "_law_choice" "_law_choice" s_choice a.f_choice a.d_choice
  m_choice : mg "_law_choice" = some (.ref a.f_choice)
  F_number : Fun K "_law_number" "_law_number" s_number a.f_number a.d_number
  m_number : mg "_law_number" = some (.ref a.f_number)
  F_drawn : Fun K "_law_drawn" "_law_drawn" s_drawn a.f_drawn a.d_drawn
  m_drawn : mg "_law_drawn" = some (.ref a.f_drawn)
  F_divided : Fun K "_law_divided" "_law_divided" s_divided a.f_divided a.d_divided
  m_divided : mg "_law_divided" = some (.ref a.f_divided)
  F_near : Fun K "_law_near" "_law_near" s_near a.f_near a.d_near
  m_near : mg "_law_near" = some (.ref a.f_near)
  F_fractions : Fun K "_law_fractions" "_law_fractions" s_fractions a.f_fractions a.d_fractions
  m_fractions : mg "_law_fractions" = some (.ref a.f_fractions)
  F_sign : Fun K "_law_sign" "_law_sign" s_sign a.f_sign a.d_sign
  m_sign : mg "_law_sign" = some (.ref a.f_sign)
  F_pair_right : Fun K "_law_pair_right" "_law_pair_right" s_pair_right a.f_pair_right a.d_pair_right
  m_pair_right : mg "_law_pair_right" = some (.ref a.f_pair_right)
  F_alone_right : Fun K "_law_alone_right" "_law_alone_right" s_alone_right a.f_alone_right a.d_alone_right
  m_alone_right : mg "_law_alone_right" = some (.ref a.f_alone_right)
  F_right : Fun K "_law_right" "_law_right" s_right a.f_right a.d_right
  m_right : mg "_law_right" = some (.ref a.f_right)
  F_law : Fun K "law" "law" s_law a.f_law a.d_law
  m_law : mg "law" = some (.ref a.f_law)
  cl : Cls K a.c_Amount
  nT : NoAttr K a.c_Amount "_top"
  nB : NoAttr K a.c_Amount "_bottom"
  mA : mg "Amount" = some (.ref a.c_Amount)
  mkA : Mk K a.c_Amount a.f_Amount_init_
  m_gcd : mg "gcd" = some (.builtin "math.gcd")
  I : Inst K a.c_Amount
  pTop : PropOf K a.c_Amount "top" a.p_top a.f_Amounttop
  gPart : ∃ t, mg "PART" = some (.int (10 ^ 60) t)
  cEq : OwnM K a.c_Amount "__eq__" a.f_Amount_eq_
  cLt : OwnM K a.c_Amount "__lt__" a.f_Amount_lt_
  cLe : OwnM K a.c_Amount "__le__" a.f_Amount_le_
  cGt : OwnM K a.c_Amount "__gt__" a.f_Amount_gt_
  cGe : OwnM K a.c_Amount "__ge__" a.f_Amount_ge_
  cSt : OwnM K a.c_Amount "__str__" a.f_Amount_str_
  cRe : OwnM K a.c_Amount "__repr__" a.f_Amount_repr_
  cNe : PySem.W.findIn K (.ref a.c_Amount) "__ne__" = some (some (.builtin "object.__ne__"))
  b_len : mg "len" = none
  b_abs : mg "abs" = none
  b_max : mg "max" = none
  b_min : mg "min" = none
  b_int : mg "int" = none
  b_divmod : mg "divmod" = none
  b_all : mg "all" = none
  b_repr : mg "repr" = none
  b_isinstance : mg "isinstance" = none
  b_str : mg "str" = none
  b_range : mg "range" = none
  b_enumerate : mg "enumerate" = none
  b_bool : mg "bool" = none
theorem b_is_integer {K : PySem.W.Frag} {mg : Str → Option Value} {a : Ad} (T : Txt K mg a) : Binds K a.d_is_integer ["value"] [] := T.F_is_integer.binds (ps := ["value"]) fun _ _ _ _ _ _ us hl => match us, hl with | [_], _ => rfl
theorem b_Amount_init_ {K : PySem.W.Frag} {mg : Str → Option Value} {a : Ad} (T : Txt K mg a) : Binds K a.d_Amount_init_ ["self", "top", "bottom"] [] := by
  obtain ⟨ds, r, b⟩ := T.F_Amount_init_.binds1 (ps := ["self", "top", "bottom"]) 3 1 (by simp) rfl (fun _ _ _ _ _ _ _ us its h1 h2 => match us, its, h1, h2 with | [_, _, _], [_], _, _ => ⟨_, rfl, rfl⟩)
  cases r
  exact b
theorem b_Amount_eq_ {K : PySem.W.Frag} {mg : Str → Option Value} {a : Ad} (T : Txt K mg a) : Binds K a.d_Amount_eq_ ["self", "other"] [] := T.F_Amount_eq_.binds (ps := ["self", "other"]) fun _ _ _ _ _ _ us hl => match us, hl with | [_, _], _ => rfl
theorem b_Amount_lt_ {K : PySem.W.Frag} {mg : Str → Option Value} {a : Ad} (T : Txt K mg a) : Binds K a.d_Amount_lt_ ["self", "other"] [] := T.F_Amount_lt_.binds (ps := ["self", "other"]) fun _ _ _ _ _ _ us hl => match us, hl with | [_, _], _ => rfl
theorem b_Amount_le_ {K : PySem.W.Frag} {mg : Str → Option Value} {a : Ad} (T : Txt K mg a) : Binds K a.d_Amount_le_ ["self", "other"] [] := T.F_Amount_le_.binds (ps := ["self", "other"]) fun _ _ _ _ _ _ us hl => match us, hl with | [_, _], _ => rfl
theorem b_Amount_gt_ {K : PySem.W.Frag} {mg : Str → Option Value} {a : Ad} (T : Txt K mg a) : Binds K a.d_Amount_gt_ ["self", "other"] [] := T.F_Amount_gt_.binds (ps := ["self", "other"]) fun _ _ _ _ _ _ us hl => match us, hl with | [_, _], _ => rfl
theorem b_Amount_ge_ {K : PySem.W.Frag} {mg : Str → Option Value} {a : Ad} (T : Txt K mg a) : Binds K a.d_Amount_ge_ ["self", "other"] [] := T.F_Amount_ge_.binds (ps := ["self", "other"]) fun _ _ _ _ _ _ us hl => match us, hl with | [_, _], _ => rfl
theorem b_decimal {K : PySem.W.Frag} {mg : Str → Option Value} {a : Ad} (T : Txt K mg a) : Binds K a.d_decimal ["number"] [] := T.F_decimal.binds (ps := ["number"]) fun _ _ _ _ _ _ us hl => match us, hl with | [_], _ => rfl
theorem b_Amount_str_ {K : PySem.W.Frag} {mg : Str → Option Value} {a : Ad} (T : Txt K mg a) : Binds K a.d_Amount_str_ ["self"] [] := T.F_Amount_str_.binds (ps := ["self"]) fun _ _ _ _ _ _ us hl => match us, hl with | [_], _ => rfl
theorem b_Amount_repr_ {K : PySem.W.Frag} {mg : Str → Option Value} {a : Ad} (T : Txt K mg a) : Binds K a.d_Amount_repr_ ["self"] [] := T.F_Amount_repr_.binds (ps := ["self"]) fun _ _ _ _ _ _ us hl => match us, hl with | [_], _ => rfl
theorem b_Amounttop {K : PySem.W.Frag} {mg : Str → Option Value} {a : Ad} (T : Txt K mg a) : Binds K a.d_Amounttop ["self"] [] := T.F_Amounttop.binds (ps := ["self"]) fun _ _ _ _ _ _ us hl => match us, hl with | [_], _ => rfl
theorem b_pot {K : PySem.W.Frag} {mg : Str → Option Value} {a : Ad} (T : Txt K mg a) : Binds K a.d_pot ["_law_script", "_law_k"] [] := T.F_pot.binds (ps := ["_law_script", "_law_k"]) fun _ _ _ _ _ _ us hl => match us, hl with | [_, _], _ => rfl
theorem b_draw {K : PySem.W.Frag} {mg : Str → Option Value} {a : Ad} (T : Txt K mg a) : Binds K a.d_draw ["_law_pot_here", "_law_size"] [] := T.F_draw.binds (ps := ["_law_pot_here", "_law_size"]) fun _ _ _ _ _ _ us hl => match us, hl with | [_, _], _ => rfl
theorem b_choice {K : PySem.W.Frag} {mg : Str → Option Value} {a : Ad} (T : Txt K mg a) : Binds K a.d_choice ["_law_pot_here", "_law_some"] [] := T.F_choice.binds (ps := ["_law_pot_here", "_law_some"]) fun _ _ _ _ _ _ us hl => match us, hl with | [_, _], _ => rfl
theorem b_number {K : PySem.W.Frag} {mg : Str → Option Value} {a : Ad} (T : Txt K mg a) : Binds K a.d_number ["_law_pot_here"] [] := T.F_number.binds (ps := ["_law_pot_here"]) fun _ _ _ _ _ _ us hl => match us, hl with | [_], _ => rfl
theorem b_drawn {K : PySem.W.Frag} {mg : Str → Option Value} {a : Ad} (T : Txt K mg a) : Binds K a.d_drawn ["_law_pot_here"] [] := T.F_drawn.binds (ps := ["_law_pot_here"]) fun _ _ _ _ _ _ us hl => match us, hl with | [_], _ => rfl
theorem b_divided {K : PySem.W.Frag} {mg : Str → Option Value} {a : Ad} (T : Txt K mg a) : Binds K a.d_divided ["_law_one", "_law_other"] [] := T.F_divided.binds (ps := ["_law_one", "_law_other"]) fun _ _ _ _ _ _ us hl => match us, hl with | [_, _], _ => rfl
theorem b_near {K : PySem.W.Frag} {mg : Str → Option Value} {a : Ad} (T : Txt K mg a) : Binds K a.d_near ["_law_top", "_law_bottom", "_law_sign_here"] [] := T.F_near.binds (ps := ["_law_top", "_law_bottom", "_law_sign_here"]) fun _ _ _ _ _ _ us hl => match us, hl with | [_, _, _], _ => rfl
theorem b_fractions {K : PySem.W.Frag} {mg : Str → Option Value} {a : Ad} (T : Txt K mg a) : Binds K a.d_fractions ["_law_pot_here"] [] := T.F_fractions.binds (ps := ["_law_pot_here"]) fun _ _ _ _ _ _ us hl => match us, hl with | [_], _ => rfl
theorem b_sign {K : PySem.W.Frag} {mg : Str → Option Value} {a : Ad} (T : Txt K mg a) : Binds K a.d_sign ["_law_one", "_law_other"] [] := T.F_sign.binds (ps := ["_law_one", "_law_other"]) fun _ _ _ _ _ _ us hl => match us, hl with | [_, _], _ => rfl
theorem b_pair_right {K : PySem.W.Frag} {mg : Str → Option Value} {a : Ad} (T : Txt K mg a) : Binds K a.d_pair_right ["_law_one", "_law_other", "_law_sign_here"] [] := T.F_pair_right.binds (ps := ["_law_one", "_law_other", "_law_sign_here"]) fun _ _ _ _ _ _ us hl => match us, hl with | [_, _, _], _ => rfl
theorem b_alone_right {K : PySem.W.Frag} {mg : Str → Option Value} {a : Ad} (T : Txt K mg a) : Binds K a.d_alone_right ["_law_made", "_law_fraction"] [] := T.F_alone_right.binds (ps := ["_law_made", "_law_fraction"]) fun _ _ _ _ _ _ us hl => match us, hl with | [_, _], _ => rfl
theorem b_right {K : PySem.W.Frag} {mg : Str → Option Value} {a : Ad} (T : Txt K mg a) : Binds K a.d_right ["_law_pot_here"] [] := T.F_right.binds (ps := ["_law_pot_here"]) fun _ _ _ _ _ _ us hl => match us, hl with | [_], _ => rfl
theorem b_law {K : PySem.W.Frag} {mg : Str → Option Value} {a : Ad} (T : Txt K mg a) : Binds K a.d_law ["_law_script"] [] := T.F_law.binds (ps := ["_law_script"]) fun _ _ _ _ _ _ us hl => match us, hl with | [_], _ => rfl
end K12

set_option Elab.async false
set_option linter.all false
set_option maxRecDepth 100000
set_option maxHeartbeats 4000000
namespace K12
open PySem L2 Lb
def sp_pot (K : PySem.W.Frag) : Sp := fun vs H Q _ => ∃ (sc : Addr) (ns : List Int) (k : Nat), vs = [.ref sc, .int k] ∧ SqL K H sc (ns.map V.int) ∧ ns.length ≤ 63 ∧ k ≤ 1000 ∧
  ∀ H' p, Same H H' → H p = none → PotAt H' p → Q (.ref p) H'
def sp_draw : Sp := fun vs H Q _ => ∃ (p : Addr) (n : Int), vs = [.ref p, .int n] ∧ PotAt H p ∧ 0 < n ∧ Bd 200 n ∧
  ∀ H' d, Mov p H H' → 0 ≤ d → d < n → Q (.int d) H'
def sp_choice (K : PySem.W.Frag) : Sp := fun vs H Q _ => ∃ (p l : Addr) (xs : List V), vs = [.ref p, .ref l] ∧ PotAt H p ∧ SqL K H l xs ∧ l ≠ p ∧ 0 < xs.length ∧ xs.length ≤ 1000 ∧
  ∀ H' (i : Nat) v, Mov p H H' → xs[i]? = some v → Q v H'
section
variable {P : Program} {w : World} {K : PySem.W.Frag} {mg : Str → Option Value} {base : Heap} {a : Ad}
theorem ok_pot (T : Txt K mg a) : FnOk P w K mg base CX0 1 a.f_pot a.d_pot ["_law_script", "_law_k"] (sp_pot K) := by
  refine T.F_pot.ok sc_pot (fun vs H Q E h => ?_) (fun cdv A outer s H vs Q E hr h => ?_)
  · obtain ⟨sc, ns, k, rfl, _⟩ := h
    rfl
  · obtain ⟨sc, ns, k, rfl, hS, hlen, hk, q⟩ := h
    have fin : ∀ c : Int, 0 ≤ c → ∀ p, H p = none → Q (.ref p) (upd H p (.lst [.int (if c - 10 ^ (18 : Int).toNat > 0 then c - 10 ^ (18 : Int).toNat else 0), .int ((c % 2147483563 * 40693 + 6151 * (k : Int) + 29) % 2147483629 + 1)])) := by
      intro c hc p hp
      refine q _ p (Lb.Same.upd hp) hp ⟨_, _, upd_same, ?_, ?_, ?_⟩
      · split <;> omega
      · omega
      · omega
    refine ⟨_, (pss_cons (ps_set (i := 2) sc_pot.nd rfl (by first | exact Or.inl rfl | exact Or.inr rfl) (pe_op op_add (pe_op op_mulX pe_int (pv 1)) pe_int))
 (pss_cons (ps_if (pt_cmpR op_lt (pv 1) (pe_callB (call_lenK (K := K) rfl) (by rfl) T.b_len (by decide +kernel) (pa_cons (pv 0) pa_nil)) (nomark _)) (pss_one (ps_set (i := 2) sc_pot.nd rfl (by first | exact Or.inl rfl | exact Or.inr rfl) (pe_callB call_abs (by rfl) T.b_abs (by decide +kernel) (pa_cons (pe_ix (ix_listK (K := K) rfl) (pv 0) (pv 1) (fun _ _ => rfl)) pa_nil)))) pss_nil)
 (pss_one (ps_ret (pe_lst (pa_cons (pe_callB (call_max2 rfl) (by rfl) T.b_max (by decide +kernel) (pa_cons pe_int (pa_cons (pe_op op_sub (pv 2) (pe_op op_pow pe_int pe_int)) pa_nil))) (pa_cons (pe_op op_add (pe_op op_mod (pe_callTy call_int1 (by rfl) T.b_int (by decide +kernel) (pa_cons (pe_op op_add (pe_op op_add (pe_op op_mulX (pe_op op_mod (pe_callTy call_int1 (by rfl) T.b_int (by decide +kernel) (pa_cons (pv 2) pa_nil)) pe_int) pe_int) (pe_op op_mulX pe_int (pv 1))) pe_int) pa_nil)) pe_int) pe_int) pa_nil))))))), ?_⟩
    refine ⟨_, rfl, _, _, rfl, rfl, mulx_ok (a := 100) (b := 100) (by decide) (by omega) (by decide), _, _, rfl, rfl, ?_⟩
    -- if k < len(script)
    refine ⟨_, rfl, _, rfl, _, _, rfl, .inl hS, _, _, rfl, rfl, _, rfl, ?_⟩
    rw [List.length_map]
    refine ite2 (fun hlt => ?_) (fun _ => ?_)
    · have hlt' : k < ns.length := by simpa using hlt
      have hget : (ns.map V.int)[k]? = some (V.int ns[k]) := by simp [hlt']
      refine ⟨_, rfl, _, rfl, _, _, _, _, rfl, rfl, hS, atI_nat hget, _, rfl, ?_⟩
      refine ⟨_, rfl, _, _, rfl, rfl, ⟨by decide, by decide, by decide⟩, _, _, rfl, rfl, _, _, rfl, ?_⟩
      refine ⟨_, rfl, .inl ⟨_, rfl, _, _, rfl, rfl, (by show (0 : Int) < _; decide), _, _, rfl, rfl, mulx_ok (a := 100) (b := 100) (by omega) (by decide) (by decide), ?_⟩⟩
      refine ⟨_, rfl, _, _, rfl, rfl, mulx_ok (a := 100) (b := 100) (by decide) (by omega) (by decide), _, _, rfl, rfl, _, _, rfl, rfl, ?_⟩
      refine .inl ⟨_, rfl, _, _, rfl, rfl, (by show (0 : Int) < _; decide), _, _, rfl, rfl, sz, fun p hp => ?_⟩
      exact fin _ (by split <;> omega) p hp
    · refine ⟨_, rfl, _, _, rfl, rfl, ⟨by decide, by decide, by decide⟩, _, _, rfl, rfl, _, _, rfl, ?_⟩
      refine ⟨_, rfl, .inl ⟨_, rfl, _, _, rfl, rfl, (by show (0 : Int) < _; decide), _, _, rfl, rfl, mulx_ok (a := 100) (b := 100) (by omega) (by decide) (by decide), ?_⟩⟩
      refine ⟨_, rfl, _, _, rfl, rfl, mulx_ok (a := 100) (b := 100) (by decide) (by omega) (by decide), _, _, rfl, rfl, _, _, rfl, rfl, ?_⟩
      refine .inl ⟨_, rfl, _, _, rfl, rfl, (by show (0 : Int) < _; decide), _, _, rfl, rfl, sz, fun p hp => ?_⟩
      exact fin _ (by omega) p hp

theorem ok_draw (T : Txt K mg a) : FnOk P w K mg base CX0 1 a.f_draw a.d_draw ["_law_pot_here", "_law_size"] sp_draw := by
  refine T.F_draw.ok sc_draw (fun vs H Q E h => ?_) (fun cdv A outer s H vs Q E hr h => ?_)
  · obtain ⟨p, n, rfl, _⟩ := h
    rfl
  · obtain ⟨p, n, rfl, ⟨x, y, hp, hx, hy0, hy1⟩, hn, hb, q⟩ := h
    have S := SqL.of (K := K) hp
    have e0 : atI ([.int x, .int y] : List V) ((0 : Nat) : Int) = some (.int x) := atI_nat rfl
    have e1 : atI ([.int x, .int y] : List V) ((1 : Nat) : Int) = some (.int y) := atI_nat rfl
    refine ⟨_, (pss_cons (ps_if (pt_cmpR op_gt (pe_ix (ix_listK (K := K) rfl) (pv 0) pe_int (fun _ _ => rfl)) pe_int (nomark _)) (pss_cons (ps_asg (pe_callB call_divmodW (by rfl) T.b_divmod (by decide +kernel) (pa_cons (pe_ix (ix_listK (K := K) rfl) (pv 0) pe_int (fun _ _ => rfl)) (pa_cons (pv 1) pa_nil))) (pg_tupK (K := K) (n := 2) rfl rfl (pgs_cons (pg_sub (pv 0) pe_int set_list) (pgs_cons (pg_name (i := 2) sc_draw.nd rfl (by first | exact Or.inl rfl | exact Or.inr rfl)) pgs_nil))))
 (pss_one (ps_ret (pv 2)))) pss_nil)
 (pss_cons (ps_asg (pe_op op_mod (pe_callTy call_int1 (by rfl) T.b_int (by decide +kernel) (pa_cons (pe_op op_add (pe_op op_mulX (pe_ix (ix_listK (K := K) rfl) (pv 0) pe_int (fun _ _ => rfl)) pe_int) pe_int) pa_nil)) pe_int) (pg_sub (pv 0) pe_int set_list))
 (pss_one (ps_ret (pe_op op_mod (pe_callTy call_int1 (by rfl) T.b_int (by decide +kernel) (pa_cons (pe_op op_fdivW (pe_op op_mod (pe_callTy call_int1 (by rfl) T.b_int (by decide +kernel) (pa_cons (pe_op op_mulX (pe_ix (ix_listK (K := K) rfl) (pv 0) pe_int (fun _ _ => rfl)) (pe_ix (ix_listK (K := K) rfl) (pv 0) pe_int (fun _ _ => rfl))) pa_nil)) pe_int) pe_int) pa_nil)) (pv 1)))))), ?_⟩
    refine ⟨_, rfl, _, _, _, _, rfl, rfl, S, e0, _, _, rfl, rfl, _, rfl, ?_⟩
    refine ite2 (fun hlt => ?_) (fun _ => ?_)
    · have hlt : 0 < x := by simpa using hlt
      refine ⟨_, rfl, _, _, _, _, rfl, rfl, S, e0, _, rfl, _, _, rfl, divp_small hn (hb.mono (by decide)), fun t ht => ?_⟩
      have npt : p ≠ t := ne_of_none hp ht
      refine ⟨_, _, rfl, SqT.of upd_same, rfl, ?_⟩
      have hp2 : upd H t (.tup [.int (x / n), .int (x % n)]) p = some (.lst [.int x, .int y]) := by rw [upd_ne npt]; exact hp
      refine ⟨_, _, rfl, ⟨_, rfl, _, _, _, 0, rfl, rfl, hp2, rfl, _, _, rfl, ⟨rfl, ?_⟩⟩⟩
      refine ⟨_, rfl, ?_⟩
      refine q _ _ ⟨fun b o nb e => ?_, _, _, upd_same, Int.ediv_nonneg hx (by omega), hy0, hy1⟩ (Int.emod_nonneg _ (by omega)) (Int.emod_lt_of_pos _ hn)
      rw [upd_ne nb, upd_ne (ne_of_none e ht)]
      exact e
    · refine ⟨_, rfl, _, _, _, _, rfl, rfl, S, e1, _, _, rfl, rfl, mulx_ok (a := 100) (b := 100) (by omega) (by decide) (by decide), _, _, rfl, rfl, .inl ⟨_, rfl, _, _, rfl, rfl, (by show (0 : Int) < _; decide), ?_⟩⟩
      refine ⟨_, rfl, _, _, _, 1, rfl, rfl, hp, rfl, ?_⟩
      have e2 : ∀ z : Int, atI ([.int x, .int z] : List V) ((1 : Nat) : Int) = some (.int z) := fun z => atI_nat rfl
      have S2 : ∀ z : Int, SqL K (upd H p (.lst ([V.int x, V.int y].set 1 (.int z)))) p [.int x, .int z] := fun z => SqL.of upd_same
      refine ⟨_, rfl, _, _, _, _, rfl, rfl, S2 _, e2 _, _, rfl, _, _, _, _, rfl, rfl, S2 _, e2 _, _, _, rfl, rfl, mulx_ok (a := 100) (b := 100) (by omega) (by omega) (by decide), ?_⟩
      refine .inl ⟨_, rfl, _, _, rfl, rfl, (by show (0 : Int) < _; decide), _, _, rfl, rfl, ⟨(by show (0 : Int) < _; decide), (by decide)⟩, .inl ⟨_, rfl, _, rfl, _, _, rfl, rfl, hn, ?_⟩⟩
      refine q _ _ ⟨fun b o nb e => ?_, _, _, upd_same, hx, by omega, by omega⟩ (Int.emod_nonneg _ (by omega)) (Int.emod_lt_of_pos _ hn)
      rw [upd_ne nb]
      exact e
end
end K12

set_option Elab.async false
set_option linter.all false
set_option maxRecDepth 100000
set_option maxHeartbeats 4000000
namespace K12
open PySem L2 Lb
def sp_number : Sp := fun vs H Q _ => ∃ (p : Addr), vs = [.ref p] ∧ PotAt H p ∧ ∀ H' d, Mov p H H' → Bd 60 d → Q (.int d) H'


def sp_drawn : Sp := fun vs H Q _ => ∃ (p : Addr), vs = [.ref p] ∧ PotAt H p ∧
  ∀ H' q t b, Mov p H H' → H q = none → Fr H' q t b → Bd 60 t → 1 ≤ b → b ≤ 1000000000 → Q (.ref q) H'
section
variable {P : Program} {w : World} {K : PySem.W.Frag} {mg : Str → Option Value} {base : Heap} {a : Ad}
theorem ok_choice (T : Txt K mg a) : FnOk P w K mg base CX0 2 a.f_choice a.d_choice ["_law_pot_here", "_law_some"] (sp_choice K) := by
  refine T.F_choice.ok sc_choice (fun vs H Q E h => ?_) (fun cdv A outer s H vs Q E hr h => ?_)
  · obtain ⟨p, l, xs, rfl, _⟩ := h
    rfl
  · obtain ⟨p, l, xs, rfl, hp, hS, hne, h0, h1, q⟩ := h
    refine ⟨_, (pss_one (ps_ret (pe_ix (ix_listK (K := K) rfl) (pv 1) (pe_call (ok_draw T) (hr.mono (by decide)) (by rfl) T.m_draw T.F_draw.kp (b_draw T) .nil pass0 (pa_cons (pv 0) (pa_cons (pe_callB (call_lenK (K := K) rfl) (by rfl) T.b_len (by decide +kernel) (pa_cons (pv 1) pa_nil)) pa_nil))) (fun _ _ => rfl)))), ?_⟩
    refine ⟨_, rfl, _, rfl, _, rfl, _, _, rfl, .inl hS, ?_⟩
    refine ⟨p, _, rfl, hp, by omega, by unfold Bd; omega, fun H' d m d0 d1 => ?_⟩
    have hi : d.toNat < xs.length := by omega
    have e : atI xs d = some xs[d.toNat] := by
      have := atI_nat (xs := xs) (j := d.toNat) (List.getElem?_eq_getElem hi)
      rwa [Int.toNat_of_nonneg d0] at this
    exact ⟨_, _, _, _, rfl, rfl, SqL.mov m hne hS, e, q _ _ _ m (List.getElem?_eq_getElem hi)⟩
theorem ok_number (T : Txt K mg a) : FnOk P w K mg base CX0 2 a.f_number a.d_number ["_law_pot_here"] sp_number := by
  refine T.F_number.ok sc_number (fun vs H Q E h => ?_) (fun cdv A outer s H vs Q E hr h => ?_)
  · obtain ⟨p, rfl, _⟩ := h
    rfl
  · obtain ⟨p, rfl, hp, q⟩ := h
    refine ⟨_, (pss_cons (ps_set (i := 1) sc_number.nd rfl (by first | exact Or.inl rfl | exact Or.inr rfl) (pe_call (ok_draw T) (hr.mono (by decide)) (by rfl) T.m_draw T.F_draw.kp (b_draw T) .nil pass0 (pa_cons (pv 0) (pa_cons pe_int pa_nil))))
 (pss_cons (ps_if (pt_cmpR op_lt (pv 1) pe_int (nomark _)) (pss_one (ps_ret (pe_op op_sub (pe_call (ok_draw T) (hr.mono (by decide)) (by rfl) T.m_draw T.F_draw.kp (b_draw T) .nil pass0 (pa_cons (pv 0) (pa_cons pe_int pa_nil))) pe_int))) pss_nil)
 (pss_cons (ps_set (i := 2) sc_number.nd rfl (by first | exact Or.inl rfl | exact Or.inr rfl) (pe_op op_add (pe_op op_mulX (pe_call (ok_draw T) (hr.mono (by decide)) (by rfl) T.m_draw T.F_draw.kp (b_draw T) .nil pass0 (pa_cons (pv 0) (pa_cons (pe_op op_pow pe_int pe_int) pa_nil))) (pe_op op_pow pe_int pe_int)) (pe_call (ok_draw T) (hr.mono (by decide)) (by rfl) T.m_draw T.F_draw.kp (b_draw T) .nil pass0 (pa_cons (pv 0) (pa_cons (pe_op op_pow pe_int pe_int) pa_nil)))))
 (pss_one (ps_ret (pe_ifExp (pt_cmpR op_eq (pv 1) pe_int (nomark _)) (pv 2) (pe_un un_neg (pv 2)))))))), ?_⟩
    refine ⟨_, rfl, p, _, rfl, hp, by decide, by unfold Bd; decide, fun H1 d m d0 d1 => ?_⟩
    refine ⟨_, rfl, _, _, rfl, rfl, _, rfl, ?_⟩
    refine ite2 (fun hlt => ?_) (fun _ => ?_)
    · refine ⟨_, rfl, p, _, rfl, m.pot, by decide, by unfold Bd; decide, fun H2 e m2 e0 e1 => ?_⟩
      exact ⟨_, _, rfl, rfl, q _ _ (m.trans m2) (by unfold Bd; omega)⟩
    · refine ⟨_, rfl, _, _, rfl, rfl, ⟨by decide, by decide, by decide⟩, p, _, rfl, m.pot, by decide, by unfold Bd; decide, fun H2 e m2 e0 e1 => ?_⟩
      have e1' : e < 100000000 := e1
      refine ⟨_, _, rfl, rfl, ⟨by decide, by decide, by decide⟩, _, _, rfl, rfl, mulx_ok (a := 100) (b := 100) (by omega) (by decide) (by decide), ?_⟩
      refine ⟨_, rfl, _, _, rfl, rfl, ⟨by decide, by decide, by decide⟩, p, _, rfl, m2.pot, by decide, by unfold Bd; decide, fun H3 f m3 f0 f1 => ?_⟩
      have f1' : f < 1000000000 := f1
      have bb : Bd 60 (e * 1000000000 + f) := by unfold Bd; omega
      refine ⟨_, _, rfl, rfl, _, rfl, rfl, _, rfl, ?_⟩
      refine ite2 (fun _ => ?_) (fun _ => ?_)
      · exact ⟨_, rfl, q _ _ ((m.trans m2).trans m3) bb⟩
      · exact ⟨_, rfl, _, rfl, q _ _ ((m.trans m2).trans m3) bb.neg⟩
theorem ok_drawn (T : Txt K mg a) : FnOk P w K mg base CX0 3 a.f_drawn a.d_drawn ["_law_pot_here"] sp_drawn := by
  refine T.F_drawn.ok sc_drawn (fun vs H Q E h => ?_) (fun cdv A outer s H vs Q E hr h => ?_)
  · obtain ⟨p, rfl, _⟩ := h
    rfl
  · obtain ⟨p, rfl, hp, q⟩ := h
    refine ⟨_, (pss_cons (ps_set (i := 1) sc_drawn.nd rfl (by first | exact Or.inl rfl | exact Or.inr rfl) (pe_call (ok_choice T) (hr.mono (by decide)) (by rfl) T.m_choice T.F_choice.kp (b_choice T) .nil pass0 (pa_cons (pv 0) (pa_cons (pe_lst (pa_cons pe_int (pa_cons pe_int (pa_cons (pe_op op_add pe_int (pe_call (ok_draw T) (hr.mono (by decide)) (by rfl) T.m_draw T.F_draw.kp (b_draw T) .nil pass0 (pa_cons (pv 0) (pa_cons pe_int pa_nil)))) (pa_cons (pe_op op_add pe_int (pe_call (ok_draw T) (hr.mono (by decide)) (by rfl) T.m_draw T.F_draw.kp (b_draw T) .nil pass0 (pa_cons (pv 0) (pa_cons (pe_op op_pow pe_int pe_int) pa_nil)))) pa_nil))))) pa_nil))))
 (pss_one (ps_ret (pe_tup (pa_cons (pe_call (ok_number T) (hr.mono (by decide)) (by rfl) T.m_number T.F_number.kp (b_number T) .nil pass0 (pa_cons (pv 0) pa_nil)) (pa_cons (pv 1) pa_nil)))))), ?_⟩
    refine ⟨_, rfl, _, rfl, p, _, rfl, hp, by decide, by unfold Bd; decide, fun H1 d m d0 d1 => ?_⟩
    refine ⟨_, _, rfl, rfl, _, rfl, _, _, rfl, rfl, ⟨by decide, by decide, by decide⟩, p, _, rfl, m.pot, by decide, by unfold Bd; decide, fun H2 e m2 e0 e1 => ?_⟩
    have e1' : e < 1000000000 := e1
    refine ⟨_, _, rfl, rfl, sz, fun l hl => ?_⟩
    have m12 := m.trans m2
    obtain ⟨x, y, hp2, _⟩ := id m12.pot
    have nlp : l ≠ p := (ne_of_none hp2 hl).symm
    have mu : Mov p H (upd H2 l (.lst [V.int 1, V.int 1, V.int (1 + d), V.int (1 + e)])) := m12.same (Lb.Same.upd hl)
    refine ⟨p, l, _, rfl, mu.pot, SqL.of upd_same, nlp, Nat.succ_pos _, (by show 4 ≤ 1000; decide), fun H3 i v m3 hv => ?_⟩
    have hvb : ∃ b : Int, v = .int b ∧ 1 ≤ b ∧ b ≤ 1000000000 := by
      match i, hv with
      | 0, hv => exact ⟨1, (Option.some.inj hv).symm, by decide, by decide⟩
      | 1, hv => exact ⟨1, (Option.some.inj hv).symm, by decide, by decide⟩
      | 2, hv => exact ⟨1 + d, (Option.some.inj hv).symm, by omega, by omega⟩
      | 3, hv => exact ⟨1 + e, (Option.some.inj hv).symm, by omega, by omega⟩
      | n + 4, hv => cases hv
    obtain ⟨b, rfl, b0, b1⟩ := hvb
    have m03 := mu.trans m3
    refine ⟨_, rfl, p, rfl, m3.pot, fun H4 t m4 bt => ?_⟩
    refine ⟨_, rfl, sz, fun r hr => ?_⟩
    have m04 := m03.trans m4
    exact q _ r t b (m04.same (Lb.Same.upd hr)) (m04.free hp hr) upd_same bt b0 b1
end
end K12

set_option Elab.async false
set_option linter.all false
set_option maxRecDepth 100000
set_option maxHeartbeats 4000000
namespace K12
open PySem L2 Lb
def ivals : St → Nat → Int := fun σ i => match σ[i]? with
  | some (some (.int y)) => y
  | _ => 0
def sp_divided : Sp := fun vs H Q _ => ∃ (x y : Int), vs = [.int x, .int y] ∧ Q (.int ((Nat.gcd x.natAbs y.natAbs : Nat) : Int)) H
def sp_near : Sp := fun vs H Q _ => ∃ (t b s : Int), vs = [.int t, .int b, .int s] ∧ Bd 62 t ∧ 1 ≤ b ∧ b ≤ 1000000000 ∧ Nat.gcd t.natAbs b.natAbs = 1 ∧ (s = 1 ∨ s = -1) ∧
  ∀ H' q t' b', Same H H' → H q = none → Fr H' q t' b' → Bd 120 t' → 1 ≤ b' → Bd 40 b' → Q (.ref q) H'
theorem gcd_mod (t b : Int) : (t % b).gcd b = t.gcd b := by
  rw [Int.gcd_left_eq_iff]
  intro c hc
  have e := Int.emod_add_mul_ediv t b
  obtain ⟨k, hk⟩ := hc
  constructor
  · rintro ⟨m, hm⟩
    exact ⟨m + k * (t / b), by rw [← e, hm]; grind⟩
  · rintro ⟨m, hm⟩
    exact ⟨m - k * (t / b), by grind⟩
/-- what the loop of near keeps -/
structure NearI (t b o n w h : Int) : Prop where
  ex : ∃ s O N : Int, (s = 1 ∨ s = -1) ∧ n = s * N ∧ o = -(s * O) ∧ 1 ≤ N ∧ 0 ≤ O ∧ N * w + O * h = b
  hw : 2 ≤ w
  h0 : 0 ≤ h
  lt : h < w
  g : Nat.gcd w.natAbs h.natAbs = 1
  c1 : ∃ z, n * t = h + z * b
  c2 : ∃ z, o * t = w + z * b
theorem near_start {t b : Int} (hb : 2 ≤ b) (g : Nat.gcd t.natAbs b.natAbs = 1) : NearI t b 0 1 b (t % b) := by
  refine ⟨⟨1, 0, 1, .inl rfl, by omega, by omega, by omega, by omega, by omega⟩, hb, Int.emod_nonneg _ (by omega), Int.emod_lt_of_pos _ (by omega), ?_, ⟨t / b, ?_⟩, ⟨-1, by omega⟩⟩
  · have h1 : (t % b).gcd b = t.gcd b := gcd_mod t b
    rw [Nat.gcd_comm]
    exact h1.trans g
  · have := Int.emod_add_mul_ediv t b
    rw [Int.one_mul, Int.mul_comm (t / b) b]
    omega
theorem near_step {t b o n w h : Int} (I : NearI t b o n w h) (hh : 1 < h) : NearI t b n (o - w / h * n) h (w - w / h * h) := by
  obtain ⟨⟨s, O, N, hs, en, eo, hN, hO, eb⟩, hw, h0, lt, g, ⟨z1, c1⟩, z2, c2⟩ := I
  have em : w - w / h * h = w % h := by
    have := Int.emod_add_mul_ediv w h
    rw [Int.mul_comm] at this
    omega
  have q0 : 0 ≤ w / h := Int.ediv_nonneg (by omega) (by omega)
  rw [em]
  have q1 : 1 ≤ w / h := Int.le_ediv_of_mul_le (by omega) (by omega)
  refine ⟨⟨-s, N, O + w / h * N, ?_, ?_, ?_, ?_, by omega, ?_⟩, by omega, Int.emod_nonneg _ (by omega), Int.emod_lt_of_pos _ (by omega), ?_, ⟨z2 - w / h * z1, ?_⟩, ⟨z1, c1⟩⟩
  · rcases hs with e | e <;> subst e <;> simp
  · rw [en, eo]; grind
  · rw [en]; grind
  · have := Int.mul_le_mul q1 hN (by omega) q0
    omega
  · rw [← em, ← eb]; grind
  · have h1 : (w % h).gcd h = w.gcd h := gcd_mod w h
    rw [Nat.gcd_comm]
    exact h1.trans g
  · rw [← em]; grind
theorem near_end {t b o n w h : Int} (hb : 2 ≤ b) (I : NearI t b o n w h) (hh : ¬ 1 < h) {s : Int} (hs : s = 1 ∨ s = -1) : 1 ≤ n * s % b := by
  obtain ⟨_, hw, h0, lt, g, ⟨z1, c1⟩, _⟩ := I
  have e1 : h = 1 := by
    rcases (show h = 0 ∨ h = 1 by omega) with e | e
    · subst e
      simp at g
      omega
    · exact e
  subst e1
  have nn := Int.emod_nonneg (n * s) (show b ≠ 0 by omega)
  rcases (show n * s % b = 0 ∨ 1 ≤ n * s % b by omega) with e | e
  · exfalso
    obtain ⟨k, hk⟩ := Int.dvd_of_emod_eq_zero e
    have e2 : n * t = b * (k * s * t) := by
      have : n = b * k * s := by
        rcases hs with e | e <;> subst e <;> grind
      rw [this]; grind
    have e3 : b * (k * s * t - z1) = 1 := by grind
    have := Int.eq_one_of_dvd_one (a := b) (by omega) ⟨_, e3.symm⟩
    omega
  · exact e
theorem near_bd {t b o n w h : Int} (I : NearI t b o n w h) : n.natAbs ≤ b.natAbs ∧ w ≤ b := by
  obtain ⟨⟨s, O, N, hs, en, eo, hN, hO, eb⟩, hw, h0, lt, _⟩ := I
  have h1 : N ≤ N * w := by
    have := Int.mul_le_mul_of_nonneg_left (show (1 : Int) ≤ w by omega) (show 0 ≤ N by omega)
    omega
  have h2 := Int.mul_nonneg hO h0
  have h3 : w ≤ N * w := by
    have := Int.mul_le_mul_of_nonneg_right hN (show 0 ≤ w by omega)
    omega
  refine ⟨?_, by omega⟩
  rw [en, Int.natAbs_mul]
  rcases hs with e | e <;> subst e <;> simp <;> omega
section
variable {P : Program} {w : World} {K : PySem.W.Frag} {mg : Str → Option Value} {base : Heap} {a : Ad}
theorem ok_divided (T : Txt K mg a) : FnOk P w K mg base CX0 1 a.f_divided a.d_divided ["_law_one", "_law_other"] sp_divided := by
  refine T.F_divided.ok sc_divided (fun vs H Q E h => ?_) (fun cdv A outer s H vs Q E hr h => ?_)
  · obtain ⟨x, y, rfl, _⟩ := h
    rfl
  · obtain ⟨x, y, rfl, q⟩ := h
    refine ⟨_, (pss_cons (ps_par (i := 0) (j := 1) rfl sc_divided.nd rfl rfl (by decide) rfl rfl (pa_cons (pe_callB call_abs (by rfl) T.b_abs (by decide +kernel) (pa_cons (pv 0) pa_nil)) (pa_cons (pe_callB call_abs (by rfl) T.b_abs (by decide +kernel) (pa_cons (pv 1) pa_nil)) pa_nil)) (by rfl))
 (pss_cons (ps_while PassesOwn.never (pt_cmpR op_gt (pv 1) pe_int (nomark _)) (pss_one (ps_par (i := 0) (j := 1) rfl sc_divided.nd rfl rfl (by decide) rfl rfl (pa_cons (pv 1) (pa_cons (pe_op op_mod (pe_callTy call_int1 (by rfl) T.b_int (by decide +kernel) (pa_cons (pv 0) pa_nil)) (pv 1)) pa_nil)) (by rfl))))
 (pss_one (ps_ret (pv 0))))), ?_⟩
    refine ⟨_, rfl, _, rfl, _, rfl, _, rfl, _, _, rfl, ?_⟩
    refine while_by (fun σ H' => H' = H ∧ ∃ u v : Int, σ = [some (.int u), some (.int v)] ∧ 0 ≤ u ∧ 0 ≤ v ∧ u.gcd v = x.gcd y) (fun σ _ => (ivals σ 1).toNat)
      ⟨rfl, _, _, rfl, by split <;> omega, by split <;> omega, ?_⟩ ?_ (fun σ H Q Q' k ⟨v, e, i, j, e1, e2, b, e3, q⟩ => ⟨v, e, i, j, e1, e2, b, e3, k _ _ q⟩)
    · split <;> split <;> simp
    · rintro σ H' ⟨rfl, u, v, rfl, hu, hv, g⟩
      refine ⟨_, rfl, _, _, rfl, rfl, _, rfl, ?_⟩
      refine ite2 (fun hlt => ?_) (fun hlt => ?_)
      · have hlt : 0 < v := by simpa using hlt
        refine ⟨_, rfl, _, rfl, .inl ⟨_, rfl, _, rfl, _, _, rfl, rfl, hlt, _, _, rfl, ?_⟩⟩
        refine ⟨⟨rfl, _, _, rfl, hv, Int.emod_nonneg _ (by omega), ?_⟩, ?_⟩
        · rw [Int.gcd_comm, gcd_mod]
          exact g
        · show (u % v).toNat < v.toNat
          have := Int.emod_lt_of_pos u hlt
          have := Int.emod_nonneg u (show v ≠ 0 by omega)
          omega
      · have e0 : v = 0 := by
          have : ¬ 0 < v := by simpa using hlt
          omega
        subst e0
        refine ⟨_, rfl, ?_⟩
        have e : u = ((Nat.gcd x.natAbs y.natAbs : Nat) : Int) := by
          have g' : u.natAbs = Nat.gcd x.natAbs y.natAbs := by
            rw [Int.gcd_zero] at g
            exact g
          omega
        rw [e]
        exact q
theorem ok_near (T : Txt K mg a) : FnOk P w K mg base CX0 1 a.f_near a.d_near ["_law_top", "_law_bottom", "_law_sign_here"] sp_near := by
  refine T.F_near.ok sc_near (fun vs H Q E h => ?_) (fun cdv A outer s H vs Q E hr h => ?_)
  · obtain ⟨t, b, s, rfl, _⟩ := h
    rfl
  · obtain ⟨t, b, s, rfl, bt, b0, b1, g, hs, q⟩ := h
    refine ⟨_, (pss_cons (ps_if (pt_cmpR op_eq (pv 1) pe_int (nomark _)) (pss_one (ps_ret (pe_tup (pa_cons (pe_op op_add (pe_op op_mulX (pv 0) pe_int) (pv 2)) (pa_cons pe_int pa_nil))))) pss_nil)
 (pss_cons (ps_asg (pe_tup (pa_cons pe_int (pa_cons pe_int (pa_cons (pv 1) (pa_cons (pe_op op_mod (pe_callTy call_int1 (by rfl) T.b_int (by decide +kernel) (pa_cons (pv 0) pa_nil)) (pv 1)) pa_nil))))) (pg_tupK (K := K) (n := 4) rfl rfl (pgs_cons (pg_name (i := 3) sc_near.nd rfl (by first | exact Or.inl rfl | exact Or.inr rfl)) (pgs_cons (pg_name (i := 4) sc_near.nd rfl (by first | exact Or.inl rfl | exact Or.inr rfl)) (pgs_cons (pg_name (i := 5) sc_near.nd rfl (by first | exact Or.inl rfl | exact Or.inr rfl)) (pgs_cons (pg_name (i := 6) sc_near.nd rfl (by first | exact Or.inl rfl | exact Or.inr rfl)) pgs_nil))))))
 (pss_cons (ps_while PassesOwn.never (pt_cmpR op_gt (pv 6) pe_int (nomark _)) (pss_cons (ps_set (i := 7) sc_near.nd rfl (by first | exact Or.inl rfl | exact Or.inr rfl) (pe_op op_fdivW (pv 5) (pv 6)))
 (pss_cons (ps_par (i := 5) (j := 6) rfl sc_near.nd rfl rfl (by decide) rfl rfl (pa_cons (pv 6) (pa_cons (pe_op op_sub (pv 5) (pe_op op_mulX (pv 7) (pv 6))) pa_nil)) (by rfl))
 (pss_one (ps_par (i := 3) (j := 4) rfl sc_near.nd rfl rfl (by decide) rfl rfl (pa_cons (pv 4) (pa_cons (pe_op op_sub (pv 3) (pe_op op_mulX (pv 7) (pv 4))) pa_nil)) (by rfl))))))
 (pss_cons (ps_set (i := 8) sc_near.nd rfl (by first | exact Or.inl rfl | exact Or.inr rfl) (pe_op op_mod (pe_callTy call_int1 (by rfl) T.b_int (by decide +kernel) (pa_cons (pe_op op_mulX (pv 4) (pv 2)) pa_nil)) (pv 1)))
 (pss_one (ps_ret (pe_tup (pa_cons (pe_op op_fdivW (pe_op op_sub (pe_op op_mulX (pv 0) (pv 8)) (pv 2)) (pv 1)) (pa_cons (pv 8) pa_nil))))))))), ?_⟩
    have bs : Bd 2 s := by unfold Bd; omega
    refine ⟨_, rfl, rfl, _, rfl, ?_⟩
    refine ite2 (fun he => ?_) (fun he => ?_)
    · refine ⟨_, rfl, _, _, rfl, rfl, bt.cm (m := 2) (by unfold Bd; decide) (by decide), _, rfl, _, _, rfl, rfl, sz, fun r hr => ?_⟩
      exact q _ r _ _ (Lb.Same.upd hr) hr upd_same (((bt.mul (m := 2) (by unfold Bd; decide)).mono (show 62 + 2 ≤ 64 by decide)).add (bs.mono (by decide)) |>.mono (by decide)) (by decide) (by unfold Bd; decide)
    · have hb : 2 ≤ b := by
        have : b ≠ 1 := fun z => he (by rw [z]; exact decide_eq_true rfl)
        omega
      have bb : Bd 32 b := by unfold Bd; omega
      refine ⟨_, rfl, _, rfl, .inl ⟨_, rfl, _, rfl, _, _, rfl, rfl, (by show 0 < b; omega), sz, fun p hp => ?_⟩⟩
      refine ⟨_, _, rfl, SqT.of upd_same, rfl, _, _, rfl, _, _, rfl, _, _, rfl, _, _, rfl, rfl, ?_⟩
      have SH : Same H (upd H p (.tup [V.int 0, V.int 1, V.int b, V.int (t % b)])) := Lb.Same.upd hp
      refine while_by (fun σ H' => H' = upd H p (.tup [V.int 0, V.int 1, V.int b, V.int (t % b)]) ∧ ∃ (o n w h : Int) (tm : Option V), σ = [some (.int t), some (.int b), some (.int s), some (.int o), some (.int n), some (.int w), some (.int h), tm, none] ∧ NearI t b o n w h)
        (fun σ _ => (ivals σ 6).toNat) ⟨rfl, _, _, _, _, _, rfl, near_start hb g⟩ ?_ (fun σ H Q Q' k ⟨v, e, i, j, e1, e2, b, e3, q⟩ => ⟨v, e, i, j, e1, e2, b, e3, k _ _ q⟩)
      rintro σ H' ⟨rfl, o, n, w, h, tm, rfl, I⟩
      obtain ⟨hn, hwb⟩ := near_bd I
      have bn : Bd 32 n := bb.le hn
      have hw2 := I.hw
      have hh0 := I.h0
      have hhl := I.lt
      refine ⟨_, rfl, _, _, rfl, rfl, _, rfl, ?_⟩
      refine ite2 (fun hlt => ?_) (fun hlt => ?_)
      · have hlt : 1 < h := by simpa using hlt
        have q0 : 0 ≤ w / h := Int.ediv_nonneg (by omega) (by omega)
        have q1 : w / h ≤ w := Int.ediv_le_self _ (by omega)
        have bq : Bd 32 (w / h) := bb.le (by omega)
        refine ⟨_, rfl, _, rfl, _, _, rfl, rfl, (bb.le (by omega)).cd (by omega) (by decide), ?_⟩
        refine ⟨_, rfl, _, rfl, _, rfl, _, rfl, _, _, rfl, rfl, bq.cm (bb.le (by omega)) (by decide), _, _, rfl, rfl, _, _, rfl, ?_⟩
        refine ⟨_, rfl, _, rfl, _, rfl, _, rfl, _, _, rfl, rfl, bq.cm bn (by decide), _, _, rfl, rfl, _, _, rfl, ?_⟩
        refine ⟨⟨rfl, _, _, _, _, _, rfl, near_step I hlt⟩, ?_⟩
        show (w - w / h * h).toNat < h.toNat
        have := Int.emod_add_mul_ediv w h
        have := Int.emod_lt_of_pos w (show 0 < h by omega)
        rw [Int.mul_comm h] at *
        omega
      · have hlt : ¬ 1 < h := by simpa using hlt
        have h1 := near_end hb I hlt hs
        have h2 := Int.emod_lt_of_pos (n * s) (show 0 < b by omega)
        have bz : Bd 32 (n * s % b) := bb.le (by omega)
        refine ⟨_, rfl, _, rfl, _, _, rfl, rfl, bn.cm bs (by decide), .inl ⟨_, rfl, _, rfl, _, _, rfl, rfl, (by show 0 < b; omega), ?_⟩⟩
        refine ⟨_, rfl, _, rfl, _, _, rfl, rfl, bt.cm bz (by decide), _, rfl, _, _, rfl, rfl, _, rfl, _, _, rfl, rfl, bb.cd (by omega) (by decide), _, rfl, sz, fun r hr => ?_⟩
        refine q _ r _ _ (SH.trans (Lb.Same.upd hr)) (SH.free hr) upd_same ?_ h1 (bz.mono (by decide))
        exact (((bt.mul bz).sub (bs.mono (by decide))).le (Int.natAbs_ediv_le_natAbs _ _)).mono (by decide)
end
end K12

set_option Elab.async false
set_option linter.all false
set_option maxRecDepth 100000
set_option maxHeartbeats 4000000
namespace K12
open PySem L2 Lb
open C8 (pss_cut)
def okF (x : Int × Int) : Prop := Bd 125 x.1 ∧ Bd 125 x.2 ∧ x.2 ≠ 0
def sp_fractions : Sp := fun vs H Q _ => ∃ (p : Addr), vs = [.ref p] ∧ PotAt H p ∧
  ∀ H' l as fr, Mov p H H' → l ≠ p → H' l = some (.lst (as.map V.ref)) → Rows H' as fr → fr.length = 12 → (∀ x ∈ fr, okF x) → Q (.ref l) H'
def sg (x : Int) : Int := (if 0 < x then 1 else 0) - (if x < 0 then 1 else 0)
def nrm (x : Int × Int) : Int × Int := if x.2 < 0 then (-x.1, -x.2) else x
def cmpF (x y : Int × Int) : Int := sg ((nrm x).1 * (nrm y).2 - (nrm y).1 * (nrm x).2)
def sp_sign : Sp := fun vs H Q _ => ∃ (p q : Addr) (x y : Int × Int), vs = [.ref p, .ref q] ∧ Fr H p x.1 x.2 ∧ Fr H q y.1 y.2 ∧ okF x ∧ okF y ∧
  ∀ H', Same H H' → Q (.int (cmpF x y)) H'
section
variable {P : Program} {w : World} {K : PySem.W.Frag} {mg : Str → Option Value} {base : Heap} {a : Ad}
theorem at0 {x y : V} : atI [x, y] 0 = some x := atI_nat (j := 0) rfl
theorem at1 {x y : V} : atI [x, y] 1 = some y := atI_nat (j := 1) rfl
theorem ok_sign (T : Txt K mg a) : FnOk P w K mg base CX0 1 a.f_sign a.d_sign ["_law_one", "_law_other"] sp_sign := by
  refine T.F_sign.ok sc_sign (fun vs H Q E h => ?_) (fun cdv A outer s H vs Q E hr h => ?_)
  · obtain ⟨p, q, x, y, rfl, _⟩ := h
    rfl
  · obtain ⟨p, q, x, y, rfl, hx, hy, ox, oy, k⟩ := h
    refine ⟨_, (pss_cut (ps_if (pt_cmpR op_lt (pe_ix (ix_tupK (K := K) rfl) (pv 0) pe_int (fun _ _ => rfl)) pe_int (nomark _)) (pss_one (ps_set (i := 0) sc_sign.nd rfl (by first | exact Or.inl rfl | exact Or.inr rfl) (pe_tup (pa_cons (pe_un un_neg (pe_ix (ix_tupK (K := K) rfl) (pv 0) pe_int (fun _ _ => rfl))) (pa_cons (pe_un un_neg (pe_ix (ix_tupK (K := K) rfl) (pv 0) pe_int (fun _ _ => rfl))) pa_nil))))) pss_nil)
 (pss_cut (ps_if (pt_cmpR op_lt (pe_ix (ix_tupK (K := K) rfl) (pv 1) pe_int (fun _ _ => rfl)) pe_int (nomark _)) (pss_one (ps_set (i := 1) sc_sign.nd rfl (by first | exact Or.inl rfl | exact Or.inr rfl) (pe_tup (pa_cons (pe_un un_neg (pe_ix (ix_tupK (K := K) rfl) (pv 1) pe_int (fun _ _ => rfl))) (pa_cons (pe_un un_neg (pe_ix (ix_tupK (K := K) rfl) (pv 1) pe_int (fun _ _ => rfl))) pa_nil))))) pss_nil)
 (pss_cons (ps_set (i := 2) sc_sign.nd rfl (by first | exact Or.inl rfl | exact Or.inr rfl) (pe_op op_sub (pe_op op_mulX (pe_ix (ix_tupK (K := K) rfl) (pv 0) pe_int (fun _ _ => rfl)) (pe_ix (ix_tupK (K := K) rfl) (pv 1) pe_int (fun _ _ => rfl))) (pe_op op_mulX (pe_ix (ix_tupK (K := K) rfl) (pv 1) pe_int (fun _ _ => rfl)) (pe_ix (ix_tupK (K := K) rfl) (pv 0) pe_int (fun _ _ => rfl)))))
 (pss_one (ps_ret (pe_op op_sub (pe_callTy call_int1 (by rfl) T.b_int (by decide +kernel) (pa_cons (pe_cmpR op_gt (pv 2) pe_int (nomark _)) pa_nil)) (pe_callTy call_int1 (by rfl) T.b_int (by decide +kernel) (pa_cons (pe_cmpR op_lt (pv 2) pe_int (nomark _)) pa_nil)))))))), ?_⟩
    have nx : okF (nrm x) := by
      unfold nrm
      split
      · exact ⟨ox.1.neg, ox.2.1.neg, by have := ox.2.2; show -x.2 ≠ 0; omega⟩
      · exact ox
    have ny : okF (nrm y) := by
      unfold nrm
      split
      · exact ⟨oy.1.neg, oy.2.1.neg, by have := oy.2.2; show -y.2 ≠ 0; omega⟩
      · exact oy
    refine ⟨fun σ H1 => ∃ p1, σ = [some (.ref p1), some (.ref q), none] ∧ Same H H1 ∧ Fr H1 p1 (nrm x).1 (nrm x).2, ?_, ?_⟩
    · refine ⟨_, rfl, _, _, _, _, rfl, rfl, SqT.of hx, at1, _, _, rfl, rfl, _, rfl, ?_⟩
      refine ite2 (fun h1 => ?_) (fun h1 => ?_)
      · refine ⟨_, rfl, _, _, _, _, rfl, rfl, SqT.of hx, at0, _, rfl, _, rfl, _, _, _, _, rfl, rfl, SqT.of hx, at1, _, rfl, sz, fun r hr => ?_⟩
        exact ⟨r, rfl, Lb.Same.upd hr, by unfold nrm Fr; rw [if_pos (by simpa using h1), upd_same]⟩
      · exact ⟨p, rfl, Same.refl _, by unfold nrm; rw [if_neg (by simpa using h1)]; exact hx⟩
    rintro σ H1 ⟨p1, rfl, s1, f1⟩
    have hy1 := s1 _ _ hy
    refine ⟨fun σ H2 => ∃ q1, σ = [some (.ref p1), some (.ref q1), none] ∧ Same H1 H2 ∧ Fr H2 q1 (nrm y).1 (nrm y).2, ?_, ?_⟩
    · refine ⟨_, rfl, _, _, _, _, rfl, rfl, SqT.of hy1, at1, _, _, rfl, rfl, _, rfl, ?_⟩
      refine ite2 (fun h1 => ?_) (fun h1 => ?_)
      · refine ⟨_, rfl, _, _, _, _, rfl, rfl, SqT.of hy1, at0, _, rfl, _, rfl, _, _, _, _, rfl, rfl, SqT.of hy1, at1, _, rfl, sz, fun r hr => ?_⟩
        exact ⟨r, rfl, Lb.Same.upd hr, by unfold nrm Fr; rw [if_pos (by simpa using h1), upd_same]⟩
      · exact ⟨q, rfl, Same.refl _, by unfold nrm; rw [if_neg (by simpa using h1)]; exact hy1⟩
    rintro σ H2 ⟨q1, rfl, s2, f2⟩
    have f1 := s2 _ _ f1
    refine ⟨_, rfl, _, _, _, _, rfl, rfl, SqT.of f1, at0, _, rfl, _, _, _, _, rfl, rfl, SqT.of f2, at1, _, _, rfl, rfl, nx.1.cm ny.2.1 (by decide), ?_⟩
    refine ⟨_, rfl, _, _, _, _, rfl, rfl, SqT.of f2, at0, _, rfl, _, _, _, _, rfl, rfl, SqT.of f1, at1, _, _, rfl, rfl, ny.1.cm nx.2.1 (by decide), _, _, rfl, rfl, ?_⟩
    refine ⟨_, rfl, _, _, rfl, rfl, .inr ⟨_, rfl, _, rfl, _, _, rfl, rfl, .inr ⟨_, rfl, _, _, rfl, rfl, ?_⟩⟩⟩
    have e := k _ (s1.trans s2)
    simpa only [cmpF, sg, decide_eq_true_eq] using e
theorem ok_fractions (T : Txt K mg a) : FnOk P w K mg base CX0 4 a.f_fractions a.d_fractions ["_law_pot_here"] sp_fractions := by
  refine T.F_fractions.ok sc_fractions (fun vs H Q E h => ?_) (fun cdv A outer s H vs Q E hr h => ?_)
  · obtain ⟨p, rfl, _⟩ := h
    rfl
  · obtain ⟨p, rfl, hp, k⟩ := h
    refine ⟨_, (pss_cons (ps_asg (pe_call (ok_drawn T) (hr.mono (by decide)) (by rfl) T.m_drawn T.F_drawn.kp (b_drawn T) .nil pass0 (pa_cons (pv 0) pa_nil)) (pg_tupK (K := K) (n := 2) rfl rfl (pgs_cons (pg_name (i := 1) sc_fractions.nd rfl (by first | exact Or.inl rfl | exact Or.inr rfl)) (pgs_cons (pg_name (i := 2) sc_fractions.nd rfl (by first | exact Or.inl rfl | exact Or.inr rfl)) pgs_nil))))
 (pss_cons (ps_set (i := 3) sc_fractions.nd rfl (by first | exact Or.inl rfl | exact Or.inr rfl) (pe_call (ok_divided T) (hr.mono (by decide)) (by rfl) T.m_divided T.F_divided.kp (b_divided T) .nil pass0 (pa_cons (pv 1) (pa_cons (pv 2) pa_nil))))
 (pss_cons (ps_par (i := 1) (j := 2) rfl sc_fractions.nd rfl rfl (by decide) rfl rfl (pa_cons (pe_op op_fdivW (pv 1) (pe_callB (call_max2 rfl) (by rfl) T.b_max (by decide +kernel) (pa_cons pe_int (pa_cons (pv 3) pa_nil)))) (pa_cons (pe_op op_fdivW (pv 2) (pe_callB (call_max2 rfl) (by rfl) T.b_max (by decide +kernel) (pa_cons pe_int (pa_cons (pv 3) pa_nil)))) pa_nil)) (by rfl))
 (pss_cons (ps_set (i := 4) sc_fractions.nd rfl (by first | exact Or.inl rfl | exact Or.inr rfl) (pe_lst (pa_cons (pe_tup (pa_cons (pv 1) (pa_cons (pv 2) pa_nil))) (pa_cons (pe_tup (pa_cons (pe_op op_mulX (pe_un un_neg (pv 1)) pe_int) (pa_cons (pe_op op_mulX (pe_un un_neg (pv 2)) pe_int) pa_nil))) (pa_cons (pe_call (ok_near T) (hr.mono (by decide)) (by rfl) T.m_near T.F_near.kp (b_near T) .nil pass0 (pa_cons (pv 1) (pa_cons (pv 2) (pa_cons pe_int pa_nil)))) (pa_cons (pe_call (ok_near T) (hr.mono (by decide)) (by rfl) T.m_near T.F_near.kp (b_near T) .nil pass0 (pa_cons (pv 1) (pa_cons (pv 2) (pa_cons (pe_un un_neg pe_int) pa_nil)))) pa_nil))))))
 (pss_cons (ps_set (i := 4) sc_fractions.nd rfl (by first | exact Or.inl rfl | exact Or.inr rfl) (pe_op op_cat (pv 4) (pe_lst (pa_cons (pe_tup (pa_cons (pe_un un_neg (pv 1)) (pa_cons (pv 2) pa_nil))) (pa_cons (pe_tup (pa_cons (pe_op op_add (pv 1) (pv 2)) (pa_cons (pv 2) pa_nil))) (pa_cons (pe_tup (pa_cons pe_int (pa_cons pe_int pa_nil))) (pa_cons (pe_tup (pa_cons (pe_op op_fdivW (pv 1) (pv 2)) (pa_cons pe_int pa_nil))) (pa_cons (pe_tup (pa_cons (pe_op op_add (pe_op op_fdivW (pv 1) (pv 2)) pe_int) (pa_cons pe_int pa_nil))) pa_nil))))))))
 (pss_one (ps_ret (pe_op op_cat (pv 4) (pe_lst (pa_cons (pe_call (ok_drawn T) (hr.mono (by decide)) (by rfl) T.m_drawn T.F_drawn.kp (b_drawn T) .nil pass0 (pa_cons (pv 0) pa_nil)) (pa_cons (pe_call (ok_drawn T) (hr.mono (by decide)) (by rfl) T.m_drawn T.F_drawn.kp (b_drawn T) .nil pass0 (pa_cons (pv 0) pa_nil)) (pa_cons (pe_tup (pa_cons (pv 2) (pa_cons (pe_op op_add pe_int (pe_op op_mod (pe_callTy call_int1 (by rfl) T.b_int (by decide +kernel) (pa_cons (pe_callB call_abs (by rfl) T.b_abs (by decide +kernel) (pa_cons (pv 1) pa_nil)) pa_nil)) (pe_op op_pow pe_int pe_int))) pa_nil))) pa_nil)))))))))))), ?_⟩
    -- top, bottom = drawn(pot)
    refine ⟨_, rfl, p, rfl, hp, fun H1 q t b m1 hq fq bt b1 b2 => ?_⟩
    have bb : Bd 60 b := by unfold Bd; omega
    refine ⟨_, _, rfl, SqT.of fq, rfl, _, _, rfl, _, _, rfl, rfl, ?_⟩
    -- both = divided(top, bottom)
    refine ⟨_, rfl, _, rfl, t, b, rfl, ?_⟩
    have hg : 0 < t.gcd b := Int.gcd_pos_of_ne_zero_right t (by omega)
    have hg' : 0 < Nat.gcd t.natAbs b.natAbs := hg
    obtain ⟨tt, ht⟩ := Int.gcd_dvd_left t b
    obtain ⟨bt', hbt⟩ := Int.gcd_dvd_right t b
    have eg : (if ((Nat.gcd t.natAbs b.natAbs : Nat) : Int) > 1 then ((Nat.gcd t.natAbs b.natAbs : Nat) : Int) else 1) = (t.gcd b : Int) := by
      show (if ((t.gcd b : Nat) : Int) > 1 then ((t.gcd b : Nat) : Int) else 1) = (t.gcd b : Int)
      split <;> omega
    have bg : Bd 60 (t.gcd b : Int) := bb.le (by have := Int.gcd_le_right t (show 0 < b by omega); omega)
    have e1 : t / (t.gcd b : Int) = tt := by
      conv => lhs; lhs; rw [ht]
      exact Int.mul_ediv_cancel_left _ (by omega)
    have e2 : b / (t.gcd b : Int) = bt' := by
      conv => lhs; lhs; rw [hbt]
      exact Int.mul_ediv_cancel_left _ (by omega)
    refine ⟨_, rfl, _, rfl, _, _, rfl, ?_⟩
    rw [eg]
    refine ⟨_, _, rfl, rfl, bg.cd (by omega) (by decide), _, rfl, _, rfl, _, _, rfl, ?_⟩
    rw [eg]
    refine ⟨_, _, rfl, rfl, bg.cd (by omega) (by decide), _, _, rfl, ?_⟩
    dsimp only
    rw [e1, e2]
    have hbt0 : 1 ≤ bt' := by
      have : 0 < (t.gcd b : Int) * bt' := by omega
      have h0 : (t.gcd b : Int) * 0 < (t.gcd b : Int) * bt' := by omega
      have := Int.lt_of_mul_lt_mul_left h0 (by omega)
      omega
    have hbt1 : bt' ≤ b := by
      have := Int.mul_le_mul_of_nonneg_right (show (1 : Int) ≤ (t.gcd b : Int) by omega) (show 0 ≤ bt' by omega)
      omega
    have btt : Bd 60 tt := bt.le (by rw [← e1]; exact Int.natAbs_ediv_le_natAbs _ _)
    have bbt : Bd 60 bt' := bb.le (by omega)
    have g1 : Nat.gcd tt.natAbs bt'.natAbs = 1 := by
      have h := Int.gcd_mul_left (t.gcd b : Int) tt bt'
      rw [← ht, ← hbt] at h
      have h' : t.gcd b * 1 = t.gcd b * tt.gcd bt' := by
        simpa using h
      exact (Nat.eq_of_mul_eq_mul_left hg h').symm
    clear e1 e2 ht hbt eg fq hg hg' bg
    -- found = [..]
    refine ⟨_, rfl, _, rfl, sz, fun q1 h1 => ?_⟩
    generalize e_H2 : upd _ q1 _ = H2
    obtain ⟨s2, f⟩ := al3 e_H2 h1
    clear e_H2
    (try dsimp only at f)
    have R := Rows.nil.snoc f
    have M := m1.same s2
    have b3 : Bd 2 3 := by unfold Bd; decide
    refine ⟨_, rfl, _, rfl, _, _, rfl, rfl, btt.neg.cm b3 (by decide), _, rfl, _, rfl, _, _, rfl, rfl, bbt.neg.cm b3 (by decide), sz, fun q2 h2 => ?_⟩
    generalize e_H3 : upd _ q2 _ = H3
    obtain ⟨s3, f⟩ := al3 e_H3 h2
    clear e_H3
    (try dsimp only at f)
    have R := (R.same s3).snoc f
    have M := M.same s3
    refine ⟨_, rfl, _, rfl, tt, bt', 1, rfl, btt.mono (by decide), hbt0, by omega, g1, .inl rfl, fun H4 q3 t3 b3' s4 h3 f n3 n3' n3'' => ?_⟩
    have R := (R.same s4).snoc f
    have M := M.same s4
    refine ⟨_, rfl, _, rfl, _, rfl, tt, bt', -1, rfl, btt.mono (by decide), hbt0, by omega, g1, .inr rfl, fun H5 q4 t4 b4 s5 h4 f n4 n4' n4'' => ?_⟩
    have R := (R.same s5).snoc f
    have M := M.same s5
    refine ⟨sz, fun l hl => ?_⟩
    generalize e_H6 : upd _ l _ = H6
    obtain ⟨s6, fl⟩ := al3 e_H6 hl
    clear e_H6
    (try dsimp only at fl)
    have R := R.same s6
    have M := M.same s6
    -- found = found + [..]
    refine ⟨_, rfl, _, rfl, _, rfl, _, rfl, sz, fun q5 h5 => ?_⟩
    generalize e_H7 : upd _ q5 _ = H7
    obtain ⟨s7, f⟩ := al3 e_H7 h5
    clear e_H7
    (try dsimp only at f)
    have R := (R.same s7).snoc f
    have M := M.same s7
    have fl := s7 _ _ fl
    refine ⟨_, rfl, _, rfl, _, _, rfl, rfl, _, rfl, sz, fun q6 h6 => ?_⟩
    generalize e_H8 : upd _ q6 _ = H8
    obtain ⟨s8, f⟩ := al3 e_H8 h6
    clear e_H8
    (try dsimp only at f)
    have R := (R.same s8).snoc f
    have M := M.same s8
    have fl := s8 _ _ fl
    refine ⟨sz, fun q7 h7 => ?_⟩
    generalize e_H9 : upd _ q7 _ = H9
    obtain ⟨s9, f⟩ := al3 e_H9 h7
    clear e_H9
    (try dsimp only at f)
    have R := (R.same s9).snoc f
    have M := M.same s9
    have fl := s9 _ _ fl
    refine ⟨_, rfl, _, rfl, _, _, rfl, rfl, bbt.cd (by omega) (by decide), sz, fun q8 h8 => ?_⟩
    generalize e_H10 : upd _ q8 _ = H10
    obtain ⟨s10, f⟩ := al3 e_H10 h8
    clear e_H10
    (try dsimp only at f)
    have R := (R.same s10).snoc f
    have M := M.same s10
    have fl := s10 _ _ fl
    refine ⟨_, rfl, _, rfl, _, _, rfl, rfl, bbt.cd (by omega) (by decide), _, _, rfl, rfl, sz, fun q9 h9 => ?_⟩
    generalize e_H11 : upd _ q9 _ = H11
    obtain ⟨s11, f⟩ := al3 e_H11 h9
    clear e_H11
    (try dsimp only at f)
    have R := (R.same s11).snoc f
    have M := M.same s11
    have fl := s11 _ _ fl
    refine ⟨sz, fun l2 hl2 => ?_⟩
    generalize e_H12 : upd _ l2 _ = H12
    obtain ⟨s12, fl2⟩ := al3 e_H12 hl2
    clear e_H12
    (try dsimp only at fl2)
    have R := R.same s12
    have M := M.same s12
    have fl := s12 _ _ fl
    refine ⟨_, _, _, _, rfl, rfl, fl, fl2, sz, fun l3 hl3 => ?_⟩
    generalize e_H13 : upd _ l3 _ = H13
    obtain ⟨s13, fl⟩ := al3 e_H13 hl3
    clear e_H13
    (try dsimp only at fl)
    have R := R.same s13
    have M := M.same s13
    -- the last three
    refine ⟨_, rfl, _, rfl, p, rfl, M.pot, fun H14 q10 t10 b10 m14 h10 f c1 c2 c3 => ?_⟩
    have nl : l3 ≠ p := M.pot.ne fl (by simp)
    have R := (R.mov m14 M.pot).snoc f
    have fl := m14.keep _ _ nl fl
    have M := M.trans m14
    refine ⟨_, rfl, p, rfl, M.pot, fun H15 q11 t11 b11 m15 h11 f c4 c5 c6 => ?_⟩
    have R := (R.mov m15 M.pot).snoc f
    have fl := m15.keep _ _ nl fl
    have M := M.trans m15
    refine ⟨_, rfl, _, rfl, _, rfl, .inl ⟨_, rfl, _, _, rfl, rfl, ⟨by decide, by decide, by decide⟩, _, _, rfl, rfl, (by show (0 : Int) < 10 ^ (9 : Int).toNat; decide), _, _, rfl, rfl, sz, fun q12 h12 => ?_⟩⟩
    generalize e_H16 : upd _ q12 _ = H16
    obtain ⟨s16, f⟩ := al3 e_H16 h12
    clear e_H16
    (try dsimp only at f)
    have R := (R.same s16).snoc f
    have M := M.same s16
    have fl := s16 _ _ fl
    refine ⟨sz, fun l4 hl4 => ?_⟩
    generalize e_H17 : upd _ l4 _ = H17
    obtain ⟨s17, fl2⟩ := al3 e_H17 hl4
    clear e_H17
    (try dsimp only at fl2)
    have R := R.same s17
    have M := M.same s17
    have fl := s17 _ _ fl
    refine ⟨_, _, _, _, rfl, rfl, fl, fl2, sz, fun l5 hl5 => ?_⟩
    have nl5 := M.ne hl5
    generalize e_H18 : upd _ l5 _ = H18
    obtain ⟨s18, fl⟩ := al3 e_H18 hl5
    clear e_H18
    (try dsimp only at fl)
    refine k _ l5 [q1, q2, q3, q4, q5, q6, q7, q8, q9, q10, q11, q12] _ (M.same s18) nl5 fl (R.same s18) rfl ?_
    have o1 : okF (tt, bt') := ⟨btt.mono (by decide), bbt.mono (by decide), by show bt' ≠ 0; omega⟩
    have o2 : okF (-tt * 3, -bt' * 3) := ⟨(btt.neg.mul b3).mono (by decide), (bbt.neg.mul b3).mono (by decide), by show -bt' * 3 ≠ 0; omega⟩
    have o3 : okF (t3, b3') := ⟨n3.mono (by decide), n3''.mono (by decide), by show b3' ≠ 0; omega⟩
    have o4 : okF (t4, b4) := ⟨n4.mono (by decide), n4''.mono (by decide), by show b4 ≠ 0; omega⟩
    have o5 : okF (-tt, bt') := ⟨btt.neg.mono (by decide), bbt.mono (by decide), by show bt' ≠ 0; omega⟩
    have o6 : okF (tt + bt', bt') := ⟨(btt.add bbt).mono (by decide), bbt.mono (by decide), by show bt' ≠ 0; omega⟩
    have o7 : okF (0, 5) := ⟨by unfold Bd; decide, by unfold Bd; decide, by show (5 : Int) ≠ 0; decide⟩
    have bd1 : Bd 60 (tt / bt') := btt.le (Int.natAbs_ediv_le_natAbs _ _)
    have one : Bd 60 1 := by unfold Bd; decide
    have o8 : okF (tt / bt', 1) := ⟨bd1.mono (by decide), one.mono (by decide), by show (1 : Int) ≠ 0; decide⟩
    have o9 : okF (tt / bt' + 1, 1) := ⟨(bd1.add one).mono (by decide), one.mono (by decide), by show (1 : Int) ≠ 0; decide⟩
    have o10 : okF (t10, b10) := ⟨c1.mono (by decide), by unfold Bd; omega, by show b10 ≠ 0; omega⟩
    have o11 : okF (t11, b11) := ⟨c4.mono (by decide), by unfold Bd; omega, by show b11 ≠ 0; omega⟩
    have o12 : ∀ z : Int, okF (bt', 1 + z % (10 ^ (9 : Int).toNat)) := fun z => by
      have e : (10 : Int) ^ (9 : Int).toNat = 1000000000 := by decide
      rw [e]
      refine ⟨bbt.mono (by decide), ?_, ?_⟩
      · show Bd 125 (1 + z % 1000000000)
        unfold Bd; omega
      · show 1 + z % 1000000000 ≠ 0
        omega
    intro x hx
    simp only [List.mem_append, List.mem_singleton, List.not_mem_nil, false_or] at hx
    repeat' (rcases hx with hx | hx)
    all_goals (first | exact o1 | exact o2 | exact o3 | exact o4 | exact o5 | exact o6 | exact o7 | exact o8 | exact o9 | exact o10 | exact o11 | exact o12 _)
end
end K12

set_option Elab.async false
set_option linter.all false
set_option maxRecDepth 100000
set_option maxHeartbeats 4000000
namespace K12
open PySem L2 Lb
open C8 (pss_cut)
theorem tb_ : ¬ (("_bottom" : Str) = "_top") := by decide +kernel
theorem bt_ : ¬ (("_top" : Str) = "_bottom") := by decide +kernel
def am (t b : Int) : List (Str × V) := putF "_bottom" (.int b) (putF "_top" (.int t) [])
theorem am_top (t b : Int) : (am t b).lookup ("_top" : Str) = some (.int t) := by
  unfold am
  rw [lookup_putF, if_neg bt_, lookup_putF, if_pos rfl]
theorem am_bot (t b : Int) : (am t b).lookup ("_bottom" : Str) = some (.int b) := by
  unfold am
  rw [lookup_putF, if_pos rfl]
theorem am_no (t b : Int) {m : Str} (h1 : ¬ m = "_bottom") (h2 : ¬ m = "_top") : (am t b).lookup m = none := by
  unfold am
  rw [lookup_putF, if_neg h1, lookup_putF, if_neg h2]
  all_goals rfl
def AmAt (C : Addr) (H : Hp) (q : Addr) (t b : Int) : Prop := ∃ dx, H q = some (.ins C dx (am t b))
def rdD (t b : Int) : Int := if b < 0 then -((Nat.gcd t.natAbs b.natAbs : Nat) : Int) else ((Nat.gcd t.natAbs b.natAbs : Nat) : Int)
def rdT (t b : Int) : Int := t.fdiv (rdD t b)
def rdB (t b : Int) : Int := b.fdiv (rdD t b)
def sp_is_integer : Sp := fun vs H Q _ => ∃ n : Int, vs = [.int n] ∧ Q (.bl true) H
def sp_Amount_init_ (C : Addr) : Sp := fun vs H Q _ => ∃ (q dx : Addr) (t b : Int), vs = [.ref q, .int t, .int b] ∧ b ≠ 0 ∧ Bd 8000 t ∧ Bd 8000 b ∧ H q = some (.ins C dx []) ∧
  ∀ H', (∀ x o, x ≠ q → H x = some o → H' x = some o) → H' q = some (.ins C dx (am (rdT t b) (rdB t b))) → Q .non H'
section
variable {P : Program} {w : World} {K : PySem.W.Frag} {mg : Str → Option Value} {base : Heap} {a : Ad}
theorem ok_is_integer (T : Txt K mg a) : FnOk P w K mg base CX0 1 a.f_is_integer a.d_is_integer ["value"] sp_is_integer := by
  refine T.F_is_integer.ok sc_is_integer (fun vs H Q E h => ?_) (fun cdv A outer s H vs Q E hr h => ?_)
  · obtain ⟨n, rfl, _⟩ := h
    rfl
  · obtain ⟨n, rfl, k⟩ := h
    refine ⟨_, (pss_one (ps_ret (pe_and (pe_callB (call_isiK' (K := K) rfl) (by rfl) T.b_isinstance (by decide +kernel) (pa_cons (pv 0) (pa_cons (pe_bltn (v := .ty "int") (by rfl) T.b_int (by decide +kernel) rfl) pa_nil))) (pe_one (pe_not (pe_callB (call_isiK' (K := K) rfl) (by rfl) T.b_isinstance (by decide +kernel) (pa_cons (pv 0) (pa_cons (pe_bltn (v := .ty "bool") (by rfl) T.b_bool (by decide +kernel) rfl) pa_nil)))))))), ?_⟩
    refine ⟨_, rfl, _, _, _, _, true, rfl, .ty _, .base (.int _), kit_ty (by decide +kernel), true, rfl, iteT ?_⟩
    exact ⟨_, rfl, _, _, _, _, false, rfl, .ty _, .base (.int _), kit_ty (by decide +kernel), false, rfl, k⟩
theorem ok_Amount_init_ (T : Txt K mg a) : FnOk P w K mg base CX0 2 a.f_Amount_init_ a.d_Amount_init_ ["self", "top", "bottom"] (sp_Amount_init_ a.c_Amount) := by
  refine T.F_Amount_init_.ok sc_Amount_init_ (fun vs H Q E h => ?_) (fun cdv A outer s H vs Q E hr h => ?_)
  · obtain ⟨q, dx, t, b, rfl, _⟩ := h
    rfl
  · obtain ⟨q, dx, t, b, rfl, hb, bt, bb, hq, k⟩ := h
    refine ⟨_, (pss_cons (ps_if (pt_not (pt_val (pe_call (ok_is_integer T) (hr.mono (by decide)) (by rfl) T.m_is_integer T.F_is_integer.kp (b_is_integer T) .nil pass0 (pa_cons (pv 1) pa_nil)))) (pss_one ps_never) pss_nil)
 (pss_cons (ps_if (PW.pt (pw_or (pt_not (pt_val (pe_call (ok_is_integer T) (hr.mono (by decide)) (by rfl) T.m_is_integer T.F_is_integer.kp (b_is_integer T) .nil pass0 (pa_cons (pv 2) pa_nil)))) (pw_or1 (pt_cmpR op_eq (pv 2) pe_int (nomark _))))) (pss_one ps_never) pss_nil)
 (pss_cons (ps_set (i := 3) sc_Amount_init_.nd rfl (by first | exact Or.inl rfl | exact Or.inr rfl) (pe_callBfun cr_gcd (by rfl) T.m_gcd (pa_cons (pv 1) (pa_cons (pv 2) pa_nil))))
 (pss_cut (ps_if (pt_cmpR op_lt (pv 2) pe_int (nomark _)) (pss_one (ps_set (i := 3) sc_Amount_init_.nd rfl (by first | exact Or.inl rfl | exact Or.inr rfl) (pe_un un_neg (pv 3)))) pss_nil)
 (pss_cons (ps_fldK (K := K) rfl (pv 0) (pe_op op_fdivX (pv 1) (pv 3)) rfl)
 (pss_one (ps_fldK (K := K) rfl (pv 0) (pe_op op_fdivX (pv 2) (pv 3)) rfl))))))), ?_⟩
    refine ⟨_, rfl, t, rfl, true, rfl, iteF ?_⟩
    refine ⟨_, rfl, b, rfl, true, rfl, iteF ?_⟩
    refine ⟨_, rfl, rfl, _, rfl, iteN ?_ ?_⟩
    · intro z
      have z := of_decide_eq_true z
      injection z with z
      exact hb z
    refine ⟨_, rfl, _, rfl, _, _, rfl, ?_⟩
    refine ⟨fun σ H' => H' = H ∧ σ = [some (.ref q), some (.int t), some (.int b), some (.int (rdD t b))], ?_, ?_⟩
    · refine ⟨_, rfl, _, _, rfl, rfl, _, rfl, ?_⟩
      refine ite2 (fun h1 => ?_) (fun h1 => ?_)
      · have h1 : b < 0 := by simpa using h1
        refine ⟨_, rfl, _, rfl, rfl, ?_⟩
        unfold rdD
        rw [if_pos h1]
        rfl
      · have h1 : ¬ b < 0 := by simpa using h1
        refine ⟨rfl, ?_⟩
        unfold rdD
        rw [if_neg h1]
        rfl
    rintro σ H' ⟨rfl, rfl⟩
    have hd : rdD t b ≠ 0 := by
      have : 0 < Nat.gcd t.natAbs b.natAbs := Nat.gcd_pos_of_pos_right _ (by omega)
      unfold rdD
      split <;> omega
    have bd : Bd 8000 (rdD t b) := by
      have : Nat.gcd t.natAbs b.natAbs ≤ b.natAbs := Nat.gcd_le_right _ (by omega)
      refine bb.le ?_
      unfold rdD
      split <;> omega
    refine ⟨_, rfl, _, rfl, _, _, rfl, rfl, bd.cx hd (by decide), _, rfl, q, _, dx, _, rfl, hq, T.cl, T.nT, (by show 0 < 1000; decide), ?_⟩
    refine ⟨_, rfl, _, rfl, _, _, rfl, rfl, bd.cx hd (by decide), _, rfl, q, _, dx, _, rfl, upd_same, T.cl, T.nB, (by show 1 < 1000; decide), ?_⟩
    refine k _ (fun x o n e => ?_) ?_
    · rw [upd_ne n, upd_ne n]
      exact e
    · rw [upd_same]
      rfl
/-! the comparisons -/
def sp_cmp (C : Addr) (f : Int → Int → Int → Int → Bool) : Sp := fun vs H Q _ => ∃ (p q : Addr) (t b t' b' : Int), vs = [.ref p, .ref q] ∧ AmAt C H p t b ∧ AmAt C H q t' b' ∧ Bd 8000 t ∧ Bd 8000 b ∧ Bd 8000 t' ∧ Bd 8000 b' ∧ Q (.bl (f t b t' b')) H
def fLt : Int → Int → Int → Int → Bool := fun t b t' b' => decide (t * b' < t' * b)
def fLe : Int → Int → Int → Int → Bool := fun t b t' b' => decide (t * b' ≤ t' * b)
def fGt : Int → Int → Int → Int → Bool := fun t b t' b' => decide (t' * b < t * b')
def fGe : Int → Int → Int → Int → Bool := fun t b t' b' => decide (t' * b ≤ t * b')
def sp_Amount_eq_ (K : PySem.W.Frag) (C : Addr) : Sp := fun vs H Q _ => ∃ (p : Addr) (t b : Int) (y : V), vs = [.ref p, y] ∧ AmAt C H p t b ∧
  ((∃ (q : Addr) (t' b' : Int), y = .ref q ∧ AmAt C H q t' b' ∧ Q (.bl (decide (t = t') && decide (b = b'))) H) ∨ (NotC K C H y ∧ Q (.bl false) H))
theorem ok_Amount_lt_ (T : Txt K mg a) : FnOk P w K mg base CX0 1 a.f_Amount_lt_ a.d_Amount_lt_ ["self", "other"] (sp_cmp a.c_Amount fLt) := by
  refine T.F_Amount_lt_.ok sc_Amount_lt_ (fun vs H Q E h => ?_) (fun cdv A outer s H vs Q E hr h => ?_)
  · obtain ⟨p, q, t, b, t', b', rfl, _⟩ := h
    rfl
  · obtain ⟨p, q, t, b, t', b', rfl, ⟨dx, hp⟩, ⟨dy, hq⟩, bt, bb, bt', bb', k⟩ := h
    refine ⟨_, (pss_cons (ps_if (pt_not (pt_val (pe_callB (call_isiK' (K := K) rfl) (by rfl) T.b_isinstance (by decide +kernel) (pa_cons (pv 1) (pa_cons (pe_glob (v := .ref a.c_Amount) rfl T.mA rfl) pa_nil))))) (pss_one ps_never) pss_nil)
 (pss_one (ps_ret (pe_cmpR op_lt (pe_op op_mulX (pe_fldK (K := K) rfl (pv 0) rfl) (pe_fldK (K := K) rfl (pv 1) rfl)) (pe_op op_mulX (pe_fldK (K := K) rfl (pv 1) rfl) (pe_fldK (K := K) rfl (pv 0) rfl)) (nomark _))))), ?_⟩
    refine ⟨_, rfl, _, _, _, _, true, rfl, .own _, .base (T.I.ty T.cl hq), Inst.kSelf, true, rfl, iteF ?_⟩
    refine ⟨_, rfl, p, _, dx, _, _, rfl, hp, T.cl, T.nT, am_top _ _, _, rfl, q, _, dy, _, _, rfl, hq, T.cl, T.nB, am_bot _ _, _, _, rfl, rfl, bt.cm bb' (by decide), ?_⟩
    exact ⟨_, rfl, q, _, dy, _, _, rfl, hq, T.cl, T.nT, am_top _ _, _, rfl, p, _, dx, _, _, rfl, hp, T.cl, T.nB, am_bot _ _, _, _, rfl, rfl, bt'.cm bb (by decide), _, _, rfl, rfl, k⟩
theorem ok_Amount_le_ (T : Txt K mg a) : FnOk P w K mg base CX0 1 a.f_Amount_le_ a.d_Amount_le_ ["self", "other"] (sp_cmp a.c_Amount fLe) := by
  refine T.F_Amount_le_.ok sc_Amount_le_ (fun vs H Q E h => ?_) (fun cdv A outer s H vs Q E hr h => ?_)
  · obtain ⟨p, q, t, b, t', b', rfl, _⟩ := h
    rfl
  · obtain ⟨p, q, t, b, t', b', rfl, ⟨dx, hp⟩, ⟨dy, hq⟩, bt, bb, bt', bb', k⟩ := h
    refine ⟨_, (pss_cons (ps_if (pt_not (pt_val (pe_callB (call_isiK' (K := K) rfl) (by rfl) T.b_isinstance (by decide +kernel) (pa_cons (pv 1) (pa_cons (pe_glob (v := .ref a.c_Amount) rfl T.mA rfl) pa_nil))))) (pss_one ps_never) pss_nil)
 (pss_one (ps_ret (pe_cmpR op_le (pe_op op_mulX (pe_fldK (K := K) rfl (pv 0) rfl) (pe_fldK (K := K) rfl (pv 1) rfl)) (pe_op op_mulX (pe_fldK (K := K) rfl (pv 1) rfl) (pe_fldK (K := K) rfl (pv 0) rfl)) (nomark _))))), ?_⟩
    refine ⟨_, rfl, _, _, _, _, true, rfl, .own _, .base (T.I.ty T.cl hq), Inst.kSelf, true, rfl, iteF ?_⟩
    refine ⟨_, rfl, p, _, dx, _, _, rfl, hp, T.cl, T.nT, am_top _ _, _, rfl, q, _, dy, _, _, rfl, hq, T.cl, T.nB, am_bot _ _, _, _, rfl, rfl, bt.cm bb' (by decide), ?_⟩
    exact ⟨_, rfl, q, _, dy, _, _, rfl, hq, T.cl, T.nT, am_top _ _, _, rfl, p, _, dx, _, _, rfl, hp, T.cl, T.nB, am_bot _ _, _, _, rfl, rfl, bt'.cm bb (by decide), _, _, rfl, rfl, k⟩
theorem ok_Amount_gt_ (T : Txt K mg a) : FnOk P w K mg base CX0 1 a.f_Amount_gt_ a.d_Amount_gt_ ["self", "other"] (sp_cmp a.c_Amount fGt) := by
  refine T.F_Amount_gt_.ok sc_Amount_gt_ (fun vs H Q E h => ?_) (fun cdv A outer s H vs Q E hr h => ?_)
  · obtain ⟨p, q, t, b, t', b', rfl, _⟩ := h
    rfl
  · obtain ⟨p, q, t, b, t', b', rfl, ⟨dx, hp⟩, ⟨dy, hq⟩, bt, bb, bt', bb', k⟩ := h
    refine ⟨_, (pss_cons (ps_if (pt_not (pt_val (pe_callB (call_isiK' (K := K) rfl) (by rfl) T.b_isinstance (by decide +kernel) (pa_cons (pv 1) (pa_cons (pe_glob (v := .ref a.c_Amount) rfl T.mA rfl) pa_nil))))) (pss_one ps_never) pss_nil)
 (pss_one (ps_ret (pe_cmpR op_gt (pe_op op_mulX (pe_fldK (K := K) rfl (pv 0) rfl) (pe_fldK (K := K) rfl (pv 1) rfl)) (pe_op op_mulX (pe_fldK (K := K) rfl (pv 1) rfl) (pe_fldK (K := K) rfl (pv 0) rfl)) (nomark _))))), ?_⟩
    refine ⟨_, rfl, _, _, _, _, true, rfl, .own _, .base (T.I.ty T.cl hq), Inst.kSelf, true, rfl, iteF ?_⟩
    refine ⟨_, rfl, p, _, dx, _, _, rfl, hp, T.cl, T.nT, am_top _ _, _, rfl, q, _, dy, _, _, rfl, hq, T.cl, T.nB, am_bot _ _, _, _, rfl, rfl, bt.cm bb' (by decide), ?_⟩
    exact ⟨_, rfl, q, _, dy, _, _, rfl, hq, T.cl, T.nT, am_top _ _, _, rfl, p, _, dx, _, _, rfl, hp, T.cl, T.nB, am_bot _ _, _, _, rfl, rfl, bt'.cm bb (by decide), _, _, rfl, rfl, k⟩
theorem ok_Amount_ge_ (T : Txt K mg a) : FnOk P w K mg base CX0 1 a.f_Amount_ge_ a.d_Amount_ge_ ["self", "other"] (sp_cmp a.c_Amount fGe) := by
  refine T.F_Amount_ge_.ok sc_Amount_ge_ (fun vs H Q E h => ?_) (fun cdv A outer s H vs Q E hr h => ?_)
  · obtain ⟨p, q, t, b, t', b', rfl, _⟩ := h
    rfl
  · obtain ⟨p, q, t, b, t', b', rfl, ⟨dx, hp⟩, ⟨dy, hq⟩, bt, bb, bt', bb', k⟩ := h
    refine ⟨_, (pss_cons (ps_if (pt_not (pt_val (pe_callB (call_isiK' (K := K) rfl) (by rfl) T.b_isinstance (by decide +kernel) (pa_cons (pv 1) (pa_cons (pe_glob (v := .ref a.c_Amount) rfl T.mA rfl) pa_nil))))) (pss_one ps_never) pss_nil)
 (pss_one (ps_ret (pe_cmpR op_ge (pe_op op_mulX (pe_fldK (K := K) rfl (pv 0) rfl) (pe_fldK (K := K) rfl (pv 1) rfl)) (pe_op op_mulX (pe_fldK (K := K) rfl (pv 1) rfl) (pe_fldK (K := K) rfl (pv 0) rfl)) (nomark _))))), ?_⟩
    refine ⟨_, rfl, _, _, _, _, true, rfl, .own _, .base (T.I.ty T.cl hq), Inst.kSelf, true, rfl, iteF ?_⟩
    refine ⟨_, rfl, p, _, dx, _, _, rfl, hp, T.cl, T.nT, am_top _ _, _, rfl, q, _, dy, _, _, rfl, hq, T.cl, T.nB, am_bot _ _, _, _, rfl, rfl, bt.cm bb' (by decide), ?_⟩
    exact ⟨_, rfl, q, _, dy, _, _, rfl, hq, T.cl, T.nT, am_top _ _, _, rfl, p, _, dx, _, _, rfl, hp, T.cl, T.nB, am_bot _ _, _, _, rfl, rfl, bt'.cm bb (by decide), _, _, rfl, rfl, k⟩
theorem ok_Amount_eq_ (T : Txt K mg a) : FnOk P w K mg base CX0 1 a.f_Amount_eq_ a.d_Amount_eq_ ["self", "other"] (sp_Amount_eq_ K a.c_Amount) := by
  refine T.F_Amount_eq_.ok sc_Amount_eq_ (fun vs H Q E h => ?_) (fun cdv A outer s H vs Q E hr h => ?_)
  · obtain ⟨p, t, b, y, rfl, _⟩ := h
    rfl
  · obtain ⟨p, t, b, y, rfl, ⟨dx, hp⟩, h⟩ := h
    refine ⟨_, (pss_one (ps_ret (pe_and (pe_callB (call_isiK' (K := K) rfl) (by rfl) T.b_isinstance (by decide +kernel) (pa_cons (pv 1) (pa_cons (pe_glob (v := .ref a.c_Amount) rfl T.mA rfl) pa_nil))) (pe_and (pe_cmpR op_eq (pe_fldK (K := K) rfl (pv 0) rfl) (pe_fldK (K := K) rfl (pv 1) rfl) (nomark _)) (pe_one (pe_cmpR op_eq (pe_fldK (K := K) rfl (pv 0) rfl) (pe_fldK (K := K) rfl (pv 1) rfl) (nomark _))))))), ?_⟩
    rcases h with ⟨q, t', b', rfl, ⟨dy, hq⟩, k⟩ | ⟨⟨ty, h1, h2, h3⟩, k⟩
    · refine ⟨_, rfl, _, _, _, _, true, rfl, .own _, .base (T.I.ty T.cl hq), Inst.kSelf, true, rfl, iteT ?_⟩
      refine ⟨_, rfl, p, _, dx, _, _, rfl, hp, T.cl, T.nT, am_top _ _, _, rfl, q, _, dy, _, _, rfl, hq, T.cl, T.nT, am_top _ _, rfl, _, rfl, ?_⟩
      rw [show decide (V.int t = V.int t') = decide (t = t') by simp]
      refine ite2 (fun h1 => ?_) (fun h1 => ?_)
      · refine ⟨_, rfl, p, _, dx, _, _, rfl, hp, T.cl, T.nB, am_bot _ _, _, rfl, q, _, dy, _, _, rfl, hq, T.cl, T.nB, am_bot _ _, rfl, ?_⟩
        rw [h1, Bool.true_and] at k
        rw [show decide (V.int b = V.int b') = decide (b = b') by simp]
        exact k
      · rw [Bool.eq_false_iff.mpr h1, Bool.false_and] at k
        exact k
    · exact ⟨_, rfl, _, _, _, _, false, rfl, .own _, .base h1, h2, false, rfl, iteF k⟩
/-! the texts -/
def decS (n : Int) : Str := if n < 0 then Str.empty ++ "-" ++ (toString (-n) : String) else (toString n : String)
theorem decS_len {n : Int} (h : n.natAbs < 10 ^ 60) : (decS n).length ≤ 100 := by
  have slen : ∀ {z : Int}, z.natAbs < 10 ^ 60 → (((toString z : String) : Str)).length ≤ 61 := fun {z} hz => by
    rw [show (((toString z : String) : Str)).length = (toString z : String).length from ofString_length _]
    exact int_text_length_le10 (k := 60) (by decide) hz
  unfold decS
  split
  · have := slen (z := -n) (by omega)
    rw [Str.length_append]
    show 1 + _ ≤ _
    omega
  · have := slen h
    omega
def sp_decimal0 : Sp := fun vs H Q _ => ∃ (n : Int), vs = [.int n] ∧ 0 ≤ n ∧ n.natAbs < 10 ^ 60 ∧ ∀ H', Same H H' → Q (.str (toString n : String)) H'
def sp_decimal : Sp := fun vs H Q _ => ∃ (n : Int), vs = [.int n] ∧ n.natAbs < 10 ^ 60 ∧ ∀ H', Same H H' → Q (.str (decS n)) H'
theorem ok_decimal0 (T : Txt K mg a) : FnOk P w K mg base CX0 1 a.f_decimal a.d_decimal ["number"] sp_decimal0 := by
  refine T.F_decimal.ok sc_decimal (fun vs H Q E h => ?_) (fun cdv A outer s H vs Q E hr h => ?_)
  · obtain ⟨n, rfl, _⟩ := h
    rfl
  · obtain ⟨n, rfl, h0, h1, k⟩ := h
    refine ⟨_, (pss_cons (ps_if (pt_cmpR op_lt (pv 0) pe_int (nomark _)) (pss_one ps_never) pss_nil)
 (pss_cons (ps_set (i := 1) sc_decimal.nd rfl (by first | exact Or.inl rfl | exact Or.inr rfl) (pe_lst pa_nil))
 (pss_cons (ps_while PassesOwn.never (pt_cmpR op_ge (pv 0) (pe_glob (v := .int (10 ^ 60)) rfl T.gPart.choose_spec ⟨_, rfl⟩) (nomark _)) (pss_cons ps_never (pss_one ps_never)))
 (pss_cons (ps_expr (pe_bm PySem.F.plainAttrs_list PySem.F.slot_list_append PySem.F.type_list_append mt_append (pv 1) (pa_cons (pe_callTy call_str_int (by rfl) T.b_str (by decide +kernel) (pa_cons (pv 0) pa_nil)) pa_nil)))
 (pss_cons (ps_expr (pe_bm0 PySem.F.plainAttrs_list PySem.F.slot_list_reverse PySem.F.type_list_reverse mt_reverse (pv 1)))
 (pss_one (ps_ret (pe_join pe_str (pv 1))))))))), ?_⟩
    refine ⟨_, rfl, _, _, rfl, rfl, _, rfl, iteN (by simpa using h0) ?_⟩
    refine ⟨sz, fun l hl => ?_⟩
    generalize e_H2 : upd _ l _ = H2
    obtain ⟨s2, fl⟩ := al3 e_H2 hl
    clear e_H2
    (try dsimp only at fl)
    refine while_by (fun σ H' => H' = H2 ∧ σ = [some (.int n), some (.ref l), none]) (fun _ _ => 0) ⟨rfl, rfl⟩ ?_ (fun σ H Q Q' k ⟨v, e, i, j, e1, e2, b, e3, q⟩ => ⟨v, e, i, j, e1, e2, b, e3, k _ _ q⟩)
    rintro σ H' ⟨rfl, rfl⟩
    refine ⟨_, rfl, _, _, rfl, rfl, _, rfl, iteN (by rw [decide_eq_true_eq]; omega) ?_⟩
    have hlog : n.natAbs.log2 < 1920 := by
      have : n.natAbs < 2 ^ 200 := by omega
      exact Nat.lt_of_lt_of_le (PySem.Flt.log2_lt_of (by decide) this) (by decide)
    refine ⟨_, rfl, .inl ⟨rfl, _, SqL.of fl⟩, _, rfl, _, rfl, hlog, l, _, _, rfl, rfl, fl, szlt (by decide), ?_⟩
    refine ⟨_, rfl, .inl ⟨rfl, _, SqL.of upd_same⟩, l, _, rfl, rfl, upd_same, ?_⟩
    refine ⟨⟨_, rfl⟩, _, rfl, _, l, [((toString n : String) : Str)], rfl, rfl, .inl (SqL.of upd_same), ?_, ?_⟩
    · have e := int_text_length_le10 (k := 60) (by decide) h1
      show (((toString n : String) : Str).length + 0) + 1 * _ ≤ _
      rw [show (((toString n : String) : Str)).length = (toString n : String).length from ofString_length _]
      show _ + 1 * 0 ≤ _
      omega
    · exact k _ (Lb.Same.updl (Lb.Same.updl s2 hl) hl)
theorem ok_decimal (T : Txt K mg a) : FnOk P w K mg base CX0 2 a.f_decimal a.d_decimal ["number"] sp_decimal := by
  refine T.F_decimal.ok sc_decimal (fun vs H Q E h => ?_) (fun cdv A outer s H vs Q E hr h => ?_)
  · obtain ⟨n, rfl, _⟩ := h
    rfl
  · obtain ⟨n, rfl, h1, k⟩ := h
    have slen : ∀ {z : Int}, z.natAbs < 10 ^ 60 → (((toString z : String) : Str)).length ≤ 61 := fun {z} hz => by
      rw [show (((toString z : String) : Str)).length = (toString z : String).length from ofString_length _]
      exact int_text_length_le10 (k := 60) (by decide) hz
    refine ⟨_, (pss_cons (ps_if (pt_cmpR op_lt (pv 0) pe_int (nomark _)) (pss_one (ps_ret (pe_joined (.cons pe_str (.cons (pe_fmt (pe_call (ok_decimal0 T) (hr.mono (by decide)) (by rfl) T.m_decimal T.F_decimal.kp (b_decimal T) .nil pass0 (pa_cons (pe_un un_neg (pv 0)) pa_nil))) .nil))))) pss_nil)
 (pss_cons (ps_set (i := 1) sc_decimal.nd rfl (by first | exact Or.inl rfl | exact Or.inr rfl) (pe_lst pa_nil))
 (pss_cons (ps_while PassesOwn.never (pt_cmpR op_ge (pv 0) (pe_glob (v := .int (10 ^ 60)) rfl T.gPart.choose_spec ⟨_, rfl⟩) (nomark _)) (pss_cons ps_never (pss_one ps_never)))
 (pss_cons (ps_expr (pe_bm PySem.F.plainAttrs_list PySem.F.slot_list_append PySem.F.type_list_append mt_append (pv 1) (pa_cons (pe_callTy call_str_int (by rfl) T.b_str (by decide +kernel) (pa_cons (pv 0) pa_nil)) pa_nil)))
 (pss_cons (ps_expr (pe_bm0 PySem.F.plainAttrs_list PySem.F.slot_list_reverse PySem.F.type_list_reverse mt_reverse (pv 1)))
 (pss_one (ps_ret (pe_join pe_str (pv 1))))))))), ?_⟩
    refine ⟨_, rfl, _, _, rfl, rfl, _, rfl, ite2 (fun h0 => ?_) (fun h0 => ?_)⟩
    · have h0 : n < 0 := by simpa using h0
      have hn : (-n).natAbs < 10 ^ 60 := by omega
      refine ⟨_, rfl, sz, _, rfl, _, rfl, -n, rfl, by omega, hn, fun H' s' => .inl ⟨_, rfl, szle (by have := slen hn; omega), _, rfl, ?_, ?_⟩⟩
      · have := slen hn
        rw [Str.length_append]
        exact szle (by show 1 + _ ≤ _; omega)
      · have e := k _ s'
        unfold decS at e
        rw [if_pos h0] at e
        exact e
    · have h0 : ¬ n < 0 := by simpa using h0
      refine ⟨sz, fun l hl => ?_⟩
      generalize e_H2 : upd _ l _ = H2
      obtain ⟨s2, fl⟩ := al3 e_H2 hl
      clear e_H2
      (try dsimp only at fl)
      refine while_by (fun σ H' => H' = H2 ∧ σ = [some (.int n), some (.ref l), none]) (fun _ _ => 0) ⟨rfl, rfl⟩ ?_ (fun σ H Q Q' k ⟨v, e, i, j, e1, e2, b, e3, q⟩ => ⟨v, e, i, j, e1, e2, b, e3, k _ _ q⟩)
      rintro σ H' ⟨rfl, rfl⟩
      refine ⟨_, rfl, _, _, rfl, rfl, _, rfl, iteN (by rw [decide_eq_true_eq]; omega) ?_⟩
      have hlog : n.natAbs.log2 < 1920 := by
        have : n.natAbs < 2 ^ 200 := by omega
        exact Nat.lt_of_lt_of_le (PySem.Flt.log2_lt_of (by decide) this) (by decide)
      refine ⟨_, rfl, .inl ⟨rfl, _, SqL.of fl⟩, _, rfl, _, rfl, hlog, l, _, _, rfl, rfl, fl, szlt (by decide), ?_⟩
      refine ⟨_, rfl, .inl ⟨rfl, _, SqL.of upd_same⟩, l, _, rfl, rfl, upd_same, ?_⟩
      refine ⟨⟨_, rfl⟩, _, rfl, _, l, [((toString n : String) : Str)], rfl, rfl, .inl (SqL.of upd_same), ?_, ?_⟩
      · have e := slen h1
        show (((toString n : String) : Str).length + 0) + 1 * 0 ≤ _
        omega
      · have e : decS n = (toString n : String) := by unfold decS; rw [if_neg h0]
        rw [e] at k
        exact k _ (Lb.Same.updl (Lb.Same.updl s2 hl) hl)
/-- str and repr of an amount: some text -/
def sp_tx (C : Addr) : Sp := fun vs H Q _ => ∃ (p : Addr) (t b : Int), vs = [.ref p] ∧ AmAt C H p t b ∧ t.natAbs < 10 ^ 60 ∧ b.natAbs < 10 ^ 60 ∧ ∀ H' y, Same H H' → Q (.str y) H'
theorem AmAt.same {C p : Addr} {H H' : Hp} {t b : Int} (h : AmAt C H p t b) (s : Same H H') : AmAt C H' p t b := let ⟨dx, e⟩ := h; ⟨dx, s _ _ e⟩
theorem ok_Amount_str_ (T : Txt K mg a) : FnOk P w K mg base CX0 3 a.f_Amount_str_ a.d_Amount_str_ ["self"] (sp_tx a.c_Amount) := by
  refine T.F_Amount_str_.ok sc_Amount_str_ (fun vs H Q E h => ?_) (fun cdv A outer s H vs Q E hr h => ?_)
  · obtain ⟨p, t, b, rfl, _⟩ := h
    rfl
  · obtain ⟨p, t, b, rfl, ⟨dx, hp⟩, ht, hb, k⟩ := h
    refine ⟨_, (pss_cons (ps_if (pt_cmpR op_eq (pe_fldK (K := K) rfl (pv 0) rfl) pe_int (nomark _)) (pss_one (ps_ret (pe_callTy SkE.call_str_str (by rfl) T.b_str (by decide +kernel) (pa_cons (pe_call (ok_decimal T) (hr.mono (by decide)) (by rfl) T.m_decimal T.F_decimal.kp (b_decimal T) .nil pass0 (pa_cons (pe_fldK (K := K) rfl (pv 0) rfl) pa_nil)) pa_nil)))) pss_nil)
 (pss_one (ps_ret (pe_joined (.cons (pe_fmt (pe_call (ok_decimal T) (hr.mono (by decide)) (by rfl) T.m_decimal T.F_decimal.kp (b_decimal T) .nil pass0 (pa_cons (pe_fldK (K := K) rfl (pv 0) rfl) pa_nil))) (.cons pe_str (.cons (pe_fmt (pe_call (ok_decimal T) (hr.mono (by decide)) (by rfl) T.m_decimal T.F_decimal.kp (b_decimal T) .nil pass0 (pa_cons (pe_fldK (K := K) rfl (pv 0) rfl) pa_nil))) .nil))))))), ?_⟩
    refine ⟨_, rfl, p, _, dx, _, _, rfl, hp, T.cl, T.nB, am_bot _ _, rfl, _, rfl, ite2 (fun h1 => ?_) (fun h1 => ?_)⟩
    · refine ⟨_, rfl, p, _, dx, _, _, rfl, hp, T.cl, T.nT, am_top _ _, t, rfl, ht, fun H1 s1 => ⟨_, rfl, k _ _ s1⟩⟩
    · refine ⟨_, rfl, p, _, dx, _, _, rfl, hp, T.cl, T.nT, am_top _ _, t, rfl, ht, fun H1 s1 => ?_⟩
      have l1 := decS_len ht
      have l2 := decS_len hb
      refine .inl ⟨_, rfl, szle (by omega), _, rfl, ?_, _, rfl, ?_, ?_⟩
      · rw [Str.length_append]
        exact szle (by show 0 + _ ≤ _; omega)
      · rw [Str.length_append, Str.length_append]
        exact szle (by show 0 + _ + 1 ≤ _; omega)
      refine ⟨_, rfl, p, _, dx, _, _, rfl, s1 _ _ hp, T.cl, T.nB, am_bot _ _, b, rfl, hb, fun H2 s2 => .inl ⟨_, rfl, szle (by omega), _, rfl, ?_, k _ _ (s1.trans s2)⟩⟩
      rw [Str.length_append, Str.length_append, Str.length_append]
      exact szle (by show 0 + _ + 1 + _ ≤ _; omega)
theorem ok_Amount_repr_ (T : Txt K mg a) : FnOk P w K mg base CX0 3 a.f_Amount_repr_ a.d_Amount_repr_ ["self"] (sp_tx a.c_Amount) := by
  refine T.F_Amount_repr_.ok sc_Amount_repr_ (fun vs H Q E h => ?_) (fun cdv A outer s H vs Q E hr h => ?_)
  · obtain ⟨p, t, b, rfl, _⟩ := h
    rfl
  · obtain ⟨p, t, b, rfl, ⟨dx, hp⟩, ht, hb, k⟩ := h
    refine ⟨_, (pss_one (ps_ret (pe_joined (.cons pe_str (.cons (pe_fmt (pe_call (ok_decimal T) (hr.mono (by decide)) (by rfl) T.m_decimal T.F_decimal.kp (b_decimal T) .nil pass0 (pa_cons (pe_fldK (K := K) rfl (pv 0) rfl) pa_nil))) (.cons pe_str (.cons (pe_fmt (pe_call (ok_decimal T) (hr.mono (by decide)) (by rfl) T.m_decimal T.F_decimal.kp (b_decimal T) .nil pass0 (pa_cons (pe_fldK (K := K) rfl (pv 0) rfl) pa_nil))) (.cons pe_str .nil)))))))), ?_⟩
    have l1 := decS_len ht
    have l2 := decS_len hb
    have l3 : ("Amount(" : Str).length = 7 := by decide +kernel
    have l4 : (", " : Str).length = 2 := by decide +kernel
    have l5 : (")" : Str).length = 1 := by decide +kernel
    have l0 : (Str.empty).length = 0 := rfl
    refine ⟨_, rfl, sz, _, rfl, p, _, dx, _, _, rfl, hp, T.cl, T.nT, am_top _ _, t, rfl, ht, fun H1 s1 => .inl ⟨_, rfl, szle (by omega), _, rfl, ?_, _, rfl, ?_, ?_⟩⟩
    · rw [Str.length_append, Str.length_append]
      exact szle (by omega)
    · rw [Str.length_append, Str.length_append, Str.length_append]
      exact szle (by omega)
    refine ⟨_, rfl, p, _, dx, _, _, rfl, s1 _ _ hp, T.cl, T.nB, am_bot _ _, b, rfl, hb, fun H2 s2 => .inl ⟨_, rfl, szle (by omega), _, rfl, ?_, _, rfl, ?_, k _ _ (s1.trans s2)⟩⟩
    · rw [Str.length_append, Str.length_append, Str.length_append, Str.length_append]
      exact szle (by omega)
    · rw [Str.length_append, Str.length_append, Str.length_append, Str.length_append, Str.length_append]
      exact szle (by omega)
theorem ok_top (T : Txt K mg a) : FnOk P w K mg base CX0 1 a.f_Amounttop a.d_Amounttop ["self"] (getSp a.c_Amount "_top") := by
  refine T.F_Amounttop.ok sc_Amounttop (fun vs H Q E h => ?_) (fun cdv A outer s H vs Q E hr h => ?_)
  · obtain ⟨p, dx, fs, v, rfl, _⟩ := h
    rfl
  · obtain ⟨p, dx, fs, v, rfl, hp, hl, k⟩ := h
    refine ⟨_, (pss_one (ps_ret (pe_fldK (K := K) rfl (pv 0) rfl))), ?_⟩
    exact ⟨_, rfl, p, _, dx, _, _, rfl, hp, T.cl, T.nT, hl, k⟩
end
end K12

set_option Elab.async false
set_option linter.all false
set_option maxRecDepth 100000
set_option maxHeartbeats 4000000
namespace K12
open PySem L2 Lb
def sp_pair_right (C : Addr) : Sp := fun vs H Q _ => ∃ (p q : Addr) (t b t' b' s : Int), vs = [.ref p, .ref q, .int s] ∧ AmAt C H p t b ∧ AmAt C H q t' b' ∧ Bd 8000 t ∧ Bd 8000 b ∧ Bd 8000 t' ∧ Bd 8000 b' ∧
  s = sg (t * b' - t' * b) ∧ ((t = t' ∧ b = b') ↔ t * b' - t' * b = 0) ∧ ∀ H', Same H H' → Q (.bl true) H'
def sp_alone_right (C : Addr) : Sp := fun vs H Q _ => ∃ (p q : Addr) (t b x y : Int), vs = [.ref p, .ref q] ∧ AmAt C H p t b ∧ Fr H q x y ∧ t.natAbs < 10 ^ 60 ∧ b.natAbs < 10 ^ 60 ∧
  ∀ H', Same H H' → Q (.bl true) H'
section
variable {P : Program} {w : World} {K : PySem.W.Frag} {mg : Str → Option Value} {base : Heap} {a : Ad}
theorem ok_pair_right (T : Txt K mg a) : FnG P w K mg base CX0 3 a.f_pair_right a.d_pair_right ["_law_one", "_law_other", "_law_sign_here"] (sp_pair_right a.c_Amount) := by
  refine okG T.F_pair_right sc_pair_right (fun vs H Q E h => ?_) (fun cdv A outer s H vs Q E gu hr h => ?_)
  · obtain ⟨p, q, t, b, t', b', s, rfl, _⟩ := h
    rfl
  · obtain ⟨p, q, t, b, t', b', z, rfl, ⟨dx, hp⟩, ⟨dy, hq⟩, bt, bb, bt', bb', hz, he, k⟩ := h
    refine ⟨_, (pss_cons (ps_set (i := 3) sc_pair_right.nd rfl (by first | exact Or.inl rfl | exact Or.inr rfl) (pe_lst (pa_cons (pe_cmpR (op_ownCmp (n := 1) (C := a.c_Amount) (K := K) rfl (fun _ _ => rfl) T.cLt.at_ T.cLt.fn ((ok_Amount_lt_ T).raw (b_Amount_lt_ T) .nil) (hr.mono (by decide)) pass0) (pv 0) (pv 1) (nomark _)) (pa_cons (pe_cmpR (op_ownCmp (n := 1) (C := a.c_Amount) (K := K) rfl (fun _ _ => rfl) T.cLe.at_ T.cLe.fn ((ok_Amount_le_ T).raw (b_Amount_le_ T) .nil) (hr.mono (by decide)) pass0) (pv 0) (pv 1) (nomark _)) (pa_cons (pe_cmpR (op_ownCmp (n := 1) (C := a.c_Amount) (K := K) rfl (fun _ _ => rfl) T.cGt.at_ T.cGt.fn ((ok_Amount_gt_ T).raw (b_Amount_gt_ T) .nil) (hr.mono (by decide)) pass0) (pv 0) (pv 1) (nomark _)) (pa_cons (pe_cmpR (op_ownCmp (n := 1) (C := a.c_Amount) (K := K) rfl (fun _ _ => rfl) T.cGe.at_ T.cGe.fn ((ok_Amount_ge_ T).raw (b_Amount_ge_ T) .nil) (hr.mono (by decide)) pass0) (pv 0) (pv 1) (nomark _)) (pa_cons (pe_cmpR (op_ownCmp (n := 1) (C := a.c_Amount) (K := K) rfl (fun _ _ => rfl) T.cEq.at_ T.cEq.fn ((ok_Amount_eq_ T).raw (b_Amount_eq_ T) .nil) (hr.mono (by decide)) pass0) (pv 0) (pv 1) (nomark _)) (pa_cons (pe_cmpR (op_ownNe (n := 1) (C := a.c_Amount) (K := K) rfl T.cNe T.I.cm T.cEq.at_ T.cEq.fn ((ok_Amount_eq_ T).raw (b_Amount_eq_ T) .nil) (hr.mono (by decide)) pass0) (pv 0) (pv 1) (nomark _)) pa_nil))))))))
 (pss_one (ps_ret (pe_cmpR op_eq (pe_callB (call_repr (K := K) rfl gu hr.units) (by rfl) T.b_repr (by decide +kernel) (pa_cons (pv 3) pa_nil)) (pe_callB (call_repr (K := K) rfl gu hr.units) (by rfl) T.b_repr (by decide +kernel) (pa_cons (pe_lst (pa_cons (pe_cmpR op_lt (pv 2) pe_int (nomark _)) (pa_cons (pe_cmpR op_le (pv 2) pe_int (nomark _)) (pa_cons (pe_cmpR op_gt (pv 2) pe_int (nomark _)) (pa_cons (pe_cmpR op_ge (pv 2) pe_int (nomark _)) (pa_cons (pe_cmpR op_eq (pv 2) pe_int (nomark _)) (pa_cons (pe_cmpR op_ne (pv 2) pe_int (nomark _)) pa_nil))))))) pa_nil)) (nomark _))))), ?_⟩
    have ty := T.I.ty T.cl hq
    refine ⟨_, rfl, _, rfl, p, dx, _, _, rfl, hp, ty, Inst.nSelf, p, q, t, b, t', b', rfl, ⟨dx, hp⟩, ⟨dy, hq⟩, bt, bb, bt', bb', ?_⟩
    refine ⟨_, rfl, _, rfl, p, dx, _, _, rfl, hp, ty, Inst.nSelf, p, q, t, b, t', b', rfl, ⟨dx, hp⟩, ⟨dy, hq⟩, bt, bb, bt', bb', ?_⟩
    refine ⟨_, rfl, _, rfl, p, dx, _, _, rfl, hp, ty, Inst.nSelf, p, q, t, b, t', b', rfl, ⟨dx, hp⟩, ⟨dy, hq⟩, bt, bb, bt', bb', ?_⟩
    refine ⟨_, rfl, _, rfl, p, dx, _, _, rfl, hp, ty, Inst.nSelf, p, q, t, b, t', b', rfl, ⟨dx, hp⟩, ⟨dy, hq⟩, bt, bb, bt', bb', ?_⟩
    refine ⟨_, rfl, _, rfl, p, dx, _, _, rfl, hp, ty, Inst.nSelf, p, t, b, _, rfl, ⟨dx, hp⟩, .inl ⟨q, t', b', rfl, ⟨dy, hq⟩, ?_⟩⟩
    refine ⟨_, rfl, _, rfl, p, dx, _, _, rfl, hp, ty, Inst.nSelf, p, t, b, _, rfl, ⟨dx, hp⟩, .inl ⟨q, t', b', rfl, ⟨dy, hq⟩, _, rfl, ?_⟩⟩
    refine ⟨sz, fun l hl => ?_⟩
    generalize e_H2 : upd _ l _ = H2
    obtain ⟨s2, fl⟩ := al3 e_H2 hl
    clear e_H2
    (try dsimp only at fl)
    have r1 := fun b1 b2 b3 b4 b5 b6 => bools_ok [b1, b2, b3, b4, b5, b6] (by show 6 ≤ 1000; decide)
    refine ⟨_, rfl, _, _, rfl, .lst (SqL.of fl) (dp_bools [_, _, _, _, _, _]), (r1 _ _ _ _ _ _).1, (r1 _ _ _ _ _ _).2.1, (r1 _ _ _ _ _ _).2.2, ?_⟩
    refine ⟨_, rfl, _, _, rfl, rfl, _, rfl, _, _, rfl, rfl, _, rfl, _, _, rfl, rfl, _, rfl, _, _, rfl, rfl, _, rfl, rfl, _, rfl, rfl, sz, fun l2 hl2 => ?_⟩
    generalize e_H3 : upd _ l2 _ = H3
    obtain ⟨s3, fl2⟩ := al3 e_H3 hl2
    clear e_H3
    (try dsimp only at fl2)
    refine ⟨_, _, rfl, .lst (SqL.of fl2) (dp_bools [_, _, _, _, _, _]), (r1 _ _ _ _ _ _).1, (r1 _ _ _ _ _ _).2.1, (r1 _ _ _ _ _ _).2.2, rfl, ?_⟩
    have e : ∀ x y : Str, x = y → Q (.bl true) H3 → Q (.bl (decide (V.str x = V.str y))) H3 := fun x y h q => by
      rw [decide_eq_true (by rw [h])]
      exact q
    refine e _ _ ?_ (k _ (s2.trans s3))
    have sg3 : sg (t * b' - t' * b) = 1 ∧ 0 < t * b' - t' * b ∨ sg (t * b' - t' * b) = 0 ∧ t * b' - t' * b = 0 ∨ sg (t * b' - t' * b) = -1 ∧ t * b' - t' * b < 0 := by
      unfold sg
      rcases (show t * b' - t' * b < 0 ∨ t * b' - t' * b = 0 ∨ 0 < t * b' - t' * b by omega) with h | h | h
      · refine .inr (.inr ⟨?_, h⟩)
        rw [if_neg (by omega), if_pos h]; rfl
      · refine .inr (.inl ⟨?_, h⟩)
        rw [if_neg (by omega), if_neg (by omega)]; rfl
      · refine .inl ⟨?_, h⟩
        rw [if_pos h, if_neg (by omega)]; rfl
    have heq : (decide (t = t') && decide (b = b')) = decide (t * b' - t' * b = 0) := by
      rw [← Bool.decide_and]
      exact decide_eq_decide.mpr he
    congr 3
    rw [heq, hz]
    simp only [fLt, fLe, fGt, fGe, List.cons.injEq, decide_eq_decide, V.int.injEq, and_true]
    rcases sg3 with ⟨e1, e2⟩ | ⟨e1, e2⟩ | ⟨e1, e2⟩ <;> rw [e1] <;> refine ⟨?_, ?_, ?_, ?_, ?_, ?_⟩ <;> simp <;> omega
end
end K12

set_option Elab.async false
set_option linter.all false
set_option maxRecDepth 100000
set_option maxHeartbeats 4000000
namespace K12
open PySem L2 Lb
section
variable {P : Program} {w : World} {K : PySem.W.Frag} {mg : Str → Option Value} {base : Heap} {a : Ad}
theorem ok_alone_right (T : Txt K mg a) : FnOk P w K mg base CX0 6 a.f_alone_right a.d_alone_right ["_law_made", "_law_fraction"] (sp_alone_right a.c_Amount) := by
  refine T.F_alone_right.ok sc_alone_right (fun vs H Q E h => ?_) (fun cdv A outer s H vs Q E hr h => ?_)
  · obtain ⟨p, q, t, b, x, y, rfl, _⟩ := h
    rfl
  · obtain ⟨p, q, t, b, x, y, rfl, ⟨dx, hp⟩, hq, ht, hb, k⟩ := h
    refine ⟨_, (pss_cons (ps_set (i := 2) sc_alone_right.nd rfl (by first | exact Or.inl rfl | exact Or.inr rfl) (pe_lst (pa_cons (pe_ix (ix_tupK (K := K) rfl) (pv 1) pe_int (fun _ _ => rfl)) (pa_cons (pv 1) (pa_cons (pe_callTy (call_strOwn T.cSt.at_ T.cSt.fn ((ok_Amount_str_ T).raw (b_Amount_str_ T) .nil) (hr.mono (by decide)) pass0) (by rfl) T.b_str (by decide +kernel) (pa_cons (pv 0) pa_nil)) (pa_cons (pe_callB (call_reprOwn T.cRe.at_ T.cRe.fn ((ok_Amount_repr_ T).raw (b_Amount_repr_ T) .nil) (hr.mono (by decide)) pass0) (by rfl) T.b_repr (by decide +kernel) (pa_cons (pv 0) pa_nil)) (pa_cons pe_non (pa_cons pe_bl (pa_cons pe_bl (pa_cons pe_int (pa_cons (pe_lst (pa_cons (pv 0) pa_nil)) (pa_cons (pe_prop (pv 0) T.cl T.pTop (ok_top T) (hr.mono (by decide)) (b_Amounttop T) .nil pass0 rfl) pa_nil))))))))))))
 (pss_one (ps_ret (pe_callB (cr_allK (K := K) rfl rfl) (by rfl) T.b_all (by decide +kernel) (pa_cons (pe_lc (own := [("_law_thing", 3)]) (by rfl) sc_alone_right.nd (pi_listK (K := K) rfl (pv 2)) (blkOk_by (own := [("_law_thing", 3)]) (N := ["_law_made", "_law_fraction", "_law_things", "_law_thing"]) (sc := defScope s_alone_right) (by decide +kernel)) (fun _ _ _ _ _ => (pg_name (i := 3) sc_alone_right.nd rfl (by first | exact Or.inl rfl | exact Or.inr rfl))) (fun _ _ _ _ _ => pts_nil) (fun _ _ _ _ _ => (pe_and (pe_cmpR op_isBl (pe_cmpR (op_ownCmp (n := 1) (C := a.c_Amount) (K := K) rfl (fun _ _ => rfl) T.cEq.at_ T.cEq.fn ((ok_Amount_eq_ T).raw (b_Amount_eq_ T) .nil) (hr.mono (by decide)) pass0) (pv 0) (pv 3) (nomark _)) pe_bl (nomark _)) (pe_one (pe_cmpR op_isBl (pe_cmpR (op_ownNe (n := 1) (C := a.c_Amount) (K := K) rfl T.cNe T.I.cm T.cEq.at_ T.cEq.fn ((ok_Amount_eq_ T).raw (b_Amount_eq_ T) .nil) (hr.mono (by decide)) pass0) (pv 0) (pv 3) (nomark _)) pe_bl (nomark _)))))) pa_nil))))), ?_⟩
    refine ⟨_, rfl, _, _, _, _, rfl, rfl, SqT.of hq, at0, _, rfl, ?_⟩
    refine ⟨_, rfl, p, dx, _, rfl, hp, p, t, b, rfl, ⟨dx, hp⟩, ht, hb, fun H1 y1 s1 => ⟨_, rfl, ?_⟩⟩
    have hp1 := s1 _ _ hp
    refine ⟨_, rfl, p, dx, _, rfl, hp1, p, t, b, rfl, ⟨dx, hp1⟩, ht, hb, fun H2 y2 s2 => ⟨_, rfl, ?_⟩⟩
    have hp2 := s2 _ _ hp1
    refine ⟨_, rfl, sz, fun l hl => ?_⟩
    generalize e_H3 : upd _ l _ = H3
    obtain ⟨s3, fl⟩ := al3 e_H3 hl
    clear e_H3
    (try dsimp only at fl)
    have hp3 := s3 _ _ hp2
    refine ⟨_, rfl, p, dx, _, rfl, hp3, p, dx, _, _, rfl, hp3, am_top _ _, sz, fun th hth => ?_⟩
    generalize e_H4 : upd _ th _ = H4
    obtain ⟨s4, fth⟩ := al3 e_H4 hth
    clear e_H4
    (try dsimp only at fth)
    have S4 := ((s1.trans s2).trans s3).trans s4
    have hp4 := s4 _ _ hp3
    have I := T.I
    have hall : ∀ v ∈ ([V.int x, V.ref q, V.str y1, V.str y2, V.non, V.bl true, V.bl false, V.int 0, V.ref l, V.int t] : List V), NotC K a.c_Amount H4 v := by
      intro v hv
      simp only [List.mem_cons, List.not_mem_nil, or_false] at hv
      rcases hv with rfl | rfl | rfl | rfl | rfl | rfl | rfl | rfl | rfl | rfl
      · exact ⟨_, .int _, I.kInt, I.nInt⟩
      · exact ⟨_, .tup (S4 _ _ hq), I.kTup, I.nTup⟩
      · exact ⟨_, .str _, I.kStr, I.nStr⟩
      · exact ⟨_, .str _, I.kStr, I.nStr⟩
      · exact ⟨_, .non, I.kNone, I.nNone⟩
      · exact ⟨_, .bl _, I.kBool, I.nBool⟩
      · exact ⟨_, .bl _, I.kBool, I.nBool⟩
      · exact ⟨_, .int _, I.kInt, I.nInt⟩
      · exact ⟨_, .lst (s4 _ _ fl), I.kList, I.nList⟩
      · exact ⟨_, .int _, I.kInt, I.nInt⟩
    refine ⟨_, rfl, _, rfl, ⟨_, SqL.of fth⟩, fun D hD => ?_⟩
    refine lc_list (K := K) (a := th) (xs := [V.int x, V.ref q, V.str y1, V.str y2, V.non, V.bl true, V.bl false, V.int 0, V.ref l, V.int t]) (fun i H' => H' = upd H4 D (.lst ((List.replicate i true).map V.bl))) rfl
      (fun i H' _ e => e ▸ SqL.of (Lb.Same.upd hD _ _ fth)) ?_ ?_
    · rintro i v H' hi rfl
      have nc := NotC.same (Lb.Same.upd (o := .lst ((List.replicate i true).map V.bl)) hD) (hall v (List.mem_of_getElem? hi))
      have hpD : upd H4 D (.lst ((List.replicate i true).map V.bl)) p = some (.ins a.c_Amount dx (am t b)) := Lb.Same.upd hD _ _ hp4
      obtain ⟨ty, h1, h2, h3⟩ := id nc
      refine ⟨rfl, ?_⟩
      refine ⟨_, rfl, _, rfl, p, dx, _, _, rfl, hpD, h1, h3, p, t, b, v, rfl, ⟨dx, hpD⟩, .inr ⟨nc, false, false, rfl, rfl, _, rfl, iteT ?_⟩⟩
      refine ⟨_, rfl, _, rfl, p, dx, _, _, rfl, hpD, h1, h3, p, t, b, v, rfl, ⟨dx, hpD⟩, .inr ⟨nc, false, rfl, true, true, rfl, rfl, ?_⟩⟩
      refine ⟨_, upd_same, ?_, ?_⟩
      · have := (List.getElem?_eq_some_iff.mp hi).1
        simp only [List.length_map, List.length_replicate]
        exact szlt (by simp only [List.length_cons, List.length_nil] at this; omega)
      · rw [upd_upd, List.replicate_succ', List.map_append]
        rfl
    · rintro H' rfl
      refine ⟨D, _, rfl, SqL.of upd_same, ?_⟩
      rw [all_replicate_true]
      exact k _ (S4.trans (Lb.Same.upd hD))
end
end K12

set_option Elab.async false
set_option linter.all false
set_option maxRecDepth 100000
set_option maxHeartbeats 4000000
namespace K12
open PySem L2 Lb
/-! ### lowest terms -/
theorem rd_spec {t b : Int} (hb : b ≠ 0) : ∃ g : Int, 0 < g ∧ (nrm (t, b)).1 = g * rdT t b ∧ (nrm (t, b)).2 = g * rdB t b ∧ 0 < rdB t b ∧ (rdT t b).gcd (rdB t b) = 1 ∧ t = (rdD t b) * rdT t b ∧ b = (rdD t b) * rdB t b := by
  have hg : 0 < t.gcd b := Int.gcd_pos_of_ne_zero_right t hb
  obtain ⟨t1, ht⟩ := Int.gcd_dvd_left t b
  obtain ⟨b1, hb1⟩ := Int.gcd_dvd_right t b
  have g1 : t1.gcd b1 = 1 := by
    have h := Int.gcd_mul_left (t.gcd b : Int) t1 b1
    rw [← ht, ← hb1] at h
    have h' : t.gcd b * 1 = t.gcd b * t1.gcd b1 := by simpa using h
    exact (Nat.eq_of_mul_eq_mul_left hg h').symm
  have key : ∀ D x y : Int, D ≠ 0 → t = D * x → b = D * y → t.fdiv D = x ∧ b.fdiv D = y := fun D x y hD h1 h2 => by
    rw [h1, h2]
    exact ⟨Int.mul_fdiv_cancel_left _ hD, Int.mul_fdiv_cancel_left _ hD⟩
  have eg : ((Nat.gcd t.natAbs b.natAbs : Nat) : Int) = (t.gcd b : Int) := rfl
  refine ⟨(t.gcd b : Int), by omega, ?_⟩
  unfold rdT rdB
  by_cases h : b < 0
  · have eD : rdD t b = -(t.gcd b : Int) := by unfold rdD; rw [if_pos h, eg]
    obtain ⟨e1, e2⟩ := key (rdD t b) (-t1) (-b1) (by omega) (by rw [eD, Int.neg_mul_neg]; exact ht) (by rw [eD, Int.neg_mul_neg]; exact hb1)
    rw [e1, e2]
    unfold nrm
    rw [if_pos h]
    have hb2 : b1 < 0 := by
      have : (t.gcd b : Int) * b1 < (t.gcd b : Int) * 0 := by omega
      exact Int.lt_of_mul_lt_mul_left this (by omega)
    refine ⟨by show -t = _; rw [Int.mul_neg, ← ht], by show -b = _; rw [Int.mul_neg, ← hb1], by omega, ?_, by rw [eD, Int.neg_mul_neg]; exact ht, by rw [eD, Int.neg_mul_neg]; exact hb1⟩
    rw [Int.neg_gcd, Int.gcd_neg]
    exact g1
  · have eD : rdD t b = (t.gcd b : Int) := by unfold rdD; rw [if_neg h, eg]
    obtain ⟨e1, e2⟩ := key (rdD t b) t1 b1 (by omega) (by rw [eD]; exact ht) (by rw [eD]; exact hb1)
    rw [e1, e2]
    unfold nrm
    rw [if_neg h]
    have hb2 : 0 < b1 := by
      have : (t.gcd b : Int) * 0 < (t.gcd b : Int) * b1 := by omega
      exact Int.lt_of_mul_lt_mul_left this (by omega)
    exact ⟨ht, hb1, hb2, g1, by rw [eD]; exact ht, by rw [eD]; exact hb1⟩
theorem sg_mul {c z : Int} (hc : 0 < c) : sg (c * z) = sg z := by
  unfold sg
  rcases (show z < 0 ∨ z = 0 ∨ 0 < z by omega) with h | h | h
  · have : c * z < 0 := Int.mul_neg_of_pos_of_neg hc h
    rw [if_neg (by omega), if_pos this, if_neg (by omega), if_pos h]
  · subst h; simp
  · have : 0 < c * z := Int.mul_pos hc h
    rw [if_pos this, if_neg (by omega), if_pos h, if_neg (by omega)]
theorem cmpF_rd {x y : Int × Int} (hx : x.2 ≠ 0) (hy : y.2 ≠ 0) : cmpF x y = sg (rdT x.1 x.2 * rdB y.1 y.2 - rdT y.1 y.2 * rdB x.1 x.2) := by
  obtain ⟨g, hg, e1, e2, _⟩ := rd_spec (t := x.1) (b := x.2) hx
  obtain ⟨g', hg', e1', e2', _⟩ := rd_spec (t := y.1) (b := y.2) hy
  unfold cmpF
  rw [show (nrm x).1 = _ from e1, show (nrm x).2 = _ from e2, show (nrm y).1 = _ from e1', show (nrm y).2 = _ from e2']
  rw [← sg_mul (z := rdT x.1 x.2 * rdB y.1 y.2 - rdT y.1 y.2 * rdB x.1 x.2) (Int.mul_pos hg hg')]
  clear e1 e2 e1' e2'
  generalize rdT x.1 x.2 = a at *
  generalize rdB x.1 x.2 = b at *
  generalize rdT y.1 y.2 = c at *
  generalize rdB y.1 y.2 = d at *
  congr 1
  grind
theorem low_eq {t b t' b' : Int} (hb : 0 < b) (hb' : 0 < b') (g : t.gcd b = 1) (g' : t'.gcd b' = 1) : (t = t' ∧ b = b') ↔ t * b' - t' * b = 0 := by
  constructor
  · rintro ⟨rfl, rfl⟩; omega
  · intro h
    have d1 : b ∣ b' := by
      have : b ∣ (b.gcd t : Int) * b' := Int.dvd_gcd_mul_iff_dvd_mul.mpr ⟨t', by grind⟩
      rw [Int.gcd_comm, g] at this
      simpa using this
    have d2 : b' ∣ b := by
      have : b' ∣ (b'.gcd t' : Int) * b := Int.dvd_gcd_mul_iff_dvd_mul.mpr ⟨t, by grind⟩
      rw [Int.gcd_comm, g'] at this
      simpa using this
    have e : b = b' := by
      have h1 := Int.le_of_dvd hb' d1
      have h2 := Int.le_of_dvd hb d2
      omega
    subst e
    refine ⟨?_, rfl⟩
    have : (t - t') * b = 0 := by grind
    rcases Int.mul_eq_zero.mp this with e | e <;> omega
theorem rd_bd {n : Nat} {t b : Int} (hb : b ≠ 0) (h1 : Bd n t) (h2 : Bd n b) : Bd n (rdT t b) ∧ Bd n (rdB t b) := by
  obtain ⟨g, hg, e1, e2, _, _, e3, e4⟩ := rd_spec (t := t) (b := b) hb
  have hD : 1 ≤ (rdD t b).natAbs := by
    rcases Nat.eq_zero_or_pos (rdD t b).natAbs with e | e
    · have := Int.natAbs_eq_zero.mp e
      rw [this, Int.zero_mul] at e4
      exact absurd e4 hb
    · exact e
  have le : ∀ z : Int, z.natAbs ≤ (rdD t b * z).natAbs := fun z => by
    rw [Int.natAbs_mul]
    exact Nat.le_mul_of_pos_left _ hD
  exact ⟨h1.le (by conv => rhs; rw [e3]
                   exact le _), h2.le (by conv => rhs; rw [e4]
                                          exact le _)⟩
/-- x is at least y -/
def geF (x y : Int × Int) : Prop := rdT y.1 y.2 * rdB x.1 x.2 ≤ rdT x.1 x.2 * rdB y.1 y.2
theorem geF_trans {x y z : Int × Int} (hx : x.2 ≠ 0) (hy : y.2 ≠ 0) (hz : z.2 ≠ 0) (h1 : geF x y) (h2 : geF y z) : geF x z := by
  obtain ⟨_, _, _, _, px, _⟩ := rd_spec (t := x.1) (b := x.2) hx
  obtain ⟨_, _, _, _, py, _⟩ := rd_spec (t := y.1) (b := y.2) hy
  obtain ⟨_, _, _, _, pz, _⟩ := rd_spec (t := z.1) (b := z.2) hz
  unfold geF at *
  generalize rdT x.1 x.2 = a at *
  generalize rdB x.1 x.2 = b at *
  generalize rdT y.1 y.2 = c at *
  generalize rdB y.1 y.2 = d at *
  generalize rdT z.1 z.2 = e at *
  generalize rdB z.1 z.2 = f at *
  have k1 := Int.mul_le_mul_of_nonneg_right h1 (show 0 ≤ f by omega)
  have k2 := Int.mul_le_mul_of_nonneg_right h2 (show 0 ≤ b by omega)
  have k3 : d * (e * b) ≤ d * (a * f) := by grind
  exact Int.le_of_mul_le_mul_left k3 py
theorem geF_sg {x y : Int × Int} (hx : x.2 ≠ 0) (hy : y.2 ≠ 0) (h : geF x y) : cmpF x y ≠ -1 ∧ cmpF y x ≠ 1 := by
  rw [cmpF_rd hx hy, cmpF_rd hy hx]
  unfold geF at h
  unfold sg
  constructor
  · rw [if_neg (show ¬ rdT x.1 x.2 * rdB y.1 y.2 - rdT y.1 y.2 * rdB x.1 x.2 < 0 by omega)]
    split <;> decide
  · rw [if_neg (show ¬ 0 < rdT y.1 y.2 * rdB x.1 x.2 - rdT x.1 x.2 * rdB y.1 y.2 by omega)]
    split <;> decide
end K12

set_option Elab.async false
set_option linter.all false
set_option maxRecDepth 100000
set_option maxHeartbeats 4000000
namespace K12
open PySem L2 Lb
open C8 (pss_cut)
def sp_right : Sp := fun vs H Q _ => ∃ (p : Addr), vs = [.ref p] ∧ PotAt H p ∧ ∀ H', Mov p H H' → Q (.bl true) H'
def FrR (H : Hp) (q : Addr) (x : Int × Int) : Prop := Fr H q x.1 x.2
def AmR (C : Addr) (H : Hp) (q : Addr) (x : Int × Int) : Prop := AmAt C H q (rdT x.1 x.2) (rdB x.1 x.2)
theorem frR_keep : ∀ (H H' : Hp) (q : Addr) (x : Int × Int), FrR H q x → (∀ o, H q = some o → H' q = some o) → FrR H' q x := fun _ _ _ _ h k => k _ h
theorem frR_nl : ∀ (H : Hp) (q : Addr) (x : Int × Int) (l : List V), FrR H q x → H q = some (.lst l) → False := fun H q x l h e => by
  have h' : H q = some (.tup [.int x.1, .int x.2]) := h
  rw [e] at h'
  cases h'
theorem amR_keep {C : Addr} : ∀ (H H' : Hp) (q : Addr) (x : Int × Int), AmR C H q x → (∀ o, H q = some o → H' q = some o) → AmR C H' q x := fun _ _ _ _ ⟨dx, h⟩ k => ⟨dx, k _ h⟩
theorem amR_nl {C : Addr} : ∀ (H : Hp) (q : Addr) (x : Int × Int) (l : List V), AmR C H q x → H q = some (.lst l) → False := fun H q x l ⟨dx, h⟩ e => by
  rw [e] at h
  cases h
theorem take_snoc {α : Type} {l : List α} {i : Nat} {x : α} (h : l[i]? = some x) : l.take i ++ [x] = l.take (i + 1) := by
  rw [List.take_succ, h]
  rfl
theorem ref_at {as : List Addr} {i : Nat} {x : V} (h : (as.map V.ref)[i]? = some x) : ∃ q, x = .ref q ∧ as[i]? = some q := by
  rw [List.getElem?_map] at h
  cases e : as[i]? with
  | none => rw [e] at h; cases h
  | some q => rw [e] at h; exact ⟨q, (Option.some.inj h).symm, rfl⟩
theorem at_ref {as : List Addr} {i : Nat} {q : Addr} (h : as[i]? = some q) : atI (as.map V.ref) (i : Int) = some (.ref q) := atI_nat (by rw [List.getElem?_map, h]; rfl)
section
variable {P : Program} {w : World} {K : PySem.W.Frag} {mg : Str → Option Value} {base : Heap} {a : Ad}
/-- behind the making of an instance, what stood stands -/
theorem made_same {C x dx : Addr} {H H' : Hp} (hx : H x = none) (hdx : H dx = none) (keep : ∀ c o, c ≠ x → upd (upd H dx (.own x)) x (.ins C dx []) c = some o → H' c = some o) : Same H H' := by
  intro c o e
  have nx : c ≠ x := ne_of_none e hx
  refine keep c o nx ?_
  rw [upd_ne nx, upd_ne (ne_of_none e hdx)]
  exact e
theorem ok_right (T : Txt K mg a) : FnG P w K mg base CX0 7 a.f_right a.d_right ["_law_pot_here"] sp_right := by
  refine okG T.F_right sc_right (fun vs H Q E h => ?_) (fun cdv A outer s H vs Q E gu hr h => ?_)
  · obtain ⟨p, rfl, _⟩ := h
    rfl
  · obtain ⟨p, rfl, hp, k⟩ := h
    refine ⟨_, (pss_cons (ps_set (i := 1) sc_right.nd rfl (by first | exact Or.inl rfl | exact Or.inr rfl) (pe_lc (own := [("_law_top", 2), ("_law_bottom", 3)]) (by rfl) sc_right.nd (pi_listK (K := K) rfl (pe_call (ok_fractions T) (hr.mono (by decide)) (by rfl) T.m_fractions T.F_fractions.kp (b_fractions T) .nil pass0 (pa_cons (pv 0) pa_nil))) (blkOk_by (own := [("_law_top", 2), ("_law_bottom", 3)]) (N := ["_law_pot_here", "_law_fractions_here", "_law_top", "_law_bottom", "_law_made", "_law_greatest", "_law_least", "_law_k", "_law_fraction", "_law_j", "_law_other", "_law_signs"]) (sc := defScope s_right) (by decide +kernel)) (fun _ _ _ _ _ => (pg_tupK (K := K) (n := 2) rfl rfl (pgs_cons (pg_name (i := 2) sc_right.nd rfl (by first | exact Or.inl rfl | exact Or.inr rfl)) (pgs_cons (pg_name (i := 3) sc_right.nd rfl (by first | exact Or.inl rfl | exact Or.inr rfl)) pgs_nil)))) (fun _ _ _ _ _ => pts_nil) (fun _ _ _ _ _ => (pe_tup (pa_cons (pe_callTy call_int1 (by rfl) T.b_int (by decide +kernel) (pa_cons (pv 2) pa_nil)) (pa_cons (pe_callTy call_int1 (by rfl) T.b_int (by decide +kernel) (pa_cons (pv 3) pa_nil)) pa_nil))))))
 (pss_cons (ps_setLc (i := 4) (own := [("_law_top", 2), ("_law_bottom", 3)]) rfl sc_right.nd rfl rfl (sw_true rfl rfl rfl (by decide +kernel)) (pi_listK (K := K) rfl (pv 1)) (blkOk_by (own := [("_law_top", 2), ("_law_bottom", 3)]) (N := ["_law_pot_here", "_law_fractions_here", "_law_top", "_law_bottom", "_law_made", "_law_greatest", "_law_least", "_law_k", "_law_fraction", "_law_j", "_law_other", "_law_signs"]) (sc := defScope s_right) (by decide +kernel)) (fun _ _ _ _ _ => (pg_tupK (K := K) (n := 2) rfl rfl (pgs_cons (pg_name (i := 2) sc_right.nd rfl (by first | exact Or.inl rfl | exact Or.inr rfl)) (pgs_cons (pg_name (i := 3) sc_right.nd rfl (by first | exact Or.inl rfl | exact Or.inr rfl)) pgs_nil)))) (fun _ _ _ _ _ => pts_nil) (fun _ _ _ _ _ => (pe_make T.mkA (ok_Amount_init_ T) (hr.mono (by decide)) (by rfl) T.mA (b_Amount_init_ T) .nil pass0 (pa_cons (pv 2) (pa_cons (pv 3) pa_nil)))))
 (pss_cons (ps_asg (pe_tup (pa_cons pe_int (pa_cons pe_int pa_nil))) (pg_tupK (K := K) (n := 2) rfl rfl (pgs_cons (pg_name (i := 5) sc_right.nd rfl (by first | exact Or.inl rfl | exact Or.inr rfl)) (pgs_cons (pg_name (i := 6) sc_right.nd rfl (by first | exact Or.inl rfl | exact Or.inr rfl)) pgs_nil))))
 (pss_cons (ps_for PassesOwn.never rfl (pi_enum (by rfl) T.b_enumerate (pa_cons (pv 1) pa_nil)) (pg_tupK (K := K) (n := 2) rfl rfl (pgs_cons (pg_name (i := 7) sc_right.nd rfl (by first | exact Or.inl rfl | exact Or.inr rfl)) (pgs_cons (pg_name (i := 8) sc_right.nd rfl (by first | exact Or.inl rfl | exact Or.inr rfl)) pgs_nil))) (pss_cons (ps_for PassesOwn.never rfl (pi_enum (by rfl) T.b_enumerate (pa_cons (pv 1) pa_nil)) (pg_tupK (K := K) (n := 2) rfl rfl (pgs_cons (pg_name (i := 9) sc_right.nd rfl (by first | exact Or.inl rfl | exact Or.inr rfl)) (pgs_cons (pg_name (i := 10) sc_right.nd rfl (by first | exact Or.inl rfl | exact Or.inr rfl)) pgs_nil))) (pss_one (ps_if (pt_not (pt_val (pe_callG (ok_pair_right T) gu (hr.mono (by decide)) (by rfl) T.m_pair_right T.F_pair_right.kp (b_pair_right T) .nil pass0 (pa_cons (pe_ix (ix_listK (K := K) rfl) (pv 4) (pv 7) (fun _ _ => rfl)) (pa_cons (pe_ix (ix_listK (K := K) rfl) (pv 4) (pv 9) (fun _ _ => rfl)) (pa_cons (pe_call (ok_sign T) (hr.mono (by decide)) (by rfl) T.m_sign T.F_sign.kp (b_sign T) .nil pass0 (pa_cons (pv 8) (pa_cons (pv 10) pa_nil))) pa_nil)))))) (pss_one (ps_ret pe_bl)) pss_nil)))
 (pss_cons (ps_if (pt_not (pt_val (pe_call (ok_alone_right T) (hr.mono (by decide)) (by rfl) T.m_alone_right T.F_alone_right.kp (b_alone_right T) .nil pass0 (pa_cons (pe_ix (ix_listK (K := K) rfl) (pv 4) (pv 7) (fun _ _ => rfl)) (pa_cons (pv 8) pa_nil))))) (pss_one (ps_ret pe_bl)) pss_nil)
 (pss_cut (ps_if (pt_cmpR (op_ownCmp (n := 1) (C := a.c_Amount) (K := K) rfl (fun _ _ => rfl) T.cGt.at_ T.cGt.fn ((ok_Amount_gt_ T).raw (b_Amount_gt_ T) .nil) (hr.mono (by decide)) pass0) (pe_ix (ix_listK (K := K) rfl) (pv 4) (pv 7) (fun _ _ => rfl)) (pe_ix (ix_listK (K := K) rfl) (pv 4) (pv 5) (fun _ _ => rfl)) (nomark _)) (pss_one (ps_set (i := 5) sc_right.nd rfl (by first | exact Or.inl rfl | exact Or.inr rfl) (pv 7))) pss_nil)
 (pss_one (ps_if (pt_cmpR (op_ownCmp (n := 1) (C := a.c_Amount) (K := K) rfl (fun _ _ => rfl) T.cLt.at_ T.cLt.fn ((ok_Amount_lt_ T).raw (b_Amount_lt_ T) .nil) (hr.mono (by decide)) pass0) (pe_ix (ix_listK (K := K) rfl) (pv 4) (pv 7) (fun _ _ => rfl)) (pe_ix (ix_listK (K := K) rfl) (pv 4) (pv 6) (fun _ _ => rfl)) (nomark _)) (pss_one (ps_set (i := 6) sc_right.nd rfl (by first | exact Or.inl rfl | exact Or.inr rfl) (pv 7))) pss_nil))))))
 (pss_cons (ps_setLc (i := 11) (own := [("_law_other", 10)]) rfl sc_right.nd rfl rfl (sw_true rfl rfl rfl (by decide +kernel)) (pi_listK (K := K) rfl (pv 1)) (blkOk_by (own := [("_law_other", 10)]) (N := ["_law_pot_here", "_law_fractions_here", "_law_top", "_law_bottom", "_law_made", "_law_greatest", "_law_least", "_law_k", "_law_fraction", "_law_j", "_law_other", "_law_signs"]) (sc := defScope s_right) (by decide +kernel)) (fun _ _ _ _ _ => (pg_name (i := 10) sc_right.nd rfl (by first | exact Or.inl rfl | exact Or.inr rfl))) (fun _ _ _ _ _ => pts_nil) (fun _ _ _ _ _ => (pe_call (ok_sign T) (hr.mono (by decide)) (by rfl) T.m_sign T.F_sign.kp (b_sign T) .nil pass0 (pa_cons (pe_ix (ix_listK (K := K) rfl) (pv 1) (pv 5) (fun _ _ => rfl)) (pa_cons (pv 10) pa_nil)))))
 (pss_one (ps_ret (pe_and (pe_cmpR op_notIn_seq (pe_un un_neg pe_int) (pv 11) rfl) (pe_one (pe_cmpR op_notIn_seq pe_int (pe_lc (own := [("_law_other", 10)]) (by rfl) sc_right.nd (pi_listK (K := K) rfl (pv 1)) (blkOk_by (own := [("_law_other", 10)]) (N := ["_law_pot_here", "_law_fractions_here", "_law_top", "_law_bottom", "_law_made", "_law_greatest", "_law_least", "_law_k", "_law_fraction", "_law_j", "_law_other", "_law_signs"]) (sc := defScope s_right) (by decide +kernel)) (fun _ _ _ _ _ => (pg_name (i := 10) sc_right.nd rfl (by first | exact Or.inl rfl | exact Or.inr rfl))) (fun _ _ _ _ _ => pts_nil) (fun _ _ _ _ _ => (pe_call (ok_sign T) (hr.mono (by decide)) (by rfl) T.m_sign T.F_sign.kp (b_sign T) .nil pass0 (pa_cons (pe_ix (ix_listK (K := K) rfl) (pv 1) (pv 6) (fun _ _ => rfl)) (pa_cons (pv 10) pa_nil))))) rfl)))))))))), ?_⟩
    -- the fractions
    refine ⟨_, rfl, p, rfl, hp, fun H1 l as fr m1 nl fl R len ok => ⟨l, rfl, ⟨_, SqL.of fl⟩, fun D hD => ?_⟩⟩
    have las : as.length = 12 := by rw [Paired.len R, len]
    refine lc_list (K := K) (a := l) (xs := as.map V.ref) (fun i H' => Blt FrR H1 D (fr.take i) H') (Blt.start hD) (fun i H' _ b => .inl (.inl (b.same _ _ fl))) ?_ ?_
    · intro i x H' hi b
      obtain ⟨q, rfl, hq⟩ := ref_at hi
      obtain ⟨z, hz, fz⟩ := Paired.at_ R hq
      have fz' : Fr H' q z.1 z.2 := b.same _ _ fz
      refine ⟨q, _, rfl, SqT.of fz', rfl, _, _, rfl, _, _, rfl, rfl, rfl, ?_⟩
      refine ⟨_, rfl, .inl ⟨_, rfl, _, rfl, .inl ⟨_, rfl, sz, fun r hr => ?_⟩⟩⟩
      obtain ⟨acc, e, hl, B⟩ := b.step hD (Lb.Same.upd hr) frR_keep frR_nl (x := z) (r := r) (show FrR (upd H' r _) r z from upd_same)
      refine ⟨acc, e, ?_, ?_⟩
      · rw [hl, List.length_take]
        exact szlt (by omega)
      · rw [take_snoc hz] at B
        exact B
    intro H2 B
    obtain ⟨s12, bs, eD, R2⟩ := B
    rw [show (as.map V.ref).length = fr.length by rw [List.length_map, las, len], List.take_length] at R2
    have lbs : bs.length = 12 := by rw [Paired.len R2, len]
    have M2 := m1.same s12
    -- the amounts
    refine ⟨_, rfl, D, rfl, ⟨_, SqL.of eD⟩, fun D2 hD2 => ?_⟩
    refine lc_list (K := K) (a := D) (xs := bs.map V.ref) (fun i H' => Blt (AmR a.c_Amount) H2 D2 (fr.take i) H') (Blt.start hD2) (fun i H' _ b => .inl (.inl (b.same _ _ eD))) ?_ ?_
    · intro i x H' hi b
      obtain ⟨q, rfl, hq⟩ := ref_at hi
      obtain ⟨z, hz, fz⟩ := Paired.at_ R2 hq
      have fz' : Fr H' q z.1 z.2 := b.same _ _ fz
      obtain ⟨o1, o2, o3⟩ := ok z (List.mem_of_getElem? hz)
      refine ⟨q, _, rfl, SqT.of fz', rfl, _, _, rfl, _, _, rfl, rfl, rfl, ?_⟩
      refine ⟨_, rfl, _, rfl, fun r dr hr hdr ne => ⟨r, dr, _, _, rfl, o3, o1.mono (by decide), o2.mono (by decide), upd_same, fun H3 keep at3 => ⟨rfl, ?_⟩⟩⟩
      obtain ⟨acc, e, hl, B⟩ := b.step hD2 (made_same hr hdr keep) amR_keep amR_nl (x := z) (r := r) ⟨dr, at3⟩
      refine ⟨acc, e, ?_, ?_⟩
      · rw [hl, List.length_take]
        exact szlt (by omega)
      · rw [take_snoc hz] at B
        exact B
    intro H3 B
    obtain ⟨s23, ms, eD2, R3⟩ := B
    rw [show (bs.map V.ref).length = fr.length by rw [List.length_map, lbs, len], List.take_length] at R3
    have lms : ms.length = 12 := by rw [Paired.len R3, len]
    have M3 := M2.same s23
    have eD := s23 _ _ eD
    have R2 : Paired (FrR H3) bs fr := Paired.imp R2 fun _ _ h => s23 _ _ h
    -- item i of both lists, in any later heap
    have item : ∀ (H' : Hp) (i : Nat), Same H3 H' → i < 12 → ∃ (z : Int × Int) (q m dx : Addr), fr[i]? = some z ∧ bs[i]? = some q ∧ ms[i]? = some m ∧ Fr H' q z.1 z.2 ∧ H' m = some (.ins a.c_Amount dx (am (rdT z.1 z.2) (rdB z.1 z.2))) ∧ okF z := by
      intro H' i s hi
      have hi' : i < fr.length := by omega
      obtain ⟨q, hq, fq⟩ := Paired.at_r R2 (List.getElem?_eq_getElem hi')
      obtain ⟨m, hm, dx, fm⟩ := Paired.at_r R3 (List.getElem?_eq_getElem hi')
      exact ⟨_, q, m, dx, List.getElem?_eq_getElem hi', hq, hm, s _ _ fq, s _ _ fm, ok _ (List.getElem_mem hi')⟩
    have big : ∀ {x : Int}, Bd 125 x → x.natAbs < 10 ^ 60 := fun {x} h => by
      unfold Bd at h
      omega
    -- greatest, least = (0, 0)
    refine ⟨sz, fun t0 ht0 => ?_⟩
    generalize e_H4 : upd _ t0 _ = H4
    obtain ⟨s4, ft0⟩ := al3 e_H4 ht0
    clear e_H4
    (try dsimp only at ft0)
    refine ⟨_, _, rfl, SqT.of ft0, rfl, _, _, rfl, _, _, rfl, rfl, ?_⟩
    refine ⟨_, rfl, D, _, rfl, SqL.of (s4 _ _ eD), ?_⟩
    refine for_enum (K := K) (a := D) (xs := bs.map V.ref) (fun i σ H' => ∃ (u2 u3 u7 u8 u9 u10 u11 : Option V) (g e : Nat), σ = [some (.ref p), some (.ref D), u2, u3, some (.ref D2), some (.int g), some (.int e), u7, u8, u9, u10, u11] ∧ Same H3 H' ∧ g < 12 ∧ e < 12 ∧
        (∀ j x y, j < i → fr[j]? = some x → fr[g]? = some y → geF y x) ∧ (∀ j x y, j < i → fr[j]? = some x → fr[e]? = some y → geF x y))
      ⟨_, _, _, _, _, _, _, 0, 0, rfl, s4, by decide, by decide, fun j x y h => (by omega), fun j x y h => (by omega)⟩ (fun i σ H' ⟨_, _, _, _, _, _, _, _, _, _, s, _⟩ => SqL.of (s _ _ eD)) ?_ ?_
    · rintro i x T0 σ H' hi ⟨u2, u3, u7, u8, u9, u10, u11, g, e, rfl, sH, hg, he, cg, ce⟩ hT0
      obtain ⟨q, rfl, hq⟩ := ref_at hi
      have hi12 : i < 12 := by
        have := (List.getElem?_eq_some_iff.mp hq).1
        omega
      generalize e_H5 : upd _ T0 _ = H5
      obtain ⟨s5, f5⟩ := al3 e_H5 hT0
      clear e_H5
      (try dsimp only at f5)
      have S5 := sH.trans s5
      refine ⟨T0, _, rfl, SqT.of f5, rfl, _, _, rfl, _, _, rfl, rfl, ?_⟩
      refine ⟨_, rfl, D, _, rfl, SqL.of (S5 _ _ eD), ?_⟩
      refine for_enum (K := K) (a := D) (xs := bs.map V.ref) (fun j σ H' => ∃ (u9 u10 : Option V), σ = [some (.ref p), some (.ref D), u2, u3, some (.ref D2), some (.int g), some (.int e), some (.int i), some (.ref q), u9, u10, u11] ∧ Same H3 H')
        ⟨_, _, rfl, S5⟩ (fun i σ H' ⟨_, _, _, s⟩ => SqL.of (s _ _ eD)) ?_ ?_
      · rintro j x T1 σ H'' hj ⟨u9, u10, rfl, sH''⟩ hT1
        obtain ⟨q', rfl, hq'⟩ := ref_at hj
        have hj12 : j < 12 := by
          have := (List.getElem?_eq_some_iff.mp hq').1
          omega
        generalize e_H6 : upd _ T1 _ = H6
        obtain ⟨s6, f6⟩ := al3 e_H6 hT1
        clear e_H6
        (try dsimp only at f6)
        have S6 := sH''.trans s6
        obtain ⟨z, q1, m, dx, hz, hq1, hm, fz, fm, o⟩ := item H6 i S6 hi12
        obtain ⟨z', q1', m', dx', hz', hq1', hm', fz', fm', o'⟩ := item H6 j S6 hj12
        cases hq1.symm.trans hq
        cases hq1'.symm.trans hq'
        refine ⟨T1, _, rfl, SqT.of f6, rfl, _, _, rfl, _, _, rfl, rfl, ?_⟩
        have L2 := SqL.of (K := K) (S6 _ _ eD2)
        refine ⟨_, rfl, _, rfl, _, _, _, _, rfl, rfl, L2, at_ref hm, _, rfl, _, rfl, _, _, _, _, rfl, rfl, L2, at_ref hm', _, rfl, _, rfl, _, _, z, z', rfl, fz, fz', o, o', fun H7 s7 => ?_⟩
        obtain ⟨b1, b2⟩ := rd_bd o.2.2 o.1 o.2.1
        obtain ⟨b1', b2'⟩ := rd_bd o'.2.2 o'.1 o'.2.1
        obtain ⟨_, _, _, _, p1, p2, _⟩ := rd_spec (t := z.1) (b := z.2) o.2.2
        obtain ⟨_, _, _, _, p1', p2', _⟩ := rd_spec (t := z'.1) (b := z'.2) o'.2.2
        refine ⟨m, m', _, _, _, _, _, rfl, ⟨dx, s7 _ _ fm⟩, ⟨dx', s7 _ _ fm'⟩, b1.mono (by decide), b2.mono (by decide), b1'.mono (by decide), b2'.mono (by decide), cmpF_rd o.2.2 o'.2.2, low_eq p1 p1' p2 p2', fun H8 s8 => ⟨true, rfl, iteF ?_⟩⟩
        exact ⟨_, _, rfl, (S6.trans s7).trans s8⟩
      · rintro σ H6 ⟨u9, u10, rfl, S6⟩
        obtain ⟨z, q1, m, dx, hz, hq1, hm, fz, fm, o⟩ := item H6 i S6 hi12
        cases hq1.symm.trans hq
        obtain ⟨b1, b2⟩ := rd_bd o.2.2 o.1 o.2.1
        have L2 := SqL.of (K := K) (S6 _ _ eD2)
        refine ⟨_, rfl, _, rfl, _, _, _, _, rfl, rfl, L2, at_ref hm, _, rfl, m, q, _, _, _, _, rfl, ⟨dx, fm⟩, fz, big b1, big b2, fun H7 s7 => ⟨true, rfl, iteF ?_⟩⟩
        have S7 := S6.trans s7
        have fm := s7 _ _ fm
        have L2 := SqL.of (K := K) (S7 _ _ eD2)
        refine ⟨fun σ H' => H' = H7 ∧ ∃ g' : Nat, σ = [some (.ref p), some (.ref D), u2, u3, some (.ref D2), some (.int g'), some (.int e), some (.int i), some (.ref q), u9, u10, u11] ∧ g' < 12 ∧ (∀ j x y, j < i + 1 → fr[j]? = some x → fr[g']? = some y → geF y x), ?_, ?_⟩
        · obtain ⟨y, q2, m2, dx2, hy, hq2, hm2, fy, fm2, o2⟩ := item H7 g S7 hg
          obtain ⟨c1, c2⟩ := rd_bd o2.2.2 o2.1 o2.2.1
          refine ⟨_, rfl, _, rfl, _, _, _, _, rfl, rfl, L2, at_ref hm, _, rfl, _, rfl, _, _, _, _, rfl, rfl, L2, at_ref hm2, m, dx, _, _, rfl, fm, T.I.ty T.cl fm2, Inst.nSelf, m, m2, _, _, _, _, rfl, ⟨dx, fm⟩, ⟨dx2, fm2⟩, b1.mono (by decide), b2.mono (by decide), c1.mono (by decide), c2.mono (by decide), _, rfl, ?_⟩
          refine ite2 (fun h1 => ?_) (fun h1 => ?_)
          · refine ⟨_, rfl, rfl, i, rfl, hi12, fun j x y' hj hx hy' => ?_⟩
            cases hz.symm.trans hy'
            have h1 : rdT y.1 y.2 * rdB z.1 z.2 < rdT z.1 z.2 * rdB y.1 y.2 := of_decide_eq_true h1
            have hzy : geF z y := Int.le_of_lt h1
            rcases Nat.lt_or_eq_of_le (Nat.le_of_lt_succ hj) with hj | rfl
            · have ox := ok x (List.mem_of_getElem? hx)
              exact geF_trans o.2.2 o2.2.2 ox.2.2 hzy (cg j x y hj hx hy)
            · cases hz.symm.trans hx
              exact Int.le_refl _
          · refine ⟨rfl, g, rfl, hg, fun j x y' hj hx hy' => ?_⟩
            cases hy.symm.trans hy'
            rcases Nat.lt_or_eq_of_le (Nat.le_of_lt_succ hj) with hj | rfl
            · exact cg j x y hj hx hy
            · cases hz.symm.trans hx
              have h1 : ¬ rdT y.1 y.2 * rdB z.1 z.2 < rdT z.1 z.2 * rdB y.1 y.2 := fun q => h1 (decide_eq_true q)
              unfold geF
              omega
        · rintro σ H' ⟨rfl, g', rfl, hg', cg'⟩
          obtain ⟨y, q2, m2, dx2, hy, hq2, hm2, fy, fm2, o2⟩ := item H' e S7 he
          obtain ⟨c1, c2⟩ := rd_bd o2.2.2 o2.1 o2.2.1
          refine ⟨_, rfl, _, rfl, _, _, _, _, rfl, rfl, L2, at_ref hm, _, rfl, _, rfl, _, _, _, _, rfl, rfl, L2, at_ref hm2, m, dx, _, _, rfl, fm, T.I.ty T.cl fm2, Inst.nSelf, m, m2, _, _, _, _, rfl, ⟨dx, fm⟩, ⟨dx2, fm2⟩, b1.mono (by decide), b2.mono (by decide), c1.mono (by decide), c2.mono (by decide), _, rfl, ?_⟩
          refine ite2 (fun h1 => ?_) (fun h1 => ?_)
          · refine ⟨_, rfl, _, _, _, _, _, _, _, g', i, rfl, S7, hg', hi12, cg', fun j x y' hj hx hy' => ?_⟩
            cases hz.symm.trans hy'
            have h1 : rdT z.1 z.2 * rdB y.1 y.2 < rdT y.1 y.2 * rdB z.1 z.2 := of_decide_eq_true h1
            have hyz : geF y z := Int.le_of_lt h1
            rcases Nat.lt_or_eq_of_le (Nat.le_of_lt_succ hj) with hj | rfl
            · have ox := ok x (List.mem_of_getElem? hx)
              exact geF_trans ox.2.2 o2.2.2 o.2.2 (ce j x y hj hx hy) hyz
            · cases hz.symm.trans hx
              exact Int.le_refl _
          · refine ⟨_, _, _, _, _, _, _, g', e, rfl, S7, hg', he, cg', fun j x y' hj hx hy' => ?_⟩
            cases hy.symm.trans hy'
            rcases Nat.lt_or_eq_of_le (Nat.le_of_lt_succ hj) with hj | rfl
            · exact ce j x y hj hx hy
            · cases hz.symm.trans hx
              have h1 : ¬ rdT z.1 z.2 * rdB y.1 y.2 < rdT y.1 y.2 * rdB z.1 z.2 := fun q => h1 (decide_eq_true q)
              unfold geF
              omega
    · rintro σ H5 ⟨u2, u3, u7, u8, u9, u10, u11, g, e, rfl, S5, hg, he, cg, ce⟩
      rw [show (bs.map V.ref).length = 12 by rw [List.length_map, lbs]] at cg ce
      have M5 := M3.same S5
      obtain ⟨z, q, m, dx, hz, hq, hm, fz, fm, o⟩ := item H5 g S5 hg
      obtain ⟨y, q2, m2, dx2, hy, hq2, hm2, fy, fm2, o2⟩ := item H5 e S5 he
      have eD := S5 _ _ eD
      have R2 : Paired (FrR H5) bs fr := Paired.imp R2 fun _ _ h => S5 _ _ h
      -- signs = [..]
      refine ⟨_, rfl, D, rfl, ⟨_, SqL.of eD⟩, fun D3 hD3 => ?_⟩
      refine lc_list (K := K) (a := D) (xs := bs.map V.ref) (fun i H' => Same H5 H' ∧ H' D3 = some (.lst (((fr.take i).map (cmpF z)).map V.int))) ⟨Lb.Same.upd hD3, upd_same⟩ (fun i H' _ b => SqL.of (b.1 _ _ eD)) ?_ ?_
      · rintro i x H' hi ⟨s1, e1⟩
        obtain ⟨r, rfl, hr⟩ := ref_at hi
        obtain ⟨x, hx, fx⟩ := Paired.at_ R2 hr
        refine ⟨rfl, ?_⟩
        refine ⟨_, rfl, _, rfl, _, _, _, _, rfl, rfl, SqL.of (s1 _ _ eD), at_ref hq, _, rfl, q, r, z, x, rfl, s1 _ _ fz, s1 _ _ fx, o, ok x (List.mem_of_getElem? hx), fun H6 s6 => ⟨_, s6 _ _ e1, ?_, ?_, ?_⟩⟩
        · rw [List.length_map, List.length_map, List.length_take]
          exact szlt (by omega)
        · exact Lb.Same.updl (s1.trans s6) hD3
        · rw [upd_same, ← take_snoc hx, List.map_append, List.map_append]
          rfl
      rintro H6 ⟨S6, e6⟩
      rw [show (bs.map V.ref).length = fr.length by rw [List.length_map, lbs, len], List.take_length] at e6
      have eD6 := S6 _ _ eD
      have n1 : inV (.int (-1)) ((fr.map (cmpF z)).map V.int) = false := by
        rw [inV_ints]
        refine decide_eq_false fun h => ?_
        obtain ⟨x, hx, ex⟩ := List.mem_map.mp h
        obtain ⟨j, hj, ej⟩ := List.getElem_of_mem hx
        have ge := cg j x z (by omega) (by rw [List.getElem?_eq_getElem hj, ej]) hz
        exact (geF_sg o.2.2 (ok x hx).2.2 ge).1 ex
      refine ⟨_, rfl, _, rfl, D3, _, rfl, .inl (SqL.of e6), rfl, flat_ints _, _, rfl, iteP (by show (!inV _ _) = true; rw [n1]; rfl) ?_⟩
      refine ⟨_, rfl, D, rfl, ⟨_, SqL.of eD6⟩, fun D4 hD4 => ?_⟩
      refine lc_list (K := K) (a := D) (xs := bs.map V.ref) (fun i H' => Same H6 H' ∧ H' D4 = some (.lst (((fr.take i).map (cmpF y)).map V.int))) ⟨Lb.Same.upd hD4, upd_same⟩ (fun i H' _ b => SqL.of (b.1 _ _ eD6)) ?_ ?_
      · rintro i x H' hi ⟨s1, e1⟩
        obtain ⟨r, rfl, hr⟩ := ref_at hi
        obtain ⟨x, hx, fx⟩ := Paired.at_ R2 hr
        refine ⟨rfl, ?_⟩
        refine ⟨_, rfl, _, rfl, _, _, _, _, rfl, rfl, SqL.of (s1 _ _ eD6), at_ref hq2, _, rfl, q2, r, y, x, rfl, s1 _ _ (S6 _ _ fy), s1 _ _ (S6 _ _ fx), o2, ok x (List.mem_of_getElem? hx), fun H7 s7 => ⟨_, s7 _ _ e1, ?_, ?_, ?_⟩⟩
        · rw [List.length_map, List.length_map, List.length_take]
          exact szlt (by omega)
        · exact Lb.Same.updl (s1.trans s7) hD4
        · rw [upd_same, ← take_snoc hx, List.map_append, List.map_append]
          rfl
      rintro H7 ⟨S7, e7⟩
      rw [show (bs.map V.ref).length = fr.length by rw [List.length_map, lbs, len], List.take_length] at e7
      have n2 : inV (.int 1) ((fr.map (cmpF y)).map V.int) = false := by
        rw [inV_ints]
        refine decide_eq_false fun h => ?_
        obtain ⟨x, hx, ex⟩ := List.mem_map.mp h
        obtain ⟨j, hj, ej⟩ := List.getElem_of_mem hx
        have ge := ce j x y (by omega) (by rw [List.getElem?_eq_getElem hj, ej]) hy
        exact (geF_sg (ok x hx).2.2 o2.2.2 ge).2 ex
      refine ⟨D4, _, rfl, .inl (SqL.of e7), rfl, flat_ints _, ?_⟩
      show Q (.bl (!inV _ _)) H7
      rw [n2]
      exact k _ ((M5.same S6).same S7)
/-- the law -/
def sp_law (K : PySem.W.Frag) : Sp := fun vs H Q _ => ∃ (a : Addr) (ns : List Int), vs = [.ref a] ∧ SqL K H a (ns.map V.int) ∧ ns.length ≤ 63 ∧ ∀ H', Q (.bl true) H'
theorem ok_law (T : Txt K mg a) : FnG P w K mg base CX0 8 a.f_law a.d_law ["_law_script"] (sp_law K) := by
  refine okG T.F_law sc_law (fun vs H Q E h => ?_) (fun cdv A outer s H vs Q E gu hr h => ?_)
  · obtain ⟨sc, ns, rfl, _⟩ := h
    rfl
  · obtain ⟨sc, ns, rfl, hS, hlen, k⟩ := h
    refine ⟨_, (pss_one (ps_ret (pe_callB (cr_allK (K := K) rfl rfl) (by rfl) T.b_all (by decide +kernel) (pa_cons (pe_lc (own := [("_law_k", 1)]) (by rfl) sc_law.nd (pi_range1 rfl T.b_range (pa_cons (pe_callB (call_max2 rfl) (by rfl) T.b_max (by decide +kernel) (pa_cons pe_int (pa_cons (pe_callB (call_min2 rfl) (by rfl) T.b_min (by decide +kernel) (pa_cons pe_int (pa_cons (pe_callB (call_lenK (K := K) rfl) (by rfl) T.b_len (by decide +kernel) (pa_cons (pv 0) pa_nil)) pa_nil))) pa_nil))) pa_nil)) (blkOk_by (own := [("_law_k", 1)]) (N := ["_law_script", "_law_k"]) (sc := defScope s_law) (by decide +kernel)) (fun _ _ _ _ _ => (pg_name (i := 1) sc_law.nd rfl (by first | exact Or.inl rfl | exact Or.inr rfl))) (fun _ _ _ _ _ => pts_nil) (fun _ _ _ _ _ => (pe_callG (ok_right T) gu (hr.mono (by decide)) (by rfl) T.m_right T.F_right.kp (b_right T) .nil pass0 (pa_cons (pe_call (ok_pot T) (hr.mono (by decide)) (by rfl) T.m_pot T.F_pot.kp (b_pot T) .nil pass0 (pa_cons (pv 0) (pa_cons (pv 1) pa_nil))) pa_nil)))) pa_nil)))), ?_⟩
    refine ⟨_, rfl, _, _, rfl, .inl hS, _, _, rfl, _, _, rfl, ?_⟩
    have hn : ∃ n : Nat, n ≤ 4 ∧ (if (if (((ns.map V.int).length : Nat) : Int) < 4 then (((ns.map V.int).length : Nat) : Int) else 4) > 1 then (if (((ns.map V.int).length : Nat) : Int) < 4 then (((ns.map V.int).length : Nat) : Int) else 4) else 1) = (n : Int) := by
      rw [List.length_map]
      refine ⟨(if (if ns.length < 4 then ns.length else 4) > 1 then (if ns.length < 4 then ns.length else 4) else 1), ?_, ?_⟩
      · split <;> (try split) <;> omega
      · split <;> split <;> (try split) <;> (try split) <;> omega
    obtain ⟨n, hn4, en⟩ := hn
    rw [en]
    refine ⟨_, rfl, (by omega), (by omega), fun D hD => ?_⟩
    refine lc_range (lo := 0) (n := n) (fun i H' => Same H H' ∧ H' D = some (.lst ((List.replicate i true).map V.bl))) ⟨Lb.Same.upd hD, upd_same⟩ ?_ ?_
    · rintro i H' hi ⟨s1, e1⟩
      refine ⟨rfl, ?_⟩
      refine ⟨_, rfl, _, rfl, sc, ns, i, by simp, Same.seq s1 hS, hlen, by omega, fun H2 p s2 hp pot => ?_⟩
      refine ⟨p, rfl, pot, fun H3 m3 => ?_⟩
      have nD : D ≠ p := fun q => by
        rw [← q, e1] at hp
        cases hp
      have keep : ∀ b o, H' b = some o → H3 b = some o := fun b o e => m3.keep b o (ne_of_none e hp) (s2 _ _ e)
      refine ⟨_, keep _ _ e1, ?_, ?_, ?_⟩
      · rw [List.length_map, List.length_replicate]
        exact szlt (by omega)
      · exact Lb.Same.updl (s1.trans keep) hD
      · rw [upd_same, List.replicate_succ', List.map_append]
        rfl
    · rintro H' ⟨s1, e1⟩
      refine ⟨D, _, rfl, SqL.of e1, ?_⟩
      rw [all_replicate_true]
      exact k _
end
end K12

set_option Elab.async false
set_option linter.all false
set_option maxRecDepth 100000
namespace K12
open PySem L2 Lb
set_option maxHeartbeats 0 in
theorem all_mk {l : PySem.W.OpenLaw} {w : World} {K : PySem.W.Frag} {h : Heap} {mg : Str → Option Value} (X : K.In h) (G : h.Ns mainGlobals mg) {fa : Addr} (hfa : mg "law" = some (.ref fa))
    {c_Amount : Addr}
    {p_top : Addr}
    {f_is_integer : Addr} {od_0 an_0 : Option Addr} {sl_0 : Array (Option Value)} {oc_0 kV_0 dc_0 pm_0 cd_0 ct_0 : Value}
    {f_Amount_init_ : Addr} {od_1 an_1 : Option Addr} {sl_1 : Array (Option Value)} {oc_1 kV_1 dc_1 pm_1 cd_1 ct_1 : Value}
    {T_1 : Addr} {o_1 : Obj} {dn_1 : Nat} {its_1 : List Value}
    {f_Amount_eq_ : Addr} {od_2 an_2 : Option Addr} {sl_2 : Array (Option Value)} {oc_2 kV_2 dc_2 pm_2 cd_2 ct_2 : Value}
    {f_Amount_lt_ : Addr} {od_3 an_3 : Option Addr} {sl_3 : Array (Option Value)} {oc_3 kV_3 dc_3 pm_3 cd_3 ct_3 : Value}
    {f_Amount_le_ : Addr} {od_4 an_4 : Option Addr} {sl_4 : Array (Option Value)} {oc_4 kV_4 dc_4 pm_4 cd_4 ct_4 : Value}
    {f_Amount_gt_ : Addr} {od_5 an_5 : Option Addr} {sl_5 : Array (Option Value)} {oc_5 kV_5 dc_5 pm_5 cd_5 ct_5 : Value}
    {f_Amount_ge_ : Addr} {od_6 an_6 : Option Addr} {sl_6 : Array (Option Value)} {oc_6 kV_6 dc_6 pm_6 cd_6 ct_6 : Value}
    {f_decimal : Addr} {od_7 an_7 : Option Addr} {sl_7 : Array (Option Value)} {oc_7 kV_7 dc_7 pm_7 cd_7 ct_7 : Value}
    {f_Amount_str_ : Addr} {od_8 an_8 : Option Addr} {sl_8 : Array (Option Value)} {oc_8 kV_8 dc_8 pm_8 cd_8 ct_8 : Value}
    {f_Amount_repr_ : Addr} {od_9 an_9 : Option Addr} {sl_9 : Array (Option Value)} {oc_9 kV_9 dc_9 pm_9 cd_9 ct_9 : Value}
    {f_Amounttop : Addr} {od_10 an_10 : Option Addr} {sl_10 : Array (Option Value)} {oc_10 kV_10 dc_10 pm_10 cd_10 ct_10 : Value}
    {rest_10 : List Value}
    {f_pot : Addr} {od_11 an_11 : Option Addr} {sl_11 : Array (Option Value)} {oc_11 kV_11 dc_11 pm_11 cd_11 ct_11 : Value}
    {f_draw : Addr} {od_12 an_12 : Option Addr} {sl_12 : Array (Option Value)} {oc_12 kV_12 dc_12 pm_12 cd_12 ct_12 : Value}
    {f_choice : Addr} {od_13 an_13 : Option Addr} {sl_13 : Array (Option Value)} {oc_13 kV_13 dc_13 pm_13 cd_13 ct_13 : Value}
    {f_number : Addr} {od_14 an_14 : Option Addr} {sl_14 : Array (Option Value)} {oc_14 kV_14 dc_14 pm_14 cd_14 ct_14 : Value}
    {f_drawn : Addr} {od_15 an_15 : Option Addr} {sl_15 : Array (Option Value)} {oc_15 kV_15 dc_15 pm_15 cd_15 ct_15 : Value}
    {f_divided : Addr} {od_16 an_16 : Option Addr} {sl_16 : Array (Option Value)} {oc_16 kV_16 dc_16 pm_16 cd_16 ct_16 : Value}
    {f_near : Addr} {od_17 an_17 : Option Addr} {sl_17 : Array (Option Value)} {oc_17 kV_17 dc_17 pm_17 cd_17 ct_17 : Value}
    {f_fractions : Addr} {od_18 an_18 : Option Addr} {sl_18 : Array (Option Value)} {oc_18 kV_18 dc_18 pm_18 cd_18 ct_18 : Value}
    {f_sign : Addr} {od_19 an_19 : Option Addr} {sl_19 : Array (Option Value)} {oc_19 kV_19 dc_19 pm_19 cd_19 ct_19 : Value}
    {f_pair_right : Addr} {od_20 an_20 : Option Addr} {sl_20 : Array (Option Value)} {oc_20 kV_20 dc_20 pm_20 cd_20 ct_20 : Value}
    {f_alone_right : Addr} {od_21 an_21 : Option Addr} {sl_21 : Array (Option Value)} {oc_21 kV_21 dc_21 pm_21 cd_21 ct_21 : Value}
    {f_right : Addr} {od_22 an_22 : Option Addr} {sl_22 : Array (Option Value)} {oc_22 kV_22 dc_22 pm_22 cd_22 ct_22 : Value}
    {f_law : Addr} {od_23 an_23 : Option Addr} {sl_23 : Array (Option Value)} {oc_23 kV_23 dc_23 pm_23 cd_23 ct_23 : Value}
    {tP : Tok}
    (aC_Amount : PySem.W.nsIn K mainGlobals "Amount" = some (some (.ref c_Amount)))
    (a_is_integer : PySem.W.nsIn K mainGlobals "is_integer" = some (some (.ref f_is_integer)))
    (l_is_integer : K.lookup f_is_integer = some ⟨oc_0, od_0, .func (PySem.W.fnOf "is_integer" "is_integer" (defArgs s_is_integer) (defBody s_is_integer) (defScope s_is_integer) .none kV_0 dc_0 pm_0 an_0 cd_0 ct_0), sl_0⟩)
    (k1_is_integer : PySem.W.codeIn K cd_0 "is_integer" = true)
    (k2_is_integer : PySem.W.keepIn K (.ref f_is_integer) = true)
    (a_Amount_init_ : PySem.W.findIn K (.ref c_Amount) "__init__" = some (some (.ref f_Amount_init_)))
    (i_Amount_init_ : PySem.W.isFn K (.ref f_Amount_init_) = true)
    (l_Amount_init_ : K.lookup f_Amount_init_ = some ⟨oc_1, od_1, .func (PySem.W.fnOf "__init__" "Amount.__init__" (defArgs s_Amount_init_) (defBody s_Amount_init_) (defScope s_Amount_init_) (.ref T_1) kV_1 dc_1 pm_1 an_1 cd_1 ct_1), sl_1⟩)
    (k1_Amount_init_ : PySem.W.codeIn K cd_1 "Amount.__init__" = true)
    (k2_Amount_init_ : PySem.W.keepIn K (.ref f_Amount_init_) = true)
    (dl_Amount_init_ : K.lookup T_1 = some o_1)
    (do_Amount_init_ : o_1.data = .seq its_1.toArray dn_1)
    (dv_Amount_init_ : Vals [.int 1] its_1)
    (a_Amount_eq_ : PySem.W.findIn K (.ref c_Amount) "__eq__" = some (some (.ref f_Amount_eq_)))
    (i_Amount_eq_ : PySem.W.isFn K (.ref f_Amount_eq_) = true)
    (l_Amount_eq_ : K.lookup f_Amount_eq_ = some ⟨oc_2, od_2, .func (PySem.W.fnOf "__eq__" "Amount.__eq__" (defArgs s_Amount_eq_) (defBody s_Amount_eq_) (defScope s_Amount_eq_) .none kV_2 dc_2 pm_2 an_2 cd_2 ct_2), sl_2⟩)
    (k1_Amount_eq_ : PySem.W.codeIn K cd_2 "Amount.__eq__" = true)
    (k2_Amount_eq_ : PySem.W.keepIn K (.ref f_Amount_eq_) = true)
    (a_Amount_lt_ : PySem.W.findIn K (.ref c_Amount) "__lt__" = some (some (.ref f_Amount_lt_)))
    (i_Amount_lt_ : PySem.W.isFn K (.ref f_Amount_lt_) = true)
    (l_Amount_lt_ : K.lookup f_Amount_lt_ = some ⟨oc_3, od_3, .func (PySem.W.fnOf "__lt__" "Amount.__lt__" (defArgs s_Amount_lt_) (defBody s_Amount_lt_) (defScope s_Amount_lt_) .none kV_3 dc_3 pm_3 an_3 cd_3 ct_3), sl_3⟩)
    (k1_Amount_lt_ : PySem.W.codeIn K cd_3 "Amount.__lt__" = true)
    (k2_Amount_lt_ : PySem.W.keepIn K (.ref f_Amount_lt_) = true)
    (a_Amount_le_ : PySem.W.findIn K (.ref c_Amount) "__le__" = some (some (.ref f_Amount_le_)))
    (i_Amount_le_ : PySem.W.isFn K (.ref f_Amount_le_) = true)
    (l_Amount_le_ : K.lookup f_Amount_le_ = some ⟨oc_4, od_4, .func (PySem.W.fnOf "__le__" "Amount.__le__" (defArgs s_Amount_le_) (defBody s_Amount_le_) (defScope s_Amount_le_) .none kV_4 dc_4 pm_4 an_4 cd_4 ct_4), sl_4⟩)
    (k1_Amount_le_ : PySem.W.codeIn K cd_4 "Amount.__le__" = true)
    (k2_Amount_le_ : PySem.W.keepIn K (.ref f_Amount_le_) = true)
    (a_Amount_gt_ : PySem.W.findIn K (.ref c_Amount) "__gt__" = some (some (.ref f_Amount_gt_)))
    (i_Amount_gt_ : PySem.W.isFn K (.ref f_Amount_gt_) = true)
    (l_Amount_gt_ : K.lookup f_Amount_gt_ = some ⟨oc_5, od_5, .func (PySem.W.fnOf "__gt__" "Amount.__gt__" (defArgs s_Amount_gt_) (defBody s_Amount_gt_) (defScope s_Amount_gt_) .none kV_5 dc_5 pm_5 an_5 cd_5 ct_5), sl_5⟩)
    (k1_Amount_gt_ : PySem.W.codeIn K cd_5 "Amount.__gt__" = true)
    (k2_Amount_gt_ : PySem.W.keepIn K (.ref f_Amount_gt_) = true)
    (a_Amount_ge_ : PySem.W.findIn K (.ref c_Amount) "__ge__" = some (some (.ref f_Amount_ge_)))
    (i_Amount_ge_ : PySem.W.isFn K (.ref f_Amount_ge_) = true)
    (l_Amount_ge_ : K.lookup f_Amount_ge_ = some ⟨oc_6, od_6, .func (PySem.W.fnOf "__ge__" "Amount.__ge__" (defArgs s_Amount_ge_) (defBody s_Amount_ge_) (defScope s_Amount_ge_) .none kV_6 dc_6 pm_6 an_6 cd_6 ct_6), sl_6⟩)
    (k1_Amount_ge_ : PySem.W.codeIn K cd_6 "Amount.__ge__" = true)
    (k2_Amount_ge_ : PySem.W.keepIn K (.ref f_Amount_ge_) = true)
    (a_decimal : PySem.W.nsIn K mainGlobals "_decimal" = some (some (.ref f_decimal)))
    (l_decimal : K.lookup f_decimal = some ⟨oc_7, od_7, .func (PySem.W.fnOf "_decimal" "_decimal" (defArgs s_decimal) (defBody s_decimal) (defScope s_decimal) .none kV_7 dc_7 pm_7 an_7 cd_7 ct_7), sl_7⟩)
    (k1_decimal : PySem.W.codeIn K cd_7 "_decimal" = true)
    (k2_decimal : PySem.W.keepIn K (.ref f_decimal) = true)
    (a_Amount_str_ : PySem.W.findIn K (.ref c_Amount) "__str__" = some (some (.ref f_Amount_str_)))
    (i_Amount_str_ : PySem.W.isFn K (.ref f_Amount_str_) = true)
    (l_Amount_str_ : K.lookup f_Amount_str_ = some ⟨oc_8, od_8, .func (PySem.W.fnOf "__str__" "Amount.__str__" (defArgs s_Amount_str_) (defBody s_Amount_str_) (defScope s_Amount_str_) .none kV_8 dc_8 pm_8 an_8 cd_8 ct_8), sl_8⟩)
    (k1_Amount_str_ : PySem.W.codeIn K cd_8 "Amount.__str__" = true)
    (k2_Amount_str_ : PySem.W.keepIn K (.ref f_Amount_str_) = true)
    (a_Amount_repr_ : PySem.W.findIn K (.ref c_Amount) "__repr__" = some (some (.ref f_Amount_repr_)))
    (i_Amount_repr_ : PySem.W.isFn K (.ref f_Amount_repr_) = true)
    (l_Amount_repr_ : K.lookup f_Amount_repr_ = some ⟨oc_9, od_9, .func (PySem.W.fnOf "__repr__" "Amount.__repr__" (defArgs s_Amount_repr_) (defBody s_Amount_repr_) (defScope s_Amount_repr_) .none kV_9 dc_9 pm_9 an_9 cd_9 ct_9), sl_9⟩)
    (k1_Amount_repr_ : PySem.W.codeIn K cd_9 "Amount.__repr__" = true)
    (k2_Amount_repr_ : PySem.W.keepIn K (.ref f_Amount_repr_) = true)
    (pa_Amounttop : PySem.W.findIn K (.ref c_Amount) "top" = some (some (.ref p_top)))
    (pg_Amounttop : PySem.W.specialIn K (.ref p_top) "__get__" = some (some (.builtin "property.__get__")))
    (pt_Amounttop : PySem.W.takesIn K (.ref p_top) = some true)
    (pr_Amounttop : PySem.W.recIn K p_top "property" = some (.ref f_Amounttop :: rest_10))
    (l_Amounttop : K.lookup f_Amounttop = some ⟨oc_10, od_10, .func (PySem.W.fnOf "top" "Amount.top" (defArgs s_Amounttop) (defBody s_Amounttop) (defScope s_Amounttop) .none kV_10 dc_10 pm_10 an_10 cd_10 ct_10), sl_10⟩)
    (k1_Amounttop : PySem.W.codeIn K cd_10 "Amount.top" = true)
    (k2_Amounttop : PySem.W.keepIn K (.ref f_Amounttop) = true)
    (a_pot : PySem.W.nsIn K mainGlobals "_law_pot" = some (some (.ref f_pot)))
    (l_pot : K.lookup f_pot = some ⟨oc_11, od_11, .func (PySem.W.fnOf "_law_pot" "_law_pot" (defArgs s_pot) (defBody s_pot) (defScope s_pot) .none kV_11 dc_11 pm_11 an_11 cd_11 ct_11), sl_11⟩)
    (k1_pot : PySem.W.codeIn K cd_11 "_law_pot" = true)
    (k2_pot : PySem.W.keepIn K (.ref f_pot) = true)
    (a_draw : PySem.W.nsIn K mainGlobals "_law_draw" = some (some (.ref f_draw)))
    (l_draw : K.lookup f_draw = some ⟨oc_12, od_12, .func (PySem.W.fnOf "_law_draw" "_law_draw" (defArgs s_draw) (defBody s_draw) (defScope s_draw) .none kV_12 dc_12 pm_12 an_12 cd_12 ct_12), sl_12⟩)
    (k1_draw : PySem.W.codeIn K cd_12 "_law_draw" = true)
    (k2_draw : PySem.W.keepIn K (.ref f_draw) = true)
    (a_choice : PySem.W.nsIn K mainGlobals "_law_choice" = some (some (.ref f_choice)))
    (l_choice : K.lookup f_choice = some ⟨oc_13, od_13, .func (PySem.W.fnOf "_law_choice" "_law_choice" (defArgs s_choice) (defBody s_choice) (defScope s_choice) .none kV_13 dc_13 pm_13 an_13 cd_13 ct_13), sl_13⟩)
    (k1_choice : PySem.W.codeIn K cd_13 "_law_choice" = true)
    (k2_choice : PySem.W.keepIn K (.ref f_choice) = true)
    (a_number : PySem.W.nsIn K mainGlobals "_law_number" = some (some (.ref f_number)))
    (l_number : K.lookup f_number = some ⟨oc_14, od_14, .func (PySem.W.fnOf "_law_number" "_law_number" (defArgs s_number) (defBody s_number) (defScope s_number) .none kV_14 dc_14 pm_14 an_14 cd_14 ct_14), sl_14⟩)
    (k1_number : PySem.W.codeIn K cd_14 "_law_number" = true)
    (k2_number : PySem.W.keepIn K (.ref f_number) = true)
    (a_drawn : PySem.W.nsIn K mainGlobals "_law_drawn" = some (some (.ref f_drawn)))
    (l_drawn : K.lookup f_drawn = some ⟨oc_15, od_15, .func (PySem.W.fnOf "_law_drawn" "_law_drawn" (defArgs s_drawn) (defBody s_drawn) (defScope s_drawn) .none kV_15 dc_15 pm_15 an_15 cd_15 ct_15), sl_15⟩)
    (k1_drawn : PySem.W.codeIn K cd_15 "_law_drawn" = true)
    (k2_drawn : PySem.W.keepIn K (.ref f_drawn) = true)
    (a_divided : PySem.W.nsIn K mainGlobals "_law_divided" = some (some (.ref f_divided)))
    (l_divided : K.lookup f_divided = some ⟨oc_16, od_16, .func (PySem.W.fnOf "_law_divided" "_law_divided" (defArgs s_divided) (defBody s_divided) (defScope s_divided) .none kV_16 dc_16 pm_16 an_16 cd_16 ct_16), sl_16⟩)
    (k1_divided : PySem.W.codeIn K cd_16 "_law_divided" = true)
    (k2_divided : PySem.W.keepIn K (.ref f_divided) = true)
    (a_near : PySem.W.nsIn K mainGlobals "_law_near" = some (some (.ref f_near)))
    (l_near : K.lookup f_near = some ⟨oc_17, od_17, .func (PySem.W.fnOf "_law_near" "_law_near" (defArgs s_near) (defBody s_near) (defScope s_near) .none kV_17 dc_17 pm_17 an_17 cd_17 ct_17), sl_17⟩)
    (k1_near : PySem.W.codeIn K cd_17 "_law_near" = true)
    (k2_near : PySem.W.keepIn K (.ref f_near) = true)
    (a_fractions : PySem.W.nsIn K mainGlobals "_law_fractions" = some (some (.ref f_fractions)))
    (l_fractions : K.lookup f_fractions = some ⟨oc_18, od_18, .func (PySem.W.fnOf "_law_fractions" "_law_fractions" (defArgs s_fractions) (defBody s_fractions) (defScope s_fractions) .none kV_18 dc_18 pm_18 an_18 cd_18 ct_18), sl_18⟩)
    (k1_fractions : PySem.W.codeIn K cd_18 "_law_fractions" = true)
    (k2_fractions : PySem.W.keepIn K (.ref f_fractions) = true)
    (a_sign : PySem.W.nsIn K mainGlobals "_law_sign" = some (some (.ref f_sign)))
    (l_sign : K.lookup f_sign = some ⟨oc_19, od_19, .func (PySem.W.fnOf "_law_sign" "_law_sign" (defArgs s_sign) (defBody s_sign) (defScope s_sign) .none kV_19 dc_19 pm_19 an_19 cd_19 ct_19), sl_19⟩)
    (k1_sign : PySem.W.codeIn K cd_19 "_law_sign" = true)
    (k2_sign : PySem.W.keepIn K (.ref f_sign) = true)
    (a_pair_right : PySem.W.nsIn K mainGlobals "_law_pair_right" = some (some (.ref f_pair_right)))
    (l_pair_right : K.lookup f_pair_right = some ⟨oc_20, od_20, .func (PySem.W.fnOf "_law_pair_right" "_law_pair_right" (defArgs s_pair_right) (defBody s_pair_right) (defScope s_pair_right) .none kV_20 dc_20 pm_20 an_20 cd_20 ct_20), sl_20⟩)
    (k1_pair_right : PySem.W.codeIn K cd_20 "_law_pair_right" = true)
    (k2_pair_right : PySem.W.keepIn K (.ref f_pair_right) = true)
    (a_alone_right : PySem.W.nsIn K mainGlobals "_law_alone_right" = some (some (.ref f_alone_right)))
    (l_alone_right : K.lookup f_alone_right = some ⟨oc_21, od_21, .func (PySem.W.fnOf "_law_alone_right" "_law_alone_right" (defArgs s_alone_right) (defBody s_alone_right) (defScope s_alone_right) .none kV_21 dc_21 pm_21 an_21 cd_21 ct_21), sl_21⟩)
    (k1_alone_right : PySem.W.codeIn K cd_21 "_law_alone_right" = true)
    (k2_alone_right : PySem.W.keepIn K (.ref f_alone_right) = true)
    (a_right : PySem.W.nsIn K mainGlobals "_law_right" = some (some (.ref f_right)))
    (l_right : K.lookup f_right = some ⟨oc_22, od_22, .func (PySem.W.fnOf "_law_right" "_law_right" (defArgs s_right) (defBody s_right) (defScope s_right) .none kV_22 dc_22 pm_22 an_22 cd_22 ct_22), sl_22⟩)
    (k1_right : PySem.W.codeIn K cd_22 "_law_right" = true)
    (k2_right : PySem.W.keepIn K (.ref f_right) = true)
    (a_law : PySem.W.nsIn K mainGlobals "law" = some (some (.ref f_law)))
    (l_law : K.lookup f_law = some ⟨oc_23, od_23, .func (PySem.W.fnOf "law" "law" (defArgs s_law) (defBody s_law) (defScope s_law) .none kV_23 dc_23 pm_23 an_23 cd_23 ct_23), sl_23⟩)
    (k1_law : PySem.W.codeIn K cd_23 "law" = true)
    (k2_law : PySem.W.keepIn K (.ref f_law) = true)
    (pgA : PySem.W.plainGet K c_Amount Str.empty = true)
    (hdA : PySem.W.hasDictIn K c_Amount = true)
    (poA : PySem.W.plainOver K c_Amount = true)
    (saA : PySem.W.findIn K (.ref c_Amount) "__setattr__" = some (some (.builtin "object.__setattr__")))
    (nTA : PySem.W.findIn K (.ref c_Amount) "_top" = some none)
    (nBA : PySem.W.findIn K (.ref c_Amount) "_bottom" = some none)
    (mkA_ : PySem.W.makesIn K c_Amount = true)
    (kcA : PySem.W.keepIn K (.ref c_Amount) = true)
    (gcd_ : PySem.W.nsIn K mainGlobals "gcd" = some (some (.builtin "math.gcd")))
    (ca_ : PySem.W.findIn K (.ref c_Amount) "__class__" = some (some (.builtin "object.__class__")))
    (cn_ : PySem.W.specialIn K (.builtin "object.__class__") "__get__" = some (some (.builtin "getset_descriptor.__get__")))
    (ct_ : PySem.W.takesIn K (.builtin "object.__class__") = some true)
    (cm_ : PySem.W.mroIn K c_Amount (.type "object") = some true)
    (ic_ : PySem.W.isClsIn K c_Amount = true)
    (it_ : PySem.W.typeIn K (.ref c_Amount) = some (.type "type"))
    (sb_NoneType : PySem.W.subIn K (.type "NoneType") (.ref c_Amount) = some false)
    (sb_bool : PySem.W.subIn K (.type "bool") (.ref c_Amount) = some false)
    (sb_int : PySem.W.subIn K (.type "int") (.ref c_Amount) = some false)
    (sb_str : PySem.W.subIn K (.type "str") (.ref c_Amount) = some false)
    (sb_list : PySem.W.subIn K (.type "list") (.ref c_Amount) = some false)
    (sb_tuple : PySem.W.subIn K (.type "tuple") (.ref c_Amount) = some false)
    (sb_dict : PySem.W.subIn K (.type "dict") (.ref c_Amount) = some false)
    (part_ : PySem.W.nsIn K mainGlobals "PART" = some (some (.int 1000000000000000000000000000000000000000000000000000000000000 tP)))
    (ne_ : PySem.W.findIn K (.ref c_Amount) "__ne__" = some (some (.builtin "object.__ne__")))
    (z_len : PySem.W.nsIn K mainGlobals "len" = some none)
    (z_abs : PySem.W.nsIn K mainGlobals "abs" = some none)
    (z_max : PySem.W.nsIn K mainGlobals "max" = some none)
    (z_min : PySem.W.nsIn K mainGlobals "min" = some none)
    (z_int : PySem.W.nsIn K mainGlobals "int" = some none)
    (z_divmod : PySem.W.nsIn K mainGlobals "divmod" = some none)
    (z_all : PySem.W.nsIn K mainGlobals "all" = some none)
    (z_repr : PySem.W.nsIn K mainGlobals "repr" = some none)
    (z_isinstance : PySem.W.nsIn K mainGlobals "isinstance" = some none)
    (z_str : PySem.W.nsIn K mainGlobals "str" = some none)
    (z_range : PySem.W.nsIn K mainGlobals "range" = some none)
    (z_enumerate : PySem.W.nsIn K mainGlobals "enumerate" = some none)
    (z_bool : PySem.W.nsIn K mainGlobals "bool" = some none) :
    ∃ fd : FuncData, (∀ (s : Shared) (v : Value), BindsTo s fd ⟨[v], []⟩ [("_law_script", v)]) ∧ ∀ base : Heap, K.In base → base.Ns mainGlobals mg → FnG l.prog w K mg base CX0 8 fa fd ["_law_script"] (sp_law K) := by
  have e := (PySem.W.mg_of X G a_law).symm.trans hfa
  cases e
  have T : Txt K mg { f_is_integer := f_is_integer, d_is_integer := PySem.W.fnOf "is_integer" "is_integer" (defArgs s_is_integer) (defBody s_is_integer) (defScope s_is_integer) .none kV_0 dc_0 pm_0 an_0 cd_0 ct_0, f_Amount_init_ := f_Amount_init_, d_Amount_init_ := PySem.W.fnOf "__init__" "Amount.__init__" (defArgs s_Amount_init_) (defBody s_Amount_init_) (defScope s_Amount_init_) (.ref T_1) kV_1 dc_1 pm_1 an_1 cd_1 ct_1, f_Amount_eq_ := f_Amount_eq_, d_Amount_eq_ := PySem.W.fnOf "__eq__" "Amount.__eq__" (defArgs s_Amount_eq_) (defBody s_Amount_eq_) (defScope s_Amount_eq_) .none kV_2 dc_2 pm_2 an_2 cd_2 ct_2, f_Amount_lt_ := f_Amount_lt_, d_Amount_lt_ := PySem.W.fnOf "__lt__" "Amount.__lt__" (defArgs s_Amount_lt_) (defBody s_Amount_lt_) (defScope s_Amount_lt_) .none kV_3 dc_3 pm_3 an_3 cd_3 ct_3, f_Amount_le_ := f_Amount_le_, d_Amount_le_ := PySem.W.fnOf "__le__" "Amount.__le__" (defArgs s_Amount_le_) (defBody s_Amount_le_) (defScope s_Amount_le_) .none kV_4 dc_4 pm_4 an_4 cd_4 ct_4, f_Amount_gt_ := f_Amount_gt_, d_Amount_gt_ := PySem.W.fnOf "__gt__" "Amount.__gt__" (defArgs s_Amount_gt_) (defBody s_Amount_gt_) (defScope s_Amount_gt_) .none kV_5 dc_5 pm_5 an_5 cd_5 ct_5, f_Amount_ge_ := f_Amount_ge_, d_Amount_ge_ := PySem.W.fnOf "__ge__" "Amount.__ge__" (defArgs s_Amount_ge_) (defBody s_Amount_ge_) (defScope s_Amount_ge_) .none kV_6 dc_6 pm_6 an_6 cd_6 ct_6, f_decimal := f_decimal, d_decimal := PySem.W.fnOf "_decimal" "_decimal" (defArgs s_decimal) (defBody s_decimal) (defScope s_decimal) .none kV_7 dc_7 pm_7 an_7 cd_7 ct_7, f_Amount_str_ := f_Amount_str_, d_Amount_str_ := PySem.W.fnOf "__str__" "Amount.__str__" (defArgs s_Amount_str_) (defBody s_Amount_str_) (defScope s_Amount_str_) .none kV_8 dc_8 pm_8 an_8 cd_8 ct_8, f_Amount_repr_ := f_Amount_repr_, d_Amount_repr_ := PySem.W.fnOf "__repr__" "Amount.__repr__" (defArgs s_Amount_repr_) (defBody s_Amount_repr_) (defScope s_Amount_repr_) .none kV_9 dc_9 pm_9 an_9 cd_9 ct_9, f_Amounttop := f_Amounttop, d_Amounttop := PySem.W.fnOf "top" "Amount.top" (defArgs s_Amounttop) (defBody s_Amounttop) (defScope s_Amounttop) .none kV_10 dc_10 pm_10 an_10 cd_10 ct_10, f_pot := f_pot, d_pot := PySem.W.fnOf "_law_pot" "_law_pot" (defArgs s_pot) (defBody s_pot) (defScope s_pot) .none kV_11 dc_11 pm_11 an_11 cd_11 ct_11, f_draw := f_draw, d_draw := PySem.W.fnOf "_law_draw" "_law_draw" (defArgs s_draw) (defBody s_draw) (defScope s_draw) .none kV_12 dc_12 pm_12 an_12 cd_12 ct_12, f_choice := f_choice, d_choice := PySem.W.fnOf "_law_choice" "_law_choice" (defArgs s_choice) (defBody s_choice) (defScope s_choice) .none kV_13 dc_13 pm_13 an_13 cd_13 ct_13, f_number := f_number, d_number := PySem.W.fnOf "_law_number" "_law_number" (defArgs s_number) (defBody s_number) (defScope s_number) .none kV_14 dc_14 pm_14 an_14 cd_14 ct_14, f_drawn := f_drawn, d_drawn := PySem.W.fnOf "_law_drawn" "_law_drawn" (defArgs s_drawn) (defBody s_drawn) (defScope s_drawn) .none kV_15 dc_15 pm_15 an_15 cd_15 ct_15, f_divided := f_divided, d_divided := PySem.W.fnOf "_law_divided" "_law_divided" (defArgs s_divided) (defBody s_divided) (defScope s_divided) .none kV_16 dc_16 pm_16 an_16 cd_16 ct_16, f_near := f_near, d_near := PySem.W.fnOf "_law_near" "_law_near" (defArgs s_near) (defBody s_near) (defScope s_near) .none kV_17 dc_17 pm_17 an_17 cd_17 ct_17, f_fractions := f_fractions, d_fractions := PySem.W.fnOf "_law_fractions" "_law_fractions" (defArgs s_fractions) (defBody s_fractions) (defScope s_fractions) .none kV_18 dc_18 pm_18 an_18 cd_18 ct_18, f_sign := f_sign, d_sign := PySem.W.fnOf "_law_sign" "_law_sign" (defArgs s_sign) (defBody s_sign) (defScope s_sign) .none kV_19 dc_19 pm_19 an_19 cd_19 ct_19, f_pair_right := f_pair_right, d_pair_right := PySem.W.fnOf "_law_pair_right" "_law_pair_right" (defArgs s_pair_right) (defBody s_pair_right) (defScope s_pair_right) .none kV_20 dc_20 pm_20 an_20 cd_20 ct_20, f_alone_right := f_alone_right, d_alone_right := PySem.W.fnOf "_law_alone_right" "_law_alone_right" (defArgs s_alone_right) (defBody s_alone_right) (defScope s_alone_right) .none kV_21 dc_21 pm_21 an_21 cd_21 ct_21, f_right := f_right, d_right := PySem.W.fnOf "_law_right" "_law_right" (defArgs s_right) (defBody s_right) (defScope s_right) .none kV_22 dc_22 pm_22 an_22 cd_22 ct_22, f_law := fa, d_law := PySem.W.fnOf "law" "law" (defArgs s_law) (defBody s_law) (defScope s_law) .none kV_23 dc_23 pm_23 an_23 cd_23 ct_23, c_Amount := c_Amount, p_top := p_top } := {
    F_is_integer := fun_mk (st := s_is_integer) l_is_integer k1_is_integer k2_is_integer,
    m_is_integer := PySem.W.mg_of X G a_is_integer,
    F_Amount_init_ := ⟨⟨_, _, _, _, _, _, _, _, _, _, rfl, l_Amount_init_, k1_Amount_init_, .inr ⟨by simp, _, _, _, _, rfl, dl_Amount_init_, do_Amount_init_, dv_Amount_init_⟩, .inl rfl⟩, k2_Amount_init_⟩,
    F_Amount_eq_ := fun_mk (st := s_Amount_eq_) l_Amount_eq_ k1_Amount_eq_ k2_Amount_eq_,
    F_Amount_lt_ := fun_mk (st := s_Amount_lt_) l_Amount_lt_ k1_Amount_lt_ k2_Amount_lt_,
    F_Amount_le_ := fun_mk (st := s_Amount_le_) l_Amount_le_ k1_Amount_le_ k2_Amount_le_,
    F_Amount_gt_ := fun_mk (st := s_Amount_gt_) l_Amount_gt_ k1_Amount_gt_ k2_Amount_gt_,
    F_Amount_ge_ := fun_mk (st := s_Amount_ge_) l_Amount_ge_ k1_Amount_ge_ k2_Amount_ge_,
    F_decimal := fun_mk (st := s_decimal) l_decimal k1_decimal k2_decimal,
    m_decimal := PySem.W.mg_of X G a_decimal,
    F_Amount_str_ := fun_mk (st := s_Amount_str_) l_Amount_str_ k1_Amount_str_ k2_Amount_str_,
    F_Amount_repr_ := fun_mk (st := s_Amount_repr_) l_Amount_repr_ k1_Amount_repr_ k2_Amount_repr_,
    F_Amounttop := fun_mk (st := s_Amounttop) l_Amounttop k1_Amounttop k2_Amounttop,
    F_pot := fun_mk (st := s_pot) l_pot k1_pot k2_pot,
    m_pot := PySem.W.mg_of X G a_pot,
    F_draw := fun_mk (st := s_draw) l_draw k1_draw k2_draw,
    m_draw := PySem.W.mg_of X G a_draw,
    F_choice := fun_mk (st := s_choice) l_choice k1_choice k2_choice,
    m_choice := PySem.W.mg_of X G a_choice,
    F_number := fun_mk (st := s_number) l_number k1_number k2_number,
    m_number := PySem.W.mg_of X G a_number,
    F_drawn := fun_mk (st := s_drawn) l_drawn k1_drawn k2_drawn,
    m_drawn := PySem.W.mg_of X G a_drawn,
    F_divided := fun_mk (st := s_divided) l_divided k1_divided k2_divided,
    m_divided := PySem.W.mg_of X G a_divided,
    F_near := fun_mk (st := s_near) l_near k1_near k2_near,
    m_near := PySem.W.mg_of X G a_near,
    F_fractions := fun_mk (st := s_fractions) l_fractions k1_fractions k2_fractions,
    m_fractions := PySem.W.mg_of X G a_fractions,
    F_sign := fun_mk (st := s_sign) l_sign k1_sign k2_sign,
    m_sign := PySem.W.mg_of X G a_sign,
    F_pair_right := fun_mk (st := s_pair_right) l_pair_right k1_pair_right k2_pair_right,
    m_pair_right := PySem.W.mg_of X G a_pair_right,
    F_alone_right := fun_mk (st := s_alone_right) l_alone_right k1_alone_right k2_alone_right,
    m_alone_right := PySem.W.mg_of X G a_alone_right,
    F_right := fun_mk (st := s_right) l_right k1_right k2_right,
    m_right := PySem.W.mg_of X G a_right,
    F_law := fun_mk (st := s_law) l_law k1_law k2_law,
    m_law := PySem.W.mg_of X G a_law,
    cl := ⟨pgA, hdA, poA, saA⟩,
    nT := nTA,
    nB := nBA,
    mA := PySem.W.mg_of X G aC_Amount,
    mkA := ⟨mkA_, a_Amount_init_, i_Amount_init_, kcA⟩,
    m_gcd := PySem.W.mg_of X G gcd_,
    I := ⟨ca_, cn_, ct_, cm_, (kit_own ic_ it_ sb_NoneType).1, (kit_own ic_ it_ sb_bool).1, (kit_own ic_ it_ sb_int).1, (kit_own ic_ it_ sb_str).1, (kit_own ic_ it_ sb_list).1, (kit_own ic_ it_ sb_tuple).1, (kit_own ic_ it_ sb_dict).1, (kit_own ic_ it_ sb_NoneType).2, (kit_own ic_ it_ sb_bool).2, (kit_own ic_ it_ sb_int).2, (kit_own ic_ it_ sb_str).2, (kit_own ic_ it_ sb_list).2, (kit_own ic_ it_ sb_tuple).2, (kit_own ic_ it_ sb_dict).2⟩,
    pTop := ⟨pa_Amounttop, pg_Amounttop, pt_Amounttop, ⟨_, pr_Amounttop⟩⟩,
    gPart := ⟨tP, (show (10 : Int) ^ 60 = 1000000000000000000000000000000000000000000000000000000000000 by decide) ▸ PySem.W.mg_of X G part_⟩,
    cEq := ⟨a_Amount_eq_, i_Amount_eq_⟩,
    cLt := ⟨a_Amount_lt_, i_Amount_lt_⟩,
    cLe := ⟨a_Amount_le_, i_Amount_le_⟩,
    cGt := ⟨a_Amount_gt_, i_Amount_gt_⟩,
    cGe := ⟨a_Amount_ge_, i_Amount_ge_⟩,
    cSt := ⟨a_Amount_str_, i_Amount_str_⟩,
    cRe := ⟨a_Amount_repr_, i_Amount_repr_⟩,
    cNe := ne_,
    b_len := PySem.W.mg_none_of X G z_len,
    b_abs := PySem.W.mg_none_of X G z_abs,
    b_max := PySem.W.mg_none_of X G z_max,
    b_min := PySem.W.mg_none_of X G z_min,
    b_int := PySem.W.mg_none_of X G z_int,
    b_divmod := PySem.W.mg_none_of X G z_divmod,
    b_all := PySem.W.mg_none_of X G z_all,
    b_repr := PySem.W.mg_none_of X G z_repr,
    b_isinstance := PySem.W.mg_none_of X G z_isinstance,
    b_str := PySem.W.mg_none_of X G z_str,
    b_range := PySem.W.mg_none_of X G z_range,
    b_enumerate := PySem.W.mg_none_of X G z_enumerate,
    b_bool := PySem.W.mg_none_of X G z_bool }
  exact ⟨_, fun s v => (BindsTo.of_eq rfl : BindsTo s (PySem.W.fnOf "law" "law" (defArgs s_law) (defBody s_law) (defScope s_law) .none kV_23 dc_23 pm_23 an_23 cd_23 ct_23) ⟨[v], []⟩ [("_law_script", v)]), fun base _ _ => ok_law T⟩
theorem walk {l : PySem.W.OpenLaw} {q : Program} {loose : List Str} {XP : (Str → Option Value) → Heap → Prop} {YP : World → Heap → Prop} {d : DefRec} {K : Params → PySem.W.Frag} (hn : l.most = some 63) (hdf : d.params.defaults = [])
    (hY : ∀ (w : World) (h : Heap), YP w h → (K w.params).In h)
    (F : ∀ (w : World) (mg : Str → Option Value) (fa : Addr) (h : Heap), (K w.params).In h → h.Ns mainGlobals mg → mg d.name = some (.ref fa) →
      ∃ fd : FuncData, (∀ (s : Shared) (u : Value), BindsTo s fd ⟨[u], []⟩ [("_law_script", u)]) ∧ ∀ base : Heap, (K w.params).In base → base.Ns mainGlobals mg → FnG l.prog w (K w.params) mg base CX0 8 fa fd ["_law_script"] (sp_law (K w.params))) :
    PySem.W.WalkO q loose XP YP l.row.toRowW d [] (fun f vs => PySem.call f vs) :=
  walkG (n := 63) (k := 8) (x := "_law_script") (sp := fun K => sp_law K) hn (by decide) hdf ⟨rfl, by decide, by decide⟩ hY F (fun K H a ns hl _ hS => ⟨a, ns, rfl, hS, hl, fun _ => rfl⟩)
end K12

open PySem PySem.W PyProof.Rows in
set_option maxRecDepth 100000 in
set_option maxHeartbeats 0 in
theorem PySem.Challenge.cw_surepipes_k12_amounts_compared_holds : PySem.Challenge.rw_surepipes_k12_amounts_compared.Holds := by
  w_on; o_law; k_head; (case hw => w_witness2)
  k_fill
  refine K12.walk (l := PySem.Challenge.rw_surepipes_k12_amounts_compared) rfl rfl (fun w h Y => PySem.W.kIn_of Y) ?F
  case F =>
    intro w mg fa h KX G hmg
    refine' K12.all_mk KX G hmg ?aC_Amount ?a_is_integer ?l_is_integer ?k1_is_integer ?k2_is_integer ?a_Amount_init_ ?i_Amount_init_ ?l_Amount_init_ ?k1_Amount_init_ ?k2_Amount_init_ ?dl_Amount_init_ ?do_Amount_init_ ?dv_Amount_init_ ?a_Amount_eq_ ?i_Amount_eq_ ?l_Amount_eq_ ?k1_Amount_eq_ ?k2_Amount_eq_ ?a_Amount_lt_ ?i_Amount_lt_ ?l_Amount_lt_ ?k1_Amount_lt_ ?k2_Amount_lt_ ?a_Amount_le_ ?i_Amount_le_ ?l_Amount_le_ ?k1_Amount_le_ ?k2_Amount_le_ ?a_Amount_gt_ ?i_Amount_gt_ ?l_Amount_gt_ ?k1_Amount_gt_ ?k2_Amount_gt_ ?a_Amount_ge_ ?i_Amount_ge_ ?l_Amount_ge_ ?k1_Amount_ge_ ?k2_Amount_ge_ ?a_decimal ?l_decimal ?k1_decimal ?k2_decimal ?a_Amount_str_ ?i_Amount_str_ ?l_Amount_str_ ?k1_Amount_str_ ?k2_Amount_str_ ?a_Amount_repr_ ?i_Amount_repr_ ?l_Amount_repr_ ?k1_Amount_repr_ ?k2_Amount_repr_ ?pa_Amounttop ?pg_Amounttop ?pt_Amounttop ?pr_Amounttop ?l_Amounttop ?k1_Amounttop ?k2_Amounttop ?a_pot ?l_pot ?k1_pot ?k2_pot ?a_draw ?l_draw ?k1_draw ?k2_draw ?a_choice ?l_choice ?k1_choice ?k2_choice ?a_number ?l_number ?k1_number ?k2_number ?a_drawn ?l_drawn ?k1_drawn ?k2_drawn ?a_divided ?l_divided ?k1_divided ?k2_divided ?a_near ?l_near ?k1_near ?k2_near ?a_fractions ?l_fractions ?k1_fractions ?k2_fractions ?a_sign ?l_sign ?k1_sign ?k2_sign ?a_pair_right ?l_pair_right ?k1_pair_right ?k2_pair_right ?a_alone_right ?l_alone_right ?k1_alone_right ?k2_alone_right ?a_right ?l_right ?k1_right ?k2_right ?a_law ?l_law ?k1_law ?k2_law ?pgA ?hdA ?poA ?saA ?nTA ?nBA ?mkA_ ?kcA ?gcd_ ?ca_ ?cn_ ?ct_ ?cm_ ?ic_ ?it_ ?sb_NoneType ?sb_bool ?sb_int ?sb_str ?sb_list ?sb_tuple ?sb_dict ?part_ ?ne_ ?z_len ?z_abs ?z_max ?z_min ?z_int ?z_divmod ?z_all ?z_repr ?z_isinstance ?z_str ?z_range ?z_enumerate ?z_bool
    (case aC_Amount => k_is)
    (case a_is_integer => k_is)
    (case l_is_integer => k_is)
    (case k1_is_integer => k_is)
    (case k2_is_integer => k_is)
    (case a_Amount_init_ => k_is)
    (case i_Amount_init_ => k_is)
    (case l_Amount_init_ => k_is)
    (case k1_Amount_init_ => k_is)
    (case k2_Amount_init_ => k_is)
    (case dl_Amount_init_ => k_is)
    (case do_Amount_init_ => rfl)
    (case dv_Amount_init_ => exact .cons ⟨_, rfl⟩ .nil)
    (case a_Amount_eq_ => k_is)
    (case i_Amount_eq_ => k_is)
    (case l_Amount_eq_ => k_is)
    (case k1_Amount_eq_ => k_is)
    (case k2_Amount_eq_ => k_is)
    (case a_Amount_lt_ => k_is)
    (case i_Amount_lt_ => k_is)
    (case l_Amount_lt_ => k_is)
    (case k1_Amount_lt_ => k_is)
    (case k2_Amount_lt_ => k_is)
    (case a_Amount_le_ => k_is)
    (case i_Amount_le_ => k_is)
    (case l_Amount_le_ => k_is)
    (case k1_Amount_le_ => k_is)
    (case k2_Amount_le_ => k_is)
    (case a_Amount_gt_ => k_is)
    (case i_Amount_gt_ => k_is)
    (case l_Amount_gt_ => k_is)
    (case k1_Amount_gt_ => k_is)
    (case k2_Amount_gt_ => k_is)
    (case a_Amount_ge_ => k_is)
    (case i_Amount_ge_ => k_is)
    (case l_Amount_ge_ => k_is)
    (case k1_Amount_ge_ => k_is)
    (case k2_Amount_ge_ => k_is)
    (case a_decimal => k_is)
    (case l_decimal => k_is)
    (case k1_decimal => k_is)
    (case k2_decimal => k_is)
    (case a_Amount_str_ => k_is)
    (case i_Amount_str_ => k_is)
    (case l_Amount_str_ => k_is)
    (case k1_Amount_str_ => k_is)
    (case k2_Amount_str_ => k_is)
    (case a_Amount_repr_ => k_is)
    (case i_Amount_repr_ => k_is)
    (case l_Amount_repr_ => k_is)
    (case k1_Amount_repr_ => k_is)
    (case k2_Amount_repr_ => k_is)
    (case pa_Amounttop => k_is)
    (case pg_Amounttop => k_is)
    (case pt_Amounttop => k_is)
    (case pr_Amounttop => k_is)
    (case l_Amounttop => k_is)
    (case k1_Amounttop => k_is)
    (case k2_Amounttop => k_is)
    (case a_pot => k_is)
    (case l_pot => k_is)
    (case k1_pot => k_is)
    (case k2_pot => k_is)
    (case a_draw => k_is)
    (case l_draw => k_is)
    (case k1_draw => k_is)
    (case k2_draw => k_is)
    (case a_choice => k_is)
    (case l_choice => k_is)
    (case k1_choice => k_is)
    (case k2_choice => k_is)
    (case a_number => k_is)
    (case l_number => k_is)
    (case k1_number => k_is)
    (case k2_number => k_is)
    (case a_drawn => k_is)
    (case l_drawn => k_is)
    (case k1_drawn => k_is)
    (case k2_drawn => k_is)
    (case a_divided => k_is)
    (case l_divided => k_is)
    (case k1_divided => k_is)
    (case k2_divided => k_is)
    (case a_near => k_is)
    (case l_near => k_is)
    (case k1_near => k_is)
    (case k2_near => k_is)
    (case a_fractions => k_is)
    (case l_fractions => k_is)
    (case k1_fractions => k_is)
    (case k2_fractions => k_is)
    (case a_sign => k_is)
    (case l_sign => k_is)
    (case k1_sign => k_is)
    (case k2_sign => k_is)
    (case a_pair_right => k_is)
    (case l_pair_right => k_is)
    (case k1_pair_right => k_is)
    (case k2_pair_right => k_is)
    (case a_alone_right => k_is)
    (case l_alone_right => k_is)
    (case k1_alone_right => k_is)
    (case k2_alone_right => k_is)
    (case a_right => k_is)
    (case l_right => k_is)
    (case k1_right => k_is)
    (case k2_right => k_is)
    (case a_law => k_is)
    (case l_law => k_is)
    (case k1_law => k_is)
    (case k2_law => k_is)
    (case pgA => k_is)
    (case hdA => k_is)
    (case poA => k_is)
    (case saA => k_is)
    (case nTA => k_is)
    (case nBA => k_is)
    (case mkA_ => k_is)
    (case kcA => k_is)
    (case gcd_ => k_is)
    (case ca_ => k_is)
    (case cn_ => k_is)
    (case ct_ => k_is)
    (case cm_ => k_is)
    (case ic_ => k_is)
    (case it_ => k_is)
    (case sb_NoneType => k_is)
    (case sb_bool => k_is)
    (case sb_int => k_is)
    (case sb_str => k_is)
    (case sb_list => k_is)
    (case sb_tuple => k_is)
    (case sb_dict => k_is)
    (case part_ => k_is)
    (case ne_ => k_is)
    (case z_len => k_is)
    (case z_abs => k_is)
    (case z_max => k_is)
    (case z_min => k_is)
    (case z_int => k_is)
    (case z_divmod => k_is)
    (case z_all => k_is)
    (case z_repr => k_is)
    (case z_isinstance => k_is)
    (case z_str => k_is)
    (case z_range => k_is)
    (case z_enumerate => k_is)
    (case z_bool => k_is)
#print axioms PySem.Challenge.cw_surepipes_k12_amounts_compared_holds

