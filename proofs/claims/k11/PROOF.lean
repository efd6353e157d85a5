import PyProof.Rows.All
import Wide.All
import OpenK.AllK
import Wide.FinOn
import HandS.ForMost
import HandS.OwnEq
import HandS.SlotsOwn
import HandS.Property
import HandS.Gcd
import HandS.WideBits
import HandS.Style
import HandS.FStr
import HandS.IsInst
import HandS.RaiseMore
import HandS.Codes
import HandS.Defaults
import KE.RegKCallOwn
import PyProof.ReprRoads
import HandS.ClsMeth
import HandS.Star
import HandS.MakeKwOnly
import HandS.MakeKw
import HandS.StrMore
import PySem.Challenge.RW_surepipes_k11_whole_amounts_reckoned
import PyProof.StrLawsRepr
set_option Elab.async false
set_option linter.all false
set_option maxRecDepth 100000
set_option maxHeartbeats 4000000
namespace Lb
open PySem PySem.Spec PyProof.Rows L2
open SlX (cmpback)

/-! own operators of plain instances -/
section
variable {X : Cx} {CX : CXT} {pins : List (Addr × Obj)} {σ : L2.St} {H : Hp} {s : Shared} {a C dx p g : Addr} {f : Str} {n : Nat} {sp : Sp} {E : XK} {v : V} {u : Value}

/-- what a comparison sees as the type of a value -/
theorem looks_ty {x : V} {u t : Value} (I : Inv X pins σ H s) (rx : RelV x u) (ty : TyOf X.K H x t) : PySem.W.Looks (model X.prog X.w) s.heap (typeOf u) t := by
  obtain ⟨P, k, hp, _⟩ := kit_of I rx (.base ty)
  exact k.ty _ _ I.kIn hp

/-- the instance as the library takes it -/
theorem inst_at {fs : List (Str × V)} (I : Inv X pins σ H s) (e : H a = some (.ins C dx fs)) : ∃ od, PySem.W.InstAt s.heap a (PySem.W.instObj C dx) C (some od) := by
  obtain ⟨mA, O, _⟩ := ins_get I.hok e
  obtain ⟨od, J, _⟩ := O.look
  exact ⟨od, J⟩

/-- x OP y by the def of the class of x for OP -/
def rOwnOp (K : PySem.W.Frag) (C : Addr) (sp : Sp) (E : XK) : R2 := fun x y H Q =>
  ∃ a dx fs t, x = .ref a ∧ H a = some (.ins C dx fs) ∧ TyOf K H y t ∧ PySem.W.notFirst K C t = true ∧ sp [x, y] H Q E
theorem op_ownCmp {K : PySem.W.Frag} {op : CmpOp} (hK : X.K = K) (hop : ∀ a b, compareOp op a b = richCompare op a b)
    (hs : PySem.W.findIn K (.ref C) (cmpInfo op).2.1 = some (some (.ref g))) (hf : PySem.W.isFn K (.ref g) = true)
    (F : FnR X.prog X.w X.K X.mg X.base CX n g sp) (hr : Room n X.A) (hx : Passes CX X E) : OpR X (compareOp op) (rOwnOp K C sp E) := by
  subst hK
  intro pins s σ H x y v u Q I rx ry h
  obtain ⟨a, dx, fs, t, rfl, ha, ty, hn, q⟩ := h
  cases (show v = Value.ref a from rx)
  obtain ⟨od, J⟩ := inst_at I ha
  obtain ⟨m, hF⟩ := I.fr
  rw [hop]
  refine PySem.W.cmp_K (op := op) (tb := t) hr.units0 hF I.ok.mod.kin J (looks_ty I ry ty) hn hs hf ?_
  refine wpAny_mono (wpAny_call (SlX.run_at (us := [.ref a, u]) (ws := [.ref a, y]) F hr I.env0 hx I (.cons rfl (.cons ry .nil)) q)) (fun w s' z => ?_) fun _ _ x => x
  obtain ⟨z', H', I', rz, qz⟩ := z
  exact cmpback rz ⟨z', H', I', rz, qz⟩

/-- x != y where the class of x has __eq__ alone: its answer turned -/
theorem ne_try {K : PySem.W.Frag} {prog : Program} {w : World} {A : Around} {EE : Value → Shared → Prop} {s : Shared} {x C f : Addr} {ox : Obj} {od : Option Obj} {b : Value} {Q : Option Value → Shared → Prop}
    (hu : A.units + 1 < cLine) (KX : K.In s.heap) (J : PySem.W.InstAt s.heap x ox C od)
    (hne : PySem.W.findIn K (.ref C) "__ne__" = some (some (.builtin "object.__ne__"))) (hm : PySem.W.mroIn K C (.type "object") = some true)
    (he : PySem.W.findIn K (.ref C) "__eq__" = some (some (.ref f))) (hf : PySem.W.isFn K (.ref f) = true)
    (h : wpAny (model prog w) A.in1 (call (.ref f) [.ref x, b]) (fun v s' => ∃ k, v = .bool k ∧ Q (some (.bool (!k))) s') EE s) :
    wpAny (model prog w) A (tryCompare (.ref x) "__ne__" b) Q EE s := by
  have hb := PySem.F.cmp_object.ne.bind
  simp only [tryCompare, callSpecialIfBound?, bindSpecialIfBound?]
  refine wpAny_bind (wpAny_holding (wpAny_bind (wpAny_bind (wpAny_bind (J.type.here ((PySem.W.looks_findIn KX hne).here ?_))))))
  refine wpAny_bind (wpAny_askSetting (wpAny_ite ?_))
  have body : wpAny (model prog w) A (call (.builtin "object.__ne__") ([.ref x] ++ [b])) (fun v s' => ∃ k, v = .bool k ∧ Q (some (.bool k)) s') EE s := by
    refine wpAny_call (codeAny_call_builtin PySem.F.cmp_object.ne.plain PySem.F.cmpEntry_ne
      (PySem.W.check_slot PySem.F.cmpKind_ne PySem.F.cmpSplit_ne (J.type.andThen (PySem.W.looks_mroIn KX hm)) (PySem.F.cmpArgs_ne _ _) ?_))
    unfold Builtin.«object.__ne__»
    refine wpAny_bind (m := slotArgs "__ne__" 1 _) (wpAny_pure ?_)
    refine wpAny_bind (m := cRoomFor _ _) (wpAny_cRoomFor hu ?_)
    refine wpAny_bind (m := callSpecialIfBound? (.ref x) (Str.ofString "__eq__") [b]) (PySem.W.ifBound_K KX J he hf (wpAny_mono h (fun v s' z => ?_) fun _ _ e => e))
    obtain ⟨k, rfl, q⟩ := z
    refine wpAny_bind (wpAny_truthy_bool ?_)
    exact wpAny_pure ⟨!k, rfl, q⟩
  have fin : wpAny (model prog w) A (call (.builtin "object.__ne__") ([.ref x] ++ [b]) >>= fun v => pure (some v)) (fun r s' => ∃ k, r = some (.bool k) ∧ Q (some (.bool k)) s') EE s :=
    wpAny_bind (wpAny_mono body (fun v s' ⟨k, e, q⟩ => wpAny_pure ⟨k, by rw [e], q⟩) fun _ _ e => e)
  have fin2 : wpAny (model prog w) A (call (.builtin "object.__ne__") ([.ref x] ++ [b]) >>= fun v => pure (some v)) (fun r s' => wpAny (model prog w) A (match r with
      | some .notImplemented | none => pure none
      | some v => pure (some v)) Q EE s') EE s := wpAny_mono fin (fun r s' ⟨k, e, q⟩ => by subst e; exact wpAny_pure q) fun _ _ e => e
  split
  · exact wpAny_bind ((PySem.W.Looks.of_pure (hb _)).here (wpAny_pure (by exact fin2)))
  · exact wpAny_tryCatch (wpAny_bind ((PySem.W.Looks.of_pure (hb _)).here (wpAny_pure (by exact fin2))))

/-- how a promise at a bool is handed back -/
def rOwnNe (K : PySem.W.Frag) (C : Addr) (sp : Sp) (E : XK) : R2 := fun x y H Q =>
  ∃ a dx fs t, x = .ref a ∧ H a = some (.ins C dx fs) ∧ TyOf K H y t ∧ PySem.W.notFirst K C t = true ∧ sp [x, y] H (fun z H' => ∃ k, z = .bl k ∧ Q (.bl (!k)) H') E
theorem op_ownNe {K : PySem.W.Frag} (hK : X.K = K) (hne : PySem.W.findIn K (.ref C) "__ne__" = some (some (.builtin "object.__ne__"))) (hm : PySem.W.mroIn K C (.type "object") = some true)
    (hs : PySem.W.findIn K (.ref C) "__eq__" = some (some (.ref g))) (hf : PySem.W.isFn K (.ref g) = true)
    (F : FnR X.prog X.w X.K X.mg X.base CX n g sp) (hr : Room (n + 1) X.A) (hx : Passes CX X E) : OpR X (compareOp .NotEq) (rOwnNe K C sp E) := by
  subst hK
  intro pins s σ H x y v u Q I rx ry h
  obtain ⟨a, dx, fs, t, rfl, ha, ty, hn, q⟩ := h
  cases (show v = Value.ref a from rx)
  obtain ⟨od, J⟩ := inst_at I ha
  have KX := I.kIn
  have hb := looks_ty I ry ty
  have hu := hr.units
  have body : wpAny (model X.prog X.w) X.A.in1 (call (.ref g) [.ref a, u]) (fun v s' => ∃ k, v = .bool k ∧ EP X pins σ Q (.bool (!k)) s') X.xe s := by
    refine wpAny_mono (wpAny_call (SlX.run_at (us := [.ref a, u]) (ws := [.ref a, y]) F hr.in1 I.env0.in1 hx I (.cons rfl (.cons ry .nil)) q)) (fun w s' z => ?_) fun _ _ x => x
    obtain ⟨z', H', I', rz, k, ez, qz⟩ := z
    subst ez
    exact ⟨k, rz, .bl (!k), H', I', rfl, qz⟩
  have one : wpAny (model X.prog X.w) X.A (tryCompare (.ref a) "__ne__" u) (fun r s' => ∃ v, r = some v ∧ EP X pins σ Q v s') X.xe s :=
    ne_try (by omega) KX J hne hm hs hf (wpAny_mono body (fun v s' ⟨k, e, q⟩ => ⟨k, e, _, rfl, q⟩) fun _ _ e => e)
  show wpAny (model X.prog X.w) X.A (richCompare .NotEq (.ref a) u) (EP X pins σ Q) X.xe s
  unfold richCompare
  simp only [oneThing_ref]
  refine wpAny_holding (wpAny_bind (wpAny_cRoomFor hr.units0 ?_))
  refine wpAny_bind (J.type.here (wpAny_bind (hb.here ?_)))
  split
  · rename_i q'
    have e : PySem.W.subIn X.K t (.ref C) = some false := by
      rcases Bool.or_eq_true_iff.mp hn with e | e
      · rw [beq_iff_eq.mp e] at q'; simp at q'
      · exact beq_iff_eq.mp e
    refine wpAny_bind ((PySem.W.looks_subIn KX e).here ?_)
    simp only [Bool.false_eq_true, if_false]
    refine wpAny_bind (wpAny_mono one (fun r s' z => ?_) fun _ _ e => e)
    obtain ⟨v, rfl, hq⟩ := z
    exact wpAny_pure hq
  · refine wpAny_bind (wpAny_pure ?_)
    simp only [Bool.false_eq_true, if_false]
    refine wpAny_bind (wpAny_mono one (fun r s' z => ?_) fun _ _ e => e)
    obtain ⟨v, rfl, hq⟩ := z
    exact wpAny_pure hq

/-- str(x), x an instance whose class has __str__ -/
def rOwnTx (C : Addr) (sp : Sp) (E : XK) : List V → Hp → VK → Prop := fun xs H Q =>
  ∃ a dx fs, xs = [.ref a] ∧ H a = some (.ins C dx fs) ∧ sp xs H (fun z H' => ∃ y, z = .str y ∧ Q z H') E
theorem call_strOwn (hs : PySem.W.findIn X.K (.ref C) "__str__" = some (some (.ref g))) (hf : PySem.W.isFn X.K (.ref g) = true)
    (F : FnR X.prog X.w X.K X.mg X.base CX n g sp) (hr : Room (n + 2) X.A) (hx : Passes CX X E) : CallR X (.type "str") (rOwnTx C sp E) := by
  intro pins s σ H xs us Q I r h
  obtain ⟨a, dx, fs, rfl, ha, q⟩ := h
  obtain ⟨u, rfl, ru⟩ := vals1 r
  cases (show u = Value.ref a from ru)
  obtain ⟨od, J⟩ := inst_at I ha
  have hu := hr.units
  have hr2 : Room n X.A.in1.in1 := (show Room (n + 1) X.A.in1 from Room.in1 hr).in1
  refine PySem.W.kso_call (by show X.A.units + 1 + 1 < cLine; omega) I.kIn J hs hf ?_
  refine wpAny_mono (wpAny_call (SlX.run_at (us := [.ref a]) (ws := [.ref a]) F hr2 I.env0.in1.in1 hx I (.cons rfl .nil) q)) (fun w s' z => ?_) fun _ _ x => x
  obtain ⟨z', H', I', rz, y, ez, qz⟩ := z
  subst ez
  obtain ⟨t, rfl⟩ := (show ∃ t, w = Value.str y t from rz)
  exact ⟨.str y, H', I', ⟨t, rfl⟩, qz⟩
/-- repr(x), x an instance whose class has __repr__ -/
theorem call_reprOwn (hs : PySem.W.findIn X.K (.ref C) "__repr__" = some (some (.ref g))) (hf : PySem.W.isFn X.K (.ref g) = true)
    (F : FnR X.prog X.w X.K X.mg X.base CX n g sp) (hr : Room (n + 1) X.A) (hx : Passes CX X E) : CallR X (.builtin "repr") (rOwnTx C sp E) := by
  intro pins s σ H xs us Q I r h
  obtain ⟨a, dx, fs, rfl, ha, q⟩ := h
  obtain ⟨u, rfl, ru⟩ := vals1 r
  cases (show u = Value.ref a from ru)
  obtain ⟨od, J⟩ := inst_at I ha
  have hu := hr.units
  refine Calls.call_function_entry PySem.F.kind_repr PySem.F.plain_repr PySem.F.entry_repr (PySem.F.args_repr1 _) ?_
  unfold Builtin.«repr»
  refine wpAny_bind (m := oneArg "repr" _) (wpAny_pure ?_)
  refine wpAny_bind (m := cRoomFor _ _) (wpAny_cRoomFor (by show X.A.units + 1 < cLine; omega) ?_)
  refine wpAny_bind (wpAny_bind (J.type.here ((PySem.W.looks_findIn I.kIn hs).here ?_)))
  refine wpAny_bind (m := callSpecialIfBound? (.ref a) (Str.ofString "__repr__")) (PySem.W.ifBound_K I.kIn J hs hf ?_)
  refine wpAny_mono (wpAny_call (SlX.run_at (us := [.ref a]) (ws := [.ref a]) F hr.in1 I.env0.in1 hx I (.cons rfl .nil) q)) (fun w s' z => ?_) fun _ _ x => x
  obtain ⟨z', H', I', rz, y, ez, qz⟩ := z
  subst ez
  obtain ⟨t, rfl⟩ := (show ∃ t, w = Value.str y t from rz)
  refine wpAny_bind (wpAny_isInstance (T := "str") (b := true) rfl isSubtype_str_str ?_)
  exact wpAny_pure ⟨_, rfl, .str y, H', I', ⟨t, rfl⟩, qz⟩
end
end Lb

set_option Elab.async false
set_option linter.all false
set_option maxRecDepth 100000
set_option maxHeartbeats 4000000
namespace Lb
open PySem PySem.Spec PyProof.Rows L2
open SlX (cmpback)

/-! repr of data: wants that no repr is running -/
mutual
theorem dp_plain {K : PySem.W.Frag} {H : Hp} : ∀ (d : PyData) (v : V), Dp K H v d → d.hasDict = false
  | .none, _, _ => by simp only [PyData.hasDict]
  | .bool _, _, _ => by simp only [PyData.hasDict]
  | .int _, _, _ => by simp only [PyData.hasDict]
  | .str _, _, _ => by simp only [PyData.hasDict]
  | .list ds, _, h => by
    cases h with
    | lst _ q => simp only [PyData.hasDict]; exact dp_plains ds _ q
  | .tuple ds, _, h => by
    cases h with
    | tup _ q => simp only [PyData.hasDict]; exact dp_plains ds _ q
  | .dict _, _, h => by cases h
theorem dp_plains {K : PySem.W.Frag} {H : Hp} : ∀ (ds : List PyData) (vs : List V), DpAll K H vs ds → PyData.hasDictAll ds = false
  | [], _, _ => by simp only [PyData.hasDictAll]
  | d :: ds, _, h => by
    cases h with
    | cons h1 h2 => simp only [PyData.hasDictAll, dp_plain d _ h1, dp_plains ds _ h2, Bool.or_self]
end
section
variable {X : Cx}
def rRepr (K : PySem.W.Frag) : List V → Hp → VK → Prop := fun xs H Q =>
  ∃ x d, xs = [x] ∧ Dp K H x d ∧ d.showable = true ∧ d.shown.length ≤ sizeLine ∧ d.depth ≤ 60 ∧ Q (.str d.shown) H
theorem call_repr {K : PySem.W.Frag} (hK : X.K = K) (hg : X.A.guards = some []) (hu : X.A.units + 64 < cLine) : CallR X (.builtin "repr") (rRepr K) := by
  subst hK
  intro pins s σ H xs us Q I r h
  obtain ⟨x, d, rfl, hd, hs, hz, hdp, q⟩ := h
  obtain ⟨u, rfl, ru⟩ := vals1 r
  have hpl := dp_plain d x hd
  obtain ⟨as, rd⟩ := Dp.reads I d x u hd ru
  cases x with
  | non =>
    cases hd
    cases (show u = Value.none from ru)
    exact PySem.P.repr_of_none ⟨.str _, H, I.tok _, ⟨_, rfl⟩, q⟩
  | bl b =>
    cases hd
    cases (show u = Value.bool b from ru)
    exact PySem.P.repr_of_bool ⟨.str _, H, I.tok _, ⟨_, rfl⟩, q⟩
  | int i =>
    cases hd
    obtain ⟨t, rfl⟩ := (show ∃ t, u = Value.int i t from ru)
    have hi : i.natAbs.log2 < 1920 := of_decide_eq_true (by simpa only [PyData.showable] using hs)
    exact PySem.P.repr_of_int hi ⟨.str _, H, I.tok _, ⟨_, rfl⟩, q⟩
  | str y =>
    cases hd
    obtain ⟨t, rfl⟩ := (show ∃ t, u = Value.str y t from ru)
    exact PySem.P.repr_of_str ⟨.str _, H, I.tok _, ⟨_, rfl⟩, q⟩ hz
  | byt y => cases hd
  | flt y => cases hd
  | ty y => cases hd
  | ref a =>
    cases (show u = Value.ref a from ru)
    refine PySem.repr_of_reads' rd hs (PyData.noDict_hsm hpl) hg (by omega) (fun _ _ e => e) (fun h' w tk k => ?_) hz
    exact ⟨.str _, H, I.kept k, ⟨_, rfl⟩, q⟩

/-! the layer's rules with the written part told apart (within a comprehension the context is another) -/
variable {K : PySem.W.Frag}
theorem ix_listK (hK : X.K = K) : IxR X (rIxL K) := by subst hK; exact ix_list
theorem ix_tupK (hK : X.K = K) : IxR X (rIxT K) := by subst hK; exact ix_tup
theorem sl_listK (hK : X.K = K) : SlR X (rSlL K) := by subst hK; exact sl_list
theorem call_lenK (hK : X.K = K) : CallR X (.builtin "len") (fun xs H Q => ∃ p ys, xs = [.ref p] ∧ (SqL K H p ys ∨ SqT K H p ys) ∧ Q (.int ys.length) H) := by subst hK; exact call_len_seq
theorem call_isiK' (hK : X.K = K) : CallR X (.builtin "isinstance") (rIsi K) := by subst hK; exact call_isi
theorem cr_allK (hK : X.K = K) (hc : X.calm = true) : CallR X (.builtin "all") (rAll K) := by subst hK; exact cr_all hc
theorem cr_anyK (hK : X.K = K) (hc : X.calm = true) : CallR X (.builtin "any") (rAny K) := by subst hK; exact cr_any hc
theorem pe_fldK {e : Expr} {f : Str} {pos : Pos} {ta : TE} (hK : X.K = K) (he : PE X e ta) (hb : attributeBase e f X.env (eval e X.env) = eval e X.env) : PE X (.Attribute e f pos) (tFld K ta f) := by subst hK; exact pe_fld he hb
theorem ps_fldK {o value : Expr} {f : Str} {pos pos' : Pos} {ta tv : TE} (hK : X.K = K) (ha : PE X o ta) (hv : PE X value tv) (hs : swapsWith value (some (.Attribute o f pos')) pos.line X.env = pure false) :
    PS X (.Assign [.Attribute o f pos'] value pos) (sFld K ta tv f) := by subst hK; exact ps_fld ha hv hs
theorem pg_tupK {pos : Pos} {es : List Expr} {k : Nat} {t : TGs} {n : Nat} (hK : X.K = K) (hc : X.calm = true) (h : PGs X es t)
    (hn : (assignEach es X.env).length = n := by rfl) (hst : (assignEach es X.env).findIdx? (·.1) = none := by rfl) : PG X (.Tuple es k pos) (gTup K n t) := by subst hK; exact pg_tup hc h hn hst
theorem pi_listK {tg l : Expr} {tl : TE} (hK : X.K = K) (hl : PE X l tl) : PI X tg l (iList K tl) := by subst hK; exact pi_list hl
end
end Lb

set_option Elab.async false
set_option linter.all false
set_option maxRecDepth 100000
set_option maxHeartbeats 4000000
namespace Lb
open PySem PySem.Spec PyProof.Rows L2

/-! defs that may show data (repr): they are called where no repr runs -/
structure FnG (P : Program) (w : World) (K : PySem.W.Frag) (mg : Str → Option Value) (base : Heap) (CX : CXT)
    (k : Nat) (f : Addr) (fd : FuncData) (ps : List Str) (sp : Sp) : Prop where
  len : ∀ vs H Q E, sp vs H Q E → vs.length = ps.length
  run : ∀ (A : Around) (outer : List Env) (s : Shared) (H : Hp) (args : Args) (us : List Value) (vs : List V) (Q : VK) (E : XK),
    A.guards = some [] → Room k A → Env0 P w K mg base A outer s H → BindsTo s fd args (ps.zip us) → Vals vs us → sp vs H Q E →
    codeAny (model P w) A (.call (.ref f) args) (CR CX outer P w H s Q E) s

section
variable {P : Program} {w : World} {K : PySem.W.Frag} {mg : Str → Option Value} {base : Heap} {CX : CXT} {k j : Nat} {f : Addr} {fd : FuncData} {ps : List Str} {sp : Sp}
theorem FnG.of (F : FnOk P w K mg base CX k f fd ps sp) : FnG P w K mg base CX k f fd ps sp :=
  ⟨F.len, fun A outer s H args us vs Q E _ hr e0 hb r hs => F.run A outer s H args us vs Q E hr e0 hb r hs⟩
theorem FnG.mono (F : FnG P w K mg base CX j f fd ps sp) (h : j ≤ k) : FnG P w K mg base CX k f fd ps sp :=
  ⟨F.len, fun A outer s H args us vs Q E g hr => F.run A outer s H args us vs Q E g (hr.mono h)⟩
/-- the rule for the body of such a def -/
theorem okG {x qual : Str} {st : Stmt} {N : List Str} (F : Fun K x qual st f fd) (S : FnScope N ps (defScope st))
    (len : ∀ vs H Q E, sp vs H Q E → vs.length = ps.length)
    (hbody : ∀ (cdv : Value) (A : Around) (outer : List Env) (s : Shared) (H : Hp) (vs : List V) (Q : VK) (E : XK),
      (A.deeper (envOfC qual (defScope st) s.heap.objs.size f cdv)).guards = some [] →
      Room k (A.deeper (envOfC qual (defScope st) s.heap.objs.size f cdv)) → sp vs H Q E →
      ∃ t, PSs (cxOf CX P w K mg base N qual (defScope st) f cdv A outer s H E).nox (defBody st) t ∧
        t { nx := fun _ H' => Q .non H', rt := Q } (start N vs) H) :
    FnG P w K mg base CX (k + 1) f fd ps sp := by
  obtain ⟨oc, od, kV, doc, pm, an, cdv, ct, osl, rfl, lk, hcd⟩ := F.ex
  refine ⟨len, fun A outer s H args us vs Q E hgu hr e0 hb r hsp => ?_⟩
  have hl := len vs H Q E hsp
  have KX : K.In s.heap := e0.mod.kin.keeps fun b o e => (e0.bs b o e).1
  have lim : s.heap.NoLimit := e0.mod.nolimit.keeps fun b o e => (e0.bs b o e).1
  have hkind : ∀ y ∈ ps.zip us, (defScope st).names.lookup y.1 = some .local ∨
      ((defScope st).names.lookup y.1 = some .cell ∧ ((cellsFrom (s.heap.objs.size + 1) (defScope st).names []).lookup y.1).isSome = true) := by
    rintro ⟨n, v⟩ hy
    rcases S.par n (List.of_mem_zip hy).1 with q | q
    · exact .inl q
    · exact .inr ⟨q, PySem.W.cellsFrom_some _ _ _ (.inl q)⟩
  refine codeAny_call_function hr.depth (KX _ _ lk) rfl S.co S.gen rfl (PySem.W.codeRec_of KX hcd) (hb _ _ _ _ ?_)
  refine wpAny_newFunctionEnv_cells S.kind hkind fun env he s1 y => ?_
  subst he
  refine ⟨lim.keeps y.toInCall.keep, codeAny_func ?_⟩
  have hgd : (A.deeper (envOfC qual (defScope st) s.heap.objs.size f cdv)).guards = some [] := by
    first
      | exact hgu
      | simpa [Around.deeper] using hgu
  obtain ⟨t, ht, hq⟩ := hbody cdv A outer s H vs Q E hgd (hr.deeper _) hsp
  have I := inv_start (CX := CX) (E := E) S hr.hd e0 hl r y
  have fin : ∀ {σ' : L2.St} {H' : Hp} {s' : Shared} {v : V} {u : Value},
      Inv (cxOf CX P w K mg base N qual (defScope st) f cdv A outer s H E) [] σ' H' s' → RelV v u → Q v H' → CE outer P w H s Q u s' :=
    fun {σ' H' s' v u} J rv q => ⟨v, H', J.os, J.bare, J.base, J.hok, rv, q⟩
  refine wpAny_mono (ht.nox.run [] s1 (start N vs) H _ I hq) (fun fl s' hs => ?_) fun _ _ hs => hs
  cases fl with
  | ret u =>
    obtain ⟨v, σ', H', J, rv, q⟩ := hs
    exact fin J rv q
  | next =>
    obtain ⟨σ', H', J, q⟩ := hs
    exact fin (v := V.non) (u := Value.none) J rfl q
  | brk => exact hs.elim fun _ h => h.elim fun _ h => h.2.elim
  | cont => exact hs.elim fun _ h => h.elim fun _ h => h.2.elim
end

section
variable {X : Cx} {CX : CXT} {k : Nat} {f : Addr} {fd : FuncData} {ps : List Str} {sp : Sp} {dvs : List V} {ds : List Value} {E : XK} {x : Str} {p pos : Pos} {e : Expr} {es : List Expr} {t : TA}
theorem run_fnG {pins : List (Addr × Obj)} {σ : L2.St} {H : Hp} {s : Shared} {Q : VK} {us : List Value} {vs : List V} (F : FnG X.prog X.w X.K X.mg X.base CX k f fd ps sp) (gu : X.A.guards = some [])
    (hr : Room k X.A) (hb : Binds X.K fd ps ds) (hd : Vals dvs ds) (hx : Passes CX X E) (I : Inv X pins σ H s) (r : Vals vs us) (h : sp (vs ++ dvs) H Q E) :
    wpAny (model X.prog X.w) X.A (call (.ref f) us) (EP X pins σ Q) X.xe s := by
  have r2 := r.append hd
  have hl : (us ++ ds).length = ps.length := r2.length ▸ F.len _ H Q E h
  have code := F.run X.A X.stack s H ⟨us, []⟩ (us ++ ds) (vs ++ dvs) Q E gu hr I.env0 (hb s us I.kIn hl) r2 h
  refine wpAny_call (codeAny_mono code fun r s' hq => ?_)
  rcases r with er | fl
  · first | exact hx pins σ H s er s' I hq | (cases er <;> first | exact I.after hq | exact hq.elim)
  · first | (cases fl <;> first | exact I.after hq | exact hq.elim) | exact hx pins σ H s fl s' I hq
theorem pe_callG (F : FnG X.prog X.w X.K X.mg X.base CX k f fd ps sp) (gu : X.A.guards = some []) (hr : Room k X.A) (hg : Gl X x) (hm : X.mg x = some (.ref f))
    (hk : PySem.W.keepIn X.K (.ref f) = true) (hb : Binds X.K fd ps ds) (hd : Vals dvs ds) (hx : Passes CX X E) (ha : PA X (e :: es) t)
    (hdb : (x == ("__debug__" : Str)) = false := by decide) (he : starEach (e :: es) X.env = (false, eval e X.env) :: starEach es X.env := by rfl)
    (hpl : (backTo pos (starEach es X.env)).any (·.1) = false := by rfl) : PE X (.Call (.Name x p) (e :: es) [] pos) (tCall sp dvs E t) := by
  refine ⟨fun pins s σ H Q I h => wpAny_Call_Name_kw (ld_glob I hg hm ?_ hdb)⟩
  refine PySem.W.callWith_K (h₀ := X.base) I.ok.mod.kin hk (thn (ha.run pos pins s σ H _ I h) fun us s1 q => ?_) he hpl
  obtain ⟨vs, H1, I1, r, q⟩ := q
  exact ⟨I1.kIn, run_fnG F gu hr hb hd hx I1 r q⟩
theorem pe_call0G (F : FnG X.prog X.w X.K X.mg X.base CX k f fd ps sp) (gu : X.A.guards = some []) (hr : Room k X.A) (hg : Gl X x) (hm : X.mg x = some (.ref f))
    (hk : PySem.W.keepIn X.K (.ref f) = true) (hb : Binds X.K fd ps ds) (hd : Vals dvs ds) (hx : Passes CX X E)
    (hdb : (x == ("__debug__" : Str)) = false := by decide) : PE X (.Call (.Name x p) [] [] pos) (tCall sp dvs E tNil) :=
  ⟨fun pins s σ H Q I h => wpAny_Call_Name_kw (ld_glob I hg hm (PySem.W.callWith_K0 I.kIn hk (run_fnG (us := []) F gu hr hb hd hx I .nil h)) hdb)⟩
end

/-- the law's call: like the layer's own end, for such a def -/
theorem law_callG {P : Program} {w : World} {K : PySem.W.Frag} {mg mb : Str → Option Value} {CX : CXT} {k : Nat} {fa a : Addr} {fd : FuncData} {x : Str} {sp : Sp} {s1 : Shared} {vs : List Value} {ns : List Int}
    (KX : K.In s1.heap) (hns : s1.heap.Ns mainGlobals mg) (hb : s1.heap.Ns builtinsNs mb) (hbb : ∀ x : Str, x ≠ "__name__" → mb x = bootBuiltins x) (hlim : s1.heap.NoLimit) (hg : s1.gens = #[])
    (ha : s1.heap.get? a = some { cls := .type "list", data := .seq vs.toArray }) (hi : IntsAre vs ns) (hl : ns.length ≤ sizeLine) (hr : Room k callerA)
    (F : ∀ base : Heap, K.In base → base.Ns mainGlobals mg → FnG P w K mg base CX k fa fd [x] sp) (hbind : ∀ (s : Shared) (u : Value), BindsTo s fd ⟨[u], []⟩ [(x, u)])
    (hsp : ∀ H : Hp, Only H → SqL K H a (ns.map V.int) → sp [.ref a] H (fun v _ => v = .bl true) fun _ _ _ => False)
    (hCX : ∀ H e s', CX [] H s1 (fun _ _ _ => False) e s' → False) :
    codeAny (model P w) callerA (.call (.ref fa) ⟨[.ref a], []⟩) (fun r s' => r = .ok (.ret (.bool true)) ∧ OldK s1.heap s'.heap ∧ s'.os = s1.os ∧ AllBare s'.gens) s1 := by
  have rv := vals_ints hi
  have core : ∀ H : Hp, Only H → SqL K H a (ns.map V.int) → HOk P w H s1.heap → (∀ b u, H b = some u → b = a) → (∀ u, H a = some u → K.lookup a = none) →
      codeAny (model P w) callerA (.call (.ref fa) ⟨[.ref a], []⟩) (fun r s' => r = .ok (.ret (.bool true)) ∧ OldK s1.heap s'.heap ∧ s'.os = s1.os ∧ AllBare s'.gens) s1 := by
    intro H hO hS hok hA hK
    have free_of : ∀ {b : Addr} {o : Obj}, s1.heap.get? b = some o → (∀ z : Data, o.data = z → ∃ es ep, z = .dict es ep) → H b = none := by
      intro b o e d
      cases q : H b with
      | none => rfl
      | some u =>
        cases hA b u q
        rw [ha] at e
        cases e
        obtain ⟨es, ep, z⟩ := d _ rfl
        cases z
    have nsK : ∀ {b : Addr} {m : Str → Option Value}, s1.heap.Ns b m → (hidT s1.heap H).Ns b m := by
      rintro b m ⟨o, es, ep, e, d, r⟩
      exact ⟨o, es, ep, hidT_get e (free_of e fun z hz => ⟨es, ep, hz ▸ d⟩), d, r⟩
    have hKb : K.In (hidT s1.heap H) := by
      intro b o e
      refine hidT_get (KX b o e) ?_
      cases q : H b with
      | none => rfl
      | some u =>
        cases hA b u q
        rw [hK u q] at e
        cases e
    have hM : Mod K mg (hidT s1.heap H) := by
      obtain ⟨mc, c1, c2⟩ := hlim
      exact ⟨hKb, nsK hns, ⟨mb, nsK hb, hbb⟩, ⟨mc, nsK c1, c2⟩⟩
    have e0 : Env0 P w K mg (hidT s1.heap H) callerA [] s1 H :=
      ⟨rfl, hM, fun b o e => of_hidT e, Nat.le_of_eq (hidT_size _ _), trivial, fun b hb => (List.not_mem_nil hb).elim, hok, .of_eq hg⟩
    have code := (F _ hKb (nsK hns)).run callerA [] s1 H ⟨[.ref a], []⟩ [.ref a] [.ref a] _ _ rfl hr e0 (hbind s1 (.ref a)) (.cons rfl .nil) (hsp H hO hS)
    refine codeAny_mono code fun r s' h => ?_
    cases r with
    | error e => exact (hCX H e s' h).elim
    | ok fl =>
      cases fl with
      | ret u =>
        obtain ⟨v, H', os, bare, un, hok', r', q⟩ := h
        cases (show v = .bl true from q)
        cases (show u = Value.bool true from r')
        refine ⟨rfl, .of_keep fun b o e => ?_, os, bare⟩
        rcases hO b with z | ⟨ob, xs, z⟩
        · exact un.keep b o e z (fun z => List.not_mem_nil z) (fun z => List.not_mem_nil z)
        · obtain ⟨e1, _⟩ := hok b _ z
          obtain ⟨e2, _⟩ := hok' b _ (un.frzs b ob _ z)
          rw [e] at e1
          cases e1
          exact e2
      | next => exact h.elim
      | brk => exact h.elim
      | cont => exact h.elim
  cases hk : K.lookup a with
  | some o =>
    have e := KX a o hk
    rw [ha] at e
    cases e
    refine core (fun _ => none) (fun _ => .inl rfl) (.inr ⟨_, vs.toArray, _, hk, rfl, rfl, rfl, ?_, ?_⟩) (fun b u z => nomatch (show (none : Option HO) = some u from z)) (fun b u z => nomatch (show (none : Option HO) = some u from z)) (fun u z => nomatch (show (none : Option HO) = some u from z))
    · rw [List.size_toArray, hi.length]
      exact hl
    · simpa using rv
  | none =>
    have at_ : ∀ {b : Addr} {u : HO}, (if b = a then some (HO.frz { cls := .type "list", data := .seq vs.toArray } (.lst (ns.map V.int))) else none) = some u →
        b = a ∧ u = HO.frz { cls := .type "list", data := .seq vs.toArray } (.lst (ns.map V.int)) := by
      intro b u e
      by_cases hb : b = a
      · rw [if_pos hb] at e
        exact ⟨hb, (Option.some.inj e).symm⟩
      · rw [if_neg hb] at e
        cases e
    refine core (fun b => if b = a then some (.frz { cls := .type "list", data := .seq vs.toArray } (.lst (ns.map V.int))) else none) (fun b => ?_)
      (.inl (.inr ⟨{ cls := .type "list", data := .seq vs.toArray }, if_pos rfl⟩)) (fun b u e => ?_) (fun b u e => (at_ e).1) (fun _ _ => hk)
    · by_cases hb : b = a
      · exact .inr ⟨_, _, if_pos hb⟩
      · exact .inl (if_neg hb)
    · obtain ⟨rfl, rfl⟩ := at_ e
      exact ⟨ha, by rw [List.length_map]; exact hl, vs, _, rv, ha⟩

theorem walkG {l : PySem.W.OpenLaw} {n k : Nat} {q : Program} {loose : List Str} {XP : (Str → Option Value) → Heap → Prop} {YP : World → Heap → Prop} {d : DefRec} {K : Params → PySem.W.Frag} {sp : PySem.W.Frag → Sp} {x : Str}
    (hn : l.most = some n) (hn2 : n ≤ sizeLine) (hdf : d.params.defaults = []) (hr : Room k callerA)
    (hY : ∀ (w : World) (h : Heap), YP w h → (K w.params).In h)
    (F : ∀ (w : World) (mg : Str → Option Value) (fa : Addr) (h : Heap), (K w.params).In h → h.Ns mainGlobals mg → mg d.name = some (.ref fa) →
      ∃ fd : FuncData, (∀ (s : Shared) (u : Value), BindsTo s fd ⟨[u], []⟩ [(x, u)]) ∧
        ∀ base : Heap, (K w.params).In base → base.Ns mainGlobals mg → FnG l.prog w (K w.params) mg base CX0 k fa fd [x] (sp (K w.params)))
    (hsp : ∀ (K : PySem.W.Frag) (H : Hp) (a : Addr) (ns : List Int), ns.length ≤ n → Only H → SqL K H a (ns.map V.int) → sp K [.ref a] H (fun v _ => v = .bl true) fun _ _ _ => False) :
    PySem.W.WalkO q loose XP YP l.row.toRowW d [] (fun f vs => PySem.call f vs) := by
  refine Att.attach_call hn hdf fun w s0 s1 mg mb fa o pm cd doc a vs ns G Y ho hd hcd hmg hobj hints hlen hg => ?_
  obtain ⟨fd, hb, hF⟩ := F w mg fa _ (hY w _ Y) G.T.g hmg
  exact law_callG (hY w _ Y) G.T.g G.T.b G.T.builtins G.T.nolimit hg hobj hints (Nat.le_trans hlen hn2) hr hF hb (fun H hO hS => hsp _ H a ns hlen hO hS) fun _ _ _ z => z
end Lb

set_option Elab.async false
set_option linter.all false
set_option maxRecDepth 100000
set_option maxHeartbeats 4000000
namespace Lb
open PySem PySem.Spec PyProof.Rows L2

/-! sizes of ints -/
/-- fewer than n bits -/
def Bd (n : Nat) (x : Int) : Prop := x.natAbs < 2 ^ n
theorem Bd.mono {n m : Nat} {x : Int} (h : Bd n x) (k : n ≤ m) : Bd m x := Nat.lt_of_lt_of_le h (Nat.pow_le_pow_right (by decide) k)
theorem Bd.mul {n m : Nat} {x y : Int} (h : Bd n x) (k : Bd m y) : Bd (n + m) (x * y) := by
  unfold Bd at *
  rw [Int.natAbs_mul, Nat.pow_add]
  exact Nat.mul_lt_mul'' h k
theorem Bd.add {n : Nat} {x y : Int} (h : Bd n x) (k : Bd n y) : Bd (n + 1) (x + y) := by
  unfold Bd at *
  have := Int.natAbs_add_le x y
  rw [Nat.pow_succ]
  omega
theorem Bd.neg {n : Nat} {x : Int} (h : Bd n x) : Bd n (-x) := by
  unfold Bd at *
  rw [Int.natAbs_neg]
  exact h
theorem Bd.sub {n : Nat} {x y : Int} (h : Bd n x) (k : Bd n y) : Bd (n + 1) (x - y) := by
  rw [Int.sub_eq_add_neg]
  exact h.add k.neg
theorem Bd.le {n : Nat} {x y : Int} (h : Bd n x) (k : y.natAbs ≤ x.natAbs) : Bd n y := Nat.lt_of_le_of_lt k h
theorem Bd.of {n : Nat} {x : Int} (h : x.natAbs < 2 ^ n) : Bd n x := h
theorem Bd.cm {n m : Nat} {x y : Int} (h : Bd n x) (k : Bd m y) (l : n + m ≤ 134217728) : CMulX x y := mulx_ok h k l
theorem Bd.log {n : Nat} {x : Int} (h : Bd n x) (p : 0 < n) : x.natAbs.log2 < n := PySem.Flt.log2_lt_of p h
theorem Bd.cd {n : Nat} {x y : Int} (h : Bd n y) (p : 0 < y) (l : n ≤ 8999) : CDivW x y := wide_div p (h.mono (Nat.le_succ n)) (Nat.succ_pos n) (by omega)
/-- a divisor of few bits is divided by C itself -/
theorem divp_small {i j : Int} (p : 0 < j) (h : Bd 8000 j) : CDivP i j := by
  refine ⟨p, ?_⟩
  have hj : (j == 0) = false := by simpa using (show j ≠ 0 by omega)
  have hl := h.log (by decide)
  have h1 : (j.natAbs.log2) / 30 + 1 ≤ 300 := by omega
  show (decide ((if j == 0 then 0 else j.natAbs.log2 / 30 + 1) > 300) && _) = false
  rw [hj]
  simp only [Bool.false_eq_true, if_false]
  rw [decide_eq_false (by omega), Bool.false_and]

/-! the pot: two ints, turned by each draw -/
def PotAt (H : Hp) (p : Addr) : Prop := ∃ a b : Int, H p = some (.lst [.int a, .int b]) ∧ 0 ≤ a ∧ 0 ≤ b ∧ b ≤ 2147483629
/-- all but p is kept -/
structure Mov (p : Addr) (H H' : Hp) : Prop where
  keep : ∀ b o, b ≠ p → H b = some o → H' b = some o
  pot : PotAt H' p
theorem Mov.trans {p : Addr} {H H1 H2 : Hp} (a : Mov p H H1) (b : Mov p H1 H2) : Mov p H H2 := ⟨fun c o n e => b.keep c o n (a.keep c o n e), b.pot⟩
theorem Mov.same {p : Addr} {H H1 H2 : Hp} (a : Mov p H H1) (b : Same H1 H2) : Mov p H H2 :=
  ⟨fun c o n e => b _ _ (a.keep c o n e), let ⟨x, y, e, r⟩ := a.pot; ⟨x, y, b _ _ e, r⟩⟩
theorem Same.mov {p : Addr} {H H1 : Hp} (a : Same H H1) (q : PotAt H p) : Mov p H H1 :=
  ⟨fun c o _ e => a _ _ e, let ⟨x, y, e, r⟩ := q; ⟨x, y, a _ _ e, r⟩⟩
theorem Mov.refl {p : Addr} {H : Hp} (q : PotAt H p) : Mov p H H := ⟨fun _ _ _ e => e, q⟩
theorem Mov.tup {p b : Addr} {H H1 : Hp} {xs : List V} (a : Mov p H H1) (q : PotAt H p) (e : H b = some (.tup xs)) : H1 b = some (.tup xs) :=
  a.keep _ _ (let ⟨_, _, e', _⟩ := q; ne_of e e' (fun z => nomatch z)) e
theorem Mov.ins {p b C dx : Addr} {H H1 : Hp} {fs : List (Str × V)} (a : Mov p H H1) (q : PotAt H p) (e : H b = some (.ins C dx fs)) : H1 b = some (.ins C dx fs) :=
  a.keep _ _ (let ⟨_, _, e', _⟩ := q; ne_of e e' (fun z => nomatch z)) e
theorem Mov.free {p b : Addr} {H H1 : Hp} (a : Mov p H H1) (q : PotAt H p) (e : H1 b = none) : H b = none := by
  cases z : H b with
  | none => rfl
  | some o =>
    by_cases hb : b = p
    · subst hb
      obtain ⟨_, _, e', _⟩ := a.pot
      rw [e] at e'
      cases e'
    · rw [a.keep b o hb z] at e
      cases e
theorem Same.upd {H : Hp} {p : Addr} {o : HO} (h : H p = none) : Same H (upd H p o) := fun a u e => by
  rw [upd_ne (ne_of_none e h)]
  exact e
theorem SqL.mov {K : PySem.W.Frag} {p a : Addr} {H H1 : Hp} {xs : List V} (m : Mov p H H1) (n : a ≠ p) (h : SqL K H a xs) : SqL K H1 a xs := by
  rcases h with (h | ⟨o, h⟩) | h
  · exact .inl (.inl (m.keep _ _ n h))
  · exact .inl (.inr ⟨o, m.keep _ _ n h⟩)
  · exact .inr h
theorem SqT.same {K : PySem.W.Frag} {a : Addr} {H H1 : Hp} {xs : List V} (m : Same H H1) (h : SqT K H a xs) : SqT K H1 a xs := by
  rcases h with (h | ⟨o, h⟩) | h
  · exact .inl (.inl (m _ _ h))
  · exact .inl (.inr ⟨o, m _ _ h⟩)
  · exact .inr h
/-- a written list's size -/
theorem sz {n : Nat} (h : Nat.ble n 1000 = true := by rfl) : n ≤ sizeLine :=
  Nat.le_trans (Nat.le_of_ble_eq_true h) (by decide)
theorem szlt {n : Nat} (k : n ≤ 10000) : n < sizeLine := Nat.lt_of_le_of_lt k (by decide)
theorem szle {n : Nat} (k : n ≤ 10000) : n ≤ sizeLine := Nat.le_of_lt (szlt k)
end Lb

set_option Elab.async false
set_option linter.all false
set_option maxRecDepth 100000
set_option maxHeartbeats 4000000
namespace Lb
open PySem PySem.Spec PyProof.Rows L2

/-- // by any divisor but 0, of few bits -/
def CDivX (_ j : Int) : Prop := j ≠ 0 ∧ j.natAbs.log2 < 9000
theorem op_fdivX {X : Cx} : OpR X (binaryOp .FloorDiv) (rI CDivX fun i j => .int (i.fdiv j)) :=
  opI fun i j _ _ _ _ _ hc q => floordiv_int hc.1 q (.inl (PyProof.noPylong_of_log2 hc.2))
theorem Bd.cx {n : Nat} {x y : Int} (h : Bd n y) (p : y ≠ 0) (l : n ≤ 8999) : CDivX x y :=
  ⟨p, Nat.lt_of_lt_of_le ((h.mono (Nat.le_succ n)).log (Nat.succ_pos n)) (by omega)⟩

/-! two lists, item by item -/
theorem Paired.imp {α β : Type} {F G : α → β → Prop} : ∀ {xs : List α} {ys : List β}, Paired F xs ys → (∀ a b, F a b → G a b) → Paired G xs ys
  | _, _, .nil, _ => .nil
  | _, _, .cons r t, f => .cons (f _ _ r) (Paired.imp t f)
theorem Paired.snoc {α β : Type} {F : α → β → Prop} {a : α} {b : β} (h : F a b) : ∀ {xs : List α} {ys : List β}, Paired F xs ys → Paired F (xs ++ [a]) (ys ++ [b])
  | _, _, .nil => .cons h .nil
  | _, _, .cons r t => .cons r (Paired.snoc h t)
theorem Paired.at_ {α β : Type} {F : α → β → Prop} : ∀ {xs : List α} {ys : List β} {i : Nat} {a : α}, Paired F xs ys → xs[i]? = some a → ∃ b, ys[i]? = some b ∧ F a b
  | _, _, i, _, .nil, e => by simp at e
  | _, _, 0, a, .cons r t, e => by simp at e; subst e; exact ⟨_, rfl, r⟩
  | _, _, i + 1, a, .cons r t, e => by
    obtain ⟨b, h1, h2⟩ := Paired.at_ (i := i) (a := a) t (by simpa using e)
    exact ⟨b, by simpa using h1, h2⟩
theorem Paired.at_r {α β : Type} {F : α → β → Prop} : ∀ {xs : List α} {ys : List β} {i : Nat} {b : β}, Paired F xs ys → ys[i]? = some b → ∃ a, xs[i]? = some a ∧ F a b
  | _, _, i, _, .nil, e => by simp at e
  | _, _, 0, a, .cons r t, e => by simp at e; subst e; exact ⟨_, rfl, r⟩
  | _, _, i + 1, a, .cons r t, e => by
    obtain ⟨b, h1, h2⟩ := Paired.at_r (i := i) (b := a) t (by simpa using e)
    exact ⟨b, by simpa using h1, h2⟩
theorem Paired.len {α β : Type} {F : α → β → Prop} : ∀ {xs : List α} {ys : List β}, Paired F xs ys → xs.length = ys.length
  | _, _, .nil => rfl
  | _, _, .cons _ t => congrArg Nat.succ (Paired.len t)
/-- a tuple of two ints -/
def Fr (H : Hp) (q : Addr) (t b : Int) : Prop := H q = some (.tup [.int t, .int b])
abbrev Rows (H : Hp) (as : List Addr) (fr : List (Int × Int)) : Prop := Paired (fun a x => Fr H a x.1 x.2) as fr
theorem Rows.same {H H' : Hp} {as : List Addr} {fr : List (Int × Int)} (r : Rows H as fr) (s : Same H H') : Rows H' as fr := Paired.imp r fun _ _ h => s _ _ h
theorem Rows.mov {p : Addr} {H H' : Hp} {as : List Addr} {fr : List (Int × Int)} (r : Rows H as fr) (m : Mov p H H') (hp : PotAt H p) : Rows H' as fr := Paired.imp r fun _ _ h => m.tup hp h
/-- a test with a known answer -/
theorem iteP {c A B : Prop} [Decidable c] (hc : c) (h : A) : if c then A else B := by rw [if_pos hc]; exact h
theorem iteN {c A B : Prop} [Decidable c] (hc : ¬ c) (h : B) : if c then A else B := by rw [if_neg hc]; exact h
theorem al3 {H H2 : Hp} {p : Addr} {o : HO} (e : upd H p o = H2) (h : H p = none) : Same H H2 ∧ H2 p = some o := by
  subst e
  exact ⟨Lb.Same.upd h, upd_same⟩
theorem Rows.snoc {H : Hp} {as : List Addr} {fr : List (Int × Int)} {q : Addr} {t b : Int} (r : Rows H as fr) (f : H q = some (.tup [.int t, .int b])) : Rows H (as ++ [q]) (fr ++ [(t, b)]) := Paired.snoc (F := fun (a : Addr) (x : Int × Int) => Fr H a x.1 x.2) (b := (t, b)) f r
theorem Rows.nil {H : Hp} : Rows H [] [] := Paired.nil
theorem Mov.ne {p l : Addr} {H H1 : Hp} (m : Mov p H H1) (h : H1 l = none) : l ≠ p := by
  obtain ⟨_, _, e, _⟩ := m.pot
  exact (ne_of_none e h).symm
/-- a list of another length is not the pot -/
theorem PotAt.ne {p l : Addr} {H : Hp} {xs : List V} (m : PotAt H p) (h : H l = some (.lst xs)) (n : xs.length ≠ 2) : l ≠ p := by
  rintro rfl
  obtain ⟨_, _, e, _⟩ := m
  rw [h] at e
  injection e with e
  injection e with e
  rw [e] at n
  exact n rfl
/-- a new object is changed -/
theorem Same.updl {H H2 : Hp} {l : Addr} {o : HO} (s : L2.Same H H2) (hl : H l = none) : L2.Same H (L2.upd H2 l o) := fun b u e => by
  rw [upd_ne (ne_of_none e hl)]
  exact s _ _ e
/-- what isinstance and the comparisons ask of the class at C -/
structure Inst (K : PySem.W.Frag) (C : Addr) : Prop where
  ca : PySem.W.findIn K (.ref C) "__class__" = some (some (.builtin "object.__class__"))
  cn : PySem.W.specialIn K (.builtin "object.__class__") "__get__" = some (some (.builtin "getset_descriptor.__get__"))
  ct : PySem.W.takesIn K (.builtin "object.__class__") = some true
  cm : PySem.W.mroIn K C (.type "object") = some true
  kNone : PySem.W.kitOne K (.type "NoneType") (.ref C) = some false
  kBool : PySem.W.kitOne K (.type "bool") (.ref C) = some false
  kInt : PySem.W.kitOne K (.type "int") (.ref C) = some false
  kStr : PySem.W.kitOne K (.type "str") (.ref C) = some false
  kList : PySem.W.kitOne K (.type "list") (.ref C) = some false
  kTup : PySem.W.kitOne K (.type "tuple") (.ref C) = some false
  kDict : PySem.W.kitOne K (.type "dict") (.ref C) = some false
  nNone : PySem.W.notFirst K C (.type "NoneType") = true
  nBool : PySem.W.notFirst K C (.type "bool") = true
  nInt : PySem.W.notFirst K C (.type "int") = true
  nStr : PySem.W.notFirst K C (.type "str") = true
  nList : PySem.W.notFirst K C (.type "list") = true
  nTup : PySem.W.notFirst K C (.type "tuple") = true
  nDict : PySem.W.notFirst K C (.type "dict") = true
theorem Inst.kSelf {K : PySem.W.Frag} {C : Addr} : PySem.W.kitOne K (.ref C) (.ref C) = some true := by
  unfold PySem.W.kitOne
  rw [if_pos (beq_self_eq_true _)]
theorem Inst.nSelf {K : PySem.W.Frag} {C : Addr} : PySem.W.notFirst K C (.ref C) = true := by
  unfold PySem.W.notFirst
  rw [beq_self_eq_true, Bool.true_or]
theorem Inst.ty {K : PySem.W.Frag} {C x dx : Addr} {H : Hp} {fs : List (Str × V)} (I : Inst K C) (cl : Cls K C) (e : H x = some (.ins C dx fs)) : TyOf K H (.ref x) (.ref C) := .ins e cl I.ca I.cn I.ct I.cm
theorem kit_own {K : PySem.W.Frag} {C : Addr} {T : String} (h1 : PySem.W.isClsIn K C = true) (h2 : PySem.W.typeIn K (.ref C) = some (.type "type")) (h3 : PySem.W.subIn K (.type T) (.ref C) = some false) :
    PySem.W.kitOne K (.type T) (.ref C) = some false ∧ PySem.W.notFirst K C (.type T) = true := by
  have ne : (Value.type T == Value.ref C) = false := Bool.eq_false_iff.mpr fun q => nomatch beq_iff_eq.mp q
  constructor
  · unfold PySem.W.kitOne
    rw [ne, if_neg (by decide)]
    unfold PySem.W.kitCls
    have h1' : (PySem.W.clsIn K C).isSome = true := h1
    dsimp only
    rw [h1', h2]
    rw [if_pos (by simp)]
    exact h3
  · unfold PySem.W.notFirst
    rw [h3]
    simp
/-- a def of the class by its special name -/
structure OwnM (K : PySem.W.Frag) (C : Addr) (x : Str) (f : Addr) : Prop where
  at_ : PySem.W.findIn K (.ref C) x = some (some (.ref f))
  fn : PySem.W.isFn K (.ref f) = true
/-- a value that is plainly no instance of the class at C: how isinstance and the comparisons see it -/
def NotC (K : PySem.W.Frag) (C : Addr) (H : Hp) (y : V) : Prop := ∃ t, TyOf K H y t ∧ PySem.W.kitOne K t (.ref C) = some false ∧ PySem.W.notFirst K C t = true
end Lb

set_option Elab.async false
set_option linter.all false
set_option maxRecDepth 100000
set_option maxHeartbeats 4000000
namespace Lb
open PySem PySem.Spec PyProof.Rows L2

/-! lists of bools, shown -/
theorem dp_bools {K : PySem.W.Frag} {H : Hp} : ∀ bs : List Bool, DpAll K H (bs.map V.bl) (bs.map PyData.bool)
  | [] => .nil
  | b :: r => .cons (.bl b) (dp_bools r)
theorem show_bools : ∀ bs : List Bool, PyData.showableAll (bs.map PyData.bool) = true
  | [] => by simp only [List.map_nil, PyData.showableAll]
  | b :: r => by simp only [List.map_cons, PyData.showableAll, PyData.showable, show_bools r, Bool.and_self]
theorem depth_bools : ∀ bs : List Bool, PyData.depthAll (bs.map PyData.bool) ≤ 1
  | [] => by simp only [List.map_nil, PyData.depthAll]; omega
  | b :: r => by
    have := depth_bools r
    simp only [List.map_cons, PyData.depthAll, PyData.depth]
    omega
theorem len_bools : ∀ bs : List Bool, ((PyData.shownAll (bs.map PyData.bool)).map (·.length)).sum ≤ 5 * bs.length ∧ (PyData.shownAll (bs.map PyData.bool)).length = bs.length
  | [] => by simp only [List.map_nil, PyData.shownAll]; exact ⟨Nat.le_refl _, rfl⟩
  | b :: r => by
    obtain ⟨h1, h2⟩ := len_bools r
    simp only [List.map_cons, PyData.shownAll, List.sum_cons, List.length_cons, h2]
    refine ⟨?_, trivial⟩
    have : (PyData.shown (.bool b)).length ≤ 5 := by
      simp only [PyData.shown]
      cases b <;> decide +kernel
    omega
theorem bools_ok (bs : List Bool) (n : bs.length ≤ 1000) : (PyData.list (bs.map PyData.bool)).showable = true ∧ (PyData.list (bs.map PyData.bool)).shown.length ≤ sizeLine ∧ (PyData.list (bs.map PyData.bool)).depth ≤ 60 := by
  refine ⟨?_, ?_, ?_⟩
  · simp only [PyData.showable, show_bools]
  · have e := listText_len_le (PyData.shownAll (bs.map PyData.bool))
    obtain ⟨h1, h2⟩ := len_bools bs
    simp only [PyData.shown]
    have : sizeLine = 16777216 := by decide
    omega
  · have := depth_bools bs
    simp only [PyData.depth]
    omega
theorem TyOf.same {K : PySem.W.Frag} {H H' : Hp} {y : V} {t : Value} (s : L2.Same H H') (h : TyOf K H y t) : TyOf K H' y t := by
  cases h with
  | non => exact .non
  | bl x => exact .bl x
  | int i => exact .int i
  | str x => exact .str x
  | flt x => exact .flt x
  | lst e => exact .lst (s _ _ e)
  | frz e => exact .frz (s _ _ e)
  | tup e => exact .tup (s _ _ e)
  | dK e => exact .dK (s _ _ e)
  | dT e => exact .dT (s _ _ e)
  | ins e cl a b c d => exact .ins (s _ _ e) cl a b c d
theorem NotC.same {K : PySem.W.Frag} {C : Addr} {H H' : Hp} {y : V} (s : L2.Same H H') (h : NotC K C H y) : NotC K C H' y := by
  obtain ⟨t, a, b, c⟩ := h
  exact ⟨t, TyOf.same s a, b, c⟩
theorem map_replicate_bl (n : Nat) (b : Bool) : (List.replicate n b).map V.bl = List.replicate n (V.bl b) := by simp
theorem all_replicate_true (n : Nat) : (List.replicate n true).all id = true := by simp
end Lb

set_option Elab.async false
set_option linter.all false
set_option maxRecDepth 100000
set_option maxHeartbeats 4000000
namespace Lb
open PySem PySem.Spec PyProof.Rows L2

/-- for i, x in enumerate(xs) -/
theorem for_enum {K : PySem.W.Frag} {a : Addr} {xs : List V} {g : TG} {tb : TS} {D : Ends} {σ : L2.St} {H : Hp} (Pv : Nat → L2.St → Hp → Prop) (h0 : Pv 0 σ H) (hq : ∀ i σ H, Pv i σ H → SqL K H a xs)
    (hs : ∀ (i : Nat) (x : V) (T : Addr) (σ : L2.St) (H : Hp), xs[i]? = some x → Pv i σ H → H T = none → g (.ref T) σ (L2.upd H T (.tup [.int (i : Nat), x])) fun σ2 H2 => tb { D with nx := Pv (i + 1), ct := Pv (i + 1), bk := D.nx } σ2 H2)
    (hd : ∀ σ H, Pv xs.length σ H → D.nx σ H) :
    ∃ W : Nat → Nat → L2.St → Hp → Prop, (∃ m, W 0 m σ H) ∧ ∀ i m σ H, W i m σ H →
      ((Ite K a).stop i H ∧ D.nx σ H) ∨ ((Ite K a).go i H ∧ ∃ N : L2.St → Hp → Prop, (∀ σ' H', N σ' H' → ∃ m', m' < m ∧ W (i + 1) m' σ' H') ∧
        ∀ v H', (Ite K a).yld i H v H' → g v σ H' fun σ2 H2 => tb { D with nx := N, ct := N, bk := D.nx } σ2 H2) := by
  refine ⟨fun i m σ H => m = xs.length - i ∧ i ≤ xs.length ∧ Pv i σ H, ⟨xs.length, rfl, Nat.zero_le _, h0⟩, ?_⟩
  rintro i m σ H ⟨rfl, hi, p⟩
  have q := hq i σ H p
  rcases Nat.lt_or_ge i xs.length with h | h
  · have hx : xs[i]? = some xs[i] := List.getElem?_eq_getElem h
    refine .inr ⟨⟨xs, _, q, hx⟩, Pv (i + 1), fun σ' H' p' => ⟨xs.length - (i + 1), by omega, rfl, h, p'⟩, ?_⟩
    rintro v H' ⟨T, x, rfl, hT, rfl, f⟩
    exact hs i x T σ H (f xs q) p hT
  · have e : i = xs.length := by omega
    subst e
    exact .inl ⟨⟨xs, q, Nat.le_refl _⟩, hd σ H p⟩

/-! a list that is being made at D, above the heap H0 -/
structure Blt {α : Type} (R : Hp → Addr → α → Prop) (H0 : Hp) (D : Addr) (done : List α) (H : Hp) : Prop where
  same : L2.Same H0 H
  ex : ∃ bs : List Addr, H D = some (.lst (bs.map V.ref)) ∧ Paired (R H) bs done
theorem Blt.start {α : Type} {R : Hp → Addr → α → Prop} {H0 : Hp} {D : Addr} (h : H0 D = none) : Blt R H0 D [] (L2.upd H0 D (.lst [])) :=
  ⟨Lb.Same.upd h, [], upd_same, .nil⟩
/-- one more item, made on the way from H to H2 -/
theorem Blt.step {α : Type} {R : Hp → Addr → α → Prop} {H0 H H2 : Hp} {D r : Addr} {done : List α} {x : α} (b : Blt R H0 D done H) (hD : H0 D = none) (s : L2.Same H H2)
    (keep : ∀ H H' a x, R H a x → (∀ o, H a = some o → H' a = some o) → R H' a x) (nl : ∀ H a x l, R H a x → H a = some (.lst l) → False) (hr : R H2 r x) :
    ∃ acc, H2 D = some (.lst acc) ∧ acc.length = done.length ∧ Blt R H0 D (done ++ [x]) (L2.upd H2 D (.lst (acc ++ [V.ref r]))) := by
  obtain ⟨s0, bs, e, p⟩ := b
  have e2 := s _ _ e
  have ch : ∀ a y, R H2 a y → R (L2.upd H2 D (.lst (bs.map V.ref ++ [V.ref r]))) a y := by
    intro a y h
    refine keep _ _ a y h fun o ho => ?_
    have na : a ≠ D := by
      rintro rfl
      exact nl _ _ _ _ h e2
    rw [upd_ne na]
    exact ho
  refine ⟨_, e2, by rw [List.length_map, Paired.len p], Same.updl (s0.trans s) hD, bs ++ [r], by rw [upd_same, List.map_append]; rfl, ?_⟩
  exact Paired.snoc (ch _ _ hr) (Paired.imp p fun a y h => ch _ _ (keep _ _ a y h fun o ho => s _ _ ho))

/-! an element of a list of ints -/
theorem inV_ints (z : Int) : ∀ ns : List Int, inV (.int z) (ns.map V.int) = decide (z ∈ ns)
  | [] => by simp [inV]
  | n :: r => by
    have ih := inV_ints z r
    unfold inV at ih ⊢
    rw [List.map_cons, List.any_cons, ih]
    have : eqV (.int n) (.int z) = decide (z = n) := by
      by_cases h : z = n
      · subst h; simp [eqV]
      · have h' : ¬ n = z := fun e => h e.symm
        simp [eqV, h, h']
    rw [this]
    by_cases h : z = n <;> simp [h]
theorem flat_ints : ∀ ns : List Int, (ns.map V.int).all flatV = true
  | [] => rfl
  | n :: r => by rw [List.map_cons, List.all_cons, flat_ints r]; rfl
end Lb

set_option Elab.async false
set_option linter.all false
set_option maxRecDepth 100000
set_option maxHeartbeats 4000000
namespace Lb
open PySem PySem.Spec PyProof.Rows L2
open SlX (cmpback)

/-! own operators between an instance and an int, or two instances -/
/-- what the text holds of an operator of a class beside ints: its def at g, the turned one at r -/
structure OwnBin (K : PySem.W.Frag) (C : Addr) (op : Operator) (g r : Addr) : Prop where
  first : PySem.W.selfFirst K C = true
  at_ : PySem.W.findIn K (.ref C) (PySem.dunder op.info.2) = some (some (.ref g))
  fn : PySem.W.isFn K (.ref g) = true
  rat : PySem.W.findIn K (.ref C) (dunderR op.info.2) = some (some (.ref r))
  rfn : PySem.W.isFn K (.ref r) = true
  i1 : ∃ fo, PySem.W.findIn K (.type "int") (PySem.dunder op.info.2) = some fo
  i2 : ∃ ro, PySem.W.findIn K (.type "int") (dunderR op.info.2) = some ro
  ss1 : PySem.W.subIn K (.type "int") (.ref C) = some false
  ss2 : PySem.W.subIn K (.ref C) (.type "int") = some false
  tyC : ∀ T, Value.type T ≠ .ref C := by intro T z; cases z

section
variable {X : Cx} {pins : List (Addr × Obj)} {σ : L2.St} {H : Hp} {s : Shared} {a C dx p g r : Addr} {f : Str} {n : Nat} {sp : Sp} {E : XK} {v : V} {u : Value} {op : Operator}

/-- a def that raises nothing, run in an expression -/
theorem run_at0 {A : Around} {Q : VK} {us : List Value} {ws : List V} (F : FnR X.prog X.w X.K X.mg X.base CX0 n g sp) (hr : Room n A) (e0 : Env0 X.prog X.w X.K X.mg X.base A X.stack s H) (I : Inv X pins σ H s) (r : Vals ws us) (h : sp ws H Q E) :
    codeAny (model X.prog X.w) A (.call (.ref g) ⟨us, []⟩) (fun r s' => match r with | .ok (.ret v) => EP X pins σ Q v s' | _ => False) s := by
  refine codeAny_mono (F A X.stack s H us ws Q E hr e0 r h) fun r s' hq => ?_
  cases r with
  | error e => exact False.elim hq
  | ok fl =>
    cases fl with
    | ret u => exact I.after hq
    | next => exact False.elim hq
    | brk => exact False.elim hq
    | cont => exact False.elim hq
theorem call_at0 {A : Around} {Ex : Value → Shared → Prop} {Q : VK} {us : List Value} {ws : List V} (F : FnR X.prog X.w X.K X.mg X.base CX0 n g sp) (hr : Room n A) (e0 : Env0 X.prog X.w X.K X.mg X.base A X.stack s H) (I : Inv X pins σ H s) (r : Vals ws us) (h : sp ws H Q E) :
    wpAny (model X.prog X.w) A (call (.ref g) us) (EP X pins σ Q) Ex s := by
  refine wpAny_call (codeAny_mono (run_at0 F hr e0 I r h) fun r s' hq => ?_)
  cases r with
  | error e => exact False.elim hq
  | ok fl => cases fl <;> first | exact hq | exact False.elim hq
/-- an operator, wherever it is run -/
def OpRA (X : Cx) (A : Around) (f : Value → Value → Sem Value) (r : R2) : Prop :=
  ∀ (pins : List (Addr × Obj)) (s : Shared) (σ : L2.St) (H : Hp) (x y : V) (v u : Value) (Q : VK) (Ex : Value → Shared → Prop), Inv X pins σ H s → Env0 X.prog X.w X.K X.mg X.base A X.stack s H → RelV x v → RelV y u → r x y H Q →
    wpAny (model X.prog X.w) A (f v u) (EP X pins σ Q) Ex s
theorem OpRA.here {f : Value → Value → Sem Value} {r : R2} (h : OpRA X X.A f r) : OpR X f r := fun pins s σ H x y v u Q I rx ry q => h pins s σ H x y v u Q _ I I.env0 rx ry q
theorem OpRA.or {A : Around} {f : Value → Value → Sem Value} {r r' : R2} (h : OpRA X A f r) (h' : OpRA X A f r') : OpRA X A f (fun x y H Q => r x y H Q ∨ r' x y H Q) := fun pins s σ H x y v u Q Ex I e0 rx ry q =>
  q.elim (h pins s σ H x y v u Q Ex I e0 rx ry) (h' pins s σ H x y v u Q Ex I e0 rx ry)
/-- x OP y, x an instance, y an int or an instance of its class -/
def rBin (C : Addr) (sp : Sp) (E : XK) : R2 := fun x y H Q =>
  ∃ a dx fs, x = .ref a ∧ H a = some (.ins C dx fs) ∧ ((∃ m, y = .int m) ∨ ∃ b dy fy, y = .ref b ∧ H b = some (.ins C dy fy)) ∧ sp [x, y] H Q E
theorem ownBin_at {K : PySem.W.Frag} {A : Around} (hK : X.K = K) (B : OwnBin K C op g r) (F : FnR X.prog X.w X.K X.mg X.base CX0 n g sp) (hr : Room n A) : OpRA X A (binaryOp op) (rBin C sp E) := by
  subst hK
  intro pins s σ H x y v u Q Ex I e0 rx ry h
  obtain ⟨a, dx, fs, rfl, ha, hy, q⟩ := h
  cases (show v = Value.ref a from rx)
  obtain ⟨od, J⟩ := inst_at I ha
  obtain ⟨m, hF⟩ := I.fr
  have one : wpAny (model X.prog X.w) A (call (.ref g) [.ref a, u]) (PySem.W.CmpBack (EP X pins σ Q)) Ex s := by
    refine wpAny_mono (call_at0 (us := [.ref a, u]) (ws := [.ref a, y]) F hr e0 I (.cons rfl (.cons ry .nil)) q) (fun w s' z => ?_) fun _ _ x => x
    obtain ⟨z', H', I', rz, qz⟩ := z
    exact cmpback rz ⟨z', H', I', rz, qz⟩
  rcases hy with ⟨k, rfl⟩ | ⟨b, dy, fy, rfl, hb⟩
  · obtain ⟨t, rfl⟩ := ry
    obtain ⟨fo, h1⟩ := B.i1
    obtain ⟨ro, h2⟩ := B.i2
    exact PySem.W.ksp_binT (T := "int") hF I.ok.mod.kin J rfl B.first B.at_ B.fn B.rat (.inr ⟨_, rfl⟩) h1 h2 B.ss1 one
  · cases (show u = Value.ref b from ry)
    obtain ⟨od', J'⟩ := inst_at I hb
    exact PySem.W.binop_K hF I.ok.mod.kin J J'.type B.first B.at_ B.fn one
/-- n OP y, y an instance: its turned def, where the int's own says nothing -/
def rBinR (C : Addr) (sp : Sp) (E : XK) : R2 := fun x y H Q =>
  ∃ m b dy fy, x = .int m ∧ y = .ref b ∧ H b = some (.ins C dy fy) ∧ sp [y, x] H Q E
/-- what the library says of an int's own operator -/
structure IntBin (op : Operator) (id : String) (nm : String) (f : Int → Int → Sem Fin) : Prop where
  fills : fillsNumberSlot (.type "int") op.info.2 = pure true
  slot : Slot "int" (PySem.dunder op.info.2) id
  entry : entryFor table id = some (Builtin.Int.intBinary nm f)
  args : ∀ x y, argsOk id ⟨[x, y], []⟩
theorem int_no {M : Model} {A : Around} {Ex : Value → Shared → Prop} {Q : Fin → Shared → Prop} {k : Int} {t : Tok} {b : Addr} {nm : String} {fI : Int → Int → Sem Fin} (J : s.heap.get? b = some (PySem.W.instObj C dx))
    (h : Q (.done (.ret .notImplemented)) s) : wpAny M A (Builtin.Int.intBinary nm fI false ⟨[.int k t, .ref b], []⟩) Q Ex s := by
  unfold Builtin.Int.intBinary
  refine wpAny_bind (m := slotArgs _ _ _) (wpAny_pure ?_)
  refine wpAny_bind (m := Builtin.Int.intOfSelf _) (wpAny_pure ?_)
  refine wpAny_bind (m := asInt? _) (wpAny_bind (wpAny_load J (wpAny_pure ?_)))
  exact wpAny_bind (wpAny_rule (wpAny_pure h))
theorem int_add : IntBin .Add "int.__add__" "__add__" (fun x y => retInt (x + y)) := ⟨F.fills_int_add, F.slot_int_add, F.entry_int_add, F.args_int_add_2⟩
theorem int_sub : IntBin .Sub "int.__sub__" "__sub__" (fun x y => retInt (x - y)) := ⟨F.fills_int_sub, F.slot_int_sub, F.entry_int_sub, F.args_int_sub_2⟩
theorem int_mul : IntBin .Mult "int.__mul__" "__mul__" (fun x y => Builtin.intProduct "__mul__" x y) := ⟨F.fills_int_mul, F.slot_int_mul, F.entry_int_mul, F.args_int_mul_2⟩
theorem ownBinR_at {K : PySem.W.Frag} {A : Around} {id nm : String} {fI : Int → Int → Sem Fin} (hK : X.K = K) (L : IntBin op id nm fI) (B : OwnBin K C op g r) (F : FnR X.prog X.w X.K X.mg X.base CX0 n r sp) (hr : Room n A) : OpRA X A (binaryOp op) (rBinR C sp E) := by
  subst hK
  intro pins s σ H x y v u Q Ex I e0 rx ry h
  obtain ⟨k, b, dy, fy, rfl, rfl, hb, q⟩ := h
  obtain ⟨t, rfl⟩ := rx
  cases (show u = Value.ref b from ry)
  obtain ⟨od, J⟩ := inst_at I hb
  have KX := I.kIn
  obtain ⟨cd, rest, hcd, hm⟩ := PySem.W.ksp_first B.first
  have L4 : PySem.W.Looks (model X.prog X.w) s.heap (fillsNumberSlot (.ref C) op.info.2) true := PySem.W.fills_K KX hcd hm B.at_
  have L5 : PySem.W.Looks (model X.prog X.w) s.heap (isSubtype (.ref C) (.type "int")) false := PySem.W.looks_subIn KX B.ss2
  have two : wpAny (model X.prog X.w) A (call (.ref r) [.ref b, .int k t]) (PySem.W.CmpBack (EP X pins σ Q)) Ex s := by
    refine wpAny_mono (call_at0 (us := [.ref b, .int k t]) (ws := [.ref b, .int k]) F hr e0 I (.cons rfl (.cons ⟨t, rfl⟩ .nil)) q) (fun w s' z => ?_) fun _ _ x => x
    obtain ⟨z', H', I', rz, qz⟩ := z
    exact cmpback rz ⟨z', H', I', rz, qz⟩
  have rt := B.rat
  have fl := L.fills
  have sl := L.slot
  rcases hi : op.info with ⟨sym, nm'⟩
  rw [hi] at L4 rt fl sl
  dsimp only at L4 rt fl sl
  have hne : (Value.type "int" == Value.ref C) = false := Bool.eq_false_iff.mpr fun q => by cases beq_iff_eq.mp q
  simp only [binaryOp, hi]
  refine wpAny_holding (wpAny_bind ?_)
  unfold binaryOp1
  refine wpAny_bind (wpAny_of_eq (show typeOf (.int k t) = pure (.type "int") from rfl) (wpAny_bind (J.type.here (wpAny_bind (wpAny_of_eq fl ?_)))))
  simp only [hne, Bool.false_eq_true, if_false]
  refine wpAny_bind (L4.here ?_)
  simp only [Bool.and_self, if_true]
  refine wpAny_bind (L5.here ?_)
  have hpy : numberSlotInPython (.type "int") nm' = pure false := rfl
  simp only [Bool.false_eq_true, if_false, pure_bind, Bool.not_false, Bool.and_self, if_true, hpy]
  simp only [tryMethod]
  refine wpAny_bind (wpAny_bind (wpAny_callSpecial?_slot (typeIs_int _ _ _) sl (wpAny_call_entry sl (typeIs_int _ _ _) L.entry ?_ (L.args _ _))))
  refine int_no J.at_ ⟨_, rfl, ?_⟩
  refine wpAny_pure ?_
  refine wpAny_bind (wpAny_bind (PySem.W.special_fn KX J rt (beq_iff_eq.mp B.rfn) (wpAny_mono two (fun v s' hv => ?_) fun _ _ e => e)))
  cases v <;> first | exact hv.elim | exact wpAny_pure (wpAny_bind (wpAny_rule (wpAny_pure (wpAny_pure hv))))
theorem op_ownBin {K : PySem.W.Frag} (hK : X.K = K) (B : OwnBin K C op g r) (F : FnR X.prog X.w X.K X.mg X.base CX0 n g sp) (hr : Room n X.A) : OpR X (binaryOp op) (rBin C sp E) := (ownBin_at hK B F hr).here
theorem op_ownBinR {K : PySem.W.Frag} {id nm : String} {fI : Int → Int → Sem Fin} (hK : X.K = K) (L : IntBin op id nm fI) (B : OwnBin K C op g r) (F : FnR X.prog X.w X.K X.mg X.base CX0 n r sp) (hr : Room n X.A) : OpR X (binaryOp op) (rBinR C sp E) := (ownBinR_at hK L B F hr).here
/-! -x, abs(x), bool(x) of an instance -/
def rUnOwn (C : Addr) (sp : Sp) (E : XK) : V → Hp → VK → Prop := fun x H Q => ∃ a dx fs, x = .ref a ∧ H a = some (.ins C dx fs) ∧ sp [x] H Q E
theorem un_ownNeg {K : PySem.W.Frag} (hK : X.K = K) (hs : PySem.W.findIn K (.ref C) "__neg__" = some (some (.ref g))) (hf : PySem.W.isFn K (.ref g) = true) (F : FnR X.prog X.w X.K X.mg X.base CX0 n g sp) (hr : Room n X.A) :
    UnR X (unaryOp .USub) (rUnOwn C sp E) := by
  subst hK
  intro pins s σ H x v Q I rx h
  obtain ⟨a, dx, fs, rfl, ha, q⟩ := h
  cases (show v = Value.ref a from rx)
  obtain ⟨od, J⟩ := inst_at I ha
  obtain ⟨m, hF⟩ := I.fr
  exact PySem.W.ksp_neg hF I.ok.mod.kin J hs hf (call_at0 (us := [.ref a]) (ws := [.ref a]) F hr I.env0 I (.cons rfl .nil) q)
def rCallOwn (C : Addr) (sp : Sp) (E : XK) : List V → Hp → VK → Prop := fun xs H Q => ∃ a dx fs, xs = [.ref a] ∧ H a = some (.ins C dx fs) ∧ sp xs H Q E
theorem call_absOwn (hs : PySem.W.findIn X.K (.ref C) "__abs__" = some (some (.ref g))) (hf : PySem.W.isFn X.K (.ref g) = true) (F : FnR X.prog X.w X.K X.mg X.base CX0 n g sp) (hr : Room (n + 1) X.A) :
    CallR X (.builtin "abs") (rCallOwn C sp E) := by
  intro pins s σ H xs us Q I r h
  obtain ⟨a, dx, fs, rfl, ha, q⟩ := h
  obtain ⟨u, rfl, ru⟩ := vals1 r
  cases (show u = Value.ref a from ru)
  obtain ⟨od, J⟩ := inst_at I ha
  refine Calls.call_function_entry kind_abs plain_abs entry_abs (args_abs _) ?_
  unfold Builtin.«abs»
  refine wpAny_bind (m := oneArg "abs" _) (wpAny_pure ?_)
  refine wpAny_bind (PySem.W.special_fn I.kIn J hs (beq_iff_eq.mp hf) ?_)
  refine wpAny_mono (call_at0 (us := [.ref a]) (ws := [.ref a]) F hr.in1 I.env0.in1 I (.cons rfl .nil) q) (fun w s' z => ?_) fun _ _ x => x
  exact wpAny_pure ⟨_, rfl, z⟩
end
/-! sum of a list of instances -/
/-- how the sum goes: N i v H, the sum v of the first i -/
structure SumG (K : PySem.W.Frag) (add : R2) (l : Addr) (as : List Addr) (N : Nat → V → Hp → Prop) : Prop where
  zero : ∀ v H, N 0 v H → v = .int 0
  more : ∀ i v H, N (i + 1) v H → ∃ a, v = .ref a
  list : ∀ i v H, N i v H → SqL K H l (as.map V.ref)
  step : ∀ i v a H, as[i]? = some a → N i v H → add v (.ref a) H (N (i + 1))
theorem turn_fp {X : Cx} {pins : List (Addr × Obj)} {σ : L2.St} {H : Hp} {s : Shared} {it : Addr} {h' : Heap} {t' : Nat} (I : Inv X pins σ H s) (f : FpOk X pins H it) (k : ∀ b o, b ≠ it → s.heap.get? b = some o → h'.get? b = some o) : Inv X pins σ H { s with heap := h', toks := t' } := by
  obtain ⟨f0, f1, f2, f3, f4, f5⟩ := f
  exact I.turned k f0 f1 f3 f4 f5
section
variable {X : Cx} {pins : List (Addr × Obj)} {σ : L2.St} {add : R2} {l : Addr} {as : List Addr} {N : Nat → V → Hp → Prop} {Q : VK}
theorem sum_loop (hc : X.calm = true) (hadd : OpRA X X.A.in1 (binaryOp .Add) add) (G : SumG X.K add l as N) (hQ : ∀ v H, N as.length v H → Q v H) (it S : Addr) (hne : S ≠ it) :
    ∀ (k i : Nat) (s : Shared) (H : Hp) (v : V) (u : Value) (c : Nat) (st : Int), as.length - i = k → i ≤ as.length → Inv X pins σ H s → N i v H → RelV v u → ((st = 0 ∧ ∃ t, u = .int 0 t) ∨ (st = 2 ∧ ∃ a, u = .ref a)) →
      s.heap.IsListIter it l i → s.heap.get? S = some { cls := .type "list", dict := none, data := .seq #[u] c, slots := #[] } → FpOk X pins H it → FpOk X pins H S →
      codeAny (model X.prog X.w) X.A (.builtin "sum.loop" ⟨[.ref it, .ref S, rawInt st, rawInt 0], []⟩) (fun r s' => match r with | .ok (.ret v) => EP X pins σ Q v s' | _ => False) s := by
  intro k
  induction k with
  | zero =>
    intro i s H v u c st hk hi I n rv hu hit hS fi fS
    obtain ⟨its, rl, pl, hsz⟩ := I.list (G.list _ _ _ n)
    have hlen : its.length = as.length := by rw [← rl.length, List.length_map]
    have hin : i = as.length := by omega
    refine codeAny_builtin F.entry_sum_loop ?_
    rw [Around.under_plainId F.plain_sum_loop _]
    show wpAny _ X.A.in1 (seqItems? (.ref S) >>= _) _ _ s
    refine wpAny_bind (wpAny_seqItems hS rfl ?_)
    show wpAny _ X.A.in1 (tryCatch (pyNext (.ref it)) _ >>= _) _ _ s
    refine wpAny_bind (wpAny_tryCatch (wpAny_pyNext_list_end (I.ok.hd hc) hit pl.isList (by rw [List.getElem?_toArray, List.getElem?_eq_none (by omega)]) fun h' he => ?_))
    have I' := turn_fp (t' := s.toks) I fi he
    have q : Q v H := hQ _ _ (hin ▸ n)
    rcases hu with ⟨_, t, rfl⟩ | ⟨_, a, rfl⟩
    · exact wpAny_pure ⟨v, H, I', rv, q⟩
    · exact wpAny_pure ⟨v, H, I', rv, q⟩
  | succ k ih =>
    intro i s H v u c st hk hi I n rv hu hit hS fi fS
    obtain ⟨its, rl, pl, hsz⟩ := I.list (G.list _ _ _ n)
    have hlen : its.length = as.length := by rw [← rl.length, List.length_map]
    have hlt : i < as.length := by omega
    obtain ⟨u2, hu2, rx⟩ := rl.get (i := i) (x := .ref as[i]) (by rw [List.getElem?_map, List.getElem?_eq_getElem hlt]; rfl)
    cases (show u2 = Value.ref as[i] from rx)
    refine codeAny_builtin F.entry_sum_loop ?_
    rw [Around.under_plainId F.plain_sum_loop _]
    show wpAny _ X.A.in1 (seqItems? (.ref S) >>= _) _ _ s
    refine wpAny_bind (wpAny_seqItems hS rfl ?_)
    show wpAny _ X.A.in1 (tryCatch (pyNext (.ref it)) _ >>= _) _ _ s
    refine wpAny_bind (wpAny_tryCatch (wpAny_pyNext_list_item hit pl.isList (x := .ref as[i]) (by rw [List.getElem?_toArray]; exact hu2) fun h' hit' hs => ?_))
    have I' := turn_fp (t' := s.toks) I fi hs.extBut
    have hS' : h'.get? S = some { cls := .type "list", dict := none, data := .seq #[u] c, slots := #[] } := hs.extBut S _ hne hS
    -- both kept while the operator runs
    have fps : ∀ b ∈ [it, S], FpOk X pins H b := by
      intro b hb
      rcases List.mem_cons.mp hb with e | hb
      · exact e ▸ fi
      · exact (List.mem_singleton.mp hb) ▸ fS
    obtain ⟨oi, hoi, hci, hdi⟩ := id hit'
    have IP := I'.pinned (fp := [it, S]) fps (by
      intro b hb
      rcases List.mem_cons.mp hb with e | hb
      · exact ⟨oi, by rw [e]; exact hoi, fun v z => by rw [hdi] at z; cases z⟩
      · exact ⟨_, by rw [List.mem_singleton.mp hb]; exact hS', fun v z => by cases z⟩)
    have main : ∀ (Ex : Value → Shared → Prop), wpAny (model X.prog X.w) X.A.in1 (binaryOp .Add u (.ref as[i])) (fun r s' => ∃ a v' H', r = .ref a ∧ v' = .ref a ∧ Inv X pins σ H' s' ∧ N (i + 1) v' H' ∧ s'.heap.IsListIter it l (i + 1) ∧
        s'.heap.get? S = some { cls := .type "list", dict := none, data := .seq #[u] c, slots := #[] } ∧ FpOk X pins H' it ∧ FpOk X pins H' S) Ex { s with heap := h' } := fun Ex => by
      refine wpAny_mono (hadd _ _ σ H v (.ref as[i]) u (.ref as[i]) (N (i + 1)) Ex IP IP.env0.in1 rv rfl (G.step _ _ _ _ (List.getElem?_eq_getElem hlt) n)) (fun r s' z => ?_) fun _ _ e => e
      obtain ⟨v', H', I2, r2, n2⟩ := z
      obtain ⟨a, rfl⟩ := G.more _ _ _ n2
      have p1 := I2.pin (it, oi) (List.mem_append_right _ (List.mem_append_right _ (mem_pinsAt (by simp) hoi)))
      have p2 := I2.pin (S, _) (List.mem_append_right _ (List.mem_append_right _ (mem_pinsAt (by simp) hS')))
      exact ⟨a, _, H', r2, rfl, I2.unpinned, n2, ⟨oi, p1.1, hci, hdi⟩, p2.1, ⟨p1.2.1, fi.2⟩, ⟨p2.2.1, fS.2⟩⟩
    -- the sum is set
    have last : ∀ (s' : Shared) (H' : Hp) (a : Addr), Inv X pins σ H' s' → N (i + 1) (.ref a) H' → s'.heap.IsListIter it l (i + 1) → s'.heap.get? S = some { cls := .type "list", dict := none, data := .seq #[u] c, slots := #[] } → FpOk X pins H' it → FpOk X pins H' S →
        wpAny (model X.prog X.w) X.A.in1 (updateSeq S (fun _ => #[.ref a]) >>= fun _ => letGo [u, .ref as[i]] [] >>= fun _ => updateSeq S (fun _ => #[.ref a]) >>= fun _ => again (.builtin "sum.loop" ⟨[.ref it, .ref S, rawInt 2, rawInt 0], []⟩))
          (fun fin s' => match fin with | .done f => (match (Except.ok f : Result) with | .ok (.ret v) => EP X pins σ Q v s' | _ => False) | .again c' => c'.quiet = true ∧ codeAny (model X.prog X.w) X.A c' (fun r s' => match r with | .ok (.ret v) => EP X pins σ Q v s' | _ => False) s') (fun _ _ => False) s' := by
      intro s' H' a I2 n2 hit2 hS2 fi2 fS2
      refine wpAny_bind (wpAny_updateSeq hS2 rfl ?_)
      have hS3 := Heap.get?_update_self (Obj.mapSeq fun _ => #[Value.ref a]) hS2 rfl
      refine wpAny_bind (wpAny_letGo ?_)
      refine wpAny_bind (wpAny_updateSeq hS3 rfl ?_)
      have hS4 := Heap.get?_update_self (Obj.mapSeq fun _ => #[Value.ref a]) hS3 rfl
      have keep : ∀ b o, b ≠ S → s'.heap.get? b = some o → ((s'.heap.update S (Obj.mapSeq fun _ => #[Value.ref a])).update S (Obj.mapSeq fun _ => #[Value.ref a])).get? b = some o := fun b o nb e =>
        (Heap.get?_update_other _ _ (Ne.symm nb)).trans ((Heap.get?_update_other _ _ (Ne.symm nb)).trans e)
      have I3 := turn_fp (t' := s'.toks) I2 fS2 keep
      refine wpAny_pure ⟨plainId_quiet F.plain_sum_loop _, ih (i + 1) _ H' (.ref a) (.ref a) _ 2 (by omega) hlt I3 n2 rfl (.inr ⟨rfl, _, rfl⟩) ?_ hS4 fi2 fS2⟩
      obtain ⟨o, e, x, y⟩ := hit2
      exact ⟨o, keep _ _ (Ne.symm hne) e, x, y⟩
    rcases hu with ⟨rfl, t, rfl⟩ | ⟨rfl, a0, rfl⟩
    · refine wpAny_bind (wpAny_rule ?_)
      refine wpAny_bind (wpAny_attempt (wpAny_holding (wpAny_mono (main _) (fun r s' z => ?_) fun _ _ e => e)))
      obtain ⟨a, v', H', rfl, rfl, I2, n2, hit2, hS2, fi2, fS2⟩ := z
      exact last s' H' a I2 n2 hit2 hS2 fi2 fS2
    · refine wpAny_bind (wpAny_attempt (wpAny_holding (wpAny_mono (main _) (fun r s' z => ?_) fun _ _ e => e)))
      obtain ⟨a, v', H', rfl, rfl, I2, n2, hit2, hS2, fi2, fS2⟩ := z
      exact last s' H' a I2 n2 hit2 hS2 fi2 fS2
/-- sum(xs), xs a list of instances -/
def rSumOwn (K : PySem.W.Frag) (add : R2) : List V → Hp → VK → Prop := fun vs H Q => ∃ (l : Addr) (as : List Addr) (N : Nat → V → Hp → Prop), vs = [.ref l] ∧ SumG K add l as N ∧ N 0 (.int 0) H ∧ ∀ v H', N as.length v H' → Q v H'
theorem cr_sumOwn {K : PySem.W.Frag} (hK : X.K = K) (hc : X.calm = true) (hadd : OpRA X X.A.in1 (binaryOp .Add) add) : CallR X (.builtin "sum") (rSumOwn K add) := by
  subst hK
  intro pins s σ H xs us Q I r h
  obtain ⟨l, as, N, rfl, G, n0, q⟩ := h
  obtain ⟨u, rfl, ru⟩ := vals1 r
  cases (show u = Value.ref l from ru)
  obtain ⟨its, rl, pl, hsz⟩ := I.list (G.list _ _ _ n0)
  refine call_function_tree F.kind_sum F.plain_sum F.entry_sum (F.args_sum1 _) ?_
  unfold Builtin.«sum»
  simp only [List.length_cons, List.length_nil]
  rw [if_neg (by decide)]
  refine wpAny_bind (wpAny_of_eq (show Builtin.Builtins.bindParams "sum" ["start"] 0 { } = pure [none] from rfl) ?_)
  refine wpAny_bind (wpAny_pyIter_list pl.isList ?_)
  refine wpAny_bind (wpAny_mkInt ?_)
  refine wpAny_bind (wpAny_pure ?_)
  simp only [List.forIn_cons, List.forIn_nil]
  refine wpAny_bind (wpAny_bind (wpAny_bind (wpAny_isInstance (T := "int") (b := false) (typeIs_int _ _ _) PySem.sub_int_str ?_)))
  simp only [Bool.false_eq_true, if_false]
  refine wpAny_pure (wpAny_bind (wpAny_bind (wpAny_isInstance (T := "int") (b := false) (typeIs_int _ _ _) PySem.sub_int_bytes ?_)))
  simp only [Bool.false_eq_true, if_false]
  refine wpAny_pure (wpAny_bind (wpAny_bind (wpAny_isInstance (T := "int") (b := false) (typeIs_int _ _ _) PySem.sub_int_bytearray ?_)))
  simp only [Bool.false_eq_true, if_false]
  refine wpAny_pure (wpAny_pure ?_)
  refine wpAny_bind (wpAny_newObj_type ?_)
  have k1 : ∀ b o, s.heap.get? b = some o → ((s.heap.push ({ cls := .type "list_iterator", data := .fields #[.ref l, .int 0 0] } : Obj)).push ({ cls := .type "list", dict := none, data := .seq #[Value.int 0 s.toks] } : Obj)).get? b = some o := fun b o e => Heap.get?_push_of_some _ (Heap.get?_push_of_some _ e)
  have e1 : (s.heap.push ({ cls := .type "list_iterator", data := .fields #[.ref l, .int 0 0] } : Obj)).objs.size = s.heap.objs.size + 1 := Heap.size_push ..
  have I1 := I.kept (t' := s.toks + 1) k1
  have n1 : H (s.heap.push ({ cls := .type "list_iterator", data := .fields #[.ref l, .int 0 0] } : Obj)).objs.size = none := I.hok.fresh (by rw [e1]; exact Nat.le_succ _)
  have n2 : H s.heap.objs.size = none := I.hok.fresh (Nat.le_refl _)
  have f1 : FpOk X pins H s.heap.objs.size := I.fpOk (Nat.le_refl _) n2
  have f2 : FpOk X pins H (s.heap.push ({ cls := .type "list_iterator", data := .fields #[.ref l, .int 0 0] } : Obj)).objs.size := I.fpOk (by rw [e1]; exact Nat.le_succ _) n1
  refine wpAny_pure ⟨plainId_quiet F.plain_sum_loop _, codeAny_mono (sum_loop (N := N) (Q := Q) hc hadd G q s.heap.objs.size (s.heap.push ({ cls := .type "list_iterator", data := .fields #[.ref l, .int 0 0] } : Obj)).objs.size (by rw [e1]; exact Nat.succ_ne_self _) as.length 0 _ H (.int 0) (.int 0 s.toks) 0 0 (by omega) (Nat.zero_le _) I1 n0 ⟨_, rfl⟩ (.inl ⟨rfl, _, rfl⟩) ?_ ?_ f1 f2) ?_⟩
  · exact ⟨_, Heap.get?_push_of_some _ (Heap.get?_push_size _ rfl), rfl, rfl⟩
  · exact Heap.get?_push_size _ rfl
  · intro r s' z
    cases r with
    | error e => exact False.elim z
    | ok fl => cases fl <;> first | exact z | exact False.elim z
end
end Lb

set_option Elab.async false
set_option linter.all false
set_option maxRecDepth 100000
set_option maxHeartbeats 4000000
namespace Lb
open PySem PySem.Spec PyProof.Rows L2
section
variable {X : Cx} {CX : CXT} {k : Nat} {f C p g : Addr} {fd : FuncData} {ps ks : List Str} {sp : Sp} {E : XK} {x m : Str} {pos np apos : Pos} {o : Expr} {kws : List Keyword} {ta : TE} {tk : TA} {gf : List Value → List Value → List Value} {gV : List V → List V → List V}
theorem run_kbn {n : Nat} {pins : List (Addr × Obj)} {σ : L2.St} {H : Hp} {s : Shared} {Q : VK} {us ws : List Value} {vs zs : List V} (F : FnOk X.prog X.w X.K X.mg X.base CX k f fd ps sp) (hr : Room k X.A) (hb : KBn X.K fd ps n ks gf gV) (hx : Passes CX X E)
    (I : Inv X pins σ H s) (r : Vals vs us) (rz : Vals zs ws) (l1 : vs.length = n) (l2 : zs.length = ks.length) (h : sp (gV vs zs) H Q E) : wpAny (model X.prog X.w) X.A (call (.ref f) us (ks.zip ws)) (EP X pins σ Q) X.xe s := by
  refine wpAny_call (codeAny_mono (F.run X.A X.stack s H ⟨us, ks.zip ws⟩ (gf us ws) (gV vs zs) Q E hr I.env0 (hb.to s us ws I.kIn (r.length.symm.trans l1) (rz.length.symm.trans l2)) (hb.rel r rz) h) fun r s' hq => ?_)
  cases r with
  | error e => exact hx pins σ H s e s' I hq
  | ok fl =>
    cases fl with
    | ret u => exact I.after hq
    | next => exact False.elim hq
    | brk => exact False.elim hq
    | cont => exact False.elim hq
/-- f(k = v, ..) -/
def tCallK0 (m : Nat) (sp : Sp) (gV : List V → List V → List V) (E : XK) (tk : TA) : TE := fun σ H Q => tk σ H fun zs H2 => zs.length = m ∧ sp (gV [] zs) H2 Q E
theorem pe_callK0 (F : FnOk X.prog X.w X.K X.mg X.base CX k f fd ps sp) (hr : Room k X.A) (hg : Gl X x) (hm : X.mg x = some (.ref f)) (hk : PySem.W.keepIn X.K (.ref f) = true) (hb : KBn X.K fd ps 0 ks gf gV) (hx : Passes CX X E) (hkw : PK X kws tk)
    (hall : (backToKw pos (keywordEach kws X.env)).all (·.1.isSome) = true := by rfl) (hks : (backToKw pos (keywordEach kws X.env)).filterMap (·.1) = ks := by rfl) (hdb : (x == ("__debug__" : Str)) = false := by decide)
    (hpl : ((backTo pos (starEach [] X.env)).any (·.1) || (backToKw pos (keywordEach kws X.env)).any (·.1.isNone)) = false := by rfl) :
    PE X (.Call (.Name x np) [] kws pos) (tCallK0 ks.length sp gV E tk) := by
  refine ⟨fun pins s σ H Q I h => ?_⟩
  refine wpAny_Call_Name_kw (ld_glob I hg hm ?_ hdb)
  refine PySem.W.callWith_KW0 (h₀ := X.base) I.ok.mod.kin hk hall ?_ hpl
  refine thn (hkw.run pos pins s σ H _ I h) fun ws s2 ⟨zs, H2, I2, rz, l2, q2⟩ => ⟨I2.kIn, ?_⟩
  rw [hks]
  exact run_kbn (us := []) (vs := []) F hr hb hx I2 .nil rz rfl l2 q2
/-- o.m(k = v, ..) -/
def tMethK0 (C : Addr) (m : Str) (nk : Nat) (sp : Sp) (gV : List V → List V → List V) (E : XK) (ta : TE) (tk : TA) : TE := fun σ H Q => ta σ H fun x H1 => ∃ a dx fs, x = .ref a ∧ H1 a = some (.ins C dx fs) ∧ fs.lookup m = none ∧ tk σ H1 fun zs H2 => zs.length = nk ∧ sp (gV [.ref a] zs) H2 Q E
theorem pe_methK0 {pl : Sem Bool} (he : PE X o ta) (c : Cls X.K C) (hm : Meth X.K C m f) (F : FnOk X.prog X.w X.K X.mg X.base CX k f fd ps sp) (hr : Room k X.A) (hb : KBn X.K fd ps 1 ks gf gV) (hx : Passes CX X E) (hkw : PK X kws tk)
    (hall : (backToKw pos (keywordEach kws X.env)).all (·.1.isSome) = true := by rfl) (hks : (backToKw pos (keywordEach kws X.env)).filterMap (·.1) = ks := by rfl)
    (hpl : ((backTo pos (starEach [] X.env)).any (·.1) || (backToKw pos (keywordEach kws X.env)).any (·.1.isNone)) = false := by rfl)
    (ht : eval (.Call (.Attribute o m apos) [] kws pos) X.env = (do
      let ov ← eval o X.env
      standAt apos.atName
      let (f, first) ← holding [ov] (getMethod ov m pl)
      callWith pos f first (backTo pos (starEach [] X.env)) (backToKw pos (keywordEach kws X.env))) := by rfl) :
    PE X (.Call (.Attribute o m apos) [] kws pos) (tMethK0 C m ks.length sp gV E ta tk) := by
  refine ⟨fun pins s σ H Q I h => ?_⟩
  refine PySem.W.methodCall_KW (pl := pl) (thn (he.run pins s σ H _ I h) fun u s1 ⟨x, H1, I1, rx, a, dx, fs, ex, ea, l, q⟩ => ?_) ht
  subst ex
  obtain rfl : u = Value.ref a := rx
  refine getmeth_ok I1 ea c hm l ?_
  refine PySem.W.callWith_KW0 (first := [.ref a]) (h₀ := X.base) I.ok.mod.kin hm.kp hall ?_ hpl
  refine thn (hkw.run pos pins s1 σ H1 _ I1 q) fun ws s2 ⟨zs, H2, I2, rz, l2, q2⟩ => ⟨I2.kIn, ?_⟩
  rw [hks]
  exact run_kbn (us := [.ref a]) (vs := [.ref a]) F hr hb hx I2 (.cons rfl .nil) rz rfl l2 q2
/-- C.m(), m a classmethod -/
theorem pe_cmeth0 {mc : Value} {pl : Sem Bool} (he : PE X o ta) (r : ClX.CRead X.K C mc) (c : ClX.CMet X.K C mc m p g) (F : FnR X.prog X.w X.K X.mg X.base CX k g sp) (hr : Room k X.A) (hx : Passes CX X E)
    (ht : eval (.Call (.Attribute o m apos) [] [] pos) X.env = (do
      let ov ← eval o X.env
      standAt apos.atName
      let (f, first) ← holding [ov] (getMethod ov m pl)
      callWith pos f first (backTo pos (starEach [] X.env)) (backToKw pos (keywordEach [] X.env))) := by rfl) :
    PE X (.Call (.Attribute o m apos) [] [] pos) (ClX.tCMeth C sp E ta tNil) := by
  refine ⟨fun pins s σ H Q I h => ?_⟩
  refine PySem.W.methodCall_KW (pl := pl) (thn (he.run pins s σ H _ I h) fun u s1 ⟨x, H1, I1, rx, ex, q⟩ => ?_) ht
  subst ex
  obtain rfl : u = Value.ref C := rx
  refine ClX.getmethcm_ok I1 r c fun s2 I2 => ?_
  have hb := ClX.base_none I1 (Nat.le_refl _)
  refine PySem.W.callWith_M0 (K := X.K) (first := []) ⟨ClX.pin_at I2, I2.kIn⟩ c.fi ?_
  exact ClX.run_cm (us := []) (vs := []) F hr hx I2 .nil q
/-- x(e, ..), x a local that holds a class -/
def tMakeL (i : Nat) (C : Addr) (sp : Sp) (dvs : List V) (E : XK) (t : TA) : TE := fun σ H Q => σ[i]? = some (some (.ref C)) ∧ tMake C sp dvs E t σ H Q
theorem pe_makeL {i : Nat} {e : Expr} {es : List Expr} {t : TA} {ds : List Value} {dvs : List V} (M : Mk X.K C f) (F : FnOk X.prog X.w X.K X.mg X.base CX k f fd ps sp) (hr : Room (k + 1) X.A) (hN : X.N[i]? = some x) (hv : Vis X.env.scope x) (hb : Binds X.K fd ps ds) (hd : Vals dvs ds) (hx : Passes CX X E)
    (ha : PA X (e :: es) t) (hdb : (x == ("__debug__" : Str)) = false := by decide) (hcd : (x == ("__classdict__" : Str)) = false := by decide) (he : starEach (e :: es) X.env = (false, eval e X.env) :: starEach es X.env := by rfl) (hpl : (backTo pos (starEach es X.env)).any (·.1) = false := by rfl) :
    PE X (.Call (.Name x np) (e :: es) [] pos) (tMakeL i C sp dvs E t) := by
  refine ⟨fun pins s σ H Q I h => ?_⟩
  obtain ⟨hs, ht⟩ := h
  refine wpAny_Call_Name_kw (thn ((pe_var (pos := np) hN hv hdb hcd).run pins s σ H (fun v H1 => v = .ref C ∧ H1 = H) I ⟨.ref C, hs, rfl, rfl⟩) fun u s1 ⟨v, H1, I1, r1, q1⟩ => ?_)
  obtain ⟨rfl, rfl⟩ := q1
  cases r1
  refine PySem.W.callWith_K (h₀ := X.base) I.ok.mod.kin M.kp (thn (ha.run pos pins s1 σ _ _ I1 ht) fun us s2 ⟨vs, H2, I2, r, q⟩ => ⟨I2.kIn, ?_⟩) he hpl
  exact run_make M F hr hb hd hx I2 r q
/-! bool(x) -/
theorem call_boolOwn {n : Nat} (hs : PySem.W.findIn X.K (.ref C) "__bool__" = some (some (.ref g))) (hf : PySem.W.isFn X.K (.ref g) = true) (F : FnR X.prog X.w X.K X.mg X.base CX0 n g sp) (hr : Room (n + 2) X.A) :
    CallR X (.type "bool") (fun xs H Q => ∃ a dx fs, xs = [.ref a] ∧ H a = some (.ins C dx fs) ∧ sp xs H (fun z H' => ∃ b, z = .bl b ∧ Q z H') E) := by
  intro pins s σ H xs us Q I r h
  obtain ⟨a, dx, fs, rfl, ha, q⟩ := h
  obtain ⟨u, rfl, ru⟩ := vals1 r
  cases (show u = Value.ref a from ru)
  obtain ⟨od, J⟩ := inst_at I ha
  obtain ⟨m, hF⟩ := I.fr
  have hr2 : Room n X.A.in1.in1 := (show Room (n + 1) X.A.in1 from Room.in1 hr).in1
  have one : wpAny (model X.prog X.w) X.A.in1.in1 (truthy (.ref a)) (fun b s' => EP X pins σ Q (.bool b) s') X.xe s := by
    refine PySem.W.truthy_K hF I.ok.mod.kin J hs hf (wpAny_mono (call_at0 (us := [.ref a]) (ws := [.ref a]) F hr2 I.env0.in1.in1 I (.cons rfl .nil) q) (fun w s' z => ?_) fun _ _ x => x)
    obtain ⟨z', H', I', rz, b, ez, qz⟩ := z
    subst ez
    cases (show w = Value.bool b from rz)
    exact ⟨.bl b, H', I', rfl, qz⟩
  refine callType_codes (T := "bool") (Bi := Builtin.«object.__init__») (Q₁ := fun r s₁ => ∃ b, r = .bool b ∧ EP X pins σ Q r s₁) PySem.F.called_bool (PySem.F.typeCall_bool_1 _) PySem.F.entry_object_init ?_ ?_
  · refine codeAny_call_builtin (by decide +kernel) PySem.F.entry_bool_new (wpAny_of_eq (PySem.F.newCall_bool_1 _) ?_)
    unfold Builtin.«bool.__new__»
    refine wpAny_bind (wpAny_of_eq (show isType (.type "bool") = pure true from rfl) ?_)
    simp only [Bool.not_true, Bool.false_eq_true, if_false]
    refine wpAny_bind (wpAny_of_eq PySem.F.conv_sub_bool ?_)
    simp only [Bool.not_true, Bool.false_eq_true, if_false]
    refine wpAny_bind (m := someArgs _ _ _ _) (wpAny_pure ?_)
    refine wpAny_bind (wpAny_mono one (fun b s₁ z => ?_) fun _ _ e => e)
    exact wpAny_pure ⟨b, rfl, z⟩
  · rintro obj s₁ ⟨b, rfl, hq⟩
    exact ⟨PySem.typeIs_bool _ _, PySem.F.args_object_init_2 _ _, object_init_meets PySem.F.called_bool.init.lookup PySem.F.called_bool.made PySem.F.newNe_bool X.prog X.w X.A.in1 _ s₁ ⟨PySem.typeIs_bool _ _, rfl, hq⟩⟩
end
/-! how a def binds -/
theorem kbn_of {K : PySem.W.Frag} {x qual : Str} {st : Stmt} {f : Addr} {fd : FuncData} {ps ks : List Str} {n : Nat} (F : Fun K x qual st f fd)
    (h : ∀ (kV doc pm : Value) (an : Option Addr) (cdv ct : Value) (us ws : List Value), us.length = n → ws.length = ks.length → bindArgs (PySem.W.fnOf x qual (defArgs st) (defBody st) (defScope st) .none kV doc pm an cdv ct) ⟨us, ks.zip ws⟩ = pure (ps.zip (us ++ ws))) :
    KBn K fd ps n ks (fun us ws => us ++ ws) (fun vs zs => vs ++ zs) := by
  obtain ⟨oc, od, kV, doc, pm, an, cdv, ct, osl, rfl, lk, hcd⟩ := F.ex
  exact ⟨fun s us ws X l1 l2 => BindsTo.of_eq (h kV doc pm an cdv ct us ws l1 l2), fun r1 r2 => r1.append r2⟩
/-- def f(a, *v) that raises nothing -/
theorem star_ok {P : Program} {w : World} {K : PySem.W.Frag} {mg : Str → Option Value} {base : Heap} {x qual : Str} {st : Stmt} {f : Addr} {fd : FuncData} {N ps : List Str} {pv : Str} {k : Nat} {sp : Sp} (F : Fun K x qual st f fd) (S : FnScope N (ps ++ [pv]) (defScope st))
    (hb : ∀ (kV doc pm : Value) (an : Option Addr) (cdv ct : Value) (us rest : List Value), us.length = ps.length → bindArgs (PySem.W.fnOf x qual (defArgs st) (defBody st) (defScope st) .none kV doc pm an cdv ct) ⟨us ++ rest, []⟩ = (newTuple rest >>= fun t => pure (ps.zip us ++ [(pv, t)])))
    (hbody : ∀ (cdv : Value) (A : Around) (outer : List Env) (s : Shared) (H : Hp) (vs : List V) (Q : VK) (E : XK), Room k (A.deeper (envOfC qual (defScope st) s.heap.objs.size f cdv)) → sp vs H Q E →
      ∃ t, PSs (cxOf CX0 P w K mg base N qual (defScope st) f cdv A outer s H E).nox (defBody st) t ∧ t { nx := fun _ H' => Q .non H', rt := Q } (start N vs) H) :
    FnR P w K mg base CX0 (k + 1) f (fun vs H Q E => ∃ ws rest, vs = ws ++ rest ∧ ws.length = ps.length ∧ rest.length ≤ sizeLine ∧ ∀ p, H p = Option.none → sp (ws ++ [V.ref p]) (upd H p (.tup rest)) Q E) := by
  obtain ⟨oc, od, kV, doc, pm, an, cdv, ct, osl, rfl, lk, hcd⟩ := F.ex
  exact StX.fn_star lk hcd S StX.cxUp_none (fun us rest l => hb kV doc pm an cdv ct us rest l) (fun A outer s H vs Q E hr h => let ⟨t, h1, q⟩ := hbody cdv A outer s H vs Q E hr h; ⟨t, h1.nox, q⟩)
end Lb

set_option Elab.async false
set_option linter.all false
set_option maxRecDepth 100000
set_option maxHeartbeats 4000000
namespace Lb
open PySem

/-! the digits of a number, cut -/
def pad : Nat → Nat → List Char
  | 0, _ => []
  | k + 1, r => pad k (r / 10) ++ [Nat.digitChar (r % 10)]
theorem digits_cut {n : Nat} (hn : 0 < n) : ∀ (k r : Nat), r < 10 ^ k → Nat.toDigits 10 (n * 10 ^ k + r) = Nat.toDigits 10 n ++ pad k r
  | 0, r, h => by
    have : r = 0 := by simpa using h
    subst this
    simp [pad]
  | k + 1, r, h => by
    have h1 : r / 10 < 10 ^ k := by
      rw [Nat.pow_succ] at h
      omega
    have ih := digits_cut hn k (r / 10) h1
    have e : n * 10 ^ (k + 1) + r = 10 * (n * 10 ^ k + r / 10) + r % 10 := by
      rw [Nat.pow_succ]
      have := Nat.div_add_mod r 10
      rw [← Nat.mul_assoc]
      omega
    have p : 0 < n * 10 ^ k + r / 10 := Nat.add_pos_left (Nat.mul_pos hn (Nat.pow_pos (by decide))) _
    rw [e, ← Nat.toDigits_append_toDigits (by decide) p (Nat.mod_lt _ (by decide)), ih, Nat.toDigits_of_lt_base (Nat.mod_lt _ (by decide))]
    simp [pad]
theorem pad_zero : ∀ k, pad k 0 = List.replicate k '0'
  | 0 => rfl
  | k + 1 => by
    rw [pad, pad_zero k, List.replicate_succ']
    rfl
theorem pad_eq : ∀ (k r : Nat), 1 ≤ k → r < 10 ^ k → pad k r = List.replicate (k - (Nat.toDigits 10 r).length) '0' ++ Nat.toDigits 10 r
  | 1, r, _, h => by
    have h : r < 10 := by simpa using h
    rw [Nat.toDigits_of_lt_base h]
    simp [pad, Nat.mod_eq_of_lt h]
  | k + 2, r, _, h => by
    have h1 : r / 10 < 10 ^ (k + 1) := by
      rw [Nat.pow_succ] at h
      omega
    have ih := pad_eq (k + 1) (r / 10) (by omega) h1
    rw [pad]
    by_cases h0 : r < 10
    · have : r / 10 = 0 := by omega
      rw [this, pad_zero, Nat.toDigits_of_lt_base h0, Nat.mod_eq_of_lt h0]
      rfl
    · have e : Nat.toDigits 10 r = Nat.toDigits 10 (r / 10) ++ [Nat.digitChar (r % 10)] := by
        rw [← Nat.toDigits_of_lt_base (Nat.mod_lt r (by decide : 10 > 0)), Nat.toDigits_append_toDigits (by decide) (by omega) (Nat.mod_lt _ (by decide)), Nat.div_add_mod]
      rw [ih, e, List.length_append]
      rw [show k + 1 + 1 - ((Nat.toDigits 10 (r / 10)).length + [Nat.digitChar (r % 10)].length) = k + 1 - (Nat.toDigits 10 (r / 10)).length by simp only [List.length_cons, List.length_nil]; omega]
      simp
/-- the text of digits -/
def chS (l : List Char) : Str := ⟨(l.map Char.toNat).toArray⟩
theorem chS_append (a b : List Char) : chS (a ++ b) = chS a ++ chS b := by
  show Str.mk _ = Str.mk _
  congr 1
  simp [chS]
theorem toS (n : Nat) : ((toString (n : Int) : String) : Str) = chS (Nat.toDigits 10 n) := by
  rw [show ((toString (n : Int) : String) : Str) = Str.ofString (toString (n : Int)) from rfl, Str.ofString_eq_toList]
  unfold chS
  congr 3
  show (Int.repr (n : Int)).toList = _
  simp [Int.repr, Nat.repr]
theorem zf {k r : Nat} (hk : 1 ≤ k) (hr : r < 10 ^ k) : Txt.zfill (chS (Nat.toDigits 10 r)) (k : Nat) = chS (pad k r) := by
  have hlen : (chS (Nat.toDigits 10 r)).length = (Nat.toDigits 10 r).length := by
    show (chS (Nat.toDigits 10 r)).cps.size = _
    simp [chS]
  rw [pad_eq k r hk hr]
  unfold Txt.zfill
  rw [hlen]
  by_cases h : ((k : Nat) : Int) ≤ ((Nat.toDigits 10 r).length : Nat)
  · rw [if_pos h, show k - (Nat.toDigits 10 r).length = 0 by omega]
    simp
  · rw [if_neg h]
    have e0 : (chS (Nat.toDigits 10 r)).cps[0]? = ((Nat.toDigits 10 r)[0]?).map Char.toNat := by simp [chS]
    have key : (chS (Nat.toDigits 10 r)).cps[0]? ≠ some 43 ∧ (chS (Nat.toDigits 10 r)).cps[0]? ≠ some 45 := by
      rw [e0]
      cases hd : (Nat.toDigits 10 r)[0]? with
      | none => simp
      | some c =>
        have hc := Nat.isDigit_of_mem_toDigits (by decide) (by decide) (List.mem_of_getElem? hd)
        have : 48 ≤ c.toNat := by
          have := hc
          simp only [Char.isDigit, Bool.and_eq_true, decide_eq_true_eq] at this
          exact UInt32.le_iff_toNat_le.mp this.1
        simp only [Option.map_some, ne_eq, Option.some.injEq]
        omega
    have e : zfilled (chS (Nat.toDigits 10 r)) (Int.toNat k - (Nat.toDigits 10 r).length) = Builtin.Str.padded (chS (Nat.toDigits 10 r)) (Int.toNat k - (Nat.toDigits 10 r).length) 0 48 := by
      unfold zfilled
      split
      · rename_i q; exact absurd q key.1
      · rename_i q; exact absurd q key.2
      · rfl
    rw [e, chS_append]
    unfold Builtin.Str.padded
    show Str.mk _ = Str.mk _
    congr 1
    simp [chS]
def cat : List Str → Str
  | [] => Str.empty
  | x :: r => x ++ cat r
theorem empty_add (x : Str) : Str.empty ++ x = x := by
  show Str.mk _ = Str.mk _
  simp [Str.empty]
theorem add_empty (x : Str) : x ++ Str.empty = x := by
  show Str.mk _ = Str.mk _
  simp [Str.empty]
theorem cat_append (a b : List Str) : cat (a ++ b) = cat a ++ cat b := by
  induction a with
  | nil => exact (empty_add _).symm
  | cons x r ih => rw [List.cons_append, cat, cat, ih, Str.append_assoc]
theorem cat_foldl : ∀ (l : List Str) (x : Str), (⟨l.foldl (fun acc p => acc ++ Str.empty.cps ++ p.cps) x.cps⟩ : Str) = x ++ cat l
  | [], x => (add_empty x).symm
  | y :: r, x => by
    rw [List.foldl_cons]
    have e : x.cps ++ Str.empty.cps ++ y.cps = (x ++ y).cps := by
      show _ = x.cps ++ y.cps
      simp [Str.empty]
    rw [e, cat_foldl r (x ++ y), cat, Str.append_assoc]
theorem join_empty : ∀ l : List Str, Txt.join Str.empty l = cat l
  | [] => rfl
  | x :: r => cat_foldl r x
theorem cat_length : ∀ l : List Str, (cat l).length = (l.map (·.length)).sum
  | [] => rfl
  | x :: r => by rw [cat, Str.length_append, cat_length r, List.map_cons, List.sum_cons]
theorem chS_length (l : List Char) : (chS l).length = l.length := by
  show (chS l).cps.size = _
  simp [chS]
theorem pad_length : ∀ k r, (pad k r).length = k
  | 0, _ => rfl
  | k + 1, r => by rw [pad, List.length_append, pad_length k]; rfl
/-- one turn: the last sixty digits are cut off -/
theorem turn60 {n : Nat} (h : 10 ^ 60 ≤ n) : ((toString (n : Int) : String) : Str) = ((toString ((n / 10 ^ 60 : Nat) : Int) : String) : Str) ++ Txt.zfill ((toString ((n % 10 ^ 60 : Nat) : Int) : String) : Str) (60 : Nat) ∧
    (Txt.zfill ((toString ((n % 10 ^ 60 : Nat) : Int) : String) : Str) (60 : Nat)).length = 60 := by
  have q : 0 < n / 10 ^ 60 := Nat.div_pos h (Nat.pow_pos (by decide))
  have r : n % 10 ^ 60 < 10 ^ 60 := Nat.mod_lt _ (Nat.pow_pos (by decide))
  rw [toS, toS, toS, zf (by decide) r]
  refine ⟨?_, by rw [chS_length, pad_length]⟩
  conv => lhs; rw [← Nat.div_add_mod n (10 ^ 60), Nat.mul_comm]
  rw [digits_cut q 60 _ r, chS_append]
end Lb
namespace Lb
open PySem L2
theorem vals_rev : ∀ {vs : List V} {us : List Value}, Vals vs us → Vals vs.reverse us.reverse
  | [], _, .nil => .nil
  | _ :: _, _, .cons r t => by
    rw [List.reverse_cons, List.reverse_cons]
    exact (vals_rev t).append (.cons r .nil)
theorem kit_of_own {K : PySem.W.Frag} {C : Addr} {T : String} (hm : PySem.W.kitMeta T = true) (h : PySem.W.subIn K (.ref C) (.type T) = some false) : PySem.W.kitOne K (.ref C) (.type T) = some false := by
  have ne : (Value.ref C == Value.type T) = false := Bool.eq_false_iff.mpr fun q => nomatch beq_iff_eq.mp q
  unfold PySem.W.kitOne
  rw [ne, if_neg (by decide)]
  unfold PySem.W.kitCls
  dsimp only
  rw [if_pos hm]
  exact h
end Lb

set_option Elab.async false
set_option linter.all false
set_option maxRecDepth 100000
set_option maxHeartbeats 4000000
namespace K11
open PySem L2 Lb
def top (i : Nat) : Stmt := PySem.Challenge.pw_surepipes_k11_whole_amounts_reckoned.main.body.getD i (.Pass ⟨0, 0, 0, 0⟩)
abbrev s_is_integer : Stmt := (top 10)
theorem sc_is_integer : FnScope ["value"] ["value"] (defScope s_is_integer) := ⟨rfl, rfl, rfl, by decide +kernel, rfl, by decide +kernel, by decide +kernel⟩
abbrev s_is_amount : Stmt := (top 11)
theorem sc_is_amount : FnScope ["value"] ["value"] (defScope s_is_amount) := ⟨rfl, rfl, rfl, by decide +kernel, rfl, by decide +kernel, by decide +kernel⟩
abbrev s_amount_of : Stmt := (top 12)
theorem sc_amount_of : FnScope ["value"] ["value"] (defScope s_amount_of) := ⟨rfl, rfl, rfl, by decide +kernel, rfl, by decide +kernel, by decide +kernel⟩
abbrev s_decimal : Stmt := (top 13)
theorem sc_decimal : FnScope ["number", "parts", "part"] ["number"] (defScope s_decimal) := ⟨rfl, rfl, rfl, by decide +kernel, rfl, by decide +kernel, by decide +kernel⟩
abbrev s_Amount_init_ : Stmt := (inClass (top 17) 0)
theorem sc_Amount_init_ : FnScope ["self", "top", "bottom", "divisor"] ["self", "top", "bottom"] (defScope s_Amount_init_) := ⟨rfl, rfl, rfl, by decide +kernel, rfl, by decide +kernel, by decide +kernel⟩
abbrev s_Amounttop : Stmt := (inClass (top 17) 1)
theorem sc_Amounttop : FnScope ["self"] ["self"] (defScope s_Amounttop) := ⟨rfl, rfl, rfl, by decide +kernel, rfl, by decide +kernel, by decide +kernel⟩
abbrev s_Amountbottom : Stmt := (inClass (top 17) 2)
theorem sc_Amountbottom : FnScope ["self"] ["self"] (defScope s_Amountbottom) := ⟨rfl, rfl, rfl, by decide +kernel, rfl, by decide +kernel, by decide +kernel⟩
abbrev s_Amountsign : Stmt := (inClass (top 17) 3)
theorem sc_Amountsign : FnScope ["self"] ["self"] (defScope s_Amountsign) := ⟨rfl, rfl, rfl, by decide +kernel, rfl, by decide +kernel, by decide +kernel⟩
abbrev s_Amount_add_ : Stmt := (inClass (top 17) 4)
theorem sc_Amount_add_ : FnScope ["self", "other", "right"] ["self", "other"] (defScope s_Amount_add_) := ⟨rfl, rfl, rfl, by decide +kernel, rfl, by decide +kernel, by decide +kernel⟩
abbrev s_Amount_radd_ : Stmt := (inClass (top 17) 5)
theorem sc_Amount_radd_ : FnScope ["self", "other"] ["self", "other"] (defScope s_Amount_radd_) := ⟨rfl, rfl, rfl, by decide +kernel, rfl, by decide +kernel, by decide +kernel⟩
abbrev s_Amount_sub_ : Stmt := (inClass (top 17) 6)
theorem sc_Amount_sub_ : FnScope ["self", "other", "right"] ["self", "other"] (defScope s_Amount_sub_) := ⟨rfl, rfl, rfl, by decide +kernel, rfl, by decide +kernel, by decide +kernel⟩
abbrev s_Amount_rsub_ : Stmt := (inClass (top 17) 7)
theorem sc_Amount_rsub_ : FnScope ["self", "other"] ["self", "other"] (defScope s_Amount_rsub_) := ⟨rfl, rfl, rfl, by decide +kernel, rfl, by decide +kernel, by decide +kernel⟩
abbrev s_Amount_mul_ : Stmt := (inClass (top 17) 8)
theorem sc_Amount_mul_ : FnScope ["self", "other", "right"] ["self", "other"] (defScope s_Amount_mul_) := ⟨rfl, rfl, rfl, by decide +kernel, rfl, by decide +kernel, by decide +kernel⟩
abbrev s_Amount_rmul_ : Stmt := (inClass (top 17) 9)
theorem sc_Amount_rmul_ : FnScope ["self", "other"] ["self", "other"] (defScope s_Amount_rmul_) := ⟨rfl, rfl, rfl, by decide +kernel, rfl, by decide +kernel, by decide +kernel⟩
abbrev s_Amountover : Stmt := (inClass (top 17) 10)
theorem sc_Amountover : FnScope ["self", "other", "right"] ["self", "other"] (defScope s_Amountover) := ⟨rfl, rfl, rfl, by decide +kernel, rfl, by decide +kernel, by decide +kernel⟩
abbrev s_Amount_neg_ : Stmt := (inClass (top 17) 11)
theorem sc_Amount_neg_ : FnScope ["self"] ["self"] (defScope s_Amount_neg_) := ⟨rfl, rfl, rfl, by decide +kernel, rfl, by decide +kernel, by decide +kernel⟩
abbrev s_Amount_abs_ : Stmt := (inClass (top 17) 12)
theorem sc_Amount_abs_ : FnScope ["self"] ["self"] (defScope s_Amount_abs_) := ⟨rfl, rfl, rfl, by decide +kernel, rfl, by decide +kernel, by decide +kernel⟩
abbrev s_Amount_bool_ : Stmt := (inClass (top 17) 13)
theorem sc_Amount_bool_ : FnScope ["self"] ["self"] (defScope s_Amount_bool_) := ⟨rfl, rfl, rfl, by decide +kernel, rfl, by decide +kernel, by decide +kernel⟩
abbrev s_Amount_str_ : Stmt := (inClass (top 17) 19)
theorem sc_Amount_str_ : FnScope ["self"] ["self"] (defScope s_Amount_str_) := ⟨rfl, rfl, rfl, by decide +kernel, rfl, by decide +kernel, by decide +kernel⟩
abbrev s_Amount_repr_ : Stmt := (inClass (top 17) 20)
theorem sc_Amount_repr_ : FnScope ["self"] ["self"] (defScope s_Amount_repr_) := ⟨rfl, rfl, rfl, by decide +kernel, rfl, by decide +kernel, by decide +kernel⟩
abbrev s_Amountsum_of : Stmt := (inClass (top 17) 21)
theorem sc_Amountsum_of : FnScope ["cls", "amounts", "total", "amount"] ["cls", "amounts"] (defScope s_Amountsum_of) := ⟨rfl, rfl, rfl, by decide +kernel, rfl, by decide +kernel, by decide +kernel⟩
abbrev s_pot : Stmt := (top 19)
theorem sc_pot : FnScope ["_law_script", "_law_k", "_law_cell"] ["_law_script", "_law_k"] (defScope s_pot) := ⟨rfl, rfl, rfl, by decide +kernel, rfl, by decide +kernel, by decide +kernel⟩
abbrev s_draw : Stmt := (top 20)
theorem sc_draw : FnScope ["_law_pot_here", "_law_size", "_law_digit"] ["_law_pot_here", "_law_size"] (defScope s_draw) := ⟨rfl, rfl, rfl, by decide +kernel, rfl, by decide +kernel, by decide +kernel⟩
abbrev s_choice : Stmt := (top 21)
theorem sc_choice : FnScope ["_law_pot_here", "_law_some"] ["_law_pot_here", "_law_some"] (defScope s_choice) := ⟨rfl, rfl, rfl, by decide +kernel, rfl, by decide +kernel, by decide +kernel⟩
abbrev s_number : Stmt := (top 22)
theorem sc_number : FnScope ["_law_pot_here", "_law_power", "_law_way", "_law_number_here"] ["_law_pot_here", "_law_power"] (defScope s_number) := ⟨rfl, rfl, rfl, by decide +kernel, rfl, by decide +kernel, by decide +kernel⟩
abbrev s_lowest : Stmt := (top 23)
theorem sc_lowest : FnScope ["_law_high", "_law_low", "_law_one", "_law_more"] ["_law_high", "_law_low"] (defScope s_lowest) := ⟨rfl, rfl, rfl, by decide +kernel, rfl, by decide +kernel, by decide +kernel⟩
abbrev s_drawn : Stmt := (top 24)
theorem sc_drawn : FnScope ["_law_pot_here", "_law_high", "_law_low"] ["_law_pot_here"] (defScope s_drawn) := ⟨rfl, rfl, rfl, by decide +kernel, rfl, by decide +kernel, by decide +kernel⟩
abbrev s_text : Stmt := (top 25)
theorem sc_text : FnScope ["_law_due"] ["_law_due"] (defScope s_text) := ⟨rfl, rfl, rfl, by decide +kernel, rfl, by decide +kernel, by decide +kernel⟩
abbrev s_is : Stmt := (top 26)
theorem sc_is : FnScope ["_law_made", "_law_due", "_law_sign", "_law_told", "_law_written"] ["_law_made", "_law_due"] (defScope s_is) := ⟨rfl, rfl, rfl, by decide +kernel, rfl, by decide +kernel, by decide +kernel⟩
abbrev s_plus : Stmt := (top 27)
theorem sc_plus : FnScope ["_law_one", "_law_more"] ["_law_one", "_law_more"] (defScope s_plus) := ⟨rfl, rfl, rfl, by decide +kernel, rfl, by decide +kernel, by decide +kernel⟩
abbrev s_times : Stmt := (top 28)
theorem sc_times : FnScope ["_law_one", "_law_more"] ["_law_one", "_law_more"] (defScope s_times) := ⟨rfl, rfl, rfl, by decide +kernel, rfl, by decide +kernel, by decide +kernel⟩
abbrev s_opposite : Stmt := (top 29)
theorem sc_opposite : FnScope ["_law_one"] ["_law_one"] (defScope s_opposite) := ⟨rfl, rfl, rfl, by decide +kernel, rfl, by decide +kernel, by decide +kernel⟩
abbrev s_step : Stmt := (top 30)
theorem sc_step : FnScope ["_law_way", "_law_here", "_law_due", "_law_more", "_law_beside", "_law_told"] ["_law_way", "_law_here", "_law_due", "_law_more", "_law_beside"] (defScope s_step) := ⟨rfl, rfl, rfl, by decide +kernel, rfl, by decide +kernel, by decide +kernel⟩
abbrev s_sums_right : Stmt := (top 31)
theorem sc_sums_right : FnScope ["_law_rows", "_law_due", "_law_total", "_law_passed", "_law_beside", "_law_told", "_law_some", "_law_made", "_law_one"] ["_law_rows"] (defScope s_sums_right) := ⟨rfl, rfl, rfl, by decide +kernel, rfl, by decide +kernel, by decide +kernel⟩
abbrev s_right : Stmt := (top 32)
theorem sc_right : FnScope ["_law_pot_here", "_law_passed", "_law_due", "_law_here", "_law_rows", "_law_made", "_law_turn", "_law_more", "_law_beside", "_law_one", "_law_fraction"] ["_law_pot_here"] (defScope s_right) := ⟨rfl, rfl, rfl, by decide +kernel, rfl, by decide +kernel, by decide +kernel⟩
abbrev s_law : Stmt := (top 33)
theorem sc_law : FnScope ["_law_script", "_law_k"] ["_law_script"] (defScope s_law) := ⟨rfl, rfl, rfl, by decide +kernel, rfl, by decide +kernel, by decide +kernel⟩
structure Ad where
  f_is_integer : Addr
  d_is_integer : FuncData
  f_is_amount : Addr
  d_is_amount : FuncData
  f_amount_of : Addr
  d_amount_of : FuncData
  f_decimal : Addr
  d_decimal : FuncData
  f_Amount_init_ : Addr
  d_Amount_init_ : FuncData
  f_Amounttop : Addr
  d_Amounttop : FuncData
  f_Amountbottom : Addr
  d_Amountbottom : FuncData
  f_Amountsign : Addr
  d_Amountsign : FuncData
  f_Amount_add_ : Addr
  d_Amount_add_ : FuncData
  f_Amount_radd_ : Addr
  d_Amount_radd_ : FuncData
  f_Amount_sub_ : Addr
  d_Amount_sub_ : FuncData
  f_Amount_rsub_ : Addr
  d_Amount_rsub_ : FuncData
  f_Amount_mul_ : Addr
  d_Amount_mul_ : FuncData
  f_Amount_rmul_ : Addr
  d_Amount_rmul_ : FuncData
  f_Amountover : Addr
  d_Amountover : FuncData
  f_Amount_neg_ : Addr
  d_Amount_neg_ : FuncData
  f_Amount_abs_ : Addr
  d_Amount_abs_ : FuncData
  f_Amount_bool_ : Addr
  d_Amount_bool_ : FuncData
  f_Amount_str_ : Addr
  d_Amount_str_ : FuncData
  f_Amount_repr_ : Addr
  d_Amount_repr_ : FuncData
  f_Amountsum_of : Addr
  d_Amountsum_of : FuncData
  f_pot : Addr
  d_pot : FuncData
  f_draw : Addr
  d_draw : FuncData
  f_choice : Addr
  d_choice : FuncData
  f_number : Addr
  d_number : FuncData
  f_lowest : Addr
  d_lowest : FuncData
  f_drawn : Addr
  d_drawn : FuncData
  f_text : Addr
  d_text : FuncData
  f_is : Addr
  d_is : FuncData
  f_plus : Addr
  d_plus : FuncData
  f_times : Addr
  d_times : FuncData
  f_opposite : Addr
  d_opposite : FuncData
  f_step : Addr
  d_step : FuncData
  f_sums_right : Addr
  d_sums_right : FuncData
  f_right : Addr
  d_right : FuncData
  f_law : Addr
  d_law : FuncData
  c_Amount : Addr
  p_top : Addr
  p_bottom : Addr
  p_sign : Addr
  p_sum : Addr
structure Txt (K : PySem.W.Frag) (mg : Str → Option Value) (a : Ad) : Prop where
  F_is_integer : Fun K "is_integer" "is_integer" s_is_integer a.f_is_integer a.d_is_integer
  m_is_integer : mg "is_integer" = some (.ref a.f_is_integer)
  F_is_amount : Fun K "is_amount" "is_amount" s_is_amount a.f_is_amount a.d_is_amount
  m_is_amount : mg "is_amount" = some (.ref a.f_is_amount)
  F_amount_of : Fun K "amount_of" "amount_of" s_amount_of a.f_amount_of a.d_amount_of
  m_amount_of : mg "amount_of" = some (.ref a.f_amount_of)
  F_decimal : Fun K "_decimal" "_decimal" s_decimal a.f_decimal a.d_decimal
  m_decimal : mg "_decimal" = some (.ref a.f_decimal)
  F_Amount_init_ : FunD K "__init__" "Amount.__init__" (defArgs s_Amount_init_) (defBody s_Amount_init_) (defScope s_Amount_init_) [.int 1] [] a.f_Amount_init_ a.d_Amount_init_
  F_Amounttop : Fun K "top" "Amount.top" s_Amounttop a.f_Amounttop a.d_Amounttop
  F_Amountbottom : Fun K "bottom" "Amount.bottom" s_Amountbottom a.f_Amountbottom a.d_Amountbottom
  F_Amountsign : Fun K "sign" "Amount.sign" s_Amountsign a.f_Amountsign a.d_Amountsign
  F_Amount_add_ : Fun K "__add__" "Amount.__add__" s_Amount_add_ a.f_Amount_add_ a.d_Amount_add_
  F_Amount_radd_ : Fun K "__radd__" "Amount.__radd__" s_Amount_radd_ a.f_Amount_radd_ a.d_Amount_radd_
  F_Amount_sub_ : Fun K "__sub__" "Amount.__sub__" s_Amount_sub_ a.f_Amount_sub_ a.d_Amount_sub_
  F_Amount_rsub_ : Fun K "__rsub__" "Amount.__rsub__" s_Amount_rsub_ a.f_Amount_rsub_ a.d_Amount_rsub_
  F_Amount_mul_ : Fun K "__mul__" "Amount.__mul__" s_Amount_mul_ a.f_Amount_mul_ a.d_Amount_mul_
  F_Amount_rmul_ : Fun K "__rmul__" "Amount.__rmul__" s_Amount_rmul_ a.f_Amount_rmul_ a.d_Amount_rmul_
  F_Amountover : Fun K "over" "Amount.over" s_Amountover a.f_Amountover a.d_Amountover
  F_Amount_neg_ : Fun K "__neg__" "Amount.__neg__" s_Amount_neg_ a.f_Amount_neg_ a.d_Amount_neg_
  F_Amount_abs_ : Fun K "__abs__" "Amount.__abs__" s_Amount_abs_ a.f_Amount_abs_ a.d_Amount_abs_
  F_Amount_bool_ : Fun K "__bool__" "Amount.__bool__" s_Amount_bool_ a.f_Amount_bool_ a.d_Amount_bool_
  F_Amount_str_ : Fun K "__str__" "Amount.__str__" s_Amount_str_ a.f_Amount_str_ a.d_Amount_str_
  F_Amount_repr_ : Fun K "__repr__" "Amount.__repr__" s_Amount_repr_ a.f_Amount_repr_ a.d_Amount_repr_
  F_Amountsum_of : Fun K "sum_of" "Amount.sum_of" s_Amountsum_of a.f_Amountsum_of a.d_Amountsum_of
  F_pot : Fun K "_law_pot" "_law_pot" s_pot a.f_pot a.d_pot
  m_pot : mg "_law_pot" = some (.ref a.f_pot)
  F_draw : Fun K "_law_draw" "_law_draw" s_draw a.f_draw a.d_draw
  m_draw : mg "_law_draw" = some (.ref a.f_draw)
  F_choice : Fun K "_law_choice" "_law_choice" s_choice a.f_choice a.d_choice
  m_choice : mg "_law_choice" = some (.ref a.f_choice)
  F_number : Fun K "_law_number" "_law_number" s_number a.f_number a.d_number
  m_number : mg "_law_number" = some (.ref a.f_number)
  F_lowest : Fun K "_law_lowest" "_law_lowest" s_lowest a.f_lowest a.d_lowest
  m_lowest : mg "_law_lowest" = some (.ref a.f_lowest)
  F_drawn : Fun K "_law_drawn" "_law_drawn" s_drawn a.f_drawn a.d_drawn
  m_drawn : mg "_law_drawn" = some (.ref a.f_drawn)
  F_text : Fun K "_law_text" "_law_text" s_text a.f_text a.d_text
  m_text : mg "_law_text" = some (.ref a.f_text)
  F_is : Fun K "_law_is" "_law_is" s_is a.f_is a.d_is
  m_is : mg "_law_is" = some (.ref a.f_is)
  F_plus : Fun K "_law_plus" "_law_plus" s_plus a.f_plus a.d_plus
  m_plus : mg "_law_plus" = some (.ref a.f_plus)
  F_times : Fun K "_law_times" "_law_times" s_times a.f_times a.d_times
  m_times : mg "_law_times" = some (.ref a.f_times)
  F_opposite : Fun K "_law_opposite" "_law_opposite" s_opposite a.f_opposite a.d_opposite
  m_opposite : mg "_law_opposite" = some (.ref a.f_opposite)
  F_step : Fun K "_law_step" "_law_step" s_step a.f_step a.d_step
  m_step : mg "_law_step" = some (.ref a.f_step)
  F_sums_right : Fun K "_law_sums_right" "_law_sums_right" s_sums_right a.f_sums_right a.d_sums_right
  m_sums_right : mg "_law_sums_right" = some (.ref a.f_sums_right)
  F_right : Fun K "_law_right" "_law_right" s_right a.f_right a.d_right
  m_right : mg "_law_right" = some (.ref a.f_right)
  F_law : Fun K "law" "law" s_law a.f_law a.d_law
  m_law : mg "law" = some (.ref a.f_law)
  cl : Cls K a.c_Amount
  nT : NoAttr K a.c_Amount "_top"
  nB : NoAttr K a.c_Amount "_bottom"
  mA : mg "Amount" = some (.ref a.c_Amount)
  mkA : Mk K a.c_Amount a.f_Amount_init_
  m_gcd : mg "gcd" = some (.builtin "math.gcd")
  I : Inst K a.c_Amount
  p_top : PropOf K a.c_Amount "top" a.p_top a.f_Amounttop
  p_bottom : PropOf K a.c_Amount "bottom" a.p_bottom a.f_Amountbottom
  p_sign : PropOf K a.c_Amount "sign" a.p_sign a.f_Amountsign
  gPart : ∃ t, mg "PART" = some (.int (10 ^ 60) t)
  gLen : ∃ t, mg "PART_LENGTH" = some (.int 60 t)
  oAdd : OwnBin K a.c_Amount .Add a.f_Amount_add_ a.f_Amount_radd_
  oSub : OwnBin K a.c_Amount .Sub a.f_Amount_sub_ a.f_Amount_rsub_
  oMul : OwnBin K a.c_Amount .Mult a.f_Amount_mul_ a.f_Amount_rmul_
  cNg : OwnM K a.c_Amount "__neg__" a.f_Amount_neg_
  cAb : OwnM K a.c_Amount "__abs__" a.f_Amount_abs_
  cBo : OwnM K a.c_Amount "__bool__" a.f_Amount_bool_
  cSt : OwnM K a.c_Amount "__str__" a.f_Amount_str_
  cRe : OwnM K a.c_Amount "__repr__" a.f_Amount_repr_
  mOver : Meth K a.c_Amount "over" a.f_Amountover
  cR : ClX.CRead K a.c_Amount (.type "type")
  cSum : ClX.CMet K a.c_Amount (.type "type") "sum_of" a.p_sum a.f_Amountsum_of
  b_len : mg "len" = none
  b_abs : mg "abs" = none
  b_max : mg "max" = none
  b_min : mg "min" = none
  b_int : mg "int" = none
  b_divmod : mg "divmod" = none
  b_all : mg "all" = none
  b_repr : mg "repr" = none
  b_isinstance : mg "isinstance" = none
  b_str : mg "str" = none
  b_range : mg "range" = none
  b_bool : mg "bool" = none
  b_sum : mg "sum" = none
theorem b_is_integer {K : PySem.W.Frag} {mg : Str → Option Value} {a : Ad} (T : Txt K mg a) : Binds K a.d_is_integer ["value"] [] := T.F_is_integer.binds (ps := ["value"]) fun _ _ _ _ _ _ us hl => match us, hl with | [_], _ => rfl
theorem b_is_amount {K : PySem.W.Frag} {mg : Str → Option Value} {a : Ad} (T : Txt K mg a) : Binds K a.d_is_amount ["value"] [] := T.F_is_amount.binds (ps := ["value"]) fun _ _ _ _ _ _ us hl => match us, hl with | [_], _ => rfl
theorem b_amount_of {K : PySem.W.Frag} {mg : Str → Option Value} {a : Ad} (T : Txt K mg a) : Binds K a.d_amount_of ["value"] [] := T.F_amount_of.binds (ps := ["value"]) fun _ _ _ _ _ _ us hl => match us, hl with | [_], _ => rfl
theorem b_decimal {K : PySem.W.Frag} {mg : Str → Option Value} {a : Ad} (T : Txt K mg a) : Binds K a.d_decimal ["number"] [] := T.F_decimal.binds (ps := ["number"]) fun _ _ _ _ _ _ us hl => match us, hl with | [_], _ => rfl
theorem b_Amount_init_ {K : PySem.W.Frag} {mg : Str → Option Value} {a : Ad} (T : Txt K mg a) : Binds K a.d_Amount_init_ ["self", "top", "bottom"] [] := by
  obtain ⟨ds, r, b⟩ := T.F_Amount_init_.binds1 (ps := ["self", "top", "bottom"]) 3 1 (by simp) rfl (fun _ _ _ _ _ _ _ us its h1 h2 => match us, its, h1, h2 with | [_, _, _], [_], _, _ => ⟨_, rfl, rfl⟩)
  cases r
  exact b
theorem b_Amounttop {K : PySem.W.Frag} {mg : Str → Option Value} {a : Ad} (T : Txt K mg a) : Binds K a.d_Amounttop ["self"] [] := T.F_Amounttop.binds (ps := ["self"]) fun _ _ _ _ _ _ us hl => match us, hl with | [_], _ => rfl
theorem b_Amountbottom {K : PySem.W.Frag} {mg : Str → Option Value} {a : Ad} (T : Txt K mg a) : Binds K a.d_Amountbottom ["self"] [] := T.F_Amountbottom.binds (ps := ["self"]) fun _ _ _ _ _ _ us hl => match us, hl with | [_], _ => rfl
theorem b_Amountsign {K : PySem.W.Frag} {mg : Str → Option Value} {a : Ad} (T : Txt K mg a) : Binds K a.d_Amountsign ["self"] [] := T.F_Amountsign.binds (ps := ["self"]) fun _ _ _ _ _ _ us hl => match us, hl with | [_], _ => rfl
theorem b_Amount_add_ {K : PySem.W.Frag} {mg : Str → Option Value} {a : Ad} (T : Txt K mg a) : Binds K a.d_Amount_add_ ["self", "other"] [] := T.F_Amount_add_.binds (ps := ["self", "other"]) fun _ _ _ _ _ _ us hl => match us, hl with | [_, _], _ => rfl
theorem b_Amount_radd_ {K : PySem.W.Frag} {mg : Str → Option Value} {a : Ad} (T : Txt K mg a) : Binds K a.d_Amount_radd_ ["self", "other"] [] := T.F_Amount_radd_.binds (ps := ["self", "other"]) fun _ _ _ _ _ _ us hl => match us, hl with | [_, _], _ => rfl
theorem b_Amount_sub_ {K : PySem.W.Frag} {mg : Str → Option Value} {a : Ad} (T : Txt K mg a) : Binds K a.d_Amount_sub_ ["self", "other"] [] := T.F_Amount_sub_.binds (ps := ["self", "other"]) fun _ _ _ _ _ _ us hl => match us, hl with | [_, _], _ => rfl
theorem b_Amount_rsub_ {K : PySem.W.Frag} {mg : Str → Option Value} {a : Ad} (T : Txt K mg a) : Binds K a.d_Amount_rsub_ ["self", "other"] [] := T.F_Amount_rsub_.binds (ps := ["self", "other"]) fun _ _ _ _ _ _ us hl => match us, hl with | [_, _], _ => rfl
theorem b_Amount_mul_ {K : PySem.W.Frag} {mg : Str → Option Value} {a : Ad} (T : Txt K mg a) : Binds K a.d_Amount_mul_ ["self", "other"] [] := T.F_Amount_mul_.binds (ps := ["self", "other"]) fun _ _ _ _ _ _ us hl => match us, hl with | [_, _], _ => rfl
theorem b_Amount_rmul_ {K : PySem.W.Frag} {mg : Str → Option Value} {a : Ad} (T : Txt K mg a) : Binds K a.d_Amount_rmul_ ["self", "other"] [] := T.F_Amount_rmul_.binds (ps := ["self", "other"]) fun _ _ _ _ _ _ us hl => match us, hl with | [_, _], _ => rfl
theorem b_Amountover {K : PySem.W.Frag} {mg : Str → Option Value} {a : Ad} (T : Txt K mg a) : Binds K a.d_Amountover ["self", "other"] [] := T.F_Amountover.binds (ps := ["self", "other"]) fun _ _ _ _ _ _ us hl => match us, hl with | [_, _], _ => rfl
theorem b_Amount_neg_ {K : PySem.W.Frag} {mg : Str → Option Value} {a : Ad} (T : Txt K mg a) : Binds K a.d_Amount_neg_ ["self"] [] := T.F_Amount_neg_.binds (ps := ["self"]) fun _ _ _ _ _ _ us hl => match us, hl with | [_], _ => rfl
theorem b_Amount_abs_ {K : PySem.W.Frag} {mg : Str → Option Value} {a : Ad} (T : Txt K mg a) : Binds K a.d_Amount_abs_ ["self"] [] := T.F_Amount_abs_.binds (ps := ["self"]) fun _ _ _ _ _ _ us hl => match us, hl with | [_], _ => rfl
theorem b_Amount_bool_ {K : PySem.W.Frag} {mg : Str → Option Value} {a : Ad} (T : Txt K mg a) : Binds K a.d_Amount_bool_ ["self"] [] := T.F_Amount_bool_.binds (ps := ["self"]) fun _ _ _ _ _ _ us hl => match us, hl with | [_], _ => rfl
theorem b_Amount_str_ {K : PySem.W.Frag} {mg : Str → Option Value} {a : Ad} (T : Txt K mg a) : Binds K a.d_Amount_str_ ["self"] [] := T.F_Amount_str_.binds (ps := ["self"]) fun _ _ _ _ _ _ us hl => match us, hl with | [_], _ => rfl
theorem b_Amount_repr_ {K : PySem.W.Frag} {mg : Str → Option Value} {a : Ad} (T : Txt K mg a) : Binds K a.d_Amount_repr_ ["self"] [] := T.F_Amount_repr_.binds (ps := ["self"]) fun _ _ _ _ _ _ us hl => match us, hl with | [_], _ => rfl
theorem b_pot {K : PySem.W.Frag} {mg : Str → Option Value} {a : Ad} (T : Txt K mg a) : Binds K a.d_pot ["_law_script", "_law_k"] [] := T.F_pot.binds (ps := ["_law_script", "_law_k"]) fun _ _ _ _ _ _ us hl => match us, hl with | [_, _], _ => rfl
theorem b_draw {K : PySem.W.Frag} {mg : Str → Option Value} {a : Ad} (T : Txt K mg a) : Binds K a.d_draw ["_law_pot_here", "_law_size"] [] := T.F_draw.binds (ps := ["_law_pot_here", "_law_size"]) fun _ _ _ _ _ _ us hl => match us, hl with | [_, _], _ => rfl
theorem b_choice {K : PySem.W.Frag} {mg : Str → Option Value} {a : Ad} (T : Txt K mg a) : Binds K a.d_choice ["_law_pot_here", "_law_some"] [] := T.F_choice.binds (ps := ["_law_pot_here", "_law_some"]) fun _ _ _ _ _ _ us hl => match us, hl with | [_, _], _ => rfl
theorem b_number {K : PySem.W.Frag} {mg : Str → Option Value} {a : Ad} (T : Txt K mg a) : Binds K a.d_number ["_law_pot_here", "_law_power"] [] := T.F_number.binds (ps := ["_law_pot_here", "_law_power"]) fun _ _ _ _ _ _ us hl => match us, hl with | [_, _], _ => rfl
theorem b_lowest {K : PySem.W.Frag} {mg : Str → Option Value} {a : Ad} (T : Txt K mg a) : Binds K a.d_lowest ["_law_high", "_law_low"] [] := T.F_lowest.binds (ps := ["_law_high", "_law_low"]) fun _ _ _ _ _ _ us hl => match us, hl with | [_, _], _ => rfl
theorem b_drawn {K : PySem.W.Frag} {mg : Str → Option Value} {a : Ad} (T : Txt K mg a) : Binds K a.d_drawn ["_law_pot_here"] [] := T.F_drawn.binds (ps := ["_law_pot_here"]) fun _ _ _ _ _ _ us hl => match us, hl with | [_], _ => rfl
theorem b_text {K : PySem.W.Frag} {mg : Str → Option Value} {a : Ad} (T : Txt K mg a) : Binds K a.d_text ["_law_due"] [] := T.F_text.binds (ps := ["_law_due"]) fun _ _ _ _ _ _ us hl => match us, hl with | [_], _ => rfl
theorem b_is {K : PySem.W.Frag} {mg : Str → Option Value} {a : Ad} (T : Txt K mg a) : Binds K a.d_is ["_law_made", "_law_due"] [] := T.F_is.binds (ps := ["_law_made", "_law_due"]) fun _ _ _ _ _ _ us hl => match us, hl with | [_, _], _ => rfl
theorem b_plus {K : PySem.W.Frag} {mg : Str → Option Value} {a : Ad} (T : Txt K mg a) : Binds K a.d_plus ["_law_one", "_law_more"] [] := T.F_plus.binds (ps := ["_law_one", "_law_more"]) fun _ _ _ _ _ _ us hl => match us, hl with | [_, _], _ => rfl
theorem b_times {K : PySem.W.Frag} {mg : Str → Option Value} {a : Ad} (T : Txt K mg a) : Binds K a.d_times ["_law_one", "_law_more"] [] := T.F_times.binds (ps := ["_law_one", "_law_more"]) fun _ _ _ _ _ _ us hl => match us, hl with | [_, _], _ => rfl
theorem b_opposite {K : PySem.W.Frag} {mg : Str → Option Value} {a : Ad} (T : Txt K mg a) : Binds K a.d_opposite ["_law_one"] [] := T.F_opposite.binds (ps := ["_law_one"]) fun _ _ _ _ _ _ us hl => match us, hl with | [_], _ => rfl
theorem b_step {K : PySem.W.Frag} {mg : Str → Option Value} {a : Ad} (T : Txt K mg a) : Binds K a.d_step ["_law_way", "_law_here", "_law_due", "_law_more", "_law_beside"] [] := T.F_step.binds (ps := ["_law_way", "_law_here", "_law_due", "_law_more", "_law_beside"]) fun _ _ _ _ _ _ us hl => match us, hl with | [_, _, _, _, _], _ => rfl
theorem b_sums_right {K : PySem.W.Frag} {mg : Str → Option Value} {a : Ad} (T : Txt K mg a) : Binds K a.d_sums_right ["_law_rows"] [] := T.F_sums_right.binds (ps := ["_law_rows"]) fun _ _ _ _ _ _ us hl => match us, hl with | [_], _ => rfl
theorem b_right {K : PySem.W.Frag} {mg : Str → Option Value} {a : Ad} (T : Txt K mg a) : Binds K a.d_right ["_law_pot_here"] [] := T.F_right.binds (ps := ["_law_pot_here"]) fun _ _ _ _ _ _ us hl => match us, hl with | [_], _ => rfl
theorem b_law {K : PySem.W.Frag} {mg : Str → Option Value} {a : Ad} (T : Txt K mg a) : Binds K a.d_law ["_law_script"] [] := T.F_law.binds (ps := ["_law_script"]) fun _ _ _ _ _ _ us hl => match us, hl with | [_], _ => rfl
end K11

set_option Elab.async false
set_option linter.all false
set_option maxRecDepth 100000
set_option maxHeartbeats 4000000
namespace K11
open PySem L2 Lb
open C8 (pss_cut)
theorem b1_Amount_init_ {K : PySem.W.Frag} {mg : Str → Option Value} {a : Ad} (T : Txt K mg a) : ∃ ds, Vals [V.int 1] ds ∧ Binds K a.d_Amount_init_ ["self", "top", "bottom"] ds := by
  obtain ⟨ds, r, b⟩ := T.F_Amount_init_.binds1 (ps := ["self", "top", "bottom"]) 2 0 (by simp) rfl (fun _ _ _ _ _ _ _ us its h1 h2 => match us, its, h1, h2 with | [_, _], [_], _, _ => ⟨_, rfl, rfl⟩)
  exact ⟨ds, r, b⟩
theorem kb_Amount_init_ {K : PySem.W.Frag} {mg : Str → Option Value} {a : Ad} (T : Txt K mg a) : ∃ its : List Value, KBn K a.d_Amount_init_ ["self", "top", "bottom"] 1 ["bottom", "top"] (fun us ws => us ++ ws.reverse) (fun vs zs => vs ++ zs.reverse) := by
  obtain ⟨its, h⟩ := T.F_Amount_init_.kbindsD (ps := ["self", "top", "bottom"]) 1 ["bottom", "top"] (fun us _ ws => us ++ ws.reverse) (by simp) (fun r1 _ r3 => r1.append (vals_rev r3))
    (fun _ _ _ _ _ _ _ us its ws h1 h2 h3 => match us, its, ws, h1, h2, h3 with | [_], [_], [_, _], _, _, _ => ⟨_, rfl, rfl⟩)
  exact ⟨its, h⟩
theorem kb_amount_of {K : PySem.W.Frag} {mg : Str → Option Value} {a : Ad} (T : Txt K mg a) : KBn K a.d_amount_of ["value"] 0 ["value"] (fun us ws => us ++ ws) (fun vs zs => vs ++ zs) :=
  kbn_of T.F_amount_of fun _ _ _ _ _ _ us ws h1 h2 => match us, ws, h1, h2 with | [], [_], _, _ => rfl
theorem kb_Amountover {K : PySem.W.Frag} {mg : Str → Option Value} {a : Ad} (T : Txt K mg a) : KBn K a.d_Amountover ["self", "other"] 1 ["other"] (fun us ws => us ++ ws) (fun vs zs => vs ++ zs) :=
  kbn_of T.F_Amountover fun _ _ _ _ _ _ us ws h1 h2 => match us, ws, h1, h2 with | [_], [_], _, _ => rfl
theorem tb_ : ¬ (("_bottom" : Str) = "_top") := by decide +kernel
theorem bt_ : ¬ (("_top" : Str) = "_bottom") := by decide +kernel
def am (t b : Int) : List (Str × V) := putF "_bottom" (.int b) (putF "_top" (.int t) [])
theorem am_top (t b : Int) : (am t b).lookup ("_top" : Str) = some (.int t) := by
  unfold am
  rw [lookup_putF, if_neg bt_, lookup_putF, if_pos rfl]
theorem am_bot (t b : Int) : (am t b).lookup ("_bottom" : Str) = some (.int b) := by
  unfold am
  rw [lookup_putF, if_pos rfl]
theorem am_no (t b : Int) {m : Str} (h1 : ¬ m = "_bottom") (h2 : ¬ m = "_top") : (am t b).lookup m = none := by
  unfold am
  rw [lookup_putF, if_neg h1, lookup_putF, if_neg h2]
  all_goals rfl
def AmAt (C : Addr) (H : Hp) (q : Addr) (t b : Int) : Prop := ∃ dx, H q = some (.ins C dx (am t b))
theorem AmAt.same {C p : Addr} {H H' : Hp} {t b : Int} (h : AmAt C H p t b) (s : Same H H') : AmAt C H' p t b := let ⟨dx, e⟩ := h; ⟨dx, s _ _ e⟩
def rdD (t b : Int) : Int := if b < 0 then -((Nat.gcd t.natAbs b.natAbs : Nat) : Int) else ((Nat.gcd t.natAbs b.natAbs : Nat) : Int)
def rdT (t b : Int) : Int := t.fdiv (rdD t b)
def rdB (t b : Int) : Int := b.fdiv (rdD t b)
theorem bd_one {n : Nat} : Bd (n + 1) 1 := by
  show 1 < 2 ^ (n + 1)
  exact Nat.one_lt_two_pow (Nat.succ_ne_zero n)
theorem rdT_one (t : Int) : rdT t 1 = t := by
  unfold rdT rdD
  simp [Int.fdiv_one]
theorem rdB_one (t : Int) : rdB t 1 = 1 := by
  unfold rdB rdD
  simp [Int.fdiv_one]
/-- what is passed: an int or an amount -/
def IsP (C : Addr) (H : Hp) (v : V) (t b : Int) : Prop := (v = .int t ∧ b = 1) ∨ ∃ q, v = .ref q ∧ AmAt C H q t b
theorem IsP.same {C : Addr} {v : V} {H H' : Hp} {t b : Int} (h : IsP C H v t b) (s : Same H H') : IsP C H' v t b := by
  rcases h with h | ⟨q, e, h⟩
  · exact .inl h
  · exact .inr ⟨q, e, h.same s⟩
theorem IsP.bin {C : Addr} {v : V} {H : Hp} {t b : Int} (h : IsP C H v t b) : (∃ m, v = V.int m) ∨ ∃ q dy fy, v = V.ref q ∧ H q = some (.ins C dy fy) := by
  rcases h with ⟨e, _⟩ | ⟨q, e, dx, h⟩
  · exact .inl ⟨_, e⟩
  · exact .inr ⟨q, dx, _, e, h⟩
def sp_is_integer (C : Addr) : Sp := fun vs H Q _ => ∃ v t b, vs = [v] ∧ IsP C H v t b ∧ (v = .int t → Q (.bl true) H) ∧ ((∃ q, v = .ref q) → Q (.bl false) H)
def sp_is_amount (C : Addr) : Sp := fun vs H Q _ => ∃ v t b, vs = [v] ∧ IsP C H v t b ∧ Q (.bl true) H
def sp_amount_of (C : Addr) : Sp := fun vs H Q _ => ∃ v t b, vs = [v] ∧ IsP C H v t b ∧ Bd 8000 t ∧ ∀ H' q, Same H H' → AmAt C H' q t b → Q (.ref q) H'
def sp_Amount_init_ (C : Addr) : Sp := fun vs H Q _ => ∃ (q dx : Addr) (t b : Int), vs = [.ref q, .int t, .int b] ∧ b ≠ 0 ∧ Bd 8000 t ∧ Bd 8000 b ∧ H q = some (.ins C dx []) ∧
  ∀ H', (∀ x o, x ≠ q → H x = some o → H' x = some o) → H' q = some (.ins C dx (am (rdT t b) (rdB t b))) → Q .non H'
/-- what C(t, b) gives -/
theorem made_am {C : Addr} {H : Hp} {x dx : Addr} {H' : Hp} {t b : Int} (h1 : H x = none) (h2 : H dx = none) (ne : dx ≠ x) (k : ∀ y o, y ≠ x → (upd (upd H dx (.own x)) x (.ins C dx [])) y = some o → H' y = some o) (e : H' x = some (.ins C dx (am t b))) :
    Same H H' ∧ AmAt C H' x t b := by
  refine ⟨fun y o hy => k y o (ne_of_none hy h1) ?_, dx, e⟩
  rw [upd_ne (ne_of_none hy h1), upd_ne (ne_of_none hy h2)]
  exact hy
section
variable {P : Program} {w : World} {K : PySem.W.Frag} {mg : Str → Option Value} {base : Heap} {a : Ad}
theorem ok_is_integer (T : Txt K mg a) : FnOk P w K mg base CX0 1 a.f_is_integer a.d_is_integer ["value"] (sp_is_integer a.c_Amount) := by
  refine T.F_is_integer.ok sc_is_integer (fun vs H Q E h => ?_) (fun cdv A outer s H vs Q E hr h => ?_)
  · obtain ⟨v, t, b, rfl, _⟩ := h
    rfl
  · obtain ⟨v, t, b, rfl, hv, k1, k2⟩ := h
    refine ⟨_, (pss_one (ps_ret (pe_and (pe_callB (call_isiK' (K := K) rfl) (by rfl) T.b_isinstance (by decide +kernel) (pa_cons (pv 0) (pa_cons (pe_bltn (v := .ty "int") (by rfl) T.b_int (by decide +kernel) rfl) pa_nil))) (pe_one (pe_not (pe_callB (call_isiK' (K := K) rfl) (by rfl) T.b_isinstance (by decide +kernel) (pa_cons (pv 0) (pa_cons (pe_bltn (v := .ty "bool") (by rfl) T.b_bool (by decide +kernel) rfl) pa_nil)))))))), ?_⟩
    rcases hv with ⟨rfl, _⟩ | ⟨q, rfl, dx, hq⟩
    · refine ⟨_, rfl, _, _, _, _, true, rfl, .ty _, .base (.int _), kit_ty (by decide +kernel), true, rfl, iteT ?_⟩
      exact ⟨_, rfl, _, _, _, _, false, rfl, .ty _, .base (.int _), kit_ty (by decide +kernel), false, rfl, k1 rfl⟩
    · refine ⟨_, rfl, _, _, _, _, false, rfl, .ty _, .base (T.I.ty T.cl hq), kit_of_own (by decide +kernel) T.oAdd.ss2, false, rfl, iteF ?_⟩
      exact k2 ⟨q, rfl⟩
theorem ok_is_amount (T : Txt K mg a) : FnOk P w K mg base CX0 2 a.f_is_amount a.d_is_amount ["value"] (sp_is_amount a.c_Amount) := by
  refine T.F_is_amount.ok sc_is_amount (fun vs H Q E h => ?_) (fun cdv A outer s H vs Q E hr h => ?_)
  · obtain ⟨v, t, b, rfl, _⟩ := h
    rfl
  · obtain ⟨v, t, b, rfl, hv, k⟩ := h
    refine ⟨_, (pss_one (ps_ret (pe_or (pe_call (ok_is_integer T) (hr.mono (by decide)) (by rfl) T.m_is_integer T.F_is_integer.kp (b_is_integer T) .nil pass0 (pa_cons (pv 0) pa_nil)) (pe_one (pe_callB (call_isiK' (K := K) rfl) (by rfl) T.b_isinstance (by decide +kernel) (pa_cons (pv 0) (pa_cons (pe_glob (v := .ref a.c_Amount) rfl T.mA rfl) pa_nil))))))), ?_⟩
    refine ⟨_, rfl, v, t, b, rfl, hv, fun e => ⟨true, rfl, iteT k⟩, fun ⟨q, e⟩ => ⟨false, rfl, iteF ?_⟩⟩
    subst e
    rcases hv with ⟨e, _⟩ | ⟨q', e, dx, hq⟩
    · cases e
    · cases e
      exact ⟨_, rfl, _, _, _, _, true, rfl, .own _, .base (T.I.ty T.cl hq), Inst.kSelf, k⟩
theorem ok_Amount_init_ (T : Txt K mg a) : FnOk P w K mg base CX0 2 a.f_Amount_init_ a.d_Amount_init_ ["self", "top", "bottom"] (sp_Amount_init_ a.c_Amount) := by
  refine T.F_Amount_init_.ok sc_Amount_init_ (fun vs H Q E h => ?_) (fun cdv A outer s H vs Q E hr h => ?_)
  · obtain ⟨q, dx, t, b, rfl, _⟩ := h
    rfl
  · obtain ⟨q, dx, t, b, rfl, hb, bt, bb, hq, k⟩ := h
    refine ⟨_, (pss_cons (ps_if (pt_not (pt_val (pe_call (ok_is_integer T) (hr.mono (by decide)) (by rfl) T.m_is_integer T.F_is_integer.kp (b_is_integer T) .nil pass0 (pa_cons (pv 1) pa_nil)))) (pss_one ps_never) pss_nil)
 (pss_cons (ps_if (PW.pt (pw_or (pt_not (pt_val (pe_call (ok_is_integer T) (hr.mono (by decide)) (by rfl) T.m_is_integer T.F_is_integer.kp (b_is_integer T) .nil pass0 (pa_cons (pv 2) pa_nil)))) (pw_or1 (pt_cmpR op_eq (pv 2) pe_int (nomark _))))) (pss_one ps_never) pss_nil)
 (pss_cons (ps_set (i := 3) sc_Amount_init_.nd rfl (by first | exact Or.inl rfl | exact Or.inr rfl) (pe_callBfun cr_gcd (by rfl) T.m_gcd (pa_cons (pv 1) (pa_cons (pv 2) pa_nil))))
 (pss_cut (ps_if (pt_cmpR op_lt (pv 2) pe_int (nomark _)) (pss_one (ps_set (i := 3) sc_Amount_init_.nd rfl (by first | exact Or.inl rfl | exact Or.inr rfl) (pe_un un_neg (pv 3)))) pss_nil)
 (pss_cons (ps_fldK (K := K) rfl (pv 0) (pe_op op_fdivX (pv 1) (pv 3)) rfl)
 (pss_one (ps_fldK (K := K) rfl (pv 0) (pe_op op_fdivX (pv 2) (pv 3)) rfl))))))), ?_⟩
    refine ⟨_, rfl, _, t, 1, rfl, .inl ⟨rfl, rfl⟩, fun _ => ⟨true, rfl, iteF ?_⟩, fun ⟨_, e⟩ => nomatch e⟩
    refine ⟨_, rfl, _, b, 1, rfl, .inl ⟨rfl, rfl⟩, fun _ => ⟨true, rfl, iteF ?_⟩, fun ⟨_, e⟩ => nomatch e⟩
    refine ⟨_, rfl, rfl, _, rfl, iteN ?_ ?_⟩
    · intro z
      have z := of_decide_eq_true z
      injection z with z
      exact hb z
    refine ⟨_, rfl, _, rfl, _, _, rfl, ?_⟩
    refine ⟨fun σ H' => H' = H ∧ σ = [some (.ref q), some (.int t), some (.int b), some (.int (rdD t b))], ?_, ?_⟩
    · refine ⟨_, rfl, _, _, rfl, rfl, _, rfl, ?_⟩
      refine ite2 (fun h1 => ?_) (fun h1 => ?_)
      · have h1 : b < 0 := by simpa using h1
        refine ⟨_, rfl, _, rfl, rfl, ?_⟩
        unfold rdD
        rw [if_pos h1]
        rfl
      · have h1 : ¬ b < 0 := by simpa using h1
        refine ⟨rfl, ?_⟩
        unfold rdD
        rw [if_neg h1]
        rfl
    rintro σ H' ⟨rfl, rfl⟩
    have hd : rdD t b ≠ 0 := by
      have : 0 < Nat.gcd t.natAbs b.natAbs := Nat.gcd_pos_of_pos_right _ (by omega)
      unfold rdD
      split <;> omega
    have bd : Bd 8000 (rdD t b) := by
      have : Nat.gcd t.natAbs b.natAbs ≤ b.natAbs := Nat.gcd_le_right _ (by omega)
      refine bb.le ?_
      unfold rdD
      split <;> omega
    refine ⟨_, rfl, _, rfl, _, _, rfl, rfl, bd.cx hd (by decide), _, rfl, q, _, dx, _, rfl, hq, T.cl, T.nT, (by show 0 < 1000; decide), ?_⟩
    refine ⟨_, rfl, _, rfl, _, _, rfl, rfl, bd.cx hd (by decide), _, rfl, q, _, dx, _, rfl, upd_same, T.cl, T.nB, (by show 1 < 1000; decide), ?_⟩
    refine k _ (fun x o n e => ?_) ?_
    · rw [upd_ne n, upd_ne n]
      exact e
    · rw [upd_same]
      rfl
theorem ok_amount_of (T : Txt K mg a) : FnOk P w K mg base CX0 4 a.f_amount_of a.d_amount_of ["value"] (sp_amount_of a.c_Amount) := by
  refine T.F_amount_of.ok sc_amount_of (fun vs H Q E h => ?_) (fun cdv A outer s H vs Q E hr h => ?_)
  · obtain ⟨v, t, b, rfl, _⟩ := h
    rfl
  · obtain ⟨v, t, b, rfl, hv, bt, k⟩ := h
    refine ⟨_, (pss_cons (ps_if (pt_val (pe_callB (call_isiK' (K := K) rfl) (by rfl) T.b_isinstance (by decide +kernel) (pa_cons (pv 0) (pa_cons (pe_glob (v := .ref a.c_Amount) rfl T.mA rfl) pa_nil)))) (pss_one (ps_ret (pv 0))) pss_nil)
 (pss_cons (ps_if (pt_val (pe_call (ok_is_integer T) (hr.mono (by decide)) (by rfl) T.m_is_integer T.F_is_integer.kp (b_is_integer T) .nil pass0 (pa_cons (pv 0) pa_nil))) (pss_one (ps_ret (pe_make T.mkA (ok_Amount_init_ T) (hr.mono (by decide)) (by rfl) T.mA (b1_Amount_init_ T).choose_spec.2 (b1_Amount_init_ T).choose_spec.1 pass0 (pa_cons (pv 0) pa_nil)))) pss_nil)
 (pss_one ps_never))), ?_⟩
    rcases id hv with ⟨rfl, rfl⟩ | ⟨q, rfl, dx, hq⟩
    · refine ⟨_, rfl, _, _, _, _, false, rfl, .own _, .base (.int _), T.I.kInt, false, rfl, iteF ?_⟩
      refine ⟨_, rfl, _, t, 1, rfl, hv, fun _ => ⟨true, rfl, iteT ?_⟩, fun ⟨_, e⟩ => nomatch e⟩
      refine ⟨_, rfl, fun x dx hx hdx ne => ⟨x, dx, t, 1, rfl, by decide, bt, bd_one, upd_same, fun H' kp e => ⟨rfl, ?_⟩⟩⟩
      rw [rdT_one, rdB_one] at e
      obtain ⟨s, m⟩ := made_am hx hdx ne kp e
      exact k _ _ s m
    · refine ⟨_, rfl, _, _, _, _, true, rfl, .own _, .base (T.I.ty T.cl hq), Inst.kSelf, true, rfl, iteT ?_⟩
      exact ⟨_, rfl, k _ _ (Same.refl _) ⟨dx, hq⟩⟩
end
end K11

set_option Elab.async false
set_option linter.all false
set_option maxRecDepth 100000
set_option maxHeartbeats 4000000
set_option exponentiation.threshold 10000
namespace K11
open PySem L2 Lb
abbrev I4 := Int → Int → Int → Int → Int
def sp_bin (C : Addr) (f g : I4) : Sp := fun vs H Q _ => ∃ p v t b t' b', vs = [.ref p, v] ∧ AmAt C H p t b ∧ IsP C H v t' b' ∧ Bd 3000 t ∧ Bd 3000 b ∧ Bd 3000 t' ∧ Bd 3000 b' ∧ g t b t' b' ≠ 0 ∧
  ∀ H' q, Same H H' → AmAt C H' q (rdT (f t b t' b') (g t b t' b')) (rdB (f t b t' b') (g t b t' b')) → Q (.ref q) H'
def fAdd : I4 := fun t b t' b' => t * b' + t' * b
def gBot : I4 := fun _ b _ b' => b * b'
def fSub : I4 := fun t b t' b' => t * b' - t' * b
def fMul : I4 := fun t _ t' _ => t * t'
def fOver : I4 := fun t _ _ b' => t * b'
def gOver : I4 := fun _ b t' _ => b * t'
def sw (f : I4) : I4 := fun t b t' b' => f t' b' t b
def sp_un (C : Addr) (f : Int → Int) : Sp := fun vs H Q _ => ∃ p t b, vs = [.ref p] ∧ AmAt C H p t b ∧ Bd 3000 t ∧ Bd 3000 b ∧ b ≠ 0 ∧
  ∀ H' q, Same H H' → AmAt C H' q (rdT (f t) b) (rdB (f t) b) → Q (.ref q) H'
def sp_get (C : Addr) (f : Int → Int → V) : Sp := fun vs H Q _ => ∃ p t b, vs = [.ref p] ∧ AmAt C H p t b ∧ Q (f t b) H
def sg (t : Int) : Int := if t = 0 then 0 else if t > 0 then 1 else -1
section
variable {P : Program} {w : World} {K : PySem.W.Frag} {mg : Str → Option Value} {base : Heap} {a : Ad}
theorem ok_Amounttop (T : Txt K mg a) : FnOk P w K mg base CX0 1 a.f_Amounttop a.d_Amounttop ["self"] (sp_get a.c_Amount fun t _ => .int t) := by
  refine T.F_Amounttop.ok sc_Amounttop (fun vs H Q E h => ?_) (fun cdv A outer s H vs Q E hr h => ?_)
  · obtain ⟨p, t, b, rfl, _⟩ := h
    rfl
  · obtain ⟨p, t, b, rfl, ⟨dx, hp⟩, k⟩ := h
    refine ⟨_, (pss_one (ps_ret (pe_fldK (K := K) rfl (pv 0) rfl))), ?_⟩
    exact ⟨_, rfl, p, _, dx, _, _, rfl, hp, T.cl, T.nT, am_top _ _, k⟩
theorem ok_Amountbottom (T : Txt K mg a) : FnOk P w K mg base CX0 1 a.f_Amountbottom a.d_Amountbottom ["self"] (sp_get a.c_Amount fun _ b => .int b) := by
  refine T.F_Amountbottom.ok sc_Amountbottom (fun vs H Q E h => ?_) (fun cdv A outer s H vs Q E hr h => ?_)
  · obtain ⟨p, t, b, rfl, _⟩ := h
    rfl
  · obtain ⟨p, t, b, rfl, ⟨dx, hp⟩, k⟩ := h
    refine ⟨_, (pss_one (ps_ret (pe_fldK (K := K) rfl (pv 0) rfl))), ?_⟩
    exact ⟨_, rfl, p, _, dx, _, _, rfl, hp, T.cl, T.nB, am_bot _ _, k⟩
theorem ok_Amountsign (T : Txt K mg a) : FnOk P w K mg base CX0 1 a.f_Amountsign a.d_Amountsign ["self"] (sp_get a.c_Amount fun t _ => .int (sg t)) := by
  refine T.F_Amountsign.ok sc_Amountsign (fun vs H Q E h => ?_) (fun cdv A outer s H vs Q E hr h => ?_)
  · obtain ⟨p, t, b, rfl, _⟩ := h
    rfl
  · obtain ⟨p, t, b, rfl, ⟨dx, hp⟩, k⟩ := h
    refine ⟨_, (pss_cons (ps_if (pt_cmpR op_eq (pe_fldK (K := K) rfl (pv 0) rfl) pe_int (nomark _)) (pss_one (ps_ret pe_int)) pss_nil)
 (pss_one (ps_ret (pe_ifExp (pt_cmpR op_gt (pe_fldK (K := K) rfl (pv 0) rfl) pe_int (nomark _)) pe_int (pe_un un_neg pe_int))))), ?_⟩
    unfold sg at k
    dsimp only at k
    refine ⟨_, rfl, p, _, dx, _, _, rfl, hp, T.cl, T.nT, am_top _ _, rfl, _, rfl, ite2 (fun h1 => ?_) (fun h1 => ?_)⟩
    · rw [if_pos (by simpa using h1)] at k
      exact k
    · rw [if_neg (by simpa using h1)] at k
      refine ⟨_, rfl, p, _, dx, _, _, rfl, hp, T.cl, T.nT, am_top _ _, _, _, rfl, rfl, _, rfl, ite2 (fun h2 => ?_) (fun h2 => ?_)⟩
      · rw [if_pos (by simpa using h2)] at k
        exact k
      · rw [if_neg (by simpa using h2)] at k
        exact ⟨_, rfl, k⟩
theorem ok_Amount_bool_ (T : Txt K mg a) : FnOk P w K mg base CX0 1 a.f_Amount_bool_ a.d_Amount_bool_ ["self"] (sp_get a.c_Amount fun t _ => .bl (t != 0)) := by
  refine T.F_Amount_bool_.ok sc_Amount_bool_ (fun vs H Q E h => ?_) (fun cdv A outer s H vs Q E hr h => ?_)
  · obtain ⟨p, t, b, rfl, _⟩ := h
    rfl
  · obtain ⟨p, t, b, rfl, ⟨dx, hp⟩, k⟩ := h
    refine ⟨_, (pss_one (ps_ret (pe_callTy call_bool1 (by rfl) T.b_bool (by decide +kernel) (pa_cons (pe_fldK (K := K) rfl (pv 0) rfl) pa_nil)))), ?_⟩
    exact ⟨_, rfl, p, _, dx, _, _, rfl, hp, T.cl, T.nT, am_top _ _, .inl ⟨t, rfl, k⟩⟩
theorem ok_Amount_add_ (T : Txt K mg a) : FnOk P w K mg base CX0 5 a.f_Amount_add_ a.d_Amount_add_ ["self", "other"] (sp_bin a.c_Amount fAdd gBot) := by
  refine T.F_Amount_add_.ok sc_Amount_add_ (fun vs H Q E h => ?_) (fun cdv A outer s H vs Q E hr h => ?_)
  · obtain ⟨p, v, t, b, t', b', rfl, _⟩ := h
    rfl
  · obtain ⟨p, v, t, b, t', b', rfl, ⟨dx, hp⟩, hv, bt, bb, bt', bb', g0, k⟩ := h
    refine ⟨_, (pss_cons (ps_if (pt_not (pt_val (pe_call (ok_is_amount T) (hr.mono (by decide)) (by rfl) T.m_is_amount T.F_is_amount.kp (b_is_amount T) .nil pass0 (pa_cons (pv 1) pa_nil)))) (pss_one ps_never) pss_nil)
 (pss_cons (ps_set (i := 2) sc_Amount_add_.nd rfl (by first | exact Or.inl rfl | exact Or.inr rfl) (pe_call (ok_amount_of T) (hr.mono (by decide)) (by rfl) T.m_amount_of T.F_amount_of.kp (b_amount_of T) .nil pass0 (pa_cons (pv 1) pa_nil)))
 (pss_one (ps_ret (pe_make T.mkA (ok_Amount_init_ T) (hr.mono (by decide)) (by rfl) T.mA (b_Amount_init_ T) .nil pass0 (pa_cons (pe_op op_add (pe_op op_mulX (pe_fldK (K := K) rfl (pv 0) rfl) (pe_fldK (K := K) rfl (pv 2) rfl)) (pe_op op_mulX (pe_fldK (K := K) rfl (pv 2) rfl) (pe_fldK (K := K) rfl (pv 0) rfl))) (pa_cons (pe_op op_mulX (pe_fldK (K := K) rfl (pv 0) rfl) (pe_fldK (K := K) rfl (pv 2) rfl)) pa_nil))))))), ?_⟩
    refine ⟨_, rfl, v, t', b', rfl, hv, true, rfl, iteF ?_⟩
    refine ⟨_, rfl, v, t', b', rfl, hv, bt'.mono (by decide), fun H1 q s1 ⟨dy, hq⟩ => ?_⟩
    have hp := s1 _ _ hp
    refine ⟨_, rfl, p, _, dx, _, _, rfl, hp, T.cl, T.nT, am_top _ _, _, rfl, q, _, dy, _, _, rfl, hq, T.cl, T.nB, am_bot _ _, _, _, rfl, rfl, bt.cm bb' (by decide), ?_⟩
    refine ⟨_, rfl, q, _, dy, _, _, rfl, hq, T.cl, T.nT, am_top _ _, _, rfl, p, _, dx, _, _, rfl, hp, T.cl, T.nB, am_bot _ _, _, _, rfl, rfl, bt'.cm bb (by decide), _, _, rfl, rfl, ?_⟩
    refine ⟨_, rfl, p, _, dx, _, _, rfl, hp, T.cl, T.nB, am_bot _ _, _, rfl, q, _, dy, _, _, rfl, hq, T.cl, T.nB, am_bot _ _, _, _, rfl, rfl, bb.cm bb' (by decide), ?_⟩
    refine fun x dz hx hdx ne => ⟨x, dz, _, _, rfl, g0, ((bt.mul bb').add (bt'.mul bb)).mono (by decide), (bb.mul bb').mono (by decide), upd_same, fun H' kp e => ⟨rfl, ?_⟩⟩
    obtain ⟨s, m⟩ := made_am hx hdx ne kp e
    exact k _ _ (s1.trans s) m
theorem ok_Amount_sub_ (T : Txt K mg a) : FnOk P w K mg base CX0 5 a.f_Amount_sub_ a.d_Amount_sub_ ["self", "other"] (sp_bin a.c_Amount fSub gBot) := by
  refine T.F_Amount_sub_.ok sc_Amount_sub_ (fun vs H Q E h => ?_) (fun cdv A outer s H vs Q E hr h => ?_)
  · obtain ⟨p, v, t, b, t', b', rfl, _⟩ := h
    rfl
  · obtain ⟨p, v, t, b, t', b', rfl, ⟨dx, hp⟩, hv, bt, bb, bt', bb', g0, k⟩ := h
    refine ⟨_, (pss_cons (ps_if (pt_not (pt_val (pe_call (ok_is_amount T) (hr.mono (by decide)) (by rfl) T.m_is_amount T.F_is_amount.kp (b_is_amount T) .nil pass0 (pa_cons (pv 1) pa_nil)))) (pss_one ps_never) pss_nil)
 (pss_cons (ps_set (i := 2) sc_Amount_sub_.nd rfl (by first | exact Or.inl rfl | exact Or.inr rfl) (pe_call (ok_amount_of T) (hr.mono (by decide)) (by rfl) T.m_amount_of T.F_amount_of.kp (b_amount_of T) .nil pass0 (pa_cons (pv 1) pa_nil)))
 (pss_one (ps_ret (pe_make T.mkA (ok_Amount_init_ T) (hr.mono (by decide)) (by rfl) T.mA (b_Amount_init_ T) .nil pass0 (pa_cons (pe_op op_sub (pe_op op_mulX (pe_fldK (K := K) rfl (pv 0) rfl) (pe_fldK (K := K) rfl (pv 2) rfl)) (pe_op op_mulX (pe_fldK (K := K) rfl (pv 2) rfl) (pe_fldK (K := K) rfl (pv 0) rfl))) (pa_cons (pe_op op_mulX (pe_fldK (K := K) rfl (pv 0) rfl) (pe_fldK (K := K) rfl (pv 2) rfl)) pa_nil))))))), ?_⟩
    refine ⟨_, rfl, v, t', b', rfl, hv, true, rfl, iteF ?_⟩
    refine ⟨_, rfl, v, t', b', rfl, hv, bt'.mono (by decide), fun H1 q s1 ⟨dy, hq⟩ => ?_⟩
    have hp := s1 _ _ hp
    refine ⟨_, rfl, p, _, dx, _, _, rfl, hp, T.cl, T.nT, am_top _ _, _, rfl, q, _, dy, _, _, rfl, hq, T.cl, T.nB, am_bot _ _, _, _, rfl, rfl, bt.cm bb' (by decide), ?_⟩
    refine ⟨_, rfl, q, _, dy, _, _, rfl, hq, T.cl, T.nT, am_top _ _, _, rfl, p, _, dx, _, _, rfl, hp, T.cl, T.nB, am_bot _ _, _, _, rfl, rfl, bt'.cm bb (by decide), _, _, rfl, rfl, ?_⟩
    refine ⟨_, rfl, p, _, dx, _, _, rfl, hp, T.cl, T.nB, am_bot _ _, _, rfl, q, _, dy, _, _, rfl, hq, T.cl, T.nB, am_bot _ _, _, _, rfl, rfl, bb.cm bb' (by decide), ?_⟩
    refine fun x dz hx hdx ne => ⟨x, dz, _, _, rfl, g0, ((bt.mul bb').sub (bt'.mul bb)).mono (by decide), (bb.mul bb').mono (by decide), upd_same, fun H' kp e => ⟨rfl, ?_⟩⟩
    obtain ⟨s, m⟩ := made_am hx hdx ne kp e
    exact k _ _ (s1.trans s) m
theorem ok_Amount_mul_ (T : Txt K mg a) : FnOk P w K mg base CX0 5 a.f_Amount_mul_ a.d_Amount_mul_ ["self", "other"] (sp_bin a.c_Amount fMul gBot) := by
  refine T.F_Amount_mul_.ok sc_Amount_mul_ (fun vs H Q E h => ?_) (fun cdv A outer s H vs Q E hr h => ?_)
  · obtain ⟨p, v, t, b, t', b', rfl, _⟩ := h
    rfl
  · obtain ⟨p, v, t, b, t', b', rfl, ⟨dx, hp⟩, hv, bt, bb, bt', bb', g0, k⟩ := h
    refine ⟨_, (pss_cons (ps_if (pt_not (pt_val (pe_call (ok_is_amount T) (hr.mono (by decide)) (by rfl) T.m_is_amount T.F_is_amount.kp (b_is_amount T) .nil pass0 (pa_cons (pv 1) pa_nil)))) (pss_one ps_never) pss_nil)
 (pss_cons (ps_set (i := 2) sc_Amount_mul_.nd rfl (by first | exact Or.inl rfl | exact Or.inr rfl) (pe_call (ok_amount_of T) (hr.mono (by decide)) (by rfl) T.m_amount_of T.F_amount_of.kp (b_amount_of T) .nil pass0 (pa_cons (pv 1) pa_nil)))
 (pss_one (ps_ret (pe_make T.mkA (ok_Amount_init_ T) (hr.mono (by decide)) (by rfl) T.mA (b_Amount_init_ T) .nil pass0 (pa_cons (pe_op op_mulX (pe_fldK (K := K) rfl (pv 0) rfl) (pe_fldK (K := K) rfl (pv 2) rfl)) (pa_cons (pe_op op_mulX (pe_fldK (K := K) rfl (pv 0) rfl) (pe_fldK (K := K) rfl (pv 2) rfl)) pa_nil))))))), ?_⟩
    refine ⟨_, rfl, v, t', b', rfl, hv, true, rfl, iteF ?_⟩
    refine ⟨_, rfl, v, t', b', rfl, hv, bt'.mono (by decide), fun H1 q s1 ⟨dy, hq⟩ => ?_⟩
    have hp := s1 _ _ hp
    refine ⟨_, rfl, p, _, dx, _, _, rfl, hp, T.cl, T.nT, am_top _ _, _, rfl, q, _, dy, _, _, rfl, hq, T.cl, T.nT, am_top _ _, _, _, rfl, rfl, bt.cm bt' (by decide), ?_⟩
    refine ⟨_, rfl, p, _, dx, _, _, rfl, hp, T.cl, T.nB, am_bot _ _, _, rfl, q, _, dy, _, _, rfl, hq, T.cl, T.nB, am_bot _ _, _, _, rfl, rfl, bb.cm bb' (by decide), ?_⟩
    refine fun x dz hx hdx ne => ⟨x, dz, _, _, rfl, g0, (bt.mul bt').mono (by decide), (bb.mul bb').mono (by decide), upd_same, fun H' kp e => ⟨rfl, ?_⟩⟩
    obtain ⟨s, m⟩ := made_am hx hdx ne kp e
    exact k _ _ (s1.trans s) m
theorem ok_Amountover (T : Txt K mg a) : FnOk P w K mg base CX0 5 a.f_Amountover a.d_Amountover ["self", "other"] (sp_bin a.c_Amount fOver gOver) := by
  refine T.F_Amountover.ok sc_Amountover (fun vs H Q E h => ?_) (fun cdv A outer s H vs Q E hr h => ?_)
  · obtain ⟨p, v, t, b, t', b', rfl, _⟩ := h
    rfl
  · obtain ⟨p, v, t, b, t', b', rfl, ⟨dx, hp⟩, hv, bt, bb, bt', bb', g0, k⟩ := h
    have ht' : t' ≠ 0 := fun z => g0 (by show b * t' = 0; rw [z, Int.mul_zero])
    refine ⟨_, (pss_cons (ps_if (PW.pt (pw_or (pt_not (pt_val (pe_call (ok_is_amount T) (hr.mono (by decide)) (by rfl) T.m_is_amount T.F_is_amount.kp (b_is_amount T) .nil pass0 (pa_cons (pv 1) pa_nil)))) (pw_or1 (pt_cmpR op_eq (pe_prop (pe_call (ok_amount_of T) (hr.mono (by decide)) (by rfl) T.m_amount_of T.F_amount_of.kp (b_amount_of T) .nil pass0 (pa_cons (pv 1) pa_nil)) T.cl T.p_sign (ok_Amountsign T) (hr.mono (by decide)) (b_Amountsign T) .nil pass0 rfl) pe_int (nomark _))))) (pss_one ps_never) pss_nil)
 (pss_cons (ps_set (i := 2) sc_Amountover.nd rfl (by first | exact Or.inl rfl | exact Or.inr rfl) (pe_call (ok_amount_of T) (hr.mono (by decide)) (by rfl) T.m_amount_of T.F_amount_of.kp (b_amount_of T) .nil pass0 (pa_cons (pv 1) pa_nil)))
 (pss_one (ps_ret (pe_make T.mkA (ok_Amount_init_ T) (hr.mono (by decide)) (by rfl) T.mA (b_Amount_init_ T) .nil pass0 (pa_cons (pe_op op_mulX (pe_fldK (K := K) rfl (pv 0) rfl) (pe_fldK (K := K) rfl (pv 2) rfl)) (pa_cons (pe_op op_mulX (pe_fldK (K := K) rfl (pv 0) rfl) (pe_fldK (K := K) rfl (pv 2) rfl)) pa_nil))))))), ?_⟩
    refine ⟨_, rfl, v, t', b', rfl, hv, true, rfl, iteF ?_⟩
    refine ⟨_, rfl, v, t', b', rfl, hv, bt'.mono (by decide), fun H1 q s1 ⟨dy, hq⟩ => ?_⟩
    refine ⟨q, dy, _, rfl, hq, q, t', b', rfl, ⟨dy, hq⟩, rfl, _, rfl, iteN ?_ ?_⟩
    · intro z
      have z := of_decide_eq_true z
      injection z with z
      unfold sg at z
      rw [if_neg ht'] at z
      split at z <;> omega
    have hp := s1 _ _ hp
    have hv := hv.same s1
    refine ⟨_, rfl, v, t', b', rfl, hv, bt'.mono (by decide), fun H2 q2 s2 ⟨dz, hq2⟩ => ?_⟩
    have hp := s2 _ _ hp
    refine ⟨_, rfl, p, _, dx, _, _, rfl, hp, T.cl, T.nT, am_top _ _, _, rfl, q2, _, dz, _, _, rfl, hq2, T.cl, T.nB, am_bot _ _, _, _, rfl, rfl, bt.cm bb' (by decide), ?_⟩
    refine ⟨_, rfl, p, _, dx, _, _, rfl, hp, T.cl, T.nB, am_bot _ _, _, rfl, q2, _, dz, _, _, rfl, hq2, T.cl, T.nT, am_top _ _, _, _, rfl, rfl, bb.cm bt' (by decide), ?_⟩
    refine fun x dz hx hdx ne => ⟨x, dz, _, _, rfl, g0, (bt.mul bb').mono (by decide), (bb.mul bt').mono (by decide), upd_same, fun H' kp e => ⟨rfl, ?_⟩⟩
    obtain ⟨s, m⟩ := made_am hx hdx ne kp e
    exact k _ _ ((s1.trans s2).trans s) m
theorem ok_Amount_neg_ (T : Txt K mg a) : FnOk P w K mg base CX0 4 a.f_Amount_neg_ a.d_Amount_neg_ ["self"] (sp_un a.c_Amount fun t => -t) := by
  refine T.F_Amount_neg_.ok sc_Amount_neg_ (fun vs H Q E h => ?_) (fun cdv A outer s H vs Q E hr h => ?_)
  · obtain ⟨p, t, b, rfl, _⟩ := h
    rfl
  · obtain ⟨p, t, b, rfl, ⟨dx, hp⟩, bt, bb, hb, k⟩ := h
    refine ⟨_, (pss_one (ps_ret (pe_make T.mkA (ok_Amount_init_ T) (hr.mono (by decide)) (by rfl) T.mA (b_Amount_init_ T) .nil pass0 (pa_cons (pe_un un_neg (pe_fldK (K := K) rfl (pv 0) rfl)) (pa_cons (pe_fldK (K := K) rfl (pv 0) rfl) pa_nil))))), ?_⟩
    refine ⟨_, rfl, p, _, dx, _, _, rfl, hp, T.cl, T.nT, am_top _ _, _, rfl, _, rfl, p, _, dx, _, _, rfl, hp, T.cl, T.nB, am_bot _ _, ?_⟩
    refine fun x dz hx hdx ne => ⟨x, dz, _, _, rfl, hb, bt.neg.mono (by decide), bb.mono (by decide), upd_same, fun H' kp e => ⟨rfl, ?_⟩⟩
    obtain ⟨s, m⟩ := made_am hx hdx ne kp e
    exact k _ _ s m
theorem ok_Amount_abs_ (T : Txt K mg a) : FnOk P w K mg base CX0 4 a.f_Amount_abs_ a.d_Amount_abs_ ["self"] (sp_un a.c_Amount fun t => if t < 0 then -t else t) := by
  refine T.F_Amount_abs_.ok sc_Amount_abs_ (fun vs H Q E h => ?_) (fun cdv A outer s H vs Q E hr h => ?_)
  · obtain ⟨p, t, b, rfl, _⟩ := h
    rfl
  · obtain ⟨p, t, b, rfl, ⟨dx, hp⟩, bt, bb, hb, k⟩ := h
    refine ⟨_, (pss_one (ps_ret (pe_make T.mkA (ok_Amount_init_ T) (hr.mono (by decide)) (by rfl) T.mA (b_Amount_init_ T) .nil pass0 (pa_cons (pe_callB call_abs (by rfl) T.b_abs (by decide +kernel) (pa_cons (pe_fldK (K := K) rfl (pv 0) rfl) pa_nil)) (pa_cons (pe_fldK (K := K) rfl (pv 0) rfl) pa_nil))))), ?_⟩
    refine ⟨_, rfl, p, _, dx, _, _, rfl, hp, T.cl, T.nT, am_top _ _, _, rfl, _, rfl, p, _, dx, _, _, rfl, hp, T.cl, T.nB, am_bot _ _, ?_⟩
    refine fun x dz hx hdx ne => ⟨x, dz, _, _, rfl, hb, (bt.le (by split <;> omega)).mono (by decide), bb.mono (by decide), upd_same, fun H' kp e => ⟨rfl, ?_⟩⟩
    obtain ⟨s, m⟩ := made_am hx hdx ne kp e
    exact k _ _ s m
theorem ok_Amount_radd_ (T : Txt K mg a) : FnOk P w K mg base CX0 6 a.f_Amount_radd_ a.d_Amount_radd_ ["self", "other"] (sp_bin a.c_Amount (sw fAdd) (sw gBot)) := by
  refine T.F_Amount_radd_.ok sc_Amount_radd_ (fun vs H Q E h => ?_) (fun cdv A outer s H vs Q E hr h => ?_)
  · obtain ⟨p, v, t, b, t', b', rfl, _⟩ := h
    rfl
  · obtain ⟨p, v, t, b, t', b', rfl, hp, hv, bt, bb, bt', bb', g0, k⟩ := h
    refine ⟨_, (pss_cons (ps_if (pt_not (pt_val (pe_call (ok_is_amount T) (hr.mono (by decide)) (by rfl) T.m_is_amount T.F_is_amount.kp (b_is_amount T) .nil pass0 (pa_cons (pv 1) pa_nil)))) (pss_one ps_never) pss_nil)
 (pss_one (ps_ret (pe_op (op_ownBin (K := K) (E := E0) rfl T.oAdd ((ok_Amount_add_ T).raw (b_Amount_add_ T) .nil) (hr.mono (by decide))) (pe_call (ok_amount_of T) (hr.mono (by decide)) (by rfl) T.m_amount_of T.F_amount_of.kp (b_amount_of T) .nil pass0 (pa_cons (pv 1) pa_nil)) (pv 0))))), ?_⟩
    refine ⟨_, rfl, v, t', b', rfl, hv, true, rfl, iteF ?_⟩
    refine ⟨_, rfl, v, t', b', rfl, hv, bt'.mono (by decide), fun H1 q s1 hq => ?_⟩
    obtain ⟨dy, eq⟩ := id hq
    have hp := hp.same s1
    exact ⟨_, rfl, q, dy, _, rfl, eq, .inr (let ⟨dx, ep⟩ := hp; ⟨p, dx, _, rfl, ep⟩), q, _, t', b', t, b, rfl, hq, .inr ⟨p, rfl, hp⟩, bt', bb', bt, bb, g0, fun H2 r s2 hr => k _ _ (s1.trans s2) hr⟩
theorem ok_Amount_rsub_ (T : Txt K mg a) : FnOk P w K mg base CX0 6 a.f_Amount_rsub_ a.d_Amount_rsub_ ["self", "other"] (sp_bin a.c_Amount (sw fSub) (sw gBot)) := by
  refine T.F_Amount_rsub_.ok sc_Amount_rsub_ (fun vs H Q E h => ?_) (fun cdv A outer s H vs Q E hr h => ?_)
  · obtain ⟨p, v, t, b, t', b', rfl, _⟩ := h
    rfl
  · obtain ⟨p, v, t, b, t', b', rfl, hp, hv, bt, bb, bt', bb', g0, k⟩ := h
    refine ⟨_, (pss_cons (ps_if (pt_not (pt_val (pe_call (ok_is_amount T) (hr.mono (by decide)) (by rfl) T.m_is_amount T.F_is_amount.kp (b_is_amount T) .nil pass0 (pa_cons (pv 1) pa_nil)))) (pss_one ps_never) pss_nil)
 (pss_one (ps_ret (pe_op (op_ownBin (K := K) (E := E0) rfl T.oSub ((ok_Amount_sub_ T).raw (b_Amount_sub_ T) .nil) (hr.mono (by decide))) (pe_call (ok_amount_of T) (hr.mono (by decide)) (by rfl) T.m_amount_of T.F_amount_of.kp (b_amount_of T) .nil pass0 (pa_cons (pv 1) pa_nil)) (pv 0))))), ?_⟩
    refine ⟨_, rfl, v, t', b', rfl, hv, true, rfl, iteF ?_⟩
    refine ⟨_, rfl, v, t', b', rfl, hv, bt'.mono (by decide), fun H1 q s1 hq => ?_⟩
    obtain ⟨dy, eq⟩ := id hq
    have hp := hp.same s1
    exact ⟨_, rfl, q, dy, _, rfl, eq, .inr (let ⟨dx, ep⟩ := hp; ⟨p, dx, _, rfl, ep⟩), q, _, t', b', t, b, rfl, hq, .inr ⟨p, rfl, hp⟩, bt', bb', bt, bb, g0, fun H2 r s2 hr => k _ _ (s1.trans s2) hr⟩
theorem ok_Amount_rmul_ (T : Txt K mg a) : FnOk P w K mg base CX0 6 a.f_Amount_rmul_ a.d_Amount_rmul_ ["self", "other"] (sp_bin a.c_Amount (sw fMul) (sw gBot)) := by
  refine T.F_Amount_rmul_.ok sc_Amount_rmul_ (fun vs H Q E h => ?_) (fun cdv A outer s H vs Q E hr h => ?_)
  · obtain ⟨p, v, t, b, t', b', rfl, _⟩ := h
    rfl
  · obtain ⟨p, v, t, b, t', b', rfl, hp, hv, bt, bb, bt', bb', g0, k⟩ := h
    refine ⟨_, (pss_cons (ps_if (pt_not (pt_val (pe_call (ok_is_amount T) (hr.mono (by decide)) (by rfl) T.m_is_amount T.F_is_amount.kp (b_is_amount T) .nil pass0 (pa_cons (pv 1) pa_nil)))) (pss_one ps_never) pss_nil)
 (pss_one (ps_ret (pe_op (op_ownBin (K := K) (E := E0) rfl T.oMul ((ok_Amount_mul_ T).raw (b_Amount_mul_ T) .nil) (hr.mono (by decide))) (pe_call (ok_amount_of T) (hr.mono (by decide)) (by rfl) T.m_amount_of T.F_amount_of.kp (b_amount_of T) .nil pass0 (pa_cons (pv 1) pa_nil)) (pv 0))))), ?_⟩
    refine ⟨_, rfl, v, t', b', rfl, hv, true, rfl, iteF ?_⟩
    refine ⟨_, rfl, v, t', b', rfl, hv, bt'.mono (by decide), fun H1 q s1 hq => ?_⟩
    obtain ⟨dy, eq⟩ := id hq
    have hp := hp.same s1
    exact ⟨_, rfl, q, dy, _, rfl, eq, .inr (let ⟨dx, ep⟩ := hp; ⟨p, dx, _, rfl, ep⟩), q, _, t', b', t, b, rfl, hq, .inr ⟨p, rfl, hp⟩, bt', bb', bt, bb, g0, fun H2 r s2 hr => k _ _ (s1.trans s2) hr⟩
end
end K11

set_option Elab.async false
set_option linter.all false
set_option maxRecDepth 100000
set_option maxHeartbeats 4000000
set_option exponentiation.threshold 10000
namespace K11
open PySem L2 Lb
def ival : L2.St → Int := fun σ => match σ[0]? with
  | some (some (V.int y)) => y
  | _ => 0
abbrev itS (n : Int) : Str := ((toString n : String) : Str)
theorem itS_len {n : Int} (h : Bd 1800 n) : (itS n).length ≤ 601 := by
  rw [show (itS n).length = (toString n : String).length from ofString_length _]
  exact int_text_length_le10 (k := 600) (by decide) (Nat.lt_trans h (by decide))
theorem itS_neg {n : Int} (h : n < 0) : itS n = Str.empty ++ "-" ++ itS (-n) := by
  obtain ⟨k, rfl⟩ : ∃ k : Nat, n = -((k + 1 : Nat) : Int) := ⟨(-n).toNat - 1, by omega⟩
  rw [Int.neg_neg]
  have e : (toString (-((k + 1 : Nat) : Int)) : String) = "-" ++ toString ((k + 1 : Nat) : Int) := rfl
  show Str.ofString (toString (-((k + 1 : Nat) : Int))) = Str.empty ++ Str.ofString "-" ++ Str.ofString (toString ((k + 1 : Nat) : Int))
  rw [e, empty_add, Str.ofString_eq_toList, Str.ofString_eq_toList, Str.ofString_eq_toList]
  show Str.mk _ = Str.mk _
  simp
def sp_decimal0 : Sp := fun vs H Q _ => ∃ (n : Nat), vs = [.int (n : Int)] ∧ Bd 1800 (n : Int) ∧ ∀ H', Same H H' → Q (.str (itS n)) H'
def sp_decimal : Sp := fun vs H Q _ => ∃ (n : Int), vs = [.int n] ∧ Bd 1800 n ∧ ∀ H', Same H H' → Q (.str (itS n)) H'
theorem cut_cat {n m : Nat} {ps : List Str} (h : 10 ^ 60 ≤ m) (e : itS n = itS m ++ cat ps.reverse) (hl : ∀ x ∈ ps, x.length = 60) :
    itS n = itS ((m / 10 ^ 60 : Nat) : Int) ++ cat (ps ++ [Txt.zfill (itS ((m % 10 ^ 60 : Nat) : Int)) (60 : Nat)]).reverse ∧ ∀ x ∈ ps ++ [Txt.zfill (itS ((m % 10 ^ 60 : Nat) : Int)) (60 : Nat)], x.length = 60 := by
  obtain ⟨e1, e2⟩ := turn60 h
  refine ⟨?_, fun x hx => ?_⟩
  · rw [e, List.reverse_append, List.reverse_cons, List.reverse_nil, List.nil_append, List.singleton_append, cat, ← Str.append_assoc, ← e1]
  · rcases List.mem_append.mp hx with hx | hx
    · exact hl x hx
    · rw [List.mem_singleton.mp hx]
      exact e2
theorem len60 : ∀ {ps : List Str}, (∀ x ∈ ps, x.length = 60) → (ps.map (·.length)).sum = 60 * ps.length
  | [], _ => rfl
  | x :: r, h => by
    rw [List.map_cons, List.sum_cons, h x (List.mem_cons_self ..), len60 fun y hy => h y (List.mem_cons_of_mem _ hy), List.length_cons]
    omega
theorem few {n m : Nat} {ps : List Str} (hb : Bd 1800 (n : Int)) (e : itS n = itS m ++ cat ps.reverse) (hl : ∀ x ∈ ps, x.length = 60) : 60 * ps.length ≤ 601 := by
  have h := itS_len hb
  rw [e, Str.length_append, cat_length, List.map_reverse, List.sum_reverse, len60 hl] at h
  omega
section
variable {P : Program} {w : World} {K : PySem.W.Frag} {mg : Str → Option Value} {base : Heap} {a : Ad}
theorem ok_decimal0 (T : Txt K mg a) : FnOk P w K mg base CX0 1 a.f_decimal a.d_decimal ["number"] sp_decimal0 := by
  refine T.F_decimal.ok sc_decimal (fun vs H Q E h => ?_) (fun cdv A outer s H vs Q E hr h => ?_)
  · obtain ⟨n, rfl, _⟩ := h
    rfl
  · obtain ⟨n, rfl, hb, k⟩ := h
    refine ⟨_, (pss_cons (ps_if (pt_cmpR op_lt (pv 0) pe_int (nomark _)) (pss_one ps_never) pss_nil)
 (pss_cons (ps_set (i := 1) sc_decimal.nd rfl (by first | exact Or.inl rfl | exact Or.inr rfl) (pe_lst pa_nil))
 (pss_cons (ps_while PassesOwn.never (pt_cmpR op_ge (pv 0) (pe_glob (v := .int (10 ^ 60)) rfl T.gPart.choose_spec ⟨_, rfl⟩) (nomark _)) (pss_cons (ps_asg (pe_callB call_divmodW (by rfl) T.b_divmod (by decide +kernel) (pa_cons (pv 0) (pa_cons (pe_glob (v := .int (10 ^ 60)) rfl T.gPart.choose_spec ⟨_, rfl⟩) pa_nil))) (pg_tupK (K := K) (n := 2) rfl rfl (pgs_cons (pg_name (i := 0) sc_decimal.nd rfl (by first | exact Or.inl rfl | exact Or.inr rfl)) (pgs_cons (pg_name (i := 2) sc_decimal.nd rfl (by first | exact Or.inl rfl | exact Or.inr rfl)) pgs_nil))))
 (pss_one (ps_expr (pe_bm PySem.F.plainAttrs_list PySem.F.slot_list_append PySem.F.type_list_append mt_append (pv 1) (pa_cons (pe_bm PySem.F.plainAttrs_str PySem.F.slot_str_zfill PySem.F.type_str_zfill mt_zfill (pe_callTy call_str_int (by rfl) T.b_str (by decide +kernel) (pa_cons (pv 2) pa_nil)) (pa_cons (pe_glob (v := .int 60) rfl T.gLen.choose_spec ⟨_, rfl⟩) pa_nil)) pa_nil))))))
 (pss_cons (ps_expr (pe_bm PySem.F.plainAttrs_list PySem.F.slot_list_append PySem.F.type_list_append mt_append (pv 1) (pa_cons (pe_callTy call_str_int (by rfl) T.b_str (by decide +kernel) (pa_cons (pv 0) pa_nil)) pa_nil)))
 (pss_cons (ps_expr (pe_bm0 PySem.F.plainAttrs_list PySem.F.slot_list_reverse PySem.F.type_list_reverse mt_reverse (pv 1)))
 (pss_one (ps_ret (pe_join pe_str (pv 1))))))))), ?_⟩
    refine ⟨_, rfl, _, _, rfl, rfl, _, rfl, iteN (by simp) ?_⟩
    refine ⟨sz, fun l hl => ?_⟩
    have lp : Bd 200 ((10 : Int) ^ 60) := by show _ < _; decide
    refine while_by (fun σ H' => ∃ (m : Nat) (ps : List Str) (u : Option V), σ = [some (.int (m : Int)), some (.ref l), u] ∧ H' l = some (.lst (ps.map V.str)) ∧ Same H H' ∧ itS n = itS m ++ cat ps.reverse ∧ (∀ x ∈ ps, x.length = 60) ∧ m ≤ n) (fun σ _ => (ival σ).toNat)
      ⟨n, [], none, rfl, upd_same, Lb.Same.upd hl, (add_empty _).symm, fun _ h => absurd h (List.not_mem_nil), Nat.le_refl _⟩ ?_ (fun σ H Q Q' k ⟨v, e, i, j, e1, e2, b, e3, q⟩ => ⟨v, e, i, j, e1, e2, b, e3, k _ _ q⟩)
    rintro σ H1 ⟨m, ps, u, rfl, fl, s1, e, h60, hm⟩
    have hps := few hb e h60
    refine ⟨_, rfl, _, _, rfl, rfl, _, rfl, ite2 (fun h1 => ?_) (fun h1 => ?_)⟩
    · have h1 : 10 ^ 60 ≤ m := by
        have := of_decide_eq_true h1
        omega
      refine ⟨_, rfl, _, _, rfl, divp_small (by decide) (lp.mono (by decide)), fun t ht => ?_⟩
      generalize e_H2 : upd _ t _ = H2
      obtain ⟨s2, ft⟩ := al3 e_H2 ht
      clear e_H2
      (try dsimp only at ft)
      refine ⟨_, _, rfl, SqT.of ft, rfl, _, _, rfl, _, _, rfl, rfl, ?_⟩
      have e1 : (m : Int) / 10 ^ 60 = ((m / 10 ^ 60 : Nat) : Int) := by omega
      have e2 : (m : Int) % 10 ^ 60 = ((m % 10 ^ 60 : Nat) : Int) := by omega
      have fl := s2 _ _ fl
      obtain ⟨c1, c2⟩ := cut_cat h1 e h60
      have lr : (m % 10 ^ 60 : Nat) < 10 ^ 60 := Nat.mod_lt _ (by decide)
      have hlog : ((m : Int) % 10 ^ 60).natAbs.log2 < 1920 := by
        have : ((m : Int) % 10 ^ 60).natAbs < 2 ^ 200 := Nat.lt_of_lt_of_le (m := 10 ^ 60) (by omega) (by decide)
        exact Nat.lt_of_lt_of_le (PySem.Flt.log2_lt_of (by decide) this) (by decide)
      refine ⟨_, rfl, .inl ⟨rfl, _, SqL.of fl⟩, _, rfl, _, rfl, hlog, rfl, _, _, rfl, rfl, rfl, l, _, _, rfl, rfl, fl, szlt (by rw [List.length_map]; omega), ?_⟩
      refine ⟨⟨m / 10 ^ 60, ps ++ [Txt.zfill (itS ((m % 10 ^ 60 : Nat) : Int)) (60 : Nat)], _, by rw [e1]; rfl, ?_, Lb.Same.updl (s1.trans s2) hl, c1, c2, Nat.le_trans (Nat.div_le_self _ _) hm⟩, ?_⟩
      · rw [upd_same, e2, List.map_append]
        rfl
      · show ((m : Int) / 10 ^ 60).toNat < (m : Int).toNat
        omega
    · have h1 : m < 10 ^ 60 := by
        have h1 : ¬ ((m : Int) ≥ 10 ^ 60) := fun q => h1 (decide_eq_true q)
        omega
      have hlog : (m : Int).natAbs.log2 < 1920 := by
        have : (m : Int).natAbs < 2 ^ 200 := Nat.lt_of_lt_of_le (m := 10 ^ 60) (by omega) (by decide)
        exact Nat.lt_of_lt_of_le (PySem.Flt.log2_lt_of (by decide) this) (by decide)
      refine ⟨_, rfl, .inl ⟨rfl, _, SqL.of fl⟩, _, rfl, _, rfl, hlog, l, _, _, rfl, rfl, fl, szlt (by rw [List.length_map]; omega), ?_⟩
      refine ⟨_, rfl, .inl ⟨rfl, _, SqL.of upd_same⟩, l, _, rfl, rfl, upd_same, ?_⟩
      have er : (ps.map V.str ++ [V.str (itS (m : Int))]).reverse = ((itS (m : Int)) :: ps.reverse).map V.str := by simp
      rw [er]
      refine ⟨⟨_, rfl⟩, _, rfl, _, l, (itS (m : Int)) :: ps.reverse, rfl, rfl, .inl (SqL.of upd_same), ?_, ?_⟩
      · have l1 : (itS (m : Int)).length ≤ 61 := by
          rw [show (itS (m : Int)).length = (toString (m : Int) : String).length from ofString_length _]
          exact int_text_length_le10 (k := 60) (by decide) (by omega)
        rw [List.map_cons, List.sum_cons, List.map_reverse, List.sum_reverse, len60 h60]
        show _ + _ * 0 ≤ _
        omega
      · rw [show (Str.ofString "") = Str.empty from by decide +kernel, join_empty]
        rw [e] at k
        exact k _ (Lb.Same.updl (Lb.Same.updl s1 hl) hl)
theorem ok_decimal (T : Txt K mg a) : FnOk P w K mg base CX0 2 a.f_decimal a.d_decimal ["number"] sp_decimal := by
  refine T.F_decimal.ok sc_decimal (fun vs H Q E h => ?_) (fun cdv A outer s H vs Q E hr h => ?_)
  · obtain ⟨n, rfl, _⟩ := h
    rfl
  · obtain ⟨n, rfl, hb, k⟩ := h
    refine ⟨_, (pss_cons (ps_if (pt_cmpR op_lt (pv 0) pe_int (nomark _)) (pss_one (ps_ret (pe_joined (.cons pe_str (.cons (pe_fmt (pe_call (ok_decimal0 T) (hr.mono (by decide)) (by rfl) T.m_decimal T.F_decimal.kp (b_decimal T) .nil pass0 (pa_cons (pe_un un_neg (pv 0)) pa_nil))) .nil))))) pss_nil)
 (pss_cons (ps_set (i := 1) sc_decimal.nd rfl (by first | exact Or.inl rfl | exact Or.inr rfl) (pe_lst pa_nil))
 (pss_cons (ps_while PassesOwn.never (pt_cmpR op_ge (pv 0) (pe_glob (v := .int (10 ^ 60)) rfl T.gPart.choose_spec ⟨_, rfl⟩) (nomark _)) (pss_cons (ps_asg (pe_callB call_divmodW (by rfl) T.b_divmod (by decide +kernel) (pa_cons (pv 0) (pa_cons (pe_glob (v := .int (10 ^ 60)) rfl T.gPart.choose_spec ⟨_, rfl⟩) pa_nil))) (pg_tupK (K := K) (n := 2) rfl rfl (pgs_cons (pg_name (i := 0) sc_decimal.nd rfl (by first | exact Or.inl rfl | exact Or.inr rfl)) (pgs_cons (pg_name (i := 2) sc_decimal.nd rfl (by first | exact Or.inl rfl | exact Or.inr rfl)) pgs_nil))))
 (pss_one (ps_expr (pe_bm PySem.F.plainAttrs_list PySem.F.slot_list_append PySem.F.type_list_append mt_append (pv 1) (pa_cons (pe_bm PySem.F.plainAttrs_str PySem.F.slot_str_zfill PySem.F.type_str_zfill mt_zfill (pe_callTy call_str_int (by rfl) T.b_str (by decide +kernel) (pa_cons (pv 2) pa_nil)) (pa_cons (pe_glob (v := .int 60) rfl T.gLen.choose_spec ⟨_, rfl⟩) pa_nil)) pa_nil))))))
 (pss_cons (ps_expr (pe_bm PySem.F.plainAttrs_list PySem.F.slot_list_append PySem.F.type_list_append mt_append (pv 1) (pa_cons (pe_callTy call_str_int (by rfl) T.b_str (by decide +kernel) (pa_cons (pv 0) pa_nil)) pa_nil)))
 (pss_cons (ps_expr (pe_bm0 PySem.F.plainAttrs_list PySem.F.slot_list_reverse PySem.F.type_list_reverse mt_reverse (pv 1)))
 (pss_one (ps_ret (pe_join pe_str (pv 1))))))))), ?_⟩
    refine ⟨_, rfl, _, _, rfl, rfl, _, rfl, ite2 (fun h0 => ?_) (fun h0 => ?_)⟩
    · have h0 : n < 0 := by simpa using h0
      obtain ⟨m, hm⟩ : ∃ m : Nat, -n = (m : Int) := ⟨(-n).toNat, by omega⟩
      have hb' : Bd 1800 (-n) := hb.neg
      refine ⟨_, rfl, sz, _, rfl, _, rfl, m, by show [V.int (-n)] = _; rw [hm], hm ▸ hb', fun H' s' => .inl ⟨_, rfl, szle (by rw [← hm]; have := itS_len hb'; omega), _, rfl, ?_, ?_⟩⟩
      · rw [← hm]
        have := itS_len hb'
        rw [Str.length_append]
        exact szle (by show 1 + _ ≤ _; omega)
      · rw [← hm]
        have e := k _ s'
        rw [itS_neg h0] at e
        exact e
    · obtain ⟨n, rfl⟩ : ∃ m : Nat, n = (m : Int) := ⟨n.toNat, (Int.toNat_of_nonneg (Int.not_lt.mp (by simpa using h0))).symm⟩
      refine ⟨sz, fun l hl => ?_⟩
      have lp : Bd 200 ((10 : Int) ^ 60) := by show _ < _; decide
      refine while_by (fun σ H' => ∃ (m : Nat) (ps : List Str) (u : Option V), σ = [some (.int (m : Int)), some (.ref l), u] ∧ H' l = some (.lst (ps.map V.str)) ∧ Same H H' ∧ itS n = itS m ++ cat ps.reverse ∧ (∀ x ∈ ps, x.length = 60) ∧ m ≤ n) (fun σ _ => (ival σ).toNat)
        ⟨n, [], none, rfl, upd_same, Lb.Same.upd hl, (add_empty _).symm, fun _ h => absurd h (List.not_mem_nil), Nat.le_refl _⟩ ?_ (fun σ H Q Q' k ⟨v, e, i, j, e1, e2, b, e3, q⟩ => ⟨v, e, i, j, e1, e2, b, e3, k _ _ q⟩)
      rintro σ H1 ⟨m, ps, u, rfl, fl, s1, e, h60, hm⟩
      have hps := few hb e h60
      refine ⟨_, rfl, _, _, rfl, rfl, _, rfl, ite2 (fun h1 => ?_) (fun h1 => ?_)⟩
      · have h1 : 10 ^ 60 ≤ m := by
          have := of_decide_eq_true h1
          omega
        refine ⟨_, rfl, _, _, rfl, divp_small (by decide) (lp.mono (by decide)), fun t ht => ?_⟩
        generalize e_H2 : upd _ t _ = H2
        obtain ⟨s2, ft⟩ := al3 e_H2 ht
        clear e_H2
        (try dsimp only at ft)
        refine ⟨_, _, rfl, SqT.of ft, rfl, _, _, rfl, _, _, rfl, rfl, ?_⟩
        have e1 : (m : Int) / 10 ^ 60 = ((m / 10 ^ 60 : Nat) : Int) := by omega
        have e2 : (m : Int) % 10 ^ 60 = ((m % 10 ^ 60 : Nat) : Int) := by omega
        have fl := s2 _ _ fl
        obtain ⟨c1, c2⟩ := cut_cat h1 e h60
        have lr : (m % 10 ^ 60 : Nat) < 10 ^ 60 := Nat.mod_lt _ (by decide)
        have hlog : ((m : Int) % 10 ^ 60).natAbs.log2 < 1920 := by
          have : ((m : Int) % 10 ^ 60).natAbs < 2 ^ 200 := Nat.lt_of_lt_of_le (m := 10 ^ 60) (by omega) (by decide)
          exact Nat.lt_of_lt_of_le (PySem.Flt.log2_lt_of (by decide) this) (by decide)
        refine ⟨_, rfl, .inl ⟨rfl, _, SqL.of fl⟩, _, rfl, _, rfl, hlog, rfl, _, _, rfl, rfl, rfl, l, _, _, rfl, rfl, fl, szlt (by rw [List.length_map]; omega), ?_⟩
        refine ⟨⟨m / 10 ^ 60, ps ++ [Txt.zfill (itS ((m % 10 ^ 60 : Nat) : Int)) (60 : Nat)], _, by rw [e1]; rfl, ?_, Lb.Same.updl (s1.trans s2) hl, c1, c2, Nat.le_trans (Nat.div_le_self _ _) hm⟩, ?_⟩
        · rw [upd_same, e2, List.map_append]
          rfl
        · show ((m : Int) / 10 ^ 60).toNat < (m : Int).toNat
          omega
      · have h1 : m < 10 ^ 60 := by
          have h1 : ¬ ((m : Int) ≥ 10 ^ 60) := fun q => h1 (decide_eq_true q)
          omega
        have hlog : (m : Int).natAbs.log2 < 1920 := by
          have : (m : Int).natAbs < 2 ^ 200 := Nat.lt_of_lt_of_le (m := 10 ^ 60) (by omega) (by decide)
          exact Nat.lt_of_lt_of_le (PySem.Flt.log2_lt_of (by decide) this) (by decide)
        refine ⟨_, rfl, .inl ⟨rfl, _, SqL.of fl⟩, _, rfl, _, rfl, hlog, l, _, _, rfl, rfl, fl, szlt (by rw [List.length_map]; omega), ?_⟩
        refine ⟨_, rfl, .inl ⟨rfl, _, SqL.of upd_same⟩, l, _, rfl, rfl, upd_same, ?_⟩
        have er : (ps.map V.str ++ [V.str (itS (m : Int))]).reverse = ((itS (m : Int)) :: ps.reverse).map V.str := by simp
        rw [er]
        refine ⟨⟨_, rfl⟩, _, rfl, _, l, (itS (m : Int)) :: ps.reverse, rfl, rfl, .inl (SqL.of upd_same), ?_, ?_⟩
        · have l1 : (itS (m : Int)).length ≤ 61 := by
            rw [show (itS (m : Int)).length = (toString (m : Int) : String).length from ofString_length _]
            exact int_text_length_le10 (k := 60) (by decide) (by omega)
          rw [List.map_cons, List.sum_cons, List.map_reverse, List.sum_reverse, len60 h60]
          show _ + _ * 0 ≤ _
          omega
        · rw [show (Str.ofString "") = Str.empty from by decide +kernel, join_empty]
          rw [e] at k
          exact k _ (Lb.Same.updl (Lb.Same.updl s1 hl) hl)
/-- str and repr of an amount -/
def txS (t b : Int) : Str := if b = 1 then itS t else itS t ++ "/" ++ itS b
def txR (t b : Int) : Str := "Amount(" ++ itS t ++ ", " ++ itS b ++ ")"
def sp_tx (C : Addr) (f : Int → Int → Str) : Sp := fun vs H Q _ => ∃ (p : Addr) (t b : Int), vs = [.ref p] ∧ AmAt C H p t b ∧ Bd 1800 t ∧ Bd 1800 b ∧ ∀ H', Same H H' → Q (.str (f t b)) H'
theorem ok_Amount_str_ (T : Txt K mg a) : FnOk P w K mg base CX0 3 a.f_Amount_str_ a.d_Amount_str_ ["self"] (sp_tx a.c_Amount txS) := by
  refine T.F_Amount_str_.ok sc_Amount_str_ (fun vs H Q E h => ?_) (fun cdv A outer s H vs Q E hr h => ?_)
  · obtain ⟨p, t, b, rfl, _⟩ := h
    rfl
  · obtain ⟨p, t, b, rfl, ⟨dx, hp⟩, ht, hb, k⟩ := h
    refine ⟨_, (pss_cons (ps_if (pt_cmpR op_eq (pe_fldK (K := K) rfl (pv 0) rfl) pe_int (nomark _)) (pss_one (ps_ret (pe_callTy SkE.call_str_str (by rfl) T.b_str (by decide +kernel) (pa_cons (pe_call (ok_decimal T) (hr.mono (by decide)) (by rfl) T.m_decimal T.F_decimal.kp (b_decimal T) .nil pass0 (pa_cons (pe_fldK (K := K) rfl (pv 0) rfl) pa_nil)) pa_nil)))) pss_nil)
 (pss_one (ps_ret (pe_joined (.cons (pe_fmt (pe_call (ok_decimal T) (hr.mono (by decide)) (by rfl) T.m_decimal T.F_decimal.kp (b_decimal T) .nil pass0 (pa_cons (pe_fldK (K := K) rfl (pv 0) rfl) pa_nil))) (.cons pe_str (.cons (pe_fmt (pe_call (ok_decimal T) (hr.mono (by decide)) (by rfl) T.m_decimal T.F_decimal.kp (b_decimal T) .nil pass0 (pa_cons (pe_fldK (K := K) rfl (pv 0) rfl) pa_nil))) .nil))))))), ?_⟩
    unfold txS at k
    refine ⟨_, rfl, p, _, dx, _, _, rfl, hp, T.cl, T.nB, am_bot _ _, rfl, _, rfl, ite2 (fun h1 => ?_) (fun h1 => ?_)⟩
    · rw [if_pos (by simpa using h1)] at k
      refine ⟨_, rfl, p, _, dx, _, _, rfl, hp, T.cl, T.nT, am_top _ _, t, rfl, ht, fun H1 s1 => ⟨_, rfl, k _ s1⟩⟩
    · rw [if_neg (by simpa using h1)] at k
      refine ⟨_, rfl, p, _, dx, _, _, rfl, hp, T.cl, T.nT, am_top _ _, t, rfl, ht, fun H1 s1 => ?_⟩
      have l1 := itS_len ht
      have l2 := itS_len hb
      refine .inl ⟨_, rfl, szle (by omega), _, rfl, ?_, _, rfl, ?_, ?_⟩
      · rw [Str.length_append]
        exact szle (by show 0 + _ ≤ _; omega)
      · rw [Str.length_append, Str.length_append]
        exact szle (by show 0 + _ + 1 ≤ _; omega)
      refine ⟨_, rfl, p, _, dx, _, _, rfl, s1 _ _ hp, T.cl, T.nB, am_bot _ _, b, rfl, hb, fun H2 s2 => .inl ⟨_, rfl, szle (by omega), _, rfl, ?_, ?_⟩⟩
      · rw [Str.length_append, Str.length_append, Str.length_append]
        exact szle (by show 0 + _ + 1 + _ ≤ _; omega)
      · have q := k _ (s1.trans s2)
        rw [← empty_add (itS t)] at q
        exact q
theorem ok_Amount_repr_ (T : Txt K mg a) : FnOk P w K mg base CX0 3 a.f_Amount_repr_ a.d_Amount_repr_ ["self"] (sp_tx a.c_Amount txR) := by
  refine T.F_Amount_repr_.ok sc_Amount_repr_ (fun vs H Q E h => ?_) (fun cdv A outer s H vs Q E hr h => ?_)
  · obtain ⟨p, t, b, rfl, _⟩ := h
    rfl
  · obtain ⟨p, t, b, rfl, ⟨dx, hp⟩, ht, hb, k⟩ := h
    refine ⟨_, (pss_one (ps_ret (pe_joined (.cons pe_str (.cons (pe_fmt (pe_call (ok_decimal T) (hr.mono (by decide)) (by rfl) T.m_decimal T.F_decimal.kp (b_decimal T) .nil pass0 (pa_cons (pe_fldK (K := K) rfl (pv 0) rfl) pa_nil))) (.cons pe_str (.cons (pe_fmt (pe_call (ok_decimal T) (hr.mono (by decide)) (by rfl) T.m_decimal T.F_decimal.kp (b_decimal T) .nil pass0 (pa_cons (pe_fldK (K := K) rfl (pv 0) rfl) pa_nil))) (.cons pe_str .nil)))))))), ?_⟩
    have l1 := itS_len ht
    have l2 := itS_len hb
    have l3 : ("Amount(" : Str).length = 7 := by decide +kernel
    have l4 : (", " : Str).length = 2 := by decide +kernel
    have l5 : (")" : Str).length = 1 := by decide +kernel
    have l0 : (Str.empty).length = 0 := rfl
    refine ⟨_, rfl, sz, _, rfl, p, _, dx, _, _, rfl, hp, T.cl, T.nT, am_top _ _, t, rfl, ht, fun H1 s1 => .inl ⟨_, rfl, szle (by omega), _, rfl, ?_, _, rfl, ?_, ?_⟩⟩
    · rw [Str.length_append, Str.length_append]
      exact szle (by omega)
    · rw [Str.length_append, Str.length_append, Str.length_append]
      exact szle (by omega)
    refine ⟨_, rfl, p, _, dx, _, _, rfl, s1 _ _ hp, T.cl, T.nB, am_bot _ _, b, rfl, hb, fun H2 s2 => .inl ⟨_, rfl, szle (by omega), _, rfl, ?_, _, rfl, ?_, ?_⟩⟩
    · rw [Str.length_append, Str.length_append, Str.length_append, Str.length_append]
      exact szle (by omega)
    · rw [Str.length_append, Str.length_append, Str.length_append, Str.length_append, Str.length_append]
      exact szle (by omega)
    · have q := k _ (s1.trans s2)
      unfold txR at q
      rw [← empty_add ("Amount(" : Str)] at q
      exact q
end
end K11

set_option Elab.async false
set_option linter.all false
set_option maxRecDepth 100000
set_option maxHeartbeats 4000000
set_option exponentiation.threshold 10000
namespace K11
open PySem L2 Lb
abbrev Q2 := Int × Int
theorem take_snoc {α : Type} {l : List α} {i : Nat} {x : α} (h : l[i]? = some x) : l.take i ++ [x] = l.take (i + 1) := by
  rw [List.take_succ, h]
  rfl
theorem ref_at {as : List Addr} {i : Nat} {x : V} (h : (as.map V.ref)[i]? = some x) : ∃ q, x = .ref q ∧ as[i]? = some q := by
  rw [List.getElem?_map] at h
  cases e : as[i]? with
  | none => rw [e] at h; cases h
  | some q => rw [e] at h; exact ⟨q, (Option.some.inj h).symm, rfl⟩
theorem at_ref {as : List Addr} {i : Nat} {q : Addr} (h : as[i]? = some q) : atI (as.map V.ref) (i : Int) = some (.ref q) := atI_nat (by rw [List.getElem?_map, h]; rfl)
theorem at0 {x y : V} : atI [x, y] 0 = some x := atI_nat (j := 0) rfl
theorem at1 {x y : V} : atI [x, y] 1 = some y := atI_nat (j := 1) rfl
/-- a fraction in lowest terms, its parts below a power of two -/
structure Low (n : Nat) (x : Q2) : Prop where
  t : Bd n x.1
  b : Bd n x.2
  pos : 0 < x.2
  g : x.1.gcd x.2 = 1
theorem Low.mono {n m : Nat} {x : Q2} (h : Low n x) (k : n ≤ m) : Low m x := ⟨h.t.mono k, h.b.mono k, h.pos, h.g⟩
def rd (t b : Int) : Q2 := (rdT t b, rdB t b)
theorem rd_spec {t b : Int} (hb : b ≠ 0) : 0 < rdB t b ∧ (rdT t b).gcd (rdB t b) = 1 ∧ t = (rdD t b) * rdT t b ∧ b = (rdD t b) * rdB t b := by
  have hg : 0 < t.gcd b := Int.gcd_pos_of_ne_zero_right t hb
  obtain ⟨t1, ht⟩ := Int.gcd_dvd_left t b
  obtain ⟨b1, hb1⟩ := Int.gcd_dvd_right t b
  have g1 : t1.gcd b1 = 1 := by
    have h := Int.gcd_mul_left (t.gcd b : Int) t1 b1
    rw [← ht, ← hb1] at h
    have h' : t.gcd b * 1 = t.gcd b * t1.gcd b1 := by simpa using h
    exact (Nat.eq_of_mul_eq_mul_left hg h').symm
  have key : ∀ D x y : Int, D ≠ 0 → t = D * x → b = D * y → t.fdiv D = x ∧ b.fdiv D = y := fun D x y hD h1 h2 => by
    rw [h1, h2]
    exact ⟨Int.mul_fdiv_cancel_left _ hD, Int.mul_fdiv_cancel_left _ hD⟩
  have eg : ((Nat.gcd t.natAbs b.natAbs : Nat) : Int) = (t.gcd b : Int) := rfl
  unfold rdT rdB
  by_cases h : b < 0
  · have eD : rdD t b = -(t.gcd b : Int) := by unfold rdD; rw [if_pos h, eg]
    obtain ⟨e1, e2⟩ := key (rdD t b) (-t1) (-b1) (by omega) (by rw [eD, Int.neg_mul_neg]; exact ht) (by rw [eD, Int.neg_mul_neg]; exact hb1)
    rw [e1, e2]
    have hb2 : b1 < 0 := by
      have : (t.gcd b : Int) * b1 < (t.gcd b : Int) * 0 := by omega
      exact Int.lt_of_mul_lt_mul_left this (by omega)
    refine ⟨by omega, ?_, by rw [eD, Int.neg_mul_neg]; exact ht, by rw [eD, Int.neg_mul_neg]; exact hb1⟩
    rw [Int.neg_gcd, Int.gcd_neg]
    exact g1
  · have eD : rdD t b = (t.gcd b : Int) := by unfold rdD; rw [if_neg h, eg]
    obtain ⟨e1, e2⟩ := key (rdD t b) t1 b1 (by omega) (by rw [eD]; exact ht) (by rw [eD]; exact hb1)
    rw [e1, e2]
    have hb2 : 0 < b1 := by
      have : (t.gcd b : Int) * 0 < (t.gcd b : Int) * b1 := by omega
      exact Int.lt_of_mul_lt_mul_left this (by omega)
    exact ⟨hb2, g1, by rw [eD]; exact ht, by rw [eD]; exact hb1⟩
theorem rd_low {n : Nat} {t b : Int} (hb : b ≠ 0) (h1 : Bd n t) (h2 : Bd n b) : Low n (rd t b) := by
  obtain ⟨p, g, e3, e4⟩ := rd_spec (t := t) (b := b) hb
  have hD : 1 ≤ (rdD t b).natAbs := by
    rcases Nat.eq_zero_or_pos (rdD t b).natAbs with e | e
    · have := Int.natAbs_eq_zero.mp e
      rw [this, Int.zero_mul] at e4
      exact absurd e4 hb
    · exact e
  have le : ∀ z : Int, z.natAbs ≤ (rdD t b * z).natAbs := fun z => by
    rw [Int.natAbs_mul]
    exact Nat.le_mul_of_pos_left _ hD
  exact ⟨h1.le (by conv => rhs; rw [e3]
                   exact le _), h2.le (by conv => rhs; rw [e4]
                                          exact le _), p, g⟩
theorem rd_self {t b : Int} (p : 0 < b) (g : t.gcd b = 1) : rdT t b = t ∧ rdB t b = b := by
  have e : rdD t b = 1 := by
    unfold rdD
    rw [if_neg (by omega)]
    show ((t.gcd b : Nat) : Int) = 1
    omega
  unfold rdT rdB
  rw [e, Int.fdiv_one, Int.fdiv_one]
  exact ⟨rfl, rfl⟩
def plusF (x y : Q2) : Q2 := rd (x.1 * y.2 + y.1 * x.2) (x.2 * y.2)
def sumF (l : List Q2) : Q2 := l.foldl plusF (0, 1)
theorem mul_pos_ne {x y : Int} (h : 0 < x) (k : 0 < y) : x * y ≠ 0 := by
  have := Int.mul_pos h k
  omega
theorem plusF_low {n m k : Nat} {x y : Q2} (hx : Low n x) (hy : Low m y) (h : n + m + 1 ≤ k) : Low k (plusF x y) :=
  rd_low (mul_pos_ne hx.pos hy.pos) (((hx.t.mul hy.b).add ((hy.t.mul hx.b).mono (by omega))).mono h) ((hx.b.mul hy.b).mono (by omega))
theorem zero_low {n : Nat} : Low (n + 1) (0, 1) := ⟨by show 0 < 2 ^ (n + 1); exact Nat.pow_pos (by decide), bd_one, by decide, by decide⟩
theorem sumF_snoc (l : List Q2) (x : Q2) : sumF (l ++ [x]) = plusF (sumF l) x := by
  unfold sumF
  rw [List.foldl_append]
  rfl
theorem sumF_low : ∀ {l : List Q2}, (∀ x ∈ l, Low 80 x) → Low (81 * (l.length + 1)) (sumF l) := fun {l} => by
  suffices h : ∀ (n : Nat) (l : List Q2), l.length = n → (∀ x ∈ l, Low 80 x) → Low (81 * (l.length + 1)) (sumF l) from h _ l rfl
  intro n
  induction n with
  | zero =>
    intro l e _
    cases l with
    | nil => exact zero_low.mono (by decide : 80 + 1 ≤ 81)
    | cons => cases e
  | succ n ih =>
    intro l e h
    have hne : l ≠ [] := fun z => by rw [z] at e; cases e
    obtain ⟨r, x, rfl⟩ : ∃ r x, l = r ++ [x] := ⟨l.dropLast, l.getLast hne, (List.dropLast_concat_getLast hne).symm⟩
    rw [List.length_append, List.length_singleton] at e
    have i1 := ih r (by omega) fun y hy => h y (List.mem_append_left _ hy)
    rw [sumF_snoc]
    exact plusF_low i1 (h x (by simp)) (by rw [List.length_append, List.length_singleton]; omega)
/-- values and their fractions -/
def PsR (C : Addr) (H : Hp) : V → Q2 → Prop := fun v x => IsP C H v x.1 x.2
def sp_sumI (C : Addr) : Sp := fun vs H Q _ => ∃ (tp : Addr) (ws : List V) (xs : List Q2), vs = [.ref C, .ref tp] ∧ H tp = some (.tup ws) ∧ Paired (PsR C H) ws xs ∧ (∀ x ∈ xs, Low 80 x) ∧ xs.length ≤ 12 ∧
  ∀ H' q, Same H H' → AmAt C H' q (sumF xs).1 (sumF xs).2 → Q (.ref q) H'
def sp_sum (C : Addr) : Sp := fun vs H Q E => ∃ ws rest, vs = ws ++ rest ∧ ws.length = (["cls"] : List Str).length ∧ rest.length ≤ sizeLine ∧ ∀ p, H p = Option.none → sp_sumI C (ws ++ [V.ref p]) (upd H p (.tup rest)) Q E
theorem sum_of {C : Addr} {H : Hp} {Q : VK} {E : XK} {ws : List V} {xs : List Q2} (h : Paired (PsR C H) ws xs) (l : ∀ x ∈ xs, Low 80 x) (n : xs.length ≤ 12) (k : ∀ H' q, Same H H' → AmAt C H' q (sumF xs).1 (sumF xs).2 → Q (.ref q) H') : sp_sum C (.ref C :: ws) H Q E := by
  refine ⟨[.ref C], ws, rfl, rfl, by rw [Paired.len h]; exact szle (by omega), fun p hp => ⟨p, ws, xs, rfl, upd_same, Paired.imp h fun v x q => q.same (Lb.Same.upd hp), l, n, fun H' q s a => k H' q ((Lb.Same.upd hp).trans s) a⟩⟩
section
variable {P : Program} {w : World} {K : PySem.W.Frag} {mg : Str → Option Value} {base : Heap} {a : Ad}
theorem ok_Amountsum_of (T : Txt K mg a) : FnR P w K mg base CX0 6 a.f_Amountsum_of (sp_sum a.c_Amount) := by
  refine star_ok (ps := ["cls"]) (pv := "amounts") (sp := sp_sumI a.c_Amount) T.F_Amountsum_of sc_Amountsum_of (fun _ _ _ _ _ _ us rest h => match us, rest, h with | [_], [], _ => rfl | [_], _ :: _, _ => rfl) (fun cdv A outer s H vs Q E hr h => ?_)
  obtain ⟨tp, ws, xs, rfl, htp, hp, hl, hn, k⟩ := h
  refine ⟨_, (pss_cons (ps_set (i := 2) sc_Amountsum_of.nd rfl (by first | exact Or.inl rfl | exact Or.inr rfl) (pe_makeL (i := 0) T.mkA (ok_Amount_init_ T) (hr.mono (by decide)) rfl (by first | exact Or.inl rfl | exact Or.inr rfl) (b1_Amount_init_ T).choose_spec.2 (b1_Amount_init_ T).choose_spec.1 pass0 (pa_cons pe_int pa_nil)))
 (pss_cons (ps_for PassesOwn.never rfl (pi_tup (pv 1)) (pg_name (i := 3) sc_Amountsum_of.nd rfl (by first | exact Or.inl rfl | exact Or.inr rfl)) (pss_one (ps_set (i := 2) sc_Amountsum_of.nd rfl (by first | exact Or.inl rfl | exact Or.inr rfl) (pe_op (op_ownBin (K := K) (E := E0) rfl T.oAdd ((ok_Amount_add_ T).raw (b_Amount_add_ T) .nil) (hr.mono (by decide))) (pv 2) (pe_call (ok_amount_of T) (hr.mono (by decide)) (by rfl) T.m_amount_of T.F_amount_of.kp (b_amount_of T) .nil pass0 (pa_cons (pv 3) pa_nil))))))
 (pss_one (ps_ret (pv 2))))), ?_⟩
  have lw : ws.length = xs.length := Paired.len hp
  refine ⟨rfl, fun x dx hx hdx ne => ⟨x, dx, 0, 1, rfl, by decide, by show 0 < _; decide, bd_one, upd_same, fun H1 kp e => ⟨rfl, ?_⟩⟩⟩
  obtain ⟨s1, m1⟩ := made_am hx hdx ne kp e
  rw [rdT_one, rdB_one] at m1
  refine ⟨_, rfl, tp, rfl, ⟨_, SqT.of (s1 _ _ htp)⟩, ?_⟩
  refine for_tup (K := K) (a := tp) (xs := ws) (fun i σ H' => ∃ q u, σ = [some (.ref a.c_Amount), some (.ref tp), some (.ref q), u] ∧ Same H H' ∧ AmAt a.c_Amount H' q (sumF (xs.take i)).1 (sumF (xs.take i)).2)
    ⟨x, _, rfl, s1, m1⟩ (fun i σ H' _ ⟨q, u, _, s, _⟩ => SqT.of (s _ _ htp)) ?_ ?_
  · rintro i v σ H2 hi ⟨q, u, rfl, s2, m2⟩
    obtain ⟨y, hy, py⟩ := Paired.at_ hp hi
    have ly := hl y (List.mem_of_getElem? hy)
    have py := py.same s2
    have li := (sumF_low (l := xs.take i) fun z hz => hl z (List.mem_of_mem_take hz)).mono (m := 1200) (by rw [List.length_take]; omega)
    refine ⟨_, rfl, _, rfl, v, y.1, y.2, rfl, py, ly.t.mono (by decide), fun H3 r s3 m3 => ?_⟩
    have m2 := m2.same s3
    obtain ⟨dq, eq⟩ := id m2
    obtain ⟨dr, er⟩ := id m3
    refine ⟨q, dq, _, rfl, eq, .inr ⟨r, dr, _, rfl, er⟩, q, _, _, _, y.1, y.2, rfl, m2, .inr ⟨r, rfl, m3⟩, li.t.mono (by decide), li.b.mono (by decide), ly.t.mono (by decide), ly.b.mono (by decide), mul_pos_ne li.pos ly.pos, fun H4 z s4 m4 => ?_⟩
    refine ⟨z, _, rfl, (s2.trans s3).trans s4, ?_⟩
    rw [← take_snoc hy, sumF_snoc]
    exact m4
  · rintro σ H2 ⟨q, u, rfl, s2, m2⟩
    rw [lw, List.take_length] at m2
    exact ⟨_, rfl, k _ _ s2 m2⟩
end
end K11

set_option Elab.async false
set_option linter.all false
set_option maxRecDepth 100000
set_option maxHeartbeats 4000000
namespace K11
open PySem L2 Lb
def sp_pot (K : PySem.W.Frag) : Sp := fun vs H Q _ => ∃ (sc : Addr) (ns : List Int) (k : Nat), vs = [.ref sc, .int k] ∧ SqL K H sc (ns.map V.int) ∧ ns.length ≤ 63 ∧ k ≤ 1000 ∧
  ∀ H' p, Same H H' → H p = none → PotAt H' p → Q (.ref p) H'
def sp_draw : Sp := fun vs H Q _ => ∃ (p : Addr) (n : Int), vs = [.ref p, .int n] ∧ PotAt H p ∧ 0 < n ∧ Bd 200 n ∧
  ∀ H' d, Mov p H H' → 0 ≤ d → d < n → Q (.int d) H'
def sp_choice (K : PySem.W.Frag) : Sp := fun vs H Q _ => ∃ (p l : Addr) (xs : List V), vs = [.ref p, .ref l] ∧ PotAt H p ∧ SqL K H l xs ∧ l ≠ p ∧ 0 < xs.length ∧ xs.length ≤ 1000 ∧
  ∀ H' (i : Nat) v, Mov p H H' → xs[i]? = some v → Q v H'
section
variable {P : Program} {w : World} {K : PySem.W.Frag} {mg : Str → Option Value} {base : Heap} {a : Ad}
theorem ok_pot (T : Txt K mg a) : FnOk P w K mg base CX0 1 a.f_pot a.d_pot ["_law_script", "_law_k"] (sp_pot K) := by
  refine T.F_pot.ok sc_pot (fun vs H Q E h => ?_) (fun cdv A outer s H vs Q E hr h => ?_)
  · obtain ⟨sc, ns, k, rfl, _⟩ := h
    rfl
  · obtain ⟨sc, ns, k, rfl, hS, hlen, hk, q⟩ := h
    have fin : ∀ c : Int, 0 ≤ c → ∀ p, H p = none → Q (.ref p) (upd H p (.lst [.int (if c - 10 ^ (18 : Int).toNat > 0 then c - 10 ^ (18 : Int).toNat else 0), .int ((c % 2147483563 * 40693 + 6151 * (k : Int) + 29) % 2147483629 + 1)])) := by
      intro c hc p hp
      refine q _ p (Lb.Same.upd hp) hp ⟨_, _, upd_same, ?_, ?_, ?_⟩
      · split <;> omega
      · omega
      · omega
    refine ⟨_, (pss_cons (ps_set (i := 2) sc_pot.nd rfl (by first | exact Or.inl rfl | exact Or.inr rfl) (pe_op op_add (pe_op op_mulX pe_int (pv 1)) pe_int))
 (pss_cons (ps_if (pt_cmpR op_lt (pv 1) (pe_callB (call_lenK (K := K) rfl) (by rfl) T.b_len (by decide +kernel) (pa_cons (pv 0) pa_nil)) (nomark _)) (pss_one (ps_set (i := 2) sc_pot.nd rfl (by first | exact Or.inl rfl | exact Or.inr rfl) (pe_callB call_abs (by rfl) T.b_abs (by decide +kernel) (pa_cons (pe_ix (ix_listK (K := K) rfl) (pv 0) (pv 1) (fun _ _ => rfl)) pa_nil)))) pss_nil)
 (pss_one (ps_ret (pe_lst (pa_cons (pe_callB (call_max2 rfl) (by rfl) T.b_max (by decide +kernel) (pa_cons pe_int (pa_cons (pe_op op_sub (pv 2) (pe_op op_pow pe_int pe_int)) pa_nil))) (pa_cons (pe_op op_add (pe_op op_mod (pe_callTy call_int1 (by rfl) T.b_int (by decide +kernel) (pa_cons (pe_op op_add (pe_op op_add (pe_op op_mulX (pe_op op_mod (pe_callTy call_int1 (by rfl) T.b_int (by decide +kernel) (pa_cons (pv 2) pa_nil)) pe_int) pe_int) (pe_op op_mulX pe_int (pv 1))) pe_int) pa_nil)) pe_int) pe_int) pa_nil))))))), ?_⟩
    refine ⟨_, rfl, _, _, rfl, rfl, mulx_ok (a := 100) (b := 100) (by decide) (by omega) (by decide), _, _, rfl, rfl, ?_⟩
    -- if k < len(script)
    refine ⟨_, rfl, _, rfl, _, _, rfl, .inl hS, _, _, rfl, rfl, _, rfl, ?_⟩
    rw [List.length_map]
    refine ite2 (fun hlt => ?_) (fun _ => ?_)
    · have hlt' : k < ns.length := by simpa using hlt
      have hget : (ns.map V.int)[k]? = some (V.int ns[k]) := by simp [hlt']
      refine ⟨_, rfl, _, rfl, _, _, _, _, rfl, rfl, hS, atI_nat hget, _, rfl, ?_⟩
      refine ⟨_, rfl, _, _, rfl, rfl, ⟨by decide, by decide, by decide⟩, _, _, rfl, rfl, _, _, rfl, ?_⟩
      refine ⟨_, rfl, .inl ⟨_, rfl, _, _, rfl, rfl, (by show (0 : Int) < _; decide), _, _, rfl, rfl, mulx_ok (a := 100) (b := 100) (by omega) (by decide) (by decide), ?_⟩⟩
      refine ⟨_, rfl, _, _, rfl, rfl, mulx_ok (a := 100) (b := 100) (by decide) (by omega) (by decide), _, _, rfl, rfl, _, _, rfl, rfl, ?_⟩
      refine .inl ⟨_, rfl, _, _, rfl, rfl, (by show (0 : Int) < _; decide), _, _, rfl, rfl, sz, fun p hp => ?_⟩
      exact fin _ (by split <;> omega) p hp
    · refine ⟨_, rfl, _, _, rfl, rfl, ⟨by decide, by decide, by decide⟩, _, _, rfl, rfl, _, _, rfl, ?_⟩
      refine ⟨_, rfl, .inl ⟨_, rfl, _, _, rfl, rfl, (by show (0 : Int) < _; decide), _, _, rfl, rfl, mulx_ok (a := 100) (b := 100) (by omega) (by decide) (by decide), ?_⟩⟩
      refine ⟨_, rfl, _, _, rfl, rfl, mulx_ok (a := 100) (b := 100) (by decide) (by omega) (by decide), _, _, rfl, rfl, _, _, rfl, rfl, ?_⟩
      refine .inl ⟨_, rfl, _, _, rfl, rfl, (by show (0 : Int) < _; decide), _, _, rfl, rfl, sz, fun p hp => ?_⟩
      exact fin _ (by omega) p hp

theorem ok_draw (T : Txt K mg a) : FnOk P w K mg base CX0 1 a.f_draw a.d_draw ["_law_pot_here", "_law_size"] sp_draw := by
  refine T.F_draw.ok sc_draw (fun vs H Q E h => ?_) (fun cdv A outer s H vs Q E hr h => ?_)
  · obtain ⟨p, n, rfl, _⟩ := h
    rfl
  · obtain ⟨p, n, rfl, ⟨x, y, hp, hx, hy0, hy1⟩, hn, hb, q⟩ := h
    have S := SqL.of (K := K) hp
    have e0 : atI ([.int x, .int y] : List V) ((0 : Nat) : Int) = some (.int x) := atI_nat rfl
    have e1 : atI ([.int x, .int y] : List V) ((1 : Nat) : Int) = some (.int y) := atI_nat rfl
    refine ⟨_, (pss_cons (ps_if (pt_cmpR op_gt (pe_ix (ix_listK (K := K) rfl) (pv 0) pe_int (fun _ _ => rfl)) pe_int (nomark _)) (pss_cons (ps_asg (pe_callB call_divmodW (by rfl) T.b_divmod (by decide +kernel) (pa_cons (pe_ix (ix_listK (K := K) rfl) (pv 0) pe_int (fun _ _ => rfl)) (pa_cons (pv 1) pa_nil))) (pg_tupK (K := K) (n := 2) rfl rfl (pgs_cons (pg_sub (pv 0) pe_int set_list) (pgs_cons (pg_name (i := 2) sc_draw.nd rfl (by first | exact Or.inl rfl | exact Or.inr rfl)) pgs_nil))))
 (pss_one (ps_ret (pv 2)))) pss_nil)
 (pss_cons (ps_asg (pe_op op_mod (pe_callTy call_int1 (by rfl) T.b_int (by decide +kernel) (pa_cons (pe_op op_add (pe_op op_mulX (pe_ix (ix_listK (K := K) rfl) (pv 0) pe_int (fun _ _ => rfl)) pe_int) pe_int) pa_nil)) pe_int) (pg_sub (pv 0) pe_int set_list))
 (pss_one (ps_ret (pe_op op_mod (pe_callTy call_int1 (by rfl) T.b_int (by decide +kernel) (pa_cons (pe_op op_fdivW (pe_op op_mod (pe_callTy call_int1 (by rfl) T.b_int (by decide +kernel) (pa_cons (pe_op op_mulX (pe_ix (ix_listK (K := K) rfl) (pv 0) pe_int (fun _ _ => rfl)) (pe_ix (ix_listK (K := K) rfl) (pv 0) pe_int (fun _ _ => rfl))) pa_nil)) pe_int) pe_int) pa_nil)) (pv 1)))))), ?_⟩
    refine ⟨_, rfl, _, _, _, _, rfl, rfl, S, e0, _, _, rfl, rfl, _, rfl, ?_⟩
    refine ite2 (fun hlt => ?_) (fun _ => ?_)
    · have hlt : 0 < x := by simpa using hlt
      refine ⟨_, rfl, _, _, _, _, rfl, rfl, S, e0, _, rfl, _, _, rfl, divp_small hn (hb.mono (by decide)), fun t ht => ?_⟩
      have npt : p ≠ t := ne_of_none hp ht
      refine ⟨_, _, rfl, SqT.of upd_same, rfl, ?_⟩
      have hp2 : upd H t (.tup [.int (x / n), .int (x % n)]) p = some (.lst [.int x, .int y]) := by rw [upd_ne npt]; exact hp
      refine ⟨_, _, rfl, ⟨_, rfl, _, _, _, 0, rfl, rfl, hp2, rfl, _, _, rfl, ⟨rfl, ?_⟩⟩⟩
      refine ⟨_, rfl, ?_⟩
      refine q _ _ ⟨fun b o nb e => ?_, _, _, upd_same, Int.ediv_nonneg hx (by omega), hy0, hy1⟩ (Int.emod_nonneg _ (by omega)) (Int.emod_lt_of_pos _ hn)
      rw [upd_ne nb, upd_ne (ne_of_none e ht)]
      exact e
    · refine ⟨_, rfl, _, _, _, _, rfl, rfl, S, e1, _, _, rfl, rfl, mulx_ok (a := 100) (b := 100) (by omega) (by decide) (by decide), _, _, rfl, rfl, .inl ⟨_, rfl, _, _, rfl, rfl, (by show (0 : Int) < _; decide), ?_⟩⟩
      refine ⟨_, rfl, _, _, _, 1, rfl, rfl, hp, rfl, ?_⟩
      have e2 : ∀ z : Int, atI ([.int x, .int z] : List V) ((1 : Nat) : Int) = some (.int z) := fun z => atI_nat rfl
      have S2 : ∀ z : Int, SqL K (upd H p (.lst ([V.int x, V.int y].set 1 (.int z)))) p [.int x, .int z] := fun z => SqL.of upd_same
      refine ⟨_, rfl, _, _, _, _, rfl, rfl, S2 _, e2 _, _, rfl, _, _, _, _, rfl, rfl, S2 _, e2 _, _, _, rfl, rfl, mulx_ok (a := 100) (b := 100) (by omega) (by omega) (by decide), ?_⟩
      refine .inl ⟨_, rfl, _, _, rfl, rfl, (by show (0 : Int) < _; decide), _, _, rfl, rfl, ⟨(by show (0 : Int) < _; decide), (by decide)⟩, .inl ⟨_, rfl, _, rfl, _, _, rfl, rfl, hn, ?_⟩⟩
      refine q _ _ ⟨fun b o nb e => ?_, _, _, upd_same, hx, by omega, by omega⟩ (Int.emod_nonneg _ (by omega)) (Int.emod_lt_of_pos _ hn)
      rw [upd_ne nb]
      exact e
end
end K11

set_option Elab.async false
set_option linter.all false
set_option maxRecDepth 100000
set_option maxHeartbeats 4000000
set_option exponentiation.threshold 10000
namespace K11
open PySem L2 Lb
def sp_number : Sp := fun vs H Q _ => ∃ (p : Addr) (n : Int), vs = [.ref p, .int n] ∧ PotAt H p ∧ 0 < n ∧ n ≤ 10000000000 ∧ ∀ H' d, Mov p H H' → Bd 70 d → Q (.int d) H'
def sp_lowest : Sp := fun vs H Q _ => ∃ (h l : Int), vs = [.int h, .int l] ∧ l ≠ 0 ∧ Bd 3000 h ∧ Bd 3000 l ∧ ∀ H' q, Same H H' → Fr H' q (rdT h l) (rdB h l) → Q (.ref q) H'
def ivals : L2.St → Nat → Int := fun σ i => match σ[i]? with
  | some (some (V.int y)) => y
  | _ => 0
theorem gcd_mod (t b : Int) : (t % b).gcd b = t.gcd b := by
  rw [Int.gcd_left_eq_iff]
  intro c hc
  have e := Int.emod_add_mul_ediv t b
  obtain ⟨k, hk⟩ := hc
  constructor
  · rintro ⟨m, hm⟩
    exact ⟨m + k * (t / b), by rw [← e, hm]; grind⟩
  · rintro ⟨m, hm⟩
    exact ⟨m - k * (t / b), by grind⟩
section
variable {P : Program} {w : World} {K : PySem.W.Frag} {mg : Str → Option Value} {base : Heap} {a : Ad}
theorem ok_choice (T : Txt K mg a) : FnOk P w K mg base CX0 2 a.f_choice a.d_choice ["_law_pot_here", "_law_some"] (sp_choice K) := by
  refine T.F_choice.ok sc_choice (fun vs H Q E h => ?_) (fun cdv A outer s H vs Q E hr h => ?_)
  · obtain ⟨p, l, xs, rfl, _⟩ := h
    rfl
  · obtain ⟨p, l, xs, rfl, hp, hS, hne, h0, h1, q⟩ := h
    refine ⟨_, (pss_one (ps_ret (pe_ix (ix_listK (K := K) rfl) (pv 1) (pe_call (ok_draw T) (hr.mono (by decide)) (by rfl) T.m_draw T.F_draw.kp (b_draw T) .nil pass0 (pa_cons (pv 0) (pa_cons (pe_callB (call_lenK (K := K) rfl) (by rfl) T.b_len (by decide +kernel) (pa_cons (pv 1) pa_nil)) pa_nil))) (fun _ _ => rfl)))), ?_⟩
    refine ⟨_, rfl, _, rfl, _, rfl, _, _, rfl, .inl hS, ?_⟩
    refine ⟨p, _, rfl, hp, by omega, by unfold Bd; omega, fun H' d m d0 d1 => ?_⟩
    have hi : d.toNat < xs.length := by omega
    have e : atI xs d = some xs[d.toNat] := by
      have := atI_nat (xs := xs) (j := d.toNat) (List.getElem?_eq_getElem hi)
      rwa [Int.toNat_of_nonneg d0] at this
    exact ⟨_, _, _, _, rfl, rfl, SqL.mov m hne hS, e, q _ _ _ m (List.getElem?_eq_getElem hi)⟩
theorem ok_number (T : Txt K mg a) : FnOk P w K mg base CX0 3 a.f_number a.d_number ["_law_pot_here", "_law_power"] sp_number := by
  refine T.F_number.ok sc_number (fun vs H Q E h => ?_) (fun cdv A outer s H vs Q E hr h => ?_)
  · obtain ⟨p, n, rfl, _⟩ := h
    rfl
  · obtain ⟨p, n, rfl, hp, n0, n1, q⟩ := h
    have bn : Bd 34 n := by unfold Bd; omega
    have b0 : Bd 70 0 := by unfold Bd; decide
    have b1 : Bd 69 1 := by unfold Bd; decide
    have bnn : Bd 68 (n * n) := bn.mul bn
    refine ⟨_, (pss_cons (ps_set (i := 2) sc_number.nd rfl (by first | exact Or.inl rfl | exact Or.inr rfl) (pe_call (ok_draw T) (hr.mono (by decide)) (by rfl) T.m_draw T.F_draw.kp (b_draw T) .nil pass0 (pa_cons (pv 0) (pa_cons pe_int pa_nil))))
 (pss_cons (ps_if (pt_cmpR op_eq (pv 2) pe_int (nomark _)) (pss_one (ps_ret (pe_call (ok_choice T) (hr.mono (by decide)) (by rfl) T.m_choice T.F_choice.kp (b_choice T) .nil pass0 (pa_cons (pv 0) (pa_cons (pe_lst (pa_cons pe_int (pa_cons pe_int (pa_cons (pe_un un_neg pe_int) (pa_cons (pv 1) (pa_cons (pe_un un_neg (pv 1)) (pa_cons (pe_op op_sub (pe_op op_mulX (pv 1) (pv 1)) pe_int) pa_nil))))))) pa_nil))))) pss_nil)
 (pss_cons (ps_if (pt_cmpR op_lt (pv 2) pe_int (nomark _)) (pss_one (ps_ret (pe_op op_sub (pe_call (ok_draw T) (hr.mono (by decide)) (by rfl) T.m_draw T.F_draw.kp (b_draw T) .nil pass0 (pa_cons (pv 0) (pa_cons pe_int pa_nil))) pe_int))) pss_nil)
 (pss_cons (ps_set (i := 3) sc_number.nd rfl (by first | exact Or.inl rfl | exact Or.inr rfl) (pe_op op_add (pe_op op_mulX (pe_call (ok_draw T) (hr.mono (by decide)) (by rfl) T.m_draw T.F_draw.kp (b_draw T) .nil pass0 (pa_cons (pv 0) (pa_cons (pv 1) pa_nil))) (pv 1)) (pe_call (ok_draw T) (hr.mono (by decide)) (by rfl) T.m_draw T.F_draw.kp (b_draw T) .nil pass0 (pa_cons (pv 0) (pa_cons (pv 1) pa_nil)))))
 (pss_one (ps_ret (pe_ix (ix_listK (K := K) rfl) (pe_lst (pa_cons (pv 3) (pa_cons (pe_un un_neg (pv 3)) pa_nil))) (pe_call (ok_draw T) (hr.mono (by decide)) (by rfl) T.m_draw T.F_draw.kp (b_draw T) .nil pass0 (pa_cons (pv 0) (pa_cons pe_int pa_nil))) (fun _ _ => rfl)))))))), ?_⟩
    refine ⟨_, rfl, p, _, rfl, hp, by decide, by unfold Bd; decide, fun H1 d m d0 d1 => ?_⟩
    refine ⟨_, rfl, rfl, _, rfl, ?_⟩
    refine ite2 (fun _ => ?_) (fun _ => ?_)
    · refine ⟨_, rfl, _, rfl, _, rfl, _, rfl, _, rfl, _, rfl, _, rfl, _, _, rfl, rfl, bn.cm bn (by decide), _, _, rfl, rfl, sz, fun l hl => ?_⟩
      obtain ⟨x, y, hp2, _⟩ := id m.pot
      have nlp : l ≠ p := (ne_of_none hp2 hl).symm
      have mu := m.same (Lb.Same.upd (o := .lst [V.int 0, V.int 1, V.int (-1), V.int n, V.int (-n), V.int (n * n - 1)]) hl)
      refine ⟨p, l, _, rfl, mu.pot, SqL.of upd_same, nlp, Nat.succ_pos _, (by show 6 ≤ 1000; decide), fun H3 i v m3 hv => ?_⟩
      have hvb : ∃ b : Int, v = .int b ∧ Bd 70 b := by
        match i, hv with
        | 0, hv => exact ⟨0, (Option.some.inj hv).symm, b0⟩
        | 1, hv => exact ⟨1, (Option.some.inj hv).symm, b1.mono (by decide)⟩
        | 2, hv => exact ⟨-1, (Option.some.inj hv).symm, b1.neg.mono (by decide)⟩
        | 3, hv => exact ⟨n, (Option.some.inj hv).symm, bn.mono (by decide)⟩
        | 4, hv => exact ⟨-n, (Option.some.inj hv).symm, bn.neg.mono (by decide)⟩
        | 5, hv => exact ⟨n * n - 1, (Option.some.inj hv).symm, ((bnn.mono (by decide : 68 ≤ 69)).sub b1).mono (by decide)⟩
        | n + 6, hv => cases hv
      obtain ⟨b, rfl, bb⟩ := hvb
      exact q _ _ (mu.trans m3) bb
    · refine ⟨_, rfl, _, _, rfl, rfl, _, rfl, ?_⟩
      refine ite2 (fun _ => ?_) (fun _ => ?_)
      · refine ⟨_, rfl, p, _, rfl, m.pot, by decide, by unfold Bd; decide, fun H2 e m2 e0 e1 => ?_⟩
        exact ⟨_, _, rfl, rfl, q _ _ (m.trans m2) (by unfold Bd; omega)⟩
      · refine ⟨_, rfl, _, rfl, p, n, rfl, m.pot, n0, bn.mono (by decide), fun H2 e m2 e0 e1 => ?_⟩
        have be : Bd 34 e := by unfold Bd; omega
        refine ⟨_, rfl, _, _, rfl, rfl, be.cm bn (by decide), _, rfl, _, rfl, p, n, rfl, m2.pot, n0, bn.mono (by decide), fun H3 f m3 f0 f1 => ?_⟩
        have bf : Bd 34 f := by unfold Bd; omega
        have bb : Bd 69 (e * n + f) := (be.mul bn).add (bf.mono (by decide))
        have m13 := (m.trans m2).trans m3
        refine ⟨_, _, rfl, rfl, _, rfl, _, rfl, _, rfl, sz, fun l hl => ?_⟩
        obtain ⟨x, y, hp2, _⟩ := id m13.pot
        have nlp : l ≠ p := (ne_of_none hp2 hl).symm
        have mu := m13.same (Lb.Same.upd (o := .lst [V.int (e * n + f), V.int (-(e * n + f))]) hl)
        refine ⟨_, rfl, p, _, rfl, mu.pot, by decide, by unfold Bd; decide, fun H4 g m4 g0 g1 => ?_⟩
        have S := SqL.mov (K := K) m4 nlp (SqL.of upd_same)
        rcases (show g = 0 ∨ g = 1 by omega) with rfl | rfl
        · exact ⟨_, _, _, _, rfl, rfl, S, at0, q _ _ (mu.trans m4) (bb.mono (by decide))⟩
        · exact ⟨_, _, _, _, rfl, rfl, S, at1, q _ _ (mu.trans m4) (bb.neg.mono (by decide))⟩
theorem ok_lowest (T : Txt K mg a) : FnOk P w K mg base CX0 1 a.f_lowest a.d_lowest ["_law_high", "_law_low"] sp_lowest := by
  refine T.F_lowest.ok sc_lowest (fun vs H Q E h => ?_) (fun cdv A outer s H vs Q E hr h => ?_)
  · obtain ⟨x, y, rfl, _⟩ := h
    rfl
  · obtain ⟨x, y, rfl, hy, bx, bY, q⟩ := h
    refine ⟨_, (pss_cons (ps_par (i := 2) (j := 3) rfl sc_lowest.nd rfl rfl (by decide) rfl rfl (pa_cons (pe_callB call_abs (by rfl) T.b_abs (by decide +kernel) (pa_cons (pv 0) pa_nil)) (pa_cons (pe_callB call_abs (by rfl) T.b_abs (by decide +kernel) (pa_cons (pv 1) pa_nil)) pa_nil)) (by rfl))
 (pss_cons (ps_while PassesOwn.never (pt_cmpR op_gt (pv 3) pe_int (nomark _)) (pss_one (ps_par (i := 2) (j := 3) rfl sc_lowest.nd rfl rfl (by decide) rfl rfl (pa_cons (pv 3) (pa_cons (pe_op op_mod (pe_callTy call_int1 (by rfl) T.b_int (by decide +kernel) (pa_cons (pv 2) pa_nil)) (pv 3)) pa_nil)) (by rfl))))
 (pss_cons (ps_set (i := 2) sc_lowest.nd rfl (by first | exact Or.inl rfl | exact Or.inr rfl) (pe_ifExp (pt_cmpR op_gt (pv 1) pe_int (nomark _)) (pv 2) (pe_un un_neg (pv 2))))
 (pss_one (ps_ret (pe_tup (pa_cons (pe_op op_fdivX (pv 0) (pv 2)) (pa_cons (pe_op op_fdivX (pv 1) (pv 2)) pa_nil)))))))), ?_⟩
    refine ⟨_, rfl, _, rfl, _, rfl, _, rfl, _, _, rfl, ?_⟩
    refine while_by (fun σ H' => H' = H ∧ ∃ u v : Int, σ = [some (.int x), some (.int y), some (.int u), some (.int v)] ∧ 0 ≤ u ∧ 0 ≤ v ∧ u.gcd v = x.gcd y) (fun σ _ => (ivals σ 3).toNat)
      ⟨rfl, _, _, rfl, by split <;> omega, by split <;> omega, ?_⟩ ?_ (fun σ H Q Q' k ⟨v, e, i, j, e1, e2, b, e3, q⟩ => ⟨v, e, i, j, e1, e2, b, e3, k _ _ q⟩)
    · split <;> split <;> simp
    · rintro σ H' ⟨rfl, u, v, rfl, hu, hv, g⟩
      refine ⟨_, rfl, _, _, rfl, rfl, _, rfl, ?_⟩
      refine ite2 (fun hlt => ?_) (fun hlt => ?_)
      · have hlt : 0 < v := by simpa using hlt
        refine ⟨_, rfl, _, rfl, .inl ⟨_, rfl, _, rfl, _, _, rfl, rfl, hlt, _, _, rfl, ?_⟩⟩
        refine ⟨⟨rfl, _, _, rfl, hv, Int.emod_nonneg _ (by omega), ?_⟩, ?_⟩
        · rw [Int.gcd_comm, gcd_mod]
          exact g
        · show (u % v).toNat < v.toNat
          have := Int.emod_lt_of_pos u hlt
          have := Int.emod_nonneg u (show v ≠ 0 by omega)
          omega
      · have e0 : v = 0 := by
          have : ¬ 0 < v := by simpa using hlt
          omega
        subst e0
        have e : u = ((Nat.gcd x.natAbs y.natAbs : Nat) : Int) := by
          have g' : u.natAbs = Nat.gcd x.natAbs y.natAbs := by
            rw [Int.gcd_zero] at g
            exact g
          omega
        subst e
        have hd : rdD x y ≠ 0 := by
          have : 0 < Nat.gcd x.natAbs y.natAbs := Nat.gcd_pos_of_pos_right _ (by omega)
          unfold rdD
          split <;> omega
        have bd : Bd 3000 (rdD x y) := by
          have : Nat.gcd x.natAbs y.natAbs ≤ y.natAbs := Nat.gcd_le_right _ (by omega)
          refine bY.le ?_
          unfold rdD
          split <;> omega
        have fin : ∀ D : Int, D = rdD x y → ∀ (H' : Hp) r, H' r = none → Q (.ref r) (upd H' r (.tup [.int (x.fdiv D), .int (y.fdiv D)])) → True := fun _ _ _ _ _ _ => trivial
        refine ⟨_, rfl, _, _, rfl, rfl, _, rfl, ite2 (fun h1 => ?_) (fun h1 => ?_)⟩
        · have h1 : 0 < y := by simpa using h1
          have eD : ((Nat.gcd x.natAbs y.natAbs : Nat) : Int) = rdD x y := by unfold rdD; rw [if_neg (by omega)]
          rw [eD]
          refine ⟨_, rfl, _, rfl, _, rfl, _, _, rfl, rfl, bd.cx hd (by decide), _, rfl, _, rfl, _, _, rfl, rfl, bd.cx hd (by decide), sz, fun r hr => q _ r (Lb.Same.upd hr) upd_same⟩
        · have h1 : ¬ 0 < y := by simpa using h1
          have eD : -((Nat.gcd x.natAbs y.natAbs : Nat) : Int) = rdD x y := by unfold rdD; rw [if_pos (by omega)]
          refine ⟨_, rfl, _, rfl, ?_⟩
          dsimp only
          rw [eD]
          refine ⟨_, rfl, _, rfl, _, _, rfl, rfl, bd.cx hd (by decide), _, rfl, _, rfl, _, _, rfl, rfl, bd.cx hd (by decide), sz, fun r hr => q _ r (Lb.Same.upd hr) upd_same⟩
end
end K11

set_option Elab.async false
set_option linter.all false
set_option maxRecDepth 100000
set_option maxHeartbeats 4000000
set_option exponentiation.threshold 10000
namespace K11
open PySem L2 Lb
/-- a pair of what is passed and its fraction, as a tuple at r -/
structure Pr (C : Addr) (H : Hp) (r : Addr) (x : Q2) : Prop where
  ex : ∃ v f, H r = some (.tup [v, .ref f]) ∧ IsP C H v x.1 x.2 ∧ Fr H f x.1 x.2
def sp_drawn (C : Addr) : Sp := fun vs H Q _ => ∃ (p : Addr), vs = [.ref p] ∧ PotAt H p ∧ ∀ H' r x, Mov p H H' → Pr C H' r x → Low 80 x → Q (.ref r) H'
def sp_text : Sp := fun vs H Q _ => ∃ q t b, vs = [.ref q] ∧ Fr H q t b ∧ Bd 1800 t ∧ Bd 1800 b ∧ Q (.str (txS t b)) H
def timesF (x y : Q2) : Q2 := rd (x.1 * y.1) (x.2 * y.2)
def sp_fr2 (f : Q2 → Q2 → Q2) : Sp := fun vs H Q _ => ∃ (p q : Addr) (x y : Q2), vs = [.ref p, .ref q] ∧ Fr H p x.1 x.2 ∧ Fr H q y.1 y.2 ∧ Bd 1400 x.1 ∧ Bd 1400 x.2 ∧ Bd 1400 y.1 ∧ Bd 1400 y.2 ∧ 0 < x.2 ∧ 0 < y.2 ∧
  ∀ H' r, Same H H' → Fr H' r (f x y).1 (f x y).2 → Q (.ref r) H'
def sp_opposite : Sp := fun vs H Q _ => ∃ (p : Addr) (x : Q2), vs = [.ref p] ∧ Fr H p x.1 x.2 ∧ ∀ H' r, Same H H' → Fr H' r (-x.1) x.2 → Q (.ref r) H'
section
variable {P : Program} {w : World} {K : PySem.W.Frag} {mg : Str → Option Value} {base : Heap} {a : Ad}
theorem ok_drawn (T : Txt K mg a) : FnOk P w K mg base CX0 4 a.f_drawn a.d_drawn ["_law_pot_here"] (sp_drawn a.c_Amount) := by
  refine T.F_drawn.ok sc_drawn (fun vs H Q E h => ?_) (fun cdv A outer s H vs Q E hr h => ?_)
  · obtain ⟨p, rfl, _⟩ := h
    rfl
  · obtain ⟨p, rfl, hp, k⟩ := h
    refine ⟨_, (pss_cons (ps_par (i := 1) (j := 2) rfl sc_drawn.nd rfl rfl (by decide) rfl rfl (pa_cons (pe_call (ok_number T) (hr.mono (by decide)) (by rfl) T.m_number T.F_number.kp (b_number T) .nil pass0 (pa_cons (pv 0) (pa_cons (pe_op op_pow pe_int pe_int) pa_nil))) (pa_cons (pe_call (ok_number T) (hr.mono (by decide)) (by rfl) T.m_number T.F_number.kp (b_number T) .nil pass0 (pa_cons (pv 0) (pa_cons (pe_op op_pow pe_int pe_int) pa_nil))) pa_nil)) (by rfl))
 (pss_cons (ps_if (PW.pt (pw_or (pt_cmpR op_eq (pv 2) pe_int (nomark _)) (pw_or1 (pt_cmpR op_eq (pe_call (ok_draw T) (hr.mono (by decide)) (by rfl) T.m_draw T.F_draw.kp (b_draw T) .nil pass0 (pa_cons (pv 0) (pa_cons pe_int pa_nil))) pe_int (nomark _))))) (pss_one (ps_ret (pe_tup (pa_cons (pv 1) (pa_cons (pe_tup (pa_cons (pv 1) (pa_cons pe_int pa_nil))) pa_nil))))) pss_nil)
 (pss_cons (ps_if (pt_cmpR op_eq (pe_call (ok_draw T) (hr.mono (by decide)) (by rfl) T.m_draw T.F_draw.kp (b_draw T) .nil pass0 (pa_cons (pv 0) (pa_cons pe_int pa_nil))) pe_int (nomark _)) (pss_one (ps_ret (pe_tup (pa_cons (pe_make T.mkA (ok_Amount_init_ T) (hr.mono (by decide)) (by rfl) T.mA (b_Amount_init_ T) .nil pass0 (pa_cons (pv 1) (pa_cons (pv 2) pa_nil))) (pa_cons (pe_call (ok_lowest T) (hr.mono (by decide)) (by rfl) T.m_lowest T.F_lowest.kp (b_lowest T) .nil pass0 (pa_cons (pv 1) (pa_cons (pv 2) pa_nil))) pa_nil))))) pss_nil)
 (pss_one (ps_ret (pe_tup (pa_cons (pe_makeK0 T.mkA (ok_Amount_init_ T) (hr.mono (by decide)) (by rfl) T.mA (kb_Amount_init_ T).choose_spec pass0 (pk_cons (pv 2) (pk_cons (pv 1) pk_nil))) (pa_cons (pe_call (ok_lowest T) (hr.mono (by decide)) (by rfl) T.m_lowest T.F_lowest.kp (b_lowest T) .nil pass0 (pa_cons (pv 1) (pa_cons (pv 2) pa_nil))) pa_nil)))))))), ?_⟩
    refine ⟨_, rfl, _, _, rfl, rfl, ⟨by decide, by decide, by decide⟩, p, _, rfl, hp, (by show (0 : Int) < 10 ^ (10 : Int).toNat; decide), (by show (10 : Int) ^ (10 : Int).toNat ≤ 10000000000; decide), fun H1 h m1 bh => ?_⟩
    refine ⟨_, rfl, _, _, rfl, rfl, ⟨by decide, by decide, by decide⟩, p, _, rfl, m1.pot, (by show (0 : Int) < 10 ^ (5 : Int).toNat; decide), (by show (10 : Int) ^ (5 : Int).toNat ≤ 10000000000; decide), fun H2 l m2 bl => ?_⟩
    have M := m1.trans m2
    refine ⟨_, _, rfl, ?_⟩
    have one : ∀ (H3 : Hp), Mov p H H3 → ∀ q1, H3 q1 = none → ∀ q2, (upd H3 q1 (.tup [.int h, .int 1])) q2 = none → Q (.ref q2) (upd (upd H3 q1 (.tup [.int h, .int 1])) q2 (.tup [.int h, .ref q1])) := by
      intro H3 M q1 h1 q2 h2
      refine k _ _ (h, 1) ((M.same (Lb.Same.upd h1)).same (Lb.Same.upd h2)) ⟨_, q1, upd_same, .inl ⟨rfl, rfl⟩, Lb.Same.upd h2 _ _ upd_same⟩ ⟨bh.mono (by decide), bd_one, (by show (0 : Int) < 1; decide), (by simp)⟩
    have two : ∀ (H3 H4 H5 : Hp) (x dx f r : Addr), l ≠ 0 → Mov p H H3 → H3 x = none → H3 dx = none → dx ≠ x → (∀ y o, y ≠ x → (upd (upd H3 dx (.own x)) x (.ins a.c_Amount dx [])) y = some o → H4 y = some o) → H4 x = some (.ins a.c_Amount dx (am (rdT h l) (rdB h l))) →
        Same H4 H5 → Fr H5 f (rdT h l) (rdB h l) → H5 r = none → Q (.ref r) (upd H5 r (.tup [.ref x, .ref f])) := by
      intro H3 H4 H5 x dx f r hl M hx hdx ne kp e s5 ff hr5
      obtain ⟨s, m⟩ := made_am hx hdx ne kp e
      refine k _ _ (rd h l) (((M.same s).same s5).same (Lb.Same.upd hr5)) ⟨_, f, upd_same, .inr ⟨x, rfl, (m.same s5).same (Lb.Same.upd hr5)⟩, Lb.Same.upd hr5 _ _ ff⟩ (rd_low hl (bh.mono (by decide)) (bl.mono (by decide)))
    refine ⟨_, rfl, rfl, _, rfl, ite2 (fun h0 => ?_) (fun h0 => ?_)⟩
    · exact ⟨_, rfl, _, rfl, sz, fun q1 h1 => ⟨sz, fun q2 h2 => one H2 M q1 h1 q2 h2⟩⟩
    · have hl : l ≠ 0 := fun z => h0 (decide_eq_true (by rw [z]))
      refine ⟨_, rfl, p, _, rfl, M.pot, by decide, by unfold Bd; decide, fun H3 d m3 d0 d1 => ?_⟩
      have M := M.trans m3
      refine ⟨rfl, _, rfl, ite2 (fun _ => ?_) (fun _ => ?_)⟩
      · exact ⟨_, rfl, _, rfl, sz, fun q1 h1 => ⟨sz, fun q2 h2 => one H3 M q1 h1 q2 h2⟩⟩
      · refine ⟨_, rfl, p, _, rfl, M.pot, by decide, by unfold Bd; decide, fun H4 d m4 d0 d1 => ?_⟩
        have M := M.trans m4
        refine ⟨rfl, _, rfl, ite2 (fun _ => ?_) (fun _ => ?_)⟩
        · refine ⟨_, rfl, _, rfl, fun x dx hx hdx ne => ⟨x, dx, h, l, rfl, hl, bh.mono (by decide), bl.mono (by decide), upd_same, fun H5 kp e => ⟨rfl, ?_⟩⟩⟩
          refine ⟨_, rfl, _, rfl, h, l, rfl, hl, bh.mono (by decide), bl.mono (by decide), fun H6 f s6 ff => ⟨sz, fun r hr => ?_⟩⟩
          exact two H4 H5 H6 x dx f r hl M hx hdx ne kp e s6 ff hr
        · refine ⟨_, rfl, _, rfl, rfl, rfl, fun x dx hx hdx ne => ⟨x, dx, h, l, rfl, hl, bh.mono (by decide), bl.mono (by decide), upd_same, fun H5 kp e => ⟨rfl, ?_⟩⟩⟩
          refine ⟨_, rfl, _, rfl, h, l, rfl, hl, bh.mono (by decide), bl.mono (by decide), fun H6 f s6 ff => ⟨sz, fun r hr => ?_⟩⟩
          exact two H4 H5 H6 x dx f r hl M hx hdx ne kp e s6 ff hr
theorem ok_text (T : Txt K mg a) : FnOk P w K mg base CX0 1 a.f_text a.d_text ["_law_due"] sp_text := by
  refine T.F_text.ok sc_text (fun vs H Q E h => ?_) (fun cdv A outer s H vs Q E hr h => ?_)
  · obtain ⟨q, t, b, rfl, _⟩ := h
    rfl
  · obtain ⟨q, t, b, rfl, hq, bt, bb, k⟩ := h
    refine ⟨_, (pss_one (ps_ret (pe_ifExp (pt_cmpR op_eq (pe_ix (ix_tupK (K := K) rfl) (pv 0) pe_int (fun _ _ => rfl)) pe_int (nomark _)) (pe_callTy call_str_int (by rfl) T.b_str (by decide +kernel) (pa_cons (pe_ix (ix_tupK (K := K) rfl) (pv 0) pe_int (fun _ _ => rfl)) pa_nil)) (pe_op op_add_str (pe_op op_add_str (pe_callTy call_str_int (by rfl) T.b_str (by decide +kernel) (pa_cons (pe_ix (ix_tupK (K := K) rfl) (pv 0) pe_int (fun _ _ => rfl)) pa_nil)) pe_str) (pe_callTy call_str_int (by rfl) T.b_str (by decide +kernel) (pa_cons (pe_ix (ix_tupK (K := K) rfl) (pv 0) pe_int (fun _ _ => rfl)) pa_nil)))))), ?_⟩
    unfold txS at k
    have lt : t.natAbs.log2 < 1920 := (bt.mono (by decide : 1800 ≤ 1920)).log (by decide)
    have lb : b.natAbs.log2 < 1920 := (bb.mono (by decide : 1800 ≤ 1920)).log (by decide)
    refine ⟨_, rfl, _, _, _, _, rfl, rfl, SqT.of hq, at1, rfl, _, rfl, ite2 (fun h1 => ?_) (fun h1 => ?_)⟩
    · rw [if_pos (by simpa using h1)] at k
      exact ⟨_, rfl, _, _, _, _, rfl, rfl, SqT.of hq, at0, _, rfl, lt, k⟩
    · rw [if_neg (by simpa using h1)] at k
      have l1 := itS_len bt
      have l2 := itS_len bb
      refine ⟨_, rfl, _, _, _, _, rfl, rfl, SqT.of hq, at0, _, rfl, lt, _, _, rfl, rfl, ?_, _, rfl, _, _, _, _, rfl, rfl, SqT.of hq, at1, _, rfl, lb, _, _, rfl, rfl, ?_, k⟩
      · exact szle (by show (itS t).length + 1 ≤ _; omega)
      · rw [Str.length_append]
        exact szle (by show (itS t).length + 1 + (itS b).length ≤ _; omega)
theorem ok_plus (T : Txt K mg a) : FnOk P w K mg base CX0 2 a.f_plus a.d_plus ["_law_one", "_law_more"] (sp_fr2 plusF) := by
  refine T.F_plus.ok sc_plus (fun vs H Q E h => ?_) (fun cdv A outer s H vs Q E hr h => ?_)
  · obtain ⟨p, q, x, y, rfl, _⟩ := h
    rfl
  · obtain ⟨p, q, x, y, rfl, hp, hq, b1, b2, b3, b4, p1, p2, k⟩ := h
    refine ⟨_, (pss_one (ps_ret (pe_call (ok_lowest T) (hr.mono (by decide)) (by rfl) T.m_lowest T.F_lowest.kp (b_lowest T) .nil pass0 (pa_cons (pe_op op_add (pe_op op_mulX (pe_ix (ix_tupK (K := K) rfl) (pv 0) pe_int (fun _ _ => rfl)) (pe_ix (ix_tupK (K := K) rfl) (pv 1) pe_int (fun _ _ => rfl))) (pe_op op_mulX (pe_ix (ix_tupK (K := K) rfl) (pv 1) pe_int (fun _ _ => rfl)) (pe_ix (ix_tupK (K := K) rfl) (pv 0) pe_int (fun _ _ => rfl)))) (pa_cons (pe_op op_mulX (pe_ix (ix_tupK (K := K) rfl) (pv 0) pe_int (fun _ _ => rfl)) (pe_ix (ix_tupK (K := K) rfl) (pv 1) pe_int (fun _ _ => rfl))) pa_nil))))), ?_⟩
    refine ⟨_, rfl, _, _, _, _, rfl, rfl, SqT.of hp, at0, _, rfl, _, _, _, _, rfl, rfl, SqT.of hq, at1, _, _, rfl, rfl, b1.cm b4 (by decide), ?_⟩
    refine ⟨_, rfl, _, _, _, _, rfl, rfl, SqT.of hq, at0, _, rfl, _, _, _, _, rfl, rfl, SqT.of hp, at1, _, _, rfl, rfl, b3.cm b2 (by decide), _, _, rfl, rfl, ?_⟩
    refine ⟨_, rfl, _, _, _, _, rfl, rfl, SqT.of hp, at1, _, rfl, _, _, _, _, rfl, rfl, SqT.of hq, at1, _, _, rfl, rfl, b2.cm b4 (by decide), ?_⟩
    exact ⟨_, _, rfl, mul_pos_ne p1 p2, ((b1.mul b4).add (b3.mul b2)).mono (by decide), (b2.mul b4).mono (by decide), fun H' r s f => k _ _ s f⟩
theorem ok_times (T : Txt K mg a) : FnOk P w K mg base CX0 2 a.f_times a.d_times ["_law_one", "_law_more"] (sp_fr2 timesF) := by
  refine T.F_times.ok sc_times (fun vs H Q E h => ?_) (fun cdv A outer s H vs Q E hr h => ?_)
  · obtain ⟨p, q, x, y, rfl, _⟩ := h
    rfl
  · obtain ⟨p, q, x, y, rfl, hp, hq, b1, b2, b3, b4, p1, p2, k⟩ := h
    refine ⟨_, (pss_one (ps_ret (pe_call (ok_lowest T) (hr.mono (by decide)) (by rfl) T.m_lowest T.F_lowest.kp (b_lowest T) .nil pass0 (pa_cons (pe_op op_mulX (pe_ix (ix_tupK (K := K) rfl) (pv 0) pe_int (fun _ _ => rfl)) (pe_ix (ix_tupK (K := K) rfl) (pv 1) pe_int (fun _ _ => rfl))) (pa_cons (pe_op op_mulX (pe_ix (ix_tupK (K := K) rfl) (pv 0) pe_int (fun _ _ => rfl)) (pe_ix (ix_tupK (K := K) rfl) (pv 1) pe_int (fun _ _ => rfl))) pa_nil))))), ?_⟩
    refine ⟨_, rfl, _, _, _, _, rfl, rfl, SqT.of hp, at0, _, rfl, _, _, _, _, rfl, rfl, SqT.of hq, at0, _, _, rfl, rfl, b1.cm b3 (by decide), ?_⟩
    refine ⟨_, rfl, _, _, _, _, rfl, rfl, SqT.of hp, at1, _, rfl, _, _, _, _, rfl, rfl, SqT.of hq, at1, _, _, rfl, rfl, b2.cm b4 (by decide), ?_⟩
    exact ⟨_, _, rfl, mul_pos_ne p1 p2, (b1.mul b3).mono (by decide), (b2.mul b4).mono (by decide), fun H' r s f => k _ _ s f⟩
theorem ok_opposite (T : Txt K mg a) : FnOk P w K mg base CX0 1 a.f_opposite a.d_opposite ["_law_one"] sp_opposite := by
  refine T.F_opposite.ok sc_opposite (fun vs H Q E h => ?_) (fun cdv A outer s H vs Q E hr h => ?_)
  · obtain ⟨p, x, rfl, _⟩ := h
    rfl
  · obtain ⟨p, x, rfl, hp, k⟩ := h
    refine ⟨_, (pss_one (ps_ret (pe_tup (pa_cons (pe_un un_neg (pe_ix (ix_tupK (K := K) rfl) (pv 0) pe_int (fun _ _ => rfl))) (pa_cons (pe_ix (ix_tupK (K := K) rfl) (pv 0) pe_int (fun _ _ => rfl)) pa_nil))))), ?_⟩
    refine ⟨_, rfl, _, _, _, _, rfl, rfl, SqT.of hp, at0, _, rfl, _, rfl, _, _, _, _, rfl, rfl, SqT.of hp, at1, sz, fun r hr => k _ _ (Lb.Same.upd hr) upd_same⟩
end
end K11

set_option Elab.async false
set_option linter.all false
set_option maxRecDepth 100000
set_option maxHeartbeats 4000000
set_option exponentiation.threshold 10000
namespace K11
open PySem L2 Lb
def Sml (x : Str) : Prop := ∀ c ∈ x.cps.toList, c < 16 ^ 8
theorem sml_of (s : String) : Sml (Str.ofString s) := by
  intro c hc
  rw [Str.ofString_eq_toList] at hc
  simp only [List.mem_map] at hc
  obtain ⟨ch, _, rfl⟩ := hc
  have := ch.valid
  have h2 : ch.toNat < 1114112 := by
    rcases this with h | ⟨_, h⟩
    · exact Nat.lt_trans h (by decide)
    · exact h
  omega
theorem sml_add {x y : Str} (h : Sml x) (k : Sml y) : Sml (x ++ y) := by
  intro c hc
  have e : (x ++ y).cps.toList = x.cps.toList ++ y.cps.toList := by
    show (x.cps ++ y.cps).toList = _
    simp
  rw [e] at hc
  rcases List.mem_append.mp hc with q | q
  · exact h c q
  · exact k c q
theorem mixed_ok {i j k : Int} {b : Bool} {x y : Str} (hi : Bd 1800 i) (hj : Bd 1800 j) (hk : Bd 1800 k) (hx : x.length ≤ 2000) (hy : y.length ≤ 2000) (sx : Sml x) (sy : Sml y) :
    (PyData.list [.int i, .int j, .int k, .bool b, .str x, .str y]).showable = true ∧ (PyData.list [.int i, .int j, .int k, .bool b, .str x, .str y]).shown.length ≤ sizeLine ∧ (PyData.list [.int i, .int j, .int k, .bool b, .str x, .str y]).depth ≤ 60 := by
  have lg : ∀ {z : Int}, Bd 1800 z → z.natAbs.log2 < 1920 := fun h => (h.mono (by decide : 1800 ≤ 1920)).log (by decide)
  refine ⟨?_, ?_, ?_⟩
  · simp only [PyData.showable, PyData.showableAll, lg hi, lg hj, lg hk, decide_true, Bool.and_self]
  · have e := listText_len_le (PyData.shownAll [.int i, .int j, .int k, .bool b, .str x, .str y])
    have li := itS_len hi
    have lj := itS_len hj
    have lk := itS_len hk
    have rx := StrLaws.reprText_len x sx
    have ry := StrLaws.reprText_len y sy
    have lb : (PyData.shown (.bool b)).length ≤ 5 := by
      simp only [PyData.shown]
      cases b <;> decide +kernel
    have ei : (PyData.shown (.int i)).length ≤ 601 := by simp only [PyData.shown]; exact li
    have ej : (PyData.shown (.int j)).length ≤ 601 := by simp only [PyData.shown]; exact lj
    have ek : (PyData.shown (.int k)).length ≤ 601 := by simp only [PyData.shown]; exact lk
    have ex : (PyData.shown (.str x)).length ≤ 20002 := by simp only [PyData.shown]; omega
    have ey : (PyData.shown (.str y)).length ≤ 20002 := by simp only [PyData.shown]; omega
    have e0 : (PyData.list [.int i, .int j, .int k, .bool b, .str x, .str y]).shown = listText (PyData.shownAll [.int i, .int j, .int k, .bool b, .str x, .str y]) := by simp only [PyData.shown]
    rw [e0]
    simp only [PyData.shownAll, List.map_cons, List.map_nil, List.sum_cons, List.sum_nil, List.length_cons, List.length_nil] at e ⊢
    have : sizeLine = 16777216 := by decide
    omega
  · simp only [PyData.depth, PyData.depthAll]
    decide
def sp_is (C : Addr) : Sp := fun vs H Q _ => ∃ (p q : Addr) (x : Q2), vs = [.ref p, .ref q] ∧ AmAt C H p x.1 x.2 ∧ Fr H q x.1 x.2 ∧ Bd 1800 x.1 ∧ Bd 1800 x.2 ∧ ∀ H', Same H H' → Q (.bl true) H'
theorem txS_len {t b : Int} (h : Bd 1800 t) (k : Bd 1800 b) : (txS t b).length ≤ 2000 ∧ Sml (txS t b) := by
  have l1 := itS_len h
  have l2 := itS_len k
  unfold txS
  split
  · exact ⟨by omega, sml_of _⟩
  · refine ⟨?_, sml_add (sml_add (sml_of _) (sml_of _)) (sml_of _)⟩
    rw [Str.length_append, Str.length_append]
    show _ + 1 + _ ≤ _
    omega
theorem txR_len {t b : Int} (h : Bd 1800 t) (k : Bd 1800 b) : (txR t b).length ≤ 2000 ∧ Sml (txR t b) := by
  have l1 := itS_len h
  have l2 := itS_len k
  have l3 : ("Amount(" : Str).length = 7 := by decide +kernel
  have l4 : (", " : Str).length = 2 := by decide +kernel
  have l5 : (")" : Str).length = 1 := by decide +kernel
  unfold txR
  refine ⟨?_, sml_add (sml_add (sml_add (sml_add (sml_of _) (sml_of _)) (sml_of _)) (sml_of _)) (sml_of _)⟩
  rw [Str.length_append, Str.length_append, Str.length_append, Str.length_append]
  omega
section
variable {P : Program} {w : World} {K : PySem.W.Frag} {mg : Str → Option Value} {base : Heap} {a : Ad}
theorem ok_is (T : Txt K mg a) : FnG P w K mg base CX0 6 a.f_is a.d_is ["_law_made", "_law_due"] (sp_is a.c_Amount) := by
  refine okG T.F_is sc_is (fun vs H Q E h => ?_) (fun cdv A outer s H vs Q E gu hr h => ?_)
  · obtain ⟨p, q, x, rfl, _⟩ := h
    rfl
  · obtain ⟨p, q, x, rfl, ⟨dx, hp⟩, hq, bt, bb, k⟩ := h
    obtain ⟨t, b⟩ := x
    have bt : Bd 1800 t := bt
    have bb : Bd 1800 b := bb
    have hq : Fr H q t b := hq
    have hp : H p = some (.ins a.c_Amount dx (am t b)) := hp
    refine ⟨_, (pss_cons (ps_if (pt_not (pt_val (pe_callB (call_isiK' (K := K) rfl) (by rfl) T.b_isinstance (by decide +kernel) (pa_cons (pv 0) (pa_cons (pe_glob (v := .ref a.c_Amount) rfl T.mA rfl) pa_nil))))) (pss_one (ps_ret pe_bl)) pss_nil)
 (pss_cons (ps_set (i := 2) sc_is.nd rfl (by first | exact Or.inl rfl | exact Or.inr rfl) (pe_op op_sub (pe_callTy call_int1 (by rfl) T.b_int (by decide +kernel) (pa_cons (pe_cmpR op_gt (pe_ix (ix_tupK (K := K) rfl) (pv 1) pe_int (fun _ _ => rfl)) pe_int (nomark _)) pa_nil)) (pe_callTy call_int1 (by rfl) T.b_int (by decide +kernel) (pa_cons (pe_cmpR op_lt (pe_ix (ix_tupK (K := K) rfl) (pv 1) pe_int (fun _ _ => rfl)) pe_int (nomark _)) pa_nil))))
 (pss_cons (ps_set (i := 3) sc_is.nd rfl (by first | exact Or.inl rfl | exact Or.inr rfl) (pe_lst (pa_cons (pe_prop (pv 0) T.cl T.p_top (ok_Amounttop T) (hr.mono (by decide)) (b_Amounttop T) .nil pass0 rfl) (pa_cons (pe_prop (pv 0) T.cl T.p_bottom (ok_Amountbottom T) (hr.mono (by decide)) (b_Amountbottom T) .nil pass0 rfl) (pa_cons (pe_prop (pv 0) T.cl T.p_sign (ok_Amountsign T) (hr.mono (by decide)) (b_Amountsign T) .nil pass0 rfl) (pa_cons (pe_callTy (call_boolOwn (E := E0) T.cBo.at_ T.cBo.fn ((ok_Amount_bool_ T).raw (b_Amount_bool_ T) .nil) (hr.mono (by decide))) (by rfl) T.b_bool (by decide +kernel) (pa_cons (pv 0) pa_nil)) (pa_cons (pe_callTy (call_strOwn T.cSt.at_ T.cSt.fn ((ok_Amount_str_ T).raw (b_Amount_str_ T) .nil) (hr.mono (by decide)) pass0) (by rfl) T.b_str (by decide +kernel) (pa_cons (pv 0) pa_nil)) (pa_cons (pe_callB (call_reprOwn T.cRe.at_ T.cRe.fn ((ok_Amount_repr_ T).raw (b_Amount_repr_ T) .nil) (hr.mono (by decide)) pass0) (by rfl) T.b_repr (by decide +kernel) (pa_cons (pv 0) pa_nil)) pa_nil))))))))
 (pss_cons (ps_set (i := 4) sc_is.nd rfl (by first | exact Or.inl rfl | exact Or.inr rfl) (pe_op op_add_str (pe_op op_add_str (pe_op op_add_str (pe_op op_add_str pe_str (pe_callTy call_str_int (by rfl) T.b_str (by decide +kernel) (pa_cons (pe_ix (ix_tupK (K := K) rfl) (pv 1) pe_int (fun _ _ => rfl)) pa_nil))) pe_str) (pe_callTy call_str_int (by rfl) T.b_str (by decide +kernel) (pa_cons (pe_ix (ix_tupK (K := K) rfl) (pv 1) pe_int (fun _ _ => rfl)) pa_nil))) pe_str))
 (pss_one (ps_ret (pe_cmpR op_eq (pe_callB (call_repr (K := K) rfl gu hr.units) (by rfl) T.b_repr (by decide +kernel) (pa_cons (pv 3) pa_nil)) (pe_callB (call_repr (K := K) rfl gu hr.units) (by rfl) T.b_repr (by decide +kernel) (pa_cons (pe_lst (pa_cons (pe_ix (ix_tupK (K := K) rfl) (pv 1) pe_int (fun _ _ => rfl)) (pa_cons (pe_ix (ix_tupK (K := K) rfl) (pv 1) pe_int (fun _ _ => rfl)) (pa_cons (pv 2) (pa_cons (pe_cmpR op_ne (pv 2) pe_int (nomark _)) (pa_cons (pe_call (ok_text T) (hr.mono (by decide)) (by rfl) T.m_text T.F_text.kp (b_text T) .nil pass0 (pa_cons (pv 1) pa_nil)) (pa_cons (pv 4) pa_nil))))))) pa_nil)) (nomark _)))))))), ?_⟩
    have lt : t.natAbs.log2 < 1920 := (bt.mono (by decide : 1800 ≤ 1920)).log (by decide)
    have lb : b.natAbs.log2 < 1920 := (bb.mono (by decide : 1800 ≤ 1920)).log (by decide)
    have l1 := itS_len bt
    have l2 := itS_len bb
    refine ⟨_, rfl, _, _, _, _, true, rfl, .own _, .base (T.I.ty T.cl hp), Inst.kSelf, true, rfl, iteF ?_⟩
    refine ⟨_, rfl, _, _, _, _, rfl, rfl, SqT.of hq, at0, _, _, rfl, rfl, .inr ⟨_, rfl, _, rfl, _, _, _, _, rfl, rfl, SqT.of hq, at0, _, _, rfl, rfl, .inr ⟨_, rfl, _, _, rfl, rfl, ?_⟩⟩⟩
    have es : (if (decide (t > 0)) = true then (1 : Int) else 0) - (if (decide (t < 0)) = true then 1 else 0) = sg t := by
      unfold sg
      simp only [decide_eq_true_eq]
      split <;> split <;> split <;> omega
    refine ⟨_, rfl, p, dx, _, rfl, hp, p, t, b, rfl, ⟨dx, hp⟩, ?_⟩
    refine ⟨_, rfl, p, dx, _, rfl, hp, p, t, b, rfl, ⟨dx, hp⟩, ?_⟩
    refine ⟨_, rfl, p, dx, _, rfl, hp, p, t, b, rfl, ⟨dx, hp⟩, ?_⟩
    refine ⟨_, rfl, p, dx, _, rfl, hp, p, t, b, rfl, ⟨dx, hp⟩, _, rfl, ?_⟩
    refine ⟨_, rfl, p, dx, _, rfl, hp, p, t, b, rfl, ⟨dx, hp⟩, bt, bb, fun H1 s1 => ⟨_, rfl, ?_⟩⟩
    have hp := s1 _ _ hp
    refine ⟨_, rfl, p, dx, _, rfl, hp, p, t, b, rfl, ⟨dx, hp⟩, bt, bb, fun H2 s2 => ⟨_, rfl, sz, fun l hl => ?_⟩⟩
    generalize e_H3 : upd _ l _ = H3
    obtain ⟨s3, fl⟩ := al3 e_H3 hl
    clear e_H3
    (try dsimp only at fl)
    have S3 := (s1.trans s2).trans s3
    have hq := S3 _ _ hq
    have c1 : ("Amount(" : Str).length = 7 := by decide +kernel
    have c2 : (", " : Str).length = 2 := by decide +kernel
    have c3 : (")" : Str).length = 1 := by decide +kernel
    refine ⟨_, rfl, _, _, _, _, rfl, rfl, SqT.of hq, at0, _, rfl, lt, _, _, rfl, rfl, szle (by show _ + (itS t).length ≤ _; omega), _, _, rfl, rfl, ?_, _, rfl, _, _, _, _, rfl, rfl, SqT.of hq, at1, _, rfl, lb, _, _, rfl, rfl, ?_, _, _, rfl, rfl, ?_, ?_⟩
    · rw [Str.length_append]
      exact szle (by show _ + (itS t).length + _ ≤ _; omega)
    · rw [Str.length_append, Str.length_append]
      exact szle (by show _ + (itS t).length + _ + (itS b).length ≤ _; omega)
    · rw [Str.length_append, Str.length_append, Str.length_append]
      exact szle (by show _ + (itS t).length + _ + (itS b).length + _ ≤ _; omega)
    obtain ⟨x1, x2⟩ := txS_len bt bb
    obtain ⟨y1, y2⟩ := txR_len bt bb
    have bs : Bd 1800 (sg t) := by
      unfold sg Bd
      split
      · exact Nat.pow_pos (by decide)
      · split <;> exact Nat.one_lt_two_pow (by decide)
    obtain ⟨r1, r2, r3⟩ := mixed_ok (i := t) (j := b) (k := sg t) (b := t != 0) bt bb bs x1 y1 x2 y2
    have dp : DpAll K H3 [.int t, .int b, .int (sg t), .bl (t != 0), .str (txS t b), .str (txR t b)] [.int t, .int b, .int (sg t), .bool (t != 0), .str (txS t b), .str (txR t b)] := .cons (.int _) (.cons (.int _) (.cons (.int _) (.cons (.bl _) (.cons (.str _) (.cons (.str _) .nil)))))
    refine ⟨_, rfl, _, _, rfl, .lst (SqL.of fl) dp, r1, r2, r3, ?_⟩
    refine ⟨_, rfl, _, _, _, _, rfl, rfl, SqT.of hq, at0, _, rfl, _, _, _, _, rfl, rfl, SqT.of hq, at1, _, rfl, _, rfl, rfl, _, rfl, q, t, b, rfl, hq, bt, bb, _, rfl, sz, fun l2 hl2 => ?_⟩
    generalize e_H4 : upd _ l2 _ = H4
    obtain ⟨s4, fl2⟩ := al3 e_H4 hl2
    clear e_H4
    (try dsimp only at fl2)
    have e2 : (!decide (V.int (sg t) = V.int 0)) = (t != 0) := by
      have : (sg t = 0) ↔ t = 0 := by
        unfold sg
        split
        · rename_i h; simp [h]
        · rename_i h
          split <;> simp [h]
      by_cases h : t = 0
      · rw [decide_eq_true (by rw [this.mpr h]), h]
        rfl
      · rw [decide_eq_false (by intro z; injection z with z; exact h (this.mp z))]
        exact (bne_iff_ne.mpr h).symm
    have dp2 : DpAll K H4 [.int t, .int b, .int (sg t), .bl (t != 0), .str (txS t b), .str (txR t b)] [.int t, .int b, .int (sg t), .bool (t != 0), .str (txS t b), .str (txR t b)] := .cons (.int _) (.cons (.int _) (.cons (.int _) (.cons (.bl _) (.cons (.str _) (.cons (.str _) .nil)))))
    have fl2 : H4 l2 = some (.lst [.int t, .int b, .int (sg t), .bl (t != 0), .str (txS t b), .str (txR t b)]) := by
      rw [← e2, ← es]
      exact fl2
    refine ⟨_, _, rfl, .lst (SqL.of fl2) dp2, r1, r2, r3, rfl, ?_⟩
    have z := k _ (S3.trans s4)
    show Q (.bl (decide (V.str _ = V.str _))) H4
    rw [decide_eq_true rfl]
    exact z
end
end K11

set_option Elab.async false
set_option linter.all false
set_option maxRecDepth 100000
set_option maxHeartbeats 4000000
set_option exponentiation.threshold 10000
namespace K11
open PySem L2 Lb
/-- an amount and its fraction, as a tuple at r -/
structure Am2 (C : Addr) (H : Hp) (r : Addr) (z : Q2) : Prop where
  ex : ∃ m f, H r = some (.tup [.ref m, .ref f]) ∧ AmAt C H m z.1 z.2 ∧ Fr H f z.1 z.2
theorem Am2.same {C r : Addr} {H H' : Hp} {z : Q2} (h : Am2 C H r z) (s : Same H H') : Am2 C H' r z :=
  let ⟨m, f, e, am, ff⟩ := h.ex
  ⟨m, f, s _ _ e, am.same s, s _ _ ff⟩
theorem Am2.made {C r m f : Addr} {H : Hp} {z : Q2} (am : AmAt C H m z.1 z.2) (ff : Fr H f z.1 z.2) (hr : H r = none) : Am2 C (upd H r (.tup [.ref m, .ref f])) r z :=
  ⟨m, f, upd_same, am.same (Lb.Same.upd hr), Lb.Same.upd hr _ _ ff⟩
theorem leftB {C p : Addr} {f g : I4} {H : Hp} {v : V} {t b t' b' : Int} {Q : VK} (hp : AmAt C H p t b) (hv : IsP C H v t' b') (b1 : Bd 3000 t) (b2 : Bd 3000 b) (b3 : Bd 3000 t') (b4 : Bd 3000 b') (g0 : g t b t' b' ≠ 0)
    (k : ∀ H' q, Same H H' → AmAt C H' q (rdT (f t b t' b') (g t b t' b')) (rdB (f t b t' b') (g t b t' b')) → Q (.ref q) H') : rBin C (fun vs H Q E => sp_bin C f g (vs ++ []) H Q E) E0 (.ref p) v H Q :=
  let ⟨dx, e⟩ := hp
  ⟨p, dx, _, rfl, e, hv.bin, p, v, t, b, t', b', rfl, hp, hv, b1, b2, b3, b4, g0, k⟩
theorem either {C p : Addr} {f g : I4} {H : Hp} {v : V} {t b t' b' : Int} {Q : VK} (hp : AmAt C H p t b) (hv : IsP C H v t' b') (b1 : Bd 3000 t) (b2 : Bd 3000 b) (b3 : Bd 3000 t') (b4 : Bd 3000 b') (g0 : g t' b' t b ≠ 0)
    (k : ∀ H' q, Same H H' → AmAt C H' q (rdT (f t' b' t b) (g t' b' t b)) (rdB (f t' b' t b) (g t' b' t b)) → Q (.ref q) H') :
    rBin C (fun vs H Q E => sp_bin C f g (vs ++ []) H Q E) E0 v (.ref p) H Q ∨ rBinR C (fun vs H Q E => sp_bin C (sw f) (sw g) (vs ++ []) H Q E) E0 v (.ref p) H Q := by
  rcases id hv with ⟨rfl, rfl⟩ | ⟨q, rfl, hq⟩
  · obtain ⟨dx, e⟩ := id hp
    exact .inr ⟨t', p, dx, _, rfl, rfl, e, p, _, t, b, t', 1, rfl, hp, hv, b1, b2, b3, b4, g0, k⟩
  · exact .inl (leftB hq (.inr ⟨p, rfl, hp⟩) b3 b4 b1 b2 g0 k)
def sp_step (C : Addr) : Sp := fun vs H Q _ => ∃ (w : Int) (here due beside : Addr) (more : V) (x y : Q2) (n : Nat), vs = [.int w, .ref here, .ref due, more, .ref beside] ∧ AmAt C H here x.1 x.2 ∧ Fr H due x.1 x.2 ∧ IsP C H more y.1 y.2 ∧ Fr H beside y.1 y.2 ∧
  Low n x ∧ Low 80 y ∧ n ≤ 1200 ∧ ∀ H' r z, Same H H' → Am2 C H' r z → Low (n + 81) z → Q (.ref r) H'
theorem Low.neg {n : Nat} {x : Q2} (h : Low n x) : Low n (-x.1, x.2) := ⟨h.t.neg, h.b, h.pos, by rw [Int.neg_gcd]; exact h.g⟩
theorem abs_gcd (t b : Int) : (if t < 0 then -t else t).gcd b = t.gcd b := by
  split
  · rw [Int.neg_gcd]
  · rfl
section
variable {P : Program} {w : World} {K : PySem.W.Frag} {mg : Str → Option Value} {base : Heap} {a : Ad}
theorem ok_step (T : Txt K mg a) : FnOk P w K mg base CX0 7 a.f_step a.d_step ["_law_way", "_law_here", "_law_due", "_law_more", "_law_beside"] (sp_step a.c_Amount) := by
  refine T.F_step.ok sc_step (fun vs H Q E h => ?_) (fun cdv A outer s H vs Q E hr h => ?_)
  · obtain ⟨w, here, due, beside, more, x, y, n, rfl, _⟩ := h
    rfl
  · obtain ⟨w, here, due, beside, more, x, y, n, rfl, hh, hd, hm, hb, lx, ly, hn, k⟩ := h
    refine ⟨_, (pss_cons (ps_if (pt_cmpR op_eq (pv 0) pe_int (nomark _)) (pss_one (ps_ret (pe_tup (pa_cons (pe_op (op_ownBin (K := K) (E := E0) rfl T.oAdd ((ok_Amount_add_ T).raw (b_Amount_add_ T) .nil) (hr.mono (by decide))) (pv 1) (pv 3)) (pa_cons (pe_call (ok_plus T) (hr.mono (by decide)) (by rfl) T.m_plus T.F_plus.kp (b_plus T) .nil pass0 (pa_cons (pv 2) (pa_cons (pv 4) pa_nil))) pa_nil))))) pss_nil)
 (pss_cons (ps_if (pt_cmpR op_eq (pv 0) pe_int (nomark _)) (pss_one (ps_ret (pe_tup (pa_cons (pe_op ((ownBin_at (K := K) (E := E0) rfl T.oAdd ((ok_Amount_add_ T).raw (b_Amount_add_ T) .nil) (hr.mono (by decide))).or (ownBinR_at (K := K) (E := E0) rfl int_add T.oAdd ((ok_Amount_radd_ T).raw (b_Amount_radd_ T) .nil) (hr.mono (by decide)))).here (pv 3) (pv 1)) (pa_cons (pe_call (ok_plus T) (hr.mono (by decide)) (by rfl) T.m_plus T.F_plus.kp (b_plus T) .nil pass0 (pa_cons (pv 4) (pa_cons (pv 2) pa_nil))) pa_nil))))) pss_nil)
 (pss_cons (ps_if (pt_cmpR op_eq (pv 0) pe_int (nomark _)) (pss_one (ps_ret (pe_tup (pa_cons (pe_op (op_ownBin (K := K) (E := E0) rfl T.oSub ((ok_Amount_sub_ T).raw (b_Amount_sub_ T) .nil) (hr.mono (by decide))) (pv 1) (pv 3)) (pa_cons (pe_call (ok_plus T) (hr.mono (by decide)) (by rfl) T.m_plus T.F_plus.kp (b_plus T) .nil pass0 (pa_cons (pv 2) (pa_cons (pe_call (ok_opposite T) (hr.mono (by decide)) (by rfl) T.m_opposite T.F_opposite.kp (b_opposite T) .nil pass0 (pa_cons (pv 4) pa_nil)) pa_nil))) pa_nil))))) pss_nil)
 (pss_cons (ps_if (pt_cmpR op_eq (pv 0) pe_int (nomark _)) (pss_one (ps_ret (pe_tup (pa_cons (pe_op ((ownBin_at (K := K) (E := E0) rfl T.oSub ((ok_Amount_sub_ T).raw (b_Amount_sub_ T) .nil) (hr.mono (by decide))).or (ownBinR_at (K := K) (E := E0) rfl int_sub T.oSub ((ok_Amount_rsub_ T).raw (b_Amount_rsub_ T) .nil) (hr.mono (by decide)))).here (pv 3) (pv 1)) (pa_cons (pe_call (ok_plus T) (hr.mono (by decide)) (by rfl) T.m_plus T.F_plus.kp (b_plus T) .nil pass0 (pa_cons (pv 4) (pa_cons (pe_call (ok_opposite T) (hr.mono (by decide)) (by rfl) T.m_opposite T.F_opposite.kp (b_opposite T) .nil pass0 (pa_cons (pv 2) pa_nil)) pa_nil))) pa_nil))))) pss_nil)
 (pss_cons (ps_if (pt_cmpR op_eq (pv 0) pe_int (nomark _)) (pss_one (ps_ret (pe_tup (pa_cons (pe_op (op_ownBin (K := K) (E := E0) rfl T.oMul ((ok_Amount_mul_ T).raw (b_Amount_mul_ T) .nil) (hr.mono (by decide))) (pv 1) (pv 3)) (pa_cons (pe_call (ok_times T) (hr.mono (by decide)) (by rfl) T.m_times T.F_times.kp (b_times T) .nil pass0 (pa_cons (pv 2) (pa_cons (pv 4) pa_nil))) pa_nil))))) pss_nil)
 (pss_cons (ps_if (pt_cmpR op_eq (pv 0) pe_int (nomark _)) (pss_one (ps_ret (pe_tup (pa_cons (pe_op ((ownBin_at (K := K) (E := E0) rfl T.oMul ((ok_Amount_mul_ T).raw (b_Amount_mul_ T) .nil) (hr.mono (by decide))).or (ownBinR_at (K := K) (E := E0) rfl int_mul T.oMul ((ok_Amount_rmul_ T).raw (b_Amount_rmul_ T) .nil) (hr.mono (by decide)))).here (pv 3) (pv 1)) (pa_cons (pe_call (ok_times T) (hr.mono (by decide)) (by rfl) T.m_times T.F_times.kp (b_times T) .nil pass0 (pa_cons (pv 4) (pa_cons (pv 2) pa_nil))) pa_nil))))) pss_nil)
 (pss_cons (ps_if (pt_cmpR op_eq (pv 0) pe_int (nomark _)) (pss_one (ps_ret (pe_tup (pa_cons (pe_un (un_ownNeg (K := K) (E := E0) rfl T.cNg.at_ T.cNg.fn ((ok_Amount_neg_ T).raw (b_Amount_neg_ T) .nil) (hr.mono (by decide))) (pv 1)) (pa_cons (pe_call (ok_opposite T) (hr.mono (by decide)) (by rfl) T.m_opposite T.F_opposite.kp (b_opposite T) .nil pass0 (pa_cons (pv 2) pa_nil)) pa_nil))))) pss_nil)
 (pss_cons (ps_if (pt_cmpR op_eq (pv 0) pe_int (nomark _)) (pss_one (ps_ret (pe_tup (pa_cons (pe_callB (call_absOwn (E := E0) T.cAb.at_ T.cAb.fn ((ok_Amount_abs_ T).raw (b_Amount_abs_ T) .nil) (hr.mono (by decide))) (by rfl) T.b_abs (by decide +kernel) (pa_cons (pv 1) pa_nil)) (pa_cons (pe_tup (pa_cons (pe_callB call_abs (by rfl) T.b_abs (by decide +kernel) (pa_cons (pe_ix (ix_tupK (K := K) rfl) (pv 2) pe_int (fun _ _ => rfl)) pa_nil)) (pa_cons (pe_ix (ix_tupK (K := K) rfl) (pv 2) pe_int (fun _ _ => rfl)) pa_nil))) pa_nil))))) pss_nil)
 (pss_cons (ps_if (pt_cmpR op_eq (pe_ix (ix_tupK (K := K) rfl) (pv 4) pe_int (fun _ _ => rfl)) pe_int (nomark _)) (pss_one (ps_ret (pe_tup (pa_cons (pe_meth (pv 1) T.cl T.mOver (ok_Amountover T) (hr.mono (by decide)) (b_Amountover T) .nil pass0 (pa_cons pe_int pa_nil)) (pa_cons (pv 2) pa_nil))))) pss_nil)
 (pss_cons (ps_set (i := 5) sc_step.nd rfl (by first | exact Or.inl rfl | exact Or.inr rfl) (pe_ifExp (pt_cmpR op_eq (pv 0) pe_int (nomark _)) (pe_meth (pv 1) T.cl T.mOver (ok_Amountover T) (hr.mono (by decide)) (b_Amountover T) .nil pass0 (pa_cons (pv 3) pa_nil)) (pe_methK0 (pv 1) T.cl T.mOver (ok_Amountover T) (hr.mono (by decide)) (kb_Amountover T) pass0 (pk_cons (pv 3) pk_nil))))
 (pss_one (ps_ret (pe_tup (pa_cons (pv 5) (pa_cons (pe_call (ok_lowest T) (hr.mono (by decide)) (by rfl) T.m_lowest T.F_lowest.kp (b_lowest T) .nil pass0 (pa_cons (pe_op op_mulX (pe_ix (ix_tupK (K := K) rfl) (pv 2) pe_int (fun _ _ => rfl)) (pe_ix (ix_tupK (K := K) rfl) (pv 4) pe_int (fun _ _ => rfl))) (pa_cons (pe_op op_mulX (pe_ix (ix_tupK (K := K) rfl) (pv 2) pe_int (fun _ _ => rfl)) (pe_ix (ix_tupK (K := K) rfl) (pv 4) pe_int (fun _ _ => rfl))) pa_nil))) pa_nil))))))))))))))), ?_⟩
    have x1 : Bd 1400 x.1 := lx.t.mono (by omega)
    have x2 : Bd 1400 x.2 := lx.b.mono (by omega)
    have y1 : Bd 1400 y.1 := ly.t.mono (by decide)
    have y2 : Bd 1400 y.2 := ly.b.mono (by decide)
    have X1 : Bd 3000 x.1 := lx.t.mono (by omega)
    have X2 : Bd 3000 x.2 := lx.b.mono (by omega)
    have Y1 : Bd 3000 y.1 := ly.t.mono (by decide)
    have Y2 : Bd 3000 y.2 := ly.b.mono (by decide)
    have px := lx.pos
    have py := ly.pos
    refine ⟨_, rfl, rfl, _, rfl, ite2 (fun _ => ?_) (fun _ => ?_)⟩
    · refine ⟨_, rfl, _, rfl, leftB hh hm X1 X2 Y1 Y2 (mul_pos_ne px py) fun H1 m s1 am => ?_⟩
      refine ⟨_, rfl, _, rfl, due, beside, x, y, rfl, s1 _ _ hd, s1 _ _ hb, x1, x2, y1, y2, px, py, fun H2 f s2 ff => ⟨sz, fun r hr => ?_⟩⟩
      exact k _ r (plusF x y) ((s1.trans s2).trans (Lb.Same.upd hr)) (.made (am.same s2) ff hr) (plusF_low lx ly (by omega))
    refine ⟨_, rfl, rfl, _, rfl, ite2 (fun _ => ?_) (fun _ => ?_)⟩
    · refine ⟨_, rfl, _, rfl, either hh hm X1 X2 Y1 Y2 (mul_pos_ne py px) fun H1 m s1 am => ?_⟩
      refine ⟨_, rfl, _, rfl, beside, due, y, x, rfl, s1 _ _ hb, s1 _ _ hd, y1, y2, x1, x2, py, px, fun H2 f s2 ff => ⟨sz, fun r hr => ?_⟩⟩
      exact k _ r (plusF y x) ((s1.trans s2).trans (Lb.Same.upd hr)) (.made (am.same s2) ff hr) (plusF_low ly lx (by omega))
    refine ⟨_, rfl, rfl, _, rfl, ite2 (fun _ => ?_) (fun _ => ?_)⟩
    · refine ⟨_, rfl, _, rfl, leftB hh hm X1 X2 Y1 Y2 (mul_pos_ne px py) fun H1 m s1 am => ?_⟩
      refine ⟨_, rfl, _, rfl, beside, y, rfl, s1 _ _ hb, fun H2 o s2 fo => ?_⟩
      refine ⟨due, o, x, (-y.1, y.2), rfl, s2 _ _ (s1 _ _ hd), fo, x1, x2, y1.neg, y2, px, py, fun H3 f s3 ff => ⟨sz, fun r hr => ?_⟩⟩
      have e : rd (fSub x.1 x.2 y.1 y.2) (gBot x.1 x.2 y.1 y.2) = plusF x (-y.1, y.2) := by
        show rd _ _ = rd _ _
        congr 1
        show x.1 * y.2 - y.1 * x.2 = x.1 * y.2 + -y.1 * x.2
        rw [Int.neg_mul]
        omega
      have am : AmAt a.c_Amount H1 m (rd (fSub x.1 x.2 y.1 y.2) (gBot x.1 x.2 y.1 y.2)).1 (rd (fSub x.1 x.2 y.1 y.2) (gBot x.1 x.2 y.1 y.2)).2 := am
      rw [e] at am
      exact k _ r (plusF x (-y.1, y.2)) (((s1.trans s2).trans s3).trans (Lb.Same.upd hr)) (.made ((am.same s2).same s3) ff hr) (plusF_low lx ly.neg (by omega))
    refine ⟨_, rfl, rfl, _, rfl, ite2 (fun _ => ?_) (fun _ => ?_)⟩
    · refine ⟨_, rfl, _, rfl, either hh hm X1 X2 Y1 Y2 (mul_pos_ne py px) fun H1 m s1 am => ?_⟩
      refine ⟨_, rfl, _, rfl, due, x, rfl, s1 _ _ hd, fun H2 o s2 fo => ?_⟩
      refine ⟨beside, o, y, (-x.1, x.2), rfl, s2 _ _ (s1 _ _ hb), fo, y1, y2, x1.neg, x2, py, px, fun H3 f s3 ff => ⟨sz, fun r hr => ?_⟩⟩
      have e : rd (fSub y.1 y.2 x.1 x.2) (gBot y.1 y.2 x.1 x.2) = plusF y (-x.1, x.2) := by
        show rd _ _ = rd _ _
        congr 1
        show y.1 * x.2 - x.1 * y.2 = y.1 * x.2 + -x.1 * y.2
        rw [Int.neg_mul]
        omega
      have am : AmAt a.c_Amount H1 m (rd (fSub y.1 y.2 x.1 x.2) (gBot y.1 y.2 x.1 x.2)).1 (rd (fSub y.1 y.2 x.1 x.2) (gBot y.1 y.2 x.1 x.2)).2 := am
      rw [e] at am
      exact k _ r (plusF y (-x.1, x.2)) (((s1.trans s2).trans s3).trans (Lb.Same.upd hr)) (.made ((am.same s2).same s3) ff hr) (plusF_low ly lx.neg (by omega))
    refine ⟨_, rfl, rfl, _, rfl, ite2 (fun _ => ?_) (fun _ => ?_)⟩
    · refine ⟨_, rfl, _, rfl, leftB hh hm X1 X2 Y1 Y2 (mul_pos_ne px py) fun H1 m s1 am => ?_⟩
      refine ⟨_, rfl, _, rfl, due, beside, x, y, rfl, s1 _ _ hd, s1 _ _ hb, x1, x2, y1, y2, px, py, fun H2 f s2 ff => ⟨sz, fun r hr => ?_⟩⟩
      exact k _ r (timesF x y) ((s1.trans s2).trans (Lb.Same.upd hr)) (.made (am.same s2) ff hr) (rd_low (mul_pos_ne px py) ((lx.t.mul ly.t).mono (by omega)) ((lx.b.mul ly.b).mono (by omega)))
    refine ⟨_, rfl, rfl, _, rfl, ite2 (fun _ => ?_) (fun _ => ?_)⟩
    · refine ⟨_, rfl, _, rfl, either hh hm X1 X2 Y1 Y2 (mul_pos_ne py px) fun H1 m s1 am => ?_⟩
      refine ⟨_, rfl, _, rfl, beside, due, y, x, rfl, s1 _ _ hb, s1 _ _ hd, y1, y2, x1, x2, py, px, fun H2 f s2 ff => ⟨sz, fun r hr => ?_⟩⟩
      exact k _ r (timesF y x) ((s1.trans s2).trans (Lb.Same.upd hr)) (.made (am.same s2) ff hr) (rd_low (mul_pos_ne py px) ((ly.t.mul lx.t).mono (by omega)) ((ly.b.mul lx.b).mono (by omega)))
    refine ⟨_, rfl, rfl, _, rfl, ite2 (fun _ => ?_) (fun _ => ?_)⟩
    · obtain ⟨dh, eh⟩ := id hh
      refine ⟨_, rfl, here, dh, _, rfl, eh, here, x.1, x.2, rfl, hh, X1, X2, by omega, fun H1 m s1 am => ?_⟩
      refine ⟨_, rfl, due, x, rfl, s1 _ _ hd, fun H2 f s2 ff => ⟨sz, fun r hr => ?_⟩⟩
      obtain ⟨e1, e2⟩ := rd_self (t := -x.1) (b := x.2) px (by rw [Int.neg_gcd]; exact lx.g)
      rw [e1, e2] at am
      exact k _ r (-x.1, x.2) ((s1.trans s2).trans (Lb.Same.upd hr)) (.made (am.same s2) ff hr) (lx.neg.mono (by omega))
    refine ⟨_, rfl, rfl, _, rfl, ite2 (fun _ => ?_) (fun _ => ?_)⟩
    · obtain ⟨dh, eh⟩ := id hh
      refine ⟨_, rfl, here, dh, _, rfl, eh, here, x.1, x.2, rfl, hh, X1, X2, by omega, fun H1 m s1 am => ?_⟩
      have hd1 := s1 _ _ hd
      refine ⟨_, rfl, _, _, _, _, rfl, rfl, SqT.of hd1, at0, _, rfl, _, rfl, _, _, _, _, rfl, rfl, SqT.of hd1, at1, sz, fun f hf => ⟨sz, fun r hr => ?_⟩⟩
      obtain ⟨e1, e2⟩ := rd_self (t := if x.1 < 0 then -x.1 else x.1) (b := x.2) px (by rw [abs_gcd]; exact lx.g)
      rw [e1, e2] at am
      have lz : Low n (if x.1 < 0 then -x.1 else x.1, x.2) := ⟨lx.t.le (by show (if x.1 < 0 then -x.1 else x.1).natAbs ≤ _; split <;> omega), lx.b, px, by rw [abs_gcd]; exact lx.g⟩
      exact k _ r (if x.1 < 0 then -x.1 else x.1, x.2) ((s1.trans (Lb.Same.upd hf)).trans (Lb.Same.upd hr)) (.made (am.same (Lb.Same.upd hf)) upd_same hr) (lz.mono (by omega))
    refine ⟨_, rfl, _, _, _, _, rfl, rfl, SqT.of hb, at0, rfl, _, rfl, ite2 (fun h0 => ?_) (fun h0 => ?_)⟩
    · obtain ⟨dh, eh⟩ := id hh
      refine ⟨_, rfl, here, dh, _, rfl, eh, am_no _ _ (by decide +kernel) (by decide +kernel), here, _, x.1, x.2, 1, 1, rfl, hh, .inl ⟨rfl, rfl⟩, X1, X2, bd_one, bd_one, by show x.2 * 1 ≠ 0; omega, fun H1 m s1 am => ?_⟩
      refine ⟨_, rfl, sz, fun r hr => ?_⟩
      obtain ⟨e1, e2⟩ := rd_self (t := x.1) (b := x.2) px lx.g
      have e3 : fOver x.1 x.2 1 1 = x.1 := Int.mul_one _
      have e4 : gOver x.1 x.2 1 1 = x.2 := Int.mul_one _
      rw [e3, e4, e1, e2] at am
      exact k _ r x (s1.trans (Lb.Same.upd hr)) (.made am (s1 _ _ hd) hr) (lx.mono (by omega))
    · have hy : y.1 ≠ 0 := fun z => h0 (decide_eq_true (by rw [z]))
      have g0 : gOver x.1 x.2 y.1 y.2 ≠ 0 := Int.mul_ne_zero (by omega) hy
      obtain ⟨dh, eh⟩ := id hh
      have fin : ∀ (H1 H2 : Hp) (m f r : Addr), Same H H1 → AmAt a.c_Amount H1 m (rdT (fOver x.1 x.2 y.1 y.2) (gOver x.1 x.2 y.1 y.2)) (rdB (fOver x.1 x.2 y.1 y.2) (gOver x.1 x.2 y.1 y.2)) → Same H1 H2 → Fr H2 f (rdT (x.1 * y.2) (x.2 * y.1)) (rdB (x.1 * y.2) (x.2 * y.1)) → H2 r = none →
          Q (.ref r) (upd H2 r (.tup [.ref m, .ref f])) := fun H1 H2 m f r s1 am s2 ff hr =>
        k _ r (rd (x.1 * y.2) (x.2 * y.1)) ((s1.trans s2).trans (Lb.Same.upd hr)) (.made (am.same s2) ff hr) (rd_low g0 ((lx.t.mul ly.b).mono (by omega)) ((lx.b.mul ly.t).mono (by omega)))
      refine ⟨_, rfl, rfl, _, rfl, ite2 (fun _ => ?_) (fun _ => ?_)⟩
      · refine ⟨_, rfl, here, dh, _, rfl, eh, am_no _ _ (by decide +kernel) (by decide +kernel), _, rfl, here, more, x.1, x.2, y.1, y.2, rfl, hh, hm, X1, X2, Y1, Y2, g0, fun H1 m s1 am => ?_⟩
        refine ⟨_, rfl, _, rfl, _, _, _, _, rfl, rfl, SqT.of (s1 _ _ hd), at0, _, rfl, _, _, _, _, rfl, rfl, SqT.of (s1 _ _ hb), at1, _, _, rfl, rfl, x1.cm y2 (by decide), _, rfl, _, _, _, _, rfl, rfl, SqT.of (s1 _ _ hd), at1, _, rfl, _, _, _, _, rfl, rfl, SqT.of (s1 _ _ hb), at0, _, _, rfl, rfl, x2.cm y1 (by decide), ?_⟩
        exact ⟨_, _, rfl, g0, (x1.mul y2).mono (by decide), (x2.mul y1).mono (by decide), fun H2 f s2 ff => ⟨sz, fun r hr => fin H1 H2 m f r s1 am s2 ff hr⟩⟩
      · refine ⟨_, rfl, here, dh, _, rfl, eh, am_no _ _ (by decide +kernel) (by decide +kernel), _, rfl, rfl, here, more, x.1, x.2, y.1, y.2, rfl, hh, hm, X1, X2, Y1, Y2, g0, fun H1 m s1 am => ?_⟩
        refine ⟨_, rfl, _, rfl, _, _, _, _, rfl, rfl, SqT.of (s1 _ _ hd), at0, _, rfl, _, _, _, _, rfl, rfl, SqT.of (s1 _ _ hb), at1, _, _, rfl, rfl, x1.cm y2 (by decide), _, rfl, _, _, _, _, rfl, rfl, SqT.of (s1 _ _ hd), at1, _, rfl, _, _, _, _, rfl, rfl, SqT.of (s1 _ _ hb), at0, _, _, rfl, rfl, x2.cm y1 (by decide), ?_⟩
        exact ⟨_, _, rfl, g0, (x1.mul y2).mono (by decide), (x2.mul y1).mono (by decide), fun H2 f s2 ff => ⟨sz, fun r hr => fin H1 H2 m f r s1 am s2 ff hr⟩⟩
end
end K11

set_option Elab.async false
set_option linter.all false
set_option maxRecDepth 100000
set_option maxHeartbeats 4000000
set_option exponentiation.threshold 10000
namespace K11
open PySem L2 Lb
open C8 (pss_cut)
theorem Pr.same {C r : Addr} {H H' : Hp} {x : Q2} (h : Pr C H r x) (s : Same H H') : Pr C H' r x :=
  let ⟨v, f, e, p, ff⟩ := h.ex
  ⟨v, f, s _ _ e, p.same s, s _ _ ff⟩
def RowsP (C : Addr) (H : Hp) (rs : List Addr) (xs : List Q2) : Prop := Paired (Pr C H) rs xs
theorem RowsP.same {C : Addr} {H H' : Hp} {rs : List Addr} {xs : List Q2} (h : RowsP C H rs xs) (s : Same H H') : RowsP C H' rs xs := Paired.imp h fun _ _ q => q.same s
def sp_sums (C : Addr) : Sp := fun vs H Q _ => ∃ (l : Addr) (rs : List Addr) (xs : List Q2), vs = [.ref l] ∧ H l = some (.lst (rs.map V.ref)) ∧ RowsP C H rs xs ∧ (∀ x ∈ xs, Low 80 x) ∧ xs.length ≤ 6 ∧ ∀ H', Same H H' → Q (.bl true) H'
theorem paired_snoc {α β : Type} {R : α → β → Prop} : ∀ {as : List α} {bs : List β} {a : α} {b : β}, Paired R as bs → R a b → Paired R (as ++ [a]) (bs ++ [b])
  | [], [], _, _, .nil, h => .cons h .nil
  | _ :: _, _ :: _, _, _, .cons h1 h2, h => .cons h1 (paired_snoc h2 h)
/-- amounts in a list -/
def AmR (C : Addr) (H : Hp) (q : Addr) (x : Q2) : Prop := AmAt C H q x.1 x.2
theorem amR_keep {C : Addr} : ∀ (H H' : Hp) (q : Addr) (x : Q2), AmR C H q x → (∀ o, H q = some o → H' q = some o) → AmR C H' q x := fun _ _ _ _ ⟨dx, h⟩ k => ⟨dx, k _ h⟩
theorem amR_nl {C : Addr} : ∀ (H : Hp) (q : Addr) (x : Q2) (l : List V), AmR C H q x → H q = some (.lst l) → False := fun H q x l ⟨dx, h⟩ e => by
  rw [e] at h
  cases h
section
variable {P : Program} {w : World} {K : PySem.W.Frag} {mg : Str → Option Value} {base : Heap} {a : Ad}
theorem ok_sums_right (T : Txt K mg a) : FnG P w K mg base CX0 8 a.f_sums_right a.d_sums_right ["_law_rows"] (sp_sums a.c_Amount) := by
  refine okG T.F_sums_right sc_sums_right (fun vs H Q E h => ?_) (fun cdv A outer s H vs Q E gu hr h => ?_)
  · obtain ⟨l, rs, xs, rfl, _⟩ := h
    rfl
  · obtain ⟨l, rs, xs, rfl, el, rp, lx, ln, k⟩ := h
    refine ⟨_, (pss_cons (ps_set (i := 1) sc_sums_right.nd rfl (by first | exact Or.inl rfl | exact Or.inr rfl) (pe_tup (pa_cons pe_int (pa_cons pe_int pa_nil))))
 (pss_cons (ps_set (i := 2) sc_sums_right.nd rfl (by first | exact Or.inl rfl | exact Or.inr rfl) (pe_make T.mkA (ok_Amount_init_ T) (hr.mono (by decide)) (by rfl) T.mA (b1_Amount_init_ T).choose_spec.2 (b1_Amount_init_ T).choose_spec.1 pass0 (pa_cons pe_int pa_nil)))
 (pss_cons (ps_for PassesOwn.never rfl (pi_listK (K := K) rfl (pv 0)) (pg_tupK (K := K) (n := 2) rfl rfl (pgs_cons (pg_name (i := 3) sc_sums_right.nd rfl (by first | exact Or.inl rfl | exact Or.inr rfl)) (pgs_cons (pg_name (i := 4) sc_sums_right.nd rfl (by first | exact Or.inl rfl | exact Or.inr rfl)) pgs_nil))) (pss_cons (ps_set (i := 1) sc_sums_right.nd rfl (by first | exact Or.inl rfl | exact Or.inr rfl) (pe_call (ok_plus T) (hr.mono (by decide)) (by rfl) T.m_plus T.F_plus.kp (b_plus T) .nil pass0 (pa_cons (pv 1) (pa_cons (pv 4) pa_nil))))
 (pss_one (ps_set (i := 2) sc_sums_right.nd rfl (by first | exact Or.inl rfl | exact Or.inr rfl) (pe_op (op_ownBin (K := K) (E := E0) rfl T.oAdd ((ok_Amount_add_ T).raw (b_Amount_add_ T) .nil) (hr.mono (by decide))) (pv 2) (pv 3))))))
 (pss_cons (ps_set (i := 5) sc_sums_right.nd rfl (by first | exact Or.inl rfl | exact Or.inr rfl) (pe_lst (pa_cons (pe_cmeth0 (pe_glob (v := .ref a.c_Amount) rfl T.mA rfl) T.cR T.cSum (ok_Amountsum_of T) (hr.mono (by decide)) pass0) pa_nil)))
 (pss_cut (ps_if (pt_cmpR op_gt (pe_callB (call_lenK (K := K) rfl) (by rfl) T.b_len (by decide +kernel) (pa_cons (pv 0) pa_nil)) pe_int (nomark _)) (pss_one (ps_expr (pe_bm PySem.F.plainAttrs_list PySem.F.slot_list_append PySem.F.type_list_append mt_append (pv 5) (pa_cons (ClX.pe_cmeth (pe_glob (v := .ref a.c_Amount) rfl T.mA rfl) T.cR T.cSum (ok_Amountsum_of T) (hr.mono (by decide)) pass0 (pa_cons (pe_ix (ix_tupK (K := K) rfl) (pe_ix (ix_listK (K := K) rfl) (pv 0) pe_int (fun _ _ => rfl)) pe_int (fun _ _ => rfl)) pa_nil)) pa_nil)))) pss_nil)
 (pss_cut (ps_if (PW.pt (pw_or (pt_not (pt_val (pe_callG (ok_is T) gu (hr.mono (by decide)) (by rfl) T.m_is T.F_is.kp (b_is T) .nil pass0 (pa_cons (pe_ix (ix_listK (K := K) rfl) (pv 5) pe_int (fun _ _ => rfl)) (pa_cons (pe_tup (pa_cons pe_int (pa_cons pe_int pa_nil))) pa_nil))))) (pw_or1 (PW.pt (pw_and (pt_cmpR op_gt (pe_callB (call_lenK (K := K) rfl) (by rfl) T.b_len (by decide +kernel) (pa_cons (pv 0) pa_nil)) pe_int (nomark _)) (pw_and1 (pt_not (pt_val (pe_callG (ok_is T) gu (hr.mono (by decide)) (by rfl) T.m_is T.F_is.kp (b_is T) .nil pass0 (pa_cons (pe_ix (ix_listK (K := K) rfl) (pv 5) pe_int (fun _ _ => rfl)) (pa_cons (pe_ix (ix_tupK (K := K) rfl) (pe_ix (ix_listK (K := K) rfl) (pv 0) pe_int (fun _ _ => rfl)) pe_int (fun _ _ => rfl)) pa_nil))))))))))) (pss_one (ps_ret pe_bl)) pss_nil)
 (pss_cons (ps_if (pt_cmpR op_ne (pe_callB (call_lenK (K := K) rfl) (by rfl) T.b_len (by decide +kernel) (pa_cons (pv 0) pa_nil)) pe_int (nomark _)) (pss_one (ps_ret pe_bl)) pss_nil)
 (pss_cons (ps_setLc (i := 6) (own := [("_law_passed", 3), ("_law_beside", 4)]) rfl sc_sums_right.nd rfl rfl (sw_true rfl rfl rfl (by decide +kernel)) (pi_listK (K := K) rfl (pv 0)) (blkOk_by (own := [("_law_passed", 3), ("_law_beside", 4)]) (N := ["_law_rows", "_law_due", "_law_total", "_law_passed", "_law_beside", "_law_told", "_law_some", "_law_made", "_law_one"]) (sc := defScope s_sums_right) (by decide +kernel)) (fun _ _ _ _ _ => (pg_tupK (K := K) (n := 2) rfl rfl (pgs_cons (pg_name (i := 3) sc_sums_right.nd rfl (by first | exact Or.inl rfl | exact Or.inr rfl)) (pgs_cons (pg_name (i := 4) sc_sums_right.nd rfl (by first | exact Or.inl rfl | exact Or.inr rfl)) pgs_nil)))) (fun _ _ _ _ _ => pts_nil) (fun _ _ _ _ _ => (pv 3)))
 (pss_cons (ps_set (i := 7) sc_sums_right.nd rfl (by first | exact Or.inl rfl | exact Or.inr rfl) (ClX.pe_cmeth (pe_glob (v := .ref a.c_Amount) rfl T.mA rfl) T.cR T.cSum (ok_Amountsum_of T) (hr.mono (by decide)) pass0 (pa_cons (pe_ix (ix_listK (K := K) rfl) (pv 6) pe_int (fun _ _ => rfl)) (pa_cons (pe_ix (ix_listK (K := K) rfl) (pv 6) pe_int (fun _ _ => rfl)) (pa_cons (pe_ix (ix_listK (K := K) rfl) (pv 6) pe_int (fun _ _ => rfl)) (pa_cons (pe_ix (ix_listK (K := K) rfl) (pv 6) pe_int (fun _ _ => rfl)) (pa_cons (pe_ix (ix_listK (K := K) rfl) (pv 6) pe_int (fun _ _ => rfl)) (pa_cons (pe_ix (ix_listK (K := K) rfl) (pv 6) pe_int (fun _ _ => rfl)) pa_nil))))))))
 (pss_one (ps_ret (pe_and (pe_callG (ok_is T) gu (hr.mono (by decide)) (by rfl) T.m_is T.F_is.kp (b_is T) .nil pass0 (pa_cons (pv 7) (pa_cons (pv 1) pa_nil))) (pe_and (pe_callG (ok_is T) gu (hr.mono (by decide)) (by rfl) T.m_is T.F_is.kp (b_is T) .nil pass0 (pa_cons (pe_call (ok_amount_of T) (hr.mono (by decide)) (by rfl) T.m_amount_of T.F_amount_of.kp (b_amount_of T) .nil pass0 (pa_cons (pv 2) pa_nil)) (pa_cons (pv 1) pa_nil))) (pe_one (pe_callG (ok_is T) gu (hr.mono (by decide)) (by rfl) T.m_is T.F_is.kp (b_is T) .nil pass0 (pa_cons (pe_callB (cr_sumOwn (K := K) rfl rfl ((ownBin_at (K := K) (E := E0) rfl T.oAdd ((ok_Amount_add_ T).raw (b_Amount_add_ T) .nil) (hr.in1.mono (by decide))).or (ownBinR_at (K := K) (E := E0) rfl int_add T.oAdd ((ok_Amount_radd_ T).raw (b_Amount_radd_ T) .nil) (hr.in1.mono (by decide))))) (by rfl) T.b_sum (by decide +kernel) (pa_cons (pe_lc (own := [("_law_one", 8)]) (by rfl) sc_sums_right.nd (pi_listK (K := K) rfl (pv 6)) (blkOk_by (own := [("_law_one", 8)]) (N := ["_law_rows", "_law_due", "_law_total", "_law_passed", "_law_beside", "_law_told", "_law_some", "_law_made", "_law_one"]) (sc := defScope s_sums_right) (by decide +kernel)) (fun _ _ _ _ _ => (pg_name (i := 8) sc_sums_right.nd rfl (by first | exact Or.inl rfl | exact Or.inr rfl))) (fun _ _ _ _ _ => pts_nil) (fun _ _ _ _ _ => (pe_call (ok_amount_of T) (hr.mono (by decide)) (by rfl) T.m_amount_of T.F_amount_of.kp (b_amount_of T) .nil pass0 (pa_cons (pv 8) pa_nil)))) pa_nil)) (pa_cons (pv 1) pa_nil))))))))))))))))), ?_⟩
    have lrs : rs.length = xs.length := Paired.len rp
    refine ⟨sz, fun d0 hd0 => ?_⟩
    generalize e_H1 : upd _ d0 _ = H1
    obtain ⟨s1, fd0⟩ := al3 e_H1 hd0
    clear e_H1
    (try dsimp only at fd0)
    refine fun t0 dx ht0 hdx ne => ⟨t0, dx, 0, 1, rfl, by decide, by show 0 < _; decide, bd_one, upd_same, fun H2 kp e => ⟨rfl, ?_⟩⟩
    obtain ⟨s2, am0⟩ := made_am ht0 hdx ne kp e
    rw [rdT_one, rdB_one] at am0
    have S2 := s1.trans s2
    -- the sums so far
    refine ⟨_, rfl, l, rfl, ⟨_, SqL.of (S2 _ _ el)⟩, ?_⟩
    refine for_list (K := K) (a := l) (xs := rs.map V.ref) (fun i σ H' => ∃ d t u3 u4 u5 u6 u7 u8, σ = [some (.ref l), some (.ref d), some (.ref t), u3, u4, u5, u6, u7, u8] ∧ Same H H' ∧ Fr H' d (sumF (xs.take i)).1 (sumF (xs.take i)).2 ∧ AmAt a.c_Amount H' t (sumF (xs.take i)).1 (sumF (xs.take i)).2)
      ⟨d0, t0, _, _, _, _, _, _, rfl, S2, s2 _ _ fd0, am0⟩ (fun i σ H' _ ⟨_, _, _, _, _, _, _, _, _, s, _⟩ => SqL.of (s _ _ el)) ?_ ?_
    · rintro i z σ H3 hi ⟨d, t, u3, u4, u5, u6, u7, u8, rfl, S3, fd, am⟩
      obtain ⟨r, rfl, hr'⟩ := ref_at hi
      obtain ⟨y, hy, py⟩ := Paired.at_ rp hr'
      have ly := lx y (List.mem_of_getElem? hy)
      have lt := (sumF_low (l := xs.take i) fun z hz => lx z (List.mem_of_mem_take hz)).mono (m := 600) (by rw [List.length_take]; omega)
      obtain ⟨v, f, er, pv', ff⟩ := (py.same S3).ex
      refine ⟨r, _, rfl, SqT.of er, rfl, _, _, rfl, _, _, rfl, rfl, ?_⟩
      refine ⟨_, rfl, _, rfl, d, f, _, y, rfl, fd, ff, lt.t.mono (by decide), lt.b.mono (by decide), ly.t.mono (by decide), ly.b.mono (by decide), lt.pos, ly.pos, fun H4 d' s4 fd' => ?_⟩
      refine ⟨_, rfl, _, rfl, leftB (am.same s4) (pv'.same s4) (lt.t.mono (by decide)) (lt.b.mono (by decide)) (ly.t.mono (by decide)) (ly.b.mono (by decide)) (mul_pos_ne lt.pos ly.pos) fun H5 t' s5 am' => ?_⟩
      refine ⟨d', t', _, _, _, _, _, _, rfl, (S3.trans s4).trans s5, ?_, ?_⟩
      · rw [← take_snoc hy, sumF_snoc]
        exact s5 _ _ fd'
      · rw [← take_snoc hy, sumF_snoc]
        exact am'
    rintro σ H3 ⟨d, t, u3, u4, u5, u6, u7, u8, rfl, S3, fd, am⟩
    rw [show (rs.map V.ref).length = xs.length by rw [List.length_map, lrs], List.take_length] at fd am
    have lt := (sumF_low lx).mono (m := 600) (by omega)
    -- told = [sum_of()]
    refine ⟨rfl, sum_of (ws := []) (xs := []) .nil (fun _ h => absurd h List.not_mem_nil) (by decide) fun H4 m0 s4 am0 => ⟨sz, fun o ho => ?_⟩⟩
    generalize e_H5 : upd _ o _ = H5
    obtain ⟨s5, fo⟩ := al3 e_H5 ho
    clear e_H5
    (try dsimp only at fo)
    have S5 := (S3.trans s4).trans s5
    have n4 : ∀ {b : Addr}, H4 b = none → H b = none := fun {b} h => by
      cases e : H b with
      | none => rfl
      | some x => rw [(S3.trans s4) _ _ e] at h; cases h
    have S4 := S3.trans s4
    refine ⟨fun σ H6 => ∃ ms : List Addr, σ = [some (.ref l), some (.ref d), some (.ref t), u3, u4, some (.ref o), u6, u7, u8] ∧ Same H4 H6 ∧ H6 o = some (.lst (V.ref m0 :: ms.map V.ref)) ∧ Paired (AmR a.c_Amount H6) ms (xs.take 1), ?_, ?_⟩
    · refine ⟨_, rfl, _, _, rfl, .inl (SqL.of (S5 _ _ el)), _, _, rfl, rfl, _, rfl, ?_⟩
      rw [List.length_map]
      rcases xs with _ | ⟨y, ys⟩
      · have : rs.length = 0 := lrs
        refine iteN (by rw [this]; simp) ?_
        exact ⟨[], rfl, s5, fo, .nil⟩
      · obtain ⟨r, rs', rfl⟩ : ∃ r rs', rs = r :: rs' := by
          cases rs with
          | nil => cases lrs
          | cons r rs' => exact ⟨r, rs', rfl⟩
        refine iteP (by simp) ?_
        obtain ⟨v, f, er, pv', ff⟩ := ((Paired.at_ rp (i := 0) rfl).choose_spec.2.same S5).ex
        have ey : (Paired.at_ rp (i := 0) rfl).choose = y := (Option.some.inj (Paired.at_ rp (i := 0) rfl).choose_spec.1).symm
        rw [ey] at pv' ff
        refine ⟨_, rfl, .inl ⟨rfl, _, SqL.of fo⟩, rfl, _, rfl, _, _, _, _, rfl, rfl, SqL.of (S5 _ _ el), atI_nat (j := 0) rfl, _, _, _, _, rfl, rfl, SqT.of er, at0, ?_⟩
        refine sum_of (ws := [v]) (xs := [y]) (.cons pv' .nil) (fun z hz => by rw [List.mem_singleton.mp hz]; exact lx y (List.mem_cons_self ..)) (by show 1 ≤ 12; decide) fun H6 m1 s6 am1 => ?_
        refine ⟨o, _, _, rfl, rfl, s6 _ _ fo, szlt (by show 1 ≤ 10000; decide), ?_⟩
        have ly := lx y (List.mem_cons_self ..)
        have e1 : sumF [y] = y := by
          show plusF (0, 1) y = y
          show rd (0 * y.2 + y.1 * 1) (1 * y.2) = y
          rw [Int.zero_mul, Int.zero_add, Int.mul_one, Int.one_mul]
          obtain ⟨q1, q2⟩ := rd_self ly.pos ly.g
          show (rdT _ _, rdB _ _) = y
          rw [q1, q2]
        rw [e1] at am1
        have nm : m1 ≠ o := fun z => by
          obtain ⟨dz, ez⟩ := am1
          rw [z, s6 _ _ fo] at ez
          cases ez
        refine ⟨[m1], rfl, Lb.Same.updl (s5.trans s6) ho, upd_same, ?_⟩
        obtain ⟨dz, ez⟩ := am1
        exact .cons ⟨dz, (upd_ne nm).trans ez⟩ .nil
    rintro σ H6 ⟨ms, rfl, s46, fo6, pm⟩
    have S6 := S4.trans s46
    -- the first two are right
    refine ⟨fun σ H9 => ∃ u5, σ = [some (.ref l), some (.ref d), some (.ref t), u3, u4, u5, u6, u7, u8] ∧ Same H4 H9, ?_, ?_⟩
    · refine ⟨_, rfl, _, _, _, _, rfl, rfl, SqL.of fo6, atI_nat (j := 0) rfl, sz, fun z hz => ?_⟩
      have sz' := Lb.Same.upd (o := .tup [V.int 0, V.int 1]) hz
      refine ⟨m0, z, (0, 1), rfl, (am0.same s46).same sz', upd_same, by show 0 < _; exact Nat.pow_pos (by decide), bd_one, fun H8 s8 => ⟨true, rfl, iteF ?_⟩⟩
      have s68 := sz'.trans s8
      have S8 := S6.trans s68
      refine ⟨_, rfl, _, _, rfl, .inl (SqL.of (S8 _ _ el)), _, _, rfl, rfl, _, rfl, ?_⟩
      rw [List.length_map]
      rcases xs with _ | ⟨y, ys⟩
      · have : rs.length = 0 := lrs
        refine iteN (by rw [this]; simp) ?_
        exact ⟨_, rfl, s46.trans s68⟩
      · obtain ⟨r, rs', rfl⟩ : ∃ r rs', rs = r :: rs' := by
          cases rs with
          | nil => cases lrs
          | cons r rs' => exact ⟨r, rs', rfl⟩
        refine iteP (by simp) ?_
        obtain ⟨v, f, er, pv', ff⟩ := ((Paired.at_ rp (i := 0) rfl).choose_spec.2.same S8).ex
        have ey : (Paired.at_ rp (i := 0) rfl).choose = y := (Option.some.inj (Paired.at_ rp (i := 0) rfl).choose_spec.1).symm
        rw [ey] at pv' ff
        have ly := lx y (List.mem_cons_self ..)
        match ms, pm with
        | m1 :: _, .cons h1 _ =>
          refine ⟨_, rfl, _, _, _, _, rfl, rfl, SqL.of (s68 _ _ fo6), atI_nat (j := 1) rfl, _, rfl, _, _, _, _, rfl, rfl, SqL.of (S8 _ _ el), atI_nat (j := 0) rfl, _, _, _, _, rfl, rfl, SqT.of er, at1, ?_⟩
          have h1 : AmAt a.c_Amount H6 m1 y.1 y.2 := h1
          exact ⟨m1, f, y, rfl, h1.same s68, ff, ly.t.mono (by decide), ly.b.mono (by decide), fun H9 s9 => ⟨true, rfl, iteF ⟨_, rfl, (s46.trans s68).trans s9⟩⟩⟩
    rintro σ H9 ⟨u5, rfl, s49⟩
    have S9 := S4.trans s49
    have fd := s49 _ _ (s4 _ _ fd)
    have am := (am.same s4).same s49
    have rp := RowsP.same rp S9
    refine ⟨_, rfl, _, _, rfl, .inl (SqL.of (S9 _ _ el)), rfl, _, rfl, ite2 (fun _ => k _ S9) (fun h6 => ?_)⟩
    have l6 : xs.length = 6 := by
      rw [List.length_map, lrs] at h6
      by_cases h : xs.length = 6
      · exact h
      · exfalso
        refine h6 ?_
        show (!decide (V.int _ = V.int 6)) = true
        rw [decide_eq_false (fun z => by injection z with z; omega)]
        rfl
    -- some
    refine ⟨_, rfl, l, rfl, ⟨_, SqL.of (S9 _ _ el)⟩, fun D hD => ?_⟩
    refine lc_list (K := K) (a := l) (xs := rs.map V.ref) (fun i H' => Same H9 H' ∧ ∃ ws, H' D = some (.lst ws) ∧ Paired (PsR a.c_Amount H9) ws (xs.take i)) ⟨Lb.Same.upd hD, [], upd_same, .nil⟩ (fun i H' _ b => SqL.of (b.1 _ _ (S9 _ _ el))) ?_ ?_
    · rintro i z H' hi ⟨s', ws, eD, pw⟩
      obtain ⟨r, rfl, hr'⟩ := ref_at hi
      obtain ⟨y, hy, py⟩ := Paired.at_ rp hr'
      obtain ⟨v, f, er, pv', ff⟩ := py.ex
      have lw := Paired.len pw
      refine ⟨r, _, rfl, SqT.of (s' _ _ er), rfl, _, _, rfl, _, _, rfl, rfl, rfl, ?_⟩
      refine ⟨_, rfl, ws, eD, szlt (by rw [lw, List.length_take]; omega), Lb.Same.updl s' hD, _, upd_same, ?_⟩
      rw [← take_snoc hy]
      exact paired_snoc pw pv'
    rintro H10 ⟨s10, ws, eD, pw⟩
    rw [show (rs.map V.ref).length = xs.length by rw [List.length_map, lrs], List.take_length] at pw
    have pw10 : Paired (PsR a.c_Amount H10) ws xs := Paired.imp pw fun v x q => q.same s10
    have fd := s10 _ _ fd
    have am := am.same s10
    have lw : ws.length = 6 := (Paired.len pw).trans l6
    obtain ⟨v0, v1, v2, v3, v4, v5, rfl⟩ : ∃ v0 v1 v2 v3 v4 v5, ws = [v0, v1, v2, v3, v4, v5] := by
      match ws, lw with
      | [a, b, c, d, e, f], _ => exact ⟨a, b, c, d, e, f, rfl⟩
    have at_ : ∀ (i : Nat) v, ([v0, v1, v2, v3, v4, v5] : List V)[i]? = some v → atI [v0, v1, v2, v3, v4, v5] (i : Int) = some v := fun i v h => atI_nat h
    have SD := SqL.of (K := K) eD
    refine ⟨rfl, _, rfl, _, _, _, _, rfl, rfl, SD, at_ 0 _ rfl, _, rfl, _, _, _, _, rfl, rfl, SD, at_ 1 _ rfl, _, rfl, _, _, _, _, rfl, rfl, SD, at_ 2 _ rfl, _, rfl, _, _, _, _, rfl, rfl, SD, at_ 3 _ rfl, _, rfl, _, _, _, _, rfl, rfl, SD, at_ 4 _ rfl, _, rfl, _, _, _, _, rfl, rfl, SD, at_ 5 _ rfl, ?_⟩
    refine sum_of (ws := [v0, v1, v2, v3, v4, v5]) (xs := xs) pw10 lx (by omega) fun H11 q11 s11 am11 => ?_
    have fd := s11 _ _ fd
    have am := am.same s11
    have eD := s11 _ _ eD
    have bt : Bd 1800 (sumF xs).1 := lt.t.mono (by decide)
    have bb : Bd 1800 (sumF xs).2 := lt.b.mono (by decide)
    refine ⟨_, rfl, _, rfl, q11, d, sumF xs, rfl, am11, fd, bt, bb, fun H12 s12 => ⟨true, rfl, iteT ?_⟩⟩
    have fd := s12 _ _ fd
    have am := am.same s12
    have eD := s12 _ _ eD
    refine ⟨_, rfl, _, _, _, rfl, .inr ⟨t, rfl, am⟩, lt.t.mono (by decide), fun H13 t' s13 am13 => ?_⟩
    have fd := s13 _ _ fd
    have eD := s13 _ _ eD
    refine ⟨_, rfl, t', d, sumF xs, rfl, am13, fd, bt, bb, fun H14 s14 => ⟨true, rfl, iteT ?_⟩⟩
    have fd := s14 _ _ fd
    have eD := s14 _ _ eD
    have S14 := (((S9.trans s10).trans s11).trans s12).trans (s13.trans s14)
    have pw14 : Paired (PsR a.c_Amount H14) [v0, v1, v2, v3, v4, v5] xs := Paired.imp pw10 fun v x q => (((q.same s11).same s12).same s13).same s14
    refine ⟨_, rfl, D, rfl, ⟨_, SqL.of eD⟩, fun D2 hD2 => ?_⟩
    refine lc_list (K := K) (a := D) (xs := [v0, v1, v2, v3, v4, v5]) (fun i H' => Blt (AmR a.c_Amount) H14 D2 (xs.take i) H') (Blt.start hD2) (fun i H' _ b => SqL.of (b.same _ _ eD)) ?_ ?_
    · intro i z H' hi b
      obtain ⟨y, hy, py⟩ := Paired.at_ pw14 hi
      have ly := lx y (List.mem_of_getElem? hy)
      have py : IsP a.c_Amount H' z y.1 y.2 := IsP.same py b.same
      refine ⟨rfl, ?_⟩
      refine ⟨_, rfl, z, y.1, y.2, rfl, py, ly.t.mono (by decide), fun H'' q s'' am'' => ?_⟩
      obtain ⟨acc, e, hl, B⟩ := b.step hD2 s'' amR_keep amR_nl (x := y) (r := q) am''
      refine ⟨acc, e, ?_, ?_⟩
      · rw [hl, List.length_take]
        exact szlt (by omega)
      · rw [take_snoc hy] at B
        exact B
    intro H15 B
    rw [show ([v0, v1, v2, v3, v4, v5] : List V).length = xs.length from l6.symm, List.take_length] at B
    obtain ⟨s15, as, eD2, pa⟩ := B
    have las : as.length = xs.length := Paired.len pa
    have fd := s15 _ _ fd
    refine ⟨D2, as, fun i v H' => Same H15 H' ∧ ((i = 0 ∧ v = .int 0) ∨ (1 ≤ i ∧ ∃ q, v = .ref q ∧ AmAt a.c_Amount H' q (sumF (xs.take i)).1 (sumF (xs.take i)).2)), rfl, ⟨?_, ?_, ?_, ?_⟩, ⟨Same.refl _, .inl ⟨rfl, rfl⟩⟩, ?_⟩
    · rintro v H' ⟨_, h | h⟩
      · exact h.2
      · omega
    · rintro i v H' ⟨_, h | h⟩
      · omega
      · exact let ⟨q, e, _⟩ := h.2; ⟨q, e⟩
    · rintro i v H' ⟨s', _⟩
      exact SqL.of (s' _ _ eD2)
    · rintro i v b H' hi ⟨s', h⟩
      obtain ⟨y, hy, py⟩ := Paired.at_ pa hi
      have ly := lx y (List.mem_of_getElem? hy)
      have py : AmAt a.c_Amount H' b y.1 y.2 := AmAt.same py s'
      have li := (sumF_low (l := xs.take i) fun z hz => lx z (List.mem_of_mem_take hz)).mono (m := 600) (by rw [List.length_take]; omega)
      rcases h with ⟨rfl, rfl⟩ | ⟨_, q, rfl, aq⟩
      · obtain ⟨db, eb⟩ := id py
        refine .inr ⟨0, b, db, _, rfl, rfl, eb, b, _, y.1, y.2, 0, 1, rfl, py, .inl ⟨rfl, rfl⟩, ly.t.mono (by decide), ly.b.mono (by decide), (by show 0 < _; exact Nat.pow_pos (by decide)), bd_one, mul_pos_ne (by decide : (0 : Int) < 1) ly.pos, fun H'' r s'' ar => ⟨s'.trans s'', .inr ⟨by omega, r, rfl, ?_⟩⟩⟩
        rw [← take_snoc hy, sumF_snoc]
        exact ar
      · refine .inl (leftB aq (.inr ⟨b, rfl, py⟩) (li.t.mono (by decide)) (li.b.mono (by decide)) (ly.t.mono (by decide)) (ly.b.mono (by decide)) (mul_pos_ne li.pos ly.pos) fun H'' r s'' ar => ⟨s'.trans s'', .inr ⟨by omega, r, rfl, ?_⟩⟩)
        rw [← take_snoc hy, sumF_snoc]
        exact ar
    · rintro v H16 ⟨s16, h⟩
      rw [las] at h
      rcases h with ⟨z, _⟩ | ⟨_, q, rfl, aq⟩
      · omega
      rw [List.take_length] at aq
      exact ⟨_, rfl, q, d, sumF xs, rfl, aq, s16 _ _ fd, bt, bb, fun H17 s17 => k _ ((S14.trans s15).trans (s16.trans s17))⟩
end
end K11

set_option Elab.async false
set_option linter.all false
set_option maxRecDepth 100000
set_option maxHeartbeats 4000000
set_option exponentiation.threshold 10000
namespace K11
open PySem L2 Lb
/-- all but lists is kept -/
def NL (H H' : Hp) : Prop := ∀ b o, (∀ l, o ≠ HO.lst l) → H b = some o → H' b = some o
theorem NL.trans {H H1 H2 : Hp} (h : NL H H1) (k : NL H1 H2) : NL H H2 := fun b o n e => k b o n (h b o n e)
theorem NL.of {H H1 : Hp} (h : Same H H1) : NL H H1 := fun b o _ e => h b o e
theorem NL.mov {p : Addr} {H H1 : Hp} (m : Mov p H H1) (hp : PotAt H p) : NL H H1 := fun b o n e => m.keep b o (fun z => by
  obtain ⟨x, y, q, _⟩ := hp
  rw [z, q] at e
  exact n _ (Option.some.inj e).symm) e
theorem NL.upd {H : Hp} {l : Addr} {ys : List V} {o : HO} (h : H l = some (.lst ys)) : NL H (upd H l o) := fun b u n e => by
  have : b ≠ l := fun z => by
    rw [z, h] at e
    exact n _ (Option.some.inj e).symm
  rw [upd_ne this]
  exact e
theorem AmAt.nl {C p : Addr} {H H' : Hp} {t b : Int} (h : AmAt C H p t b) (s : NL H H') : AmAt C H' p t b := let ⟨dx, e⟩ := h; ⟨dx, s _ _ (fun _ z => nomatch z) e⟩
theorem Fr.nl {p : Addr} {H H' : Hp} {t b : Int} (h : Fr H p t b) (s : NL H H') : Fr H' p t b := s _ _ (fun _ z => nomatch z) h
theorem IsP.nl {C : Addr} {v : V} {H H' : Hp} {t b : Int} (h : IsP C H v t b) (s : NL H H') : IsP C H' v t b := by
  rcases h with h | ⟨q, e, h⟩
  · exact .inl h
  · exact .inr ⟨q, e, h.nl s⟩
theorem Pr.nl {C r : Addr} {H H' : Hp} {x : Q2} (h : Pr C H r x) (s : NL H H') : Pr C H' r x :=
  let ⟨v, f, e, p, ff⟩ := h.ex
  ⟨v, f, s _ _ (fun _ z => nomatch z) e, p.nl s, Fr.nl ff s⟩
theorem Am2.nl {C r : Addr} {H H' : Hp} {x : Q2} (h : Am2 C H r x) (s : NL H H') : Am2 C H' r x :=
  let ⟨v, f, e, p, ff⟩ := h.ex
  ⟨v, f, s _ _ (fun _ z => nomatch z) e, p.nl s, Fr.nl ff s⟩
theorem Mov.updl {p l : Addr} {H H' : Hp} {o : HO} (m : Mov p H H') (h : H l = none) (n : l ≠ p) : Mov p H (upd H' l o) := by
  refine ⟨fun b u nb e => ?_, ?_⟩
  · rw [upd_ne (ne_of_none e h)]
    exact m.keep b u nb e
  · obtain ⟨x, y, q, z⟩ := m.pot
    exact ⟨x, y, by rw [upd_ne (Ne.symm n)]; exact q, z⟩
def sp_right (C : Addr) : Sp := fun vs H Q _ => ∃ (p : Addr), vs = [.ref p] ∧ PotAt H p ∧ ∀ H', Mov p H H' → Q (.bl true) H'
section
variable {P : Program} {w : World} {K : PySem.W.Frag} {mg : Str → Option Value} {base : Heap} {a : Ad}
theorem ok_right (T : Txt K mg a) : FnG P w K mg base CX0 9 a.f_right a.d_right ["_law_pot_here"] (sp_right a.c_Amount) := by
  refine okG T.F_right sc_right (fun vs H Q E h => ?_) (fun cdv A outer s H vs Q E gu hr h => ?_)
  · obtain ⟨p, rfl, _⟩ := h
    rfl
  · obtain ⟨p, rfl, hp, k⟩ := h
    refine ⟨_, (pss_cons (ps_asg (pe_call (ok_drawn T) (hr.mono (by decide)) (by rfl) T.m_drawn T.F_drawn.kp (b_drawn T) .nil pass0 (pa_cons (pv 0) pa_nil)) (pg_tupK (K := K) (n := 2) rfl rfl (pgs_cons (pg_name (i := 1) sc_right.nd rfl (by first | exact Or.inl rfl | exact Or.inr rfl)) (pgs_cons (pg_name (i := 2) sc_right.nd rfl (by first | exact Or.inl rfl | exact Or.inr rfl)) pgs_nil))))
 (pss_cons (ps_set (i := 3) sc_right.nd rfl (by first | exact Or.inl rfl | exact Or.inr rfl) (pe_call (ok_amount_of T) (hr.mono (by decide)) (by rfl) T.m_amount_of T.F_amount_of.kp (b_amount_of T) .nil pass0 (pa_cons (pv 1) pa_nil)))
 (pss_cons (ps_if (PW.pt (pw_or (pt_not (pt_val (pe_callG (ok_is T) gu (hr.mono (by decide)) (by rfl) T.m_is T.F_is.kp (b_is T) .nil pass0 (pa_cons (pv 3) (pa_cons (pv 2) pa_nil))))) (pw_or1 (pt_not (pt_val (pe_callG (ok_is T) gu (hr.mono (by decide)) (by rfl) T.m_is T.F_is.kp (b_is T) .nil pass0 (pa_cons (pe_callK0 (ok_amount_of T) (hr.mono (by decide)) (by rfl) T.m_amount_of T.F_amount_of.kp (kb_amount_of T) pass0 (pk_cons (pv 1) pk_nil)) (pa_cons (pv 2) pa_nil)))))))) (pss_one (ps_ret pe_bl)) pss_nil)
 (pss_cons (ps_par (i := 4) (j := 5) rfl sc_right.nd rfl rfl (by decide) rfl rfl (pa_cons (pe_lst pa_nil) (pa_cons (pe_lst (pa_cons (pe_tup (pa_cons (pv 3) (pa_cons (pv 2) pa_nil))) pa_nil)) pa_nil)) (by rfl))
 (pss_cons (ps_for PassesOwn.never rfl (pi_range1 rfl T.b_range (pa_cons pe_int pa_nil)) (pg_name (i := 6) sc_right.nd rfl (by first | exact Or.inl rfl | exact Or.inr rfl)) (pss_cons (ps_asg (pe_call (ok_drawn T) (hr.mono (by decide)) (by rfl) T.m_drawn T.F_drawn.kp (b_drawn T) .nil pass0 (pa_cons (pv 0) pa_nil)) (pg_tupK (K := K) (n := 2) rfl rfl (pgs_cons (pg_name (i := 7) sc_right.nd rfl (by first | exact Or.inl rfl | exact Or.inr rfl)) (pgs_cons (pg_name (i := 8) sc_right.nd rfl (by first | exact Or.inl rfl | exact Or.inr rfl)) pgs_nil))))
 (pss_cons (ps_expr (pe_bm PySem.F.plainAttrs_list PySem.F.slot_list_append PySem.F.type_list_append mt_append (pv 4) (pa_cons (pe_tup (pa_cons (pv 7) (pa_cons (pv 8) pa_nil))) pa_nil)))
 (pss_cons (ps_asg (pe_call (ok_step T) (hr.mono (by decide)) (by rfl) T.m_step T.F_step.kp (b_step T) .nil pass0 (pa_cons (pe_call (ok_draw T) (hr.mono (by decide)) (by rfl) T.m_draw T.F_draw.kp (b_draw T) .nil pass0 (pa_cons (pv 0) (pa_cons pe_int pa_nil))) (pa_cons (pv 3) (pa_cons (pv 2) (pa_cons (pv 7) (pa_cons (pv 8) pa_nil)))))) (pg_tupK (K := K) (n := 2) rfl rfl (pgs_cons (pg_name (i := 3) sc_right.nd rfl (by first | exact Or.inl rfl | exact Or.inr rfl)) (pgs_cons (pg_name (i := 2) sc_right.nd rfl (by first | exact Or.inl rfl | exact Or.inr rfl)) pgs_nil))))
 (pss_one (ps_expr (pe_bm PySem.F.plainAttrs_list PySem.F.slot_list_append PySem.F.type_list_append mt_append (pv 5) (pa_cons (pe_tup (pa_cons (pv 3) (pa_cons (pv 2) pa_nil))) pa_nil))))))))
 (pss_cons (ps_if (pt_not (pt_val (pe_callB (cr_allK (K := K) rfl rfl) (by rfl) T.b_all (by decide +kernel) (pa_cons (pe_lc (own := [("_law_one", 9), ("_law_fraction", 10)]) (by rfl) sc_right.nd (pi_listK (K := K) rfl (pv 5)) (blkOk_by (own := [("_law_one", 9), ("_law_fraction", 10)]) (N := ["_law_pot_here", "_law_passed", "_law_due", "_law_here", "_law_rows", "_law_made", "_law_turn", "_law_more", "_law_beside", "_law_one", "_law_fraction"]) (sc := defScope s_right) (by decide +kernel)) (fun _ _ _ _ _ => (pg_tupK (K := K) (n := 2) rfl rfl (pgs_cons (pg_name (i := 9) sc_right.nd rfl (by first | exact Or.inl rfl | exact Or.inr rfl)) (pgs_cons (pg_name (i := 10) sc_right.nd rfl (by first | exact Or.inl rfl | exact Or.inr rfl)) pgs_nil)))) (fun _ _ _ _ _ => pts_nil) (fun _ _ _ _ _ => (pe_callG (ok_is T) gu (hr.mono (by decide)) (by rfl) T.m_is T.F_is.kp (b_is T) .nil pass0 (pa_cons (pv 9) (pa_cons (pv 10) pa_nil))))) pa_nil)))) (pss_one (ps_ret pe_bl)) pss_nil)
 (pss_cons (ps_if (pt_not (pt_val (pe_callB (cr_allK (K := K) rfl rfl) (by rfl) T.b_all (by decide +kernel) (pa_cons (pe_lc (own := [("_law_one", 9), ("_law_fraction", 10)]) (by rfl) sc_right.nd (pi_listK (K := K) rfl (pv 4)) (blkOk_by (own := [("_law_one", 9), ("_law_fraction", 10)]) (N := ["_law_pot_here", "_law_passed", "_law_due", "_law_here", "_law_rows", "_law_made", "_law_turn", "_law_more", "_law_beside", "_law_one", "_law_fraction"]) (sc := defScope s_right) (by decide +kernel)) (fun _ _ _ _ _ => (pg_tupK (K := K) (n := 2) rfl rfl (pgs_cons (pg_name (i := 9) sc_right.nd rfl (by first | exact Or.inl rfl | exact Or.inr rfl)) (pgs_cons (pg_name (i := 10) sc_right.nd rfl (by first | exact Or.inl rfl | exact Or.inr rfl)) pgs_nil)))) (fun _ _ _ _ _ => pts_nil) (fun _ _ _ _ _ => (pe_callG (ok_is T) gu (hr.mono (by decide)) (by rfl) T.m_is T.F_is.kp (b_is T) .nil pass0 (pa_cons (pe_call (ok_amount_of T) (hr.mono (by decide)) (by rfl) T.m_amount_of T.F_amount_of.kp (b_amount_of T) .nil pass0 (pa_cons (pv 9) pa_nil)) (pa_cons (pv 10) pa_nil))))) pa_nil)))) (pss_one (ps_ret pe_bl)) pss_nil)
 (pss_one (ps_ret (pe_and (pe_callG (ok_sums_right T) gu (hr.mono (by decide)) (by rfl) T.m_sums_right T.F_sums_right.kp (b_sums_right T) .nil pass0 (pa_cons (pv 4) pa_nil)) (pe_and (pe_callG (ok_sums_right T) gu (hr.mono (by decide)) (by rfl) T.m_sums_right T.F_sums_right.kp (b_sums_right T) .nil pass0 (pa_cons (pe_slice (sl_listK (K := K) rfl) (pv 4) po_none (po_some pe_int)) pa_nil)) (pe_one (pe_callG (ok_sums_right T) gu (hr.mono (by decide)) (by rfl) T.m_sums_right T.F_sums_right.kp (b_sums_right T) .nil pass0 (pa_cons (pe_lst pa_nil) pa_nil)))))))))))))), ?_⟩
    refine ⟨_, rfl, p, rfl, hp, fun H1 r0 x m1 pr0 lx => ?_⟩
    obtain ⟨v, f, er0, ip, ff⟩ := pr0.ex
    refine ⟨_, _, rfl, SqT.of er0, rfl, _, _, rfl, _, _, rfl, rfl, ?_⟩
    refine ⟨_, rfl, v, x.1, x.2, rfl, ip, lx.t.mono (by decide), fun H2 q s2 am => ?_⟩
    have ff := s2 _ _ ff
    have ip := ip.same s2
    have bt : Bd 1800 x.1 := lx.t.mono (by decide)
    have bb : Bd 1800 x.2 := lx.b.mono (by decide)
    refine ⟨_, rfl, _, rfl, q, f, x, rfl, am, ff, bt, bb, fun H3 s3 => ⟨true, rfl, iteF ?_⟩⟩
    have ff := s3 _ _ ff
    have ip := ip.same s3
    have am := am.same s3
    refine ⟨_, rfl, rfl, v, x.1, x.2, rfl, ip, lx.t.mono (by decide), fun H4 q' s4 am' => ?_⟩
    have ff := s4 _ _ ff
    have am := am.same s4
    refine ⟨_, rfl, q', f, x, rfl, am', ff, bt, bb, fun H5 s5 => ⟨true, rfl, iteF ?_⟩⟩
    have ff := s5 _ _ ff
    have am := am.same s5
    have M5 := (((m1.same s2).same s3).same s4).same s5
    -- rows, made
    refine ⟨sz, fun l1 h1 => ?_⟩
    have n1 := M5.free hp h1
    have n1p := M5.ne h1
    have M6 := M5.same (Lb.Same.upd (o := .lst []) h1)
    refine ⟨_, rfl, _, rfl, sz, fun t0 ht0 => ⟨sz, fun l2 h2 => ⟨_, _, rfl, ?_⟩⟩⟩
    have M7 := M6.same (Lb.Same.upd (o := .tup [.ref q, .ref f]) ht0)
    have n2 := M7.free hp h2
    have n2p := M7.ne h2
    have M8 := M7.same (Lb.Same.upd (o := .lst [.ref t0]) h2)
    have t01 : t0 ≠ l1 := fun z => by rw [z, upd_same] at ht0; cases ht0
    have l21 : l2 ≠ l1 := fun z => by rw [z, upd_ne (Ne.symm t01), upd_same] at h2; cases h2
    have S58 : Same H5 (upd (upd (upd H5 l1 (.lst [])) t0 (.tup [.ref q, .ref f])) l2 (.lst [.ref t0])) := ((Lb.Same.upd h1).trans (Lb.Same.upd ht0)).trans (Lb.Same.upd h2)
    have e1 : (upd (upd (upd H5 l1 (.lst [])) t0 (.tup [.ref q, .ref f])) l2 (.lst [.ref t0])) l1 = some (.lst []) := by
      rw [upd_ne (Ne.symm l21), upd_ne (Ne.symm t01), upd_same]
    have a0 : Am2 a.c_Amount (upd (upd (upd H5 l1 (.lst [])) t0 (.tup [.ref q, .ref f])) l2 (.lst [.ref t0])) t0 x :=
      ⟨q, f, Lb.Same.upd h2 _ _ upd_same, am.same S58, S58 _ _ ff⟩
    refine ⟨_, rfl, by decide, by decide, ?_⟩
    refine for_range (n := 6) (fun i σ H' => ∃ (here due : Addr) (u6 u7 u8 u9 u10 : Option V) (rs ms : List Addr) (xs zs : List Q2) (z : Q2), σ = [some (.ref p), some v, some (.ref due), some (.ref here), some (.ref l1), some (.ref l2), u6, u7, u8, u9, u10] ∧ Mov p H H' ∧
        AmAt a.c_Amount H' here z.1 z.2 ∧ Fr H' due z.1 z.2 ∧ Low (81 * (i + 1)) z ∧
        H' l1 = some (.lst (rs.map V.ref)) ∧ Paired (Pr a.c_Amount H') rs xs ∧ (∀ x ∈ xs, Low 80 x) ∧ xs.length = i ∧
        H' l2 = some (.lst (ms.map V.ref)) ∧ Paired (Am2 a.c_Amount H') ms zs ∧ (∀ z ∈ zs, Low 600 z) ∧ zs.length = i + 1)
      ⟨q, f, _, _, _, _, _, [], [t0], [], [x], x, rfl, M8, am.same S58, S58 _ _ ff, lx.mono (by decide), e1, .nil, (fun _ h => absurd h List.not_mem_nil), rfl, upd_same, .cons a0 .nil, (fun z hz => by rw [List.mem_singleton.mp hz]; exact lx.mono (by decide)), rfl⟩ ?_ ?_
    · rintro i σ H' hi ⟨here, due, u6, u7, u8, u9, u10, rs, ms, xs, zs, z, rfl, M, ah, fd, lz, el1, pr, lxs, lxn, el2, pm, lzs, lzn⟩
      refine ⟨_, rfl, p, rfl, M.pot, fun H1 r y m1 pry ly => ?_⟩
      have N1 := NL.mov m1 M.pot
      have M1 := M.trans m1
      obtain ⟨w', g, er, iy, fg⟩ := pry.ex
      have el1 := m1.keep _ _ n1p el1
      have el2 := m1.keep _ _ n2p el2
      refine ⟨_, _, rfl, SqT.of er, rfl, _, _, rfl, _, _, rfl, rfl, ?_⟩
      refine ⟨_, rfl, .inl ⟨rfl, _, SqL.of el1⟩, _, rfl, _, rfl, sz, fun t ht => ?_⟩
      have st := Lb.Same.upd (o := .tup [w', .ref g]) ht
      have el1 := st _ _ el1
      have el2 := st _ _ el2
      have lrs : rs.length = i := (Paired.len pr).trans lxn
      refine ⟨l1, _, _, rfl, rfl, el1, szlt (by rw [List.length_map]; omega), ?_⟩
      have N2 : NL H1 (upd (upd H1 t (.tup [w', .ref g])) l1 (.lst (rs.map V.ref ++ [V.ref t]))) := (NL.of st).trans (NL.upd el1)
      have M2 := Mov.updl (o := .lst (rs.map V.ref ++ [V.ref t])) (M1.same st) n1 n1p
      have el2 : (upd (upd H1 t (.tup [w', .ref g])) l1 (.lst (rs.map V.ref ++ [V.ref t]))) l2 = some (.lst (ms.map V.ref)) := by rw [upd_ne l21]; exact el2
      have pt : Pr a.c_Amount (upd (upd H1 t (.tup [w', .ref g])) l1 (.lst (rs.map V.ref ++ [V.ref t]))) t y :=
        ⟨w', g, NL.upd el1 _ _ (fun _ z => nomatch z) upd_same, iy.nl N2, Fr.nl fg N2⟩
      have el1' : (upd (upd H1 t (.tup [w', .ref g])) l1 (.lst (rs.map V.ref ++ [V.ref t]))) l1 = some (.lst ((rs ++ [t]).map V.ref)) := by rw [upd_same, List.map_append]; rfl
      have pr2 := Paired.imp pr fun _ _ h => Pr.nl h (N1.trans N2)
      have pm2 := Paired.imp pm fun _ _ h => Am2.nl h (N1.trans N2)
      have ah := ah.nl (N1.trans N2)
      have fd := Fr.nl fd (N1.trans N2)
      have iy := iy.nl N2
      have fg := Fr.nl fg N2
      generalize upd (upd H1 t (.tup [w', .ref g])) l1 (.lst (rs.map V.ref ++ [V.ref t])) = H2 at *
      -- the step
      refine ⟨_, rfl, p, _, rfl, M2.pot, by decide, by unfold Bd; decide, fun H3 d m3 d0 d1 => ?_⟩
      have N3 := NL.mov m3 M2.pot
      have M3 := M2.trans m3
      have ah := ah.nl N3
      have fd := Fr.nl fd N3
      have iy := iy.nl N3
      have fg := Fr.nl fg N3
      refine ⟨_, rfl, _, rfl, _, rfl, _, rfl, d, here, due, g, w', z, y, _, rfl, ah, fd, iy, fg, lz, ly, by omega, fun H4 r4 z' s4 a4 lz' => ?_⟩
      obtain ⟨h', d', er4, ah', fd'⟩ := a4.ex
      refine ⟨_, _, rfl, SqT.of er4, rfl, _, _, rfl, _, _, rfl, rfl, ?_⟩
      have el1' := s4 _ _ (m3.keep _ _ n1p el1')
      have el2 := s4 _ _ (m3.keep _ _ n2p el2)
      have M4 := M3.same s4
      refine ⟨_, rfl, .inl ⟨rfl, _, SqL.of el2⟩, _, rfl, _, rfl, sz, fun t' ht' => ?_⟩
      have st' := Lb.Same.upd (o := .tup [V.ref h', .ref d']) ht'
      have lms : ms.length = i + 1 := (Paired.len pm).trans lzn
      have el2' := st' _ _ el2
      refine ⟨l2, _, _, rfl, rfl, el2', szlt (by rw [List.length_map]; omega), ?_⟩
      have N4 : NL H4 (upd (upd H4 t' (.tup [V.ref h', .ref d'])) l2 (.lst (ms.map V.ref ++ [V.ref t']))) := (NL.of st').trans (NL.upd el2')
      have N5 := (N3.trans (NL.of s4)).trans N4
      refine ⟨h', d', _, _, _, _, _, rs ++ [t], ms ++ [t'], xs ++ [y], zs ++ [z'], z', rfl, Mov.updl (M4.same st') n2 n2p, ah'.nl N4, Fr.nl fd' N4, lz'.mono (by omega), ?_, ?_, ?_, ?_, ?_, ?_, ?_, ?_⟩
      · rw [upd_ne (Ne.symm l21)]
        exact st' _ _ el1'
      · exact paired_snoc (Paired.imp pr2 fun _ _ h => Pr.nl h N5) (pt.nl N5)
      · intro b hb
        rcases List.mem_append.mp hb with hb | hb
        · exact lxs b hb
        · rw [List.mem_singleton.mp hb]; exact ly
      · rw [List.length_append, lxn]; rfl
      · rw [upd_same, List.map_append]; rfl
      · exact paired_snoc (Paired.imp pm2 fun _ _ h => Am2.nl h N5) ⟨h', d', NL.upd el2' _ _ (fun _ z => nomatch z) upd_same, ah'.nl N4, Fr.nl fd' N4⟩
      · intro b hb
        rcases List.mem_append.mp hb with hb | hb
        · exact lzs b hb
        · rw [List.mem_singleton.mp hb]; exact lz'.mono (by omega)
      · rw [List.length_append, lzn]; rfl
    rintro σ H6 ⟨here, due, u6, u7, u8, u9, u10, rs, ms, xs, zs, z, rfl, M, ah, fd, lz, el1, pr, lxs, lxn, el2, pm, lzs, lzn⟩
    have lrs : rs.length = 6 := (Paired.len pr).trans lxn
    have lms : ms.length = 7 := (Paired.len pm).trans lzn
    -- all of made
    refine ⟨_, rfl, l2, rfl, ⟨_, SqL.of el2⟩, fun D hD => ?_⟩
    refine lc_list (K := K) (a := l2) (xs := ms.map V.ref) (fun i H' => Same H6 H' ∧ H' D = some (.lst ((List.replicate i true).map V.bl))) ⟨Lb.Same.upd hD, upd_same⟩ (fun i H' _ b => SqL.of (b.1 _ _ el2)) ?_ ?_
    · rintro i y H' hi ⟨s', eD⟩
      obtain ⟨r, rfl, hr'⟩ := ref_at hi
      obtain ⟨y, hy, py⟩ := Paired.at_ pm hr'
      have ly := lzs y (List.mem_of_getElem? hy)
      have hi7 : i < 7 := by
        have := (List.getElem?_eq_some_iff.mp hr').1
        omega
      obtain ⟨m, f', er, am', ff'⟩ := (py.same s').ex
      refine ⟨r, _, rfl, SqT.of er, rfl, _, _, rfl, _, _, rfl, rfl, rfl, ?_⟩
      refine ⟨_, rfl, _, rfl, m, f', y, rfl, am', ff', ly.t.mono (by decide), ly.b.mono (by decide), fun H'' s'' => ⟨_, s'' _ _ eD, ?_, Lb.Same.updl (s'.trans s'') hD, ?_⟩⟩
      · rw [List.length_map, List.length_replicate]
        exact szlt (by omega)
      · rw [upd_same, List.replicate_succ', List.map_append]
        rfl
    rintro H7 ⟨s7, eD⟩
    refine ⟨D, _, rfl, SqL.of eD, ?_⟩
    rw [all_replicate_true]
    refine ⟨true, rfl, iteF ?_⟩
    have el1 := s7 _ _ el1
    have pr := Paired.imp pr fun _ _ h => Pr.same h s7
    have M := M.same s7
    -- all of rows
    refine ⟨_, rfl, l1, rfl, ⟨_, SqL.of el1⟩, fun D2 hD2 => ?_⟩
    refine lc_list (K := K) (a := l1) (xs := rs.map V.ref) (fun i H' => Same H7 H' ∧ H' D2 = some (.lst ((List.replicate i true).map V.bl))) ⟨Lb.Same.upd hD2, upd_same⟩ (fun i H' _ b => SqL.of (b.1 _ _ el1)) ?_ ?_
    · rintro i y H' hi ⟨s', eD⟩
      obtain ⟨r, rfl, hr'⟩ := ref_at hi
      obtain ⟨y, hy, py⟩ := Paired.at_ pr hr'
      have ly := lxs y (List.mem_of_getElem? hy)
      have hi7 : i < 6 := by
        have := (List.getElem?_eq_some_iff.mp hr').1
        omega
      obtain ⟨w', f', er, iw, ff'⟩ := (py.same s').ex
      refine ⟨r, _, rfl, SqT.of er, rfl, _, _, rfl, _, _, rfl, rfl, rfl, ?_⟩
      refine ⟨_, rfl, w', y.1, y.2, rfl, iw, ly.t.mono (by decide), fun H8 q8 s8 am8 => ?_⟩
      refine ⟨_, rfl, q8, f', y, rfl, am8, s8 _ _ ff', ly.t.mono (by decide), ly.b.mono (by decide), fun H'' s'' => ⟨_, s'' _ _ (s8 _ _ eD), ?_, Lb.Same.updl ((s'.trans s8).trans s'') hD2, ?_⟩⟩
      · rw [List.length_map, List.length_replicate]
        exact szlt (by omega)
      · rw [upd_same, List.replicate_succ', List.map_append]
        rfl
    rintro H8 ⟨s8, eD2⟩
    refine ⟨D2, _, rfl, SqL.of eD2, ?_⟩
    rw [all_replicate_true]
    refine ⟨true, rfl, iteF ?_⟩
    have el1 := s8 _ _ el1
    have pr := Paired.imp pr fun _ _ h => Pr.same h s8
    have M := M.same s8
    refine ⟨_, rfl, l1, rs, xs, rfl, el1, pr, lxs, by omega, fun H9 s9 => ⟨true, rfl, iteT ?_⟩⟩
    have el1 := s9 _ _ el1
    have pr := Paired.imp pr fun _ _ h => Pr.same h s9
    have M := M.same s9
    obtain ⟨r0, rs', ers⟩ : ∃ r0 rs', rs = r0 :: rs' := by
      cases rs with
      | nil => cases lrs
      | cons b c => exact ⟨b, c, rfl⟩
    obtain ⟨x0, xs', exs⟩ : ∃ x0 xs', xs = x0 :: xs' := by
      cases xs with
      | nil => cases lxn
      | cons b c => exact ⟨b, c, rfl⟩
    have p0 : Pr a.c_Amount H9 r0 x0 := by
      rw [ers, exs] at pr
      cases pr with
      | cons h _ => exact h
    refine ⟨_, rfl, 1, rfl, l1, _, rfl, SqL.of el1, fun q1 hq1 => ?_⟩
    have ecut : cutV (rs.map V.ref) none (some 1) = [r0].map V.ref := by
      have e6 : (rs.map V.ref).length = 6 := by rw [List.length_map, lrs]
      unfold cutV
      rw [e6, ers]
      rfl
    rw [ecut]
    have sq := Lb.Same.upd (o := .lst ([r0].map V.ref)) hq1
    refine ⟨q1, [r0], [x0], rfl, upd_same, .cons (p0.same sq) .nil, (fun b hb => by rw [List.mem_singleton.mp hb]; exact lxs _ (by rw [exs]; exact List.mem_cons_self ..)), (by show 1 ≤ 6; decide), fun H10 s10 => ⟨true, rfl, iteT ?_⟩⟩
    refine ⟨sz, fun l3 hl3 => ?_⟩
    exact ⟨l3, [], [], rfl, upd_same, .nil, (fun b hb => absurd hb List.not_mem_nil), (by decide), fun H11 s11 => k _ (((M.same sq).same s10).same ((Lb.Same.upd hl3).trans s11))⟩
/-- the law -/
def sp_law (K : PySem.W.Frag) : Sp := fun vs H Q _ => ∃ (a : Addr) (ns : List Int), vs = [.ref a] ∧ SqL K H a (ns.map V.int) ∧ ns.length ≤ 63 ∧ ∀ H', Q (.bl true) H'
theorem ints_ps {C : Addr} {H : Hp} : ∀ ns : List Int, Paired (PsR C H) (ns.map V.int) (ns.map fun n => (n, 1))
  | [] => .nil
  | n :: r => .cons (.inl ⟨rfl, rfl⟩) (ints_ps r)
theorem ok_law (T : Txt K mg a) : FnG P w K mg base CX0 10 a.f_law a.d_law ["_law_script"] (sp_law K) := by
  refine okG T.F_law sc_law (fun vs H Q E h => ?_) (fun cdv A outer s H vs Q E gu hr h => ?_)
  · obtain ⟨sc, ns, rfl, _⟩ := h
    rfl
  · obtain ⟨sc, ns, rfl, hS, hlen, k⟩ := h
    refine ⟨_, (pss_cons (ps_if (pt_not (pt_val (pe_callG (ok_is T) gu (hr.mono (by decide)) (by rfl) T.m_is T.F_is.kp (b_is T) .nil pass0 (pa_cons (ClX.pe_cmeth (pe_glob (v := .ref a.c_Amount) rfl T.mA rfl) T.cR T.cSum (ok_Amountsum_of T) (hr.mono (by decide)) pass0 (pa_cons pe_int (pa_cons pe_int (pa_cons pe_int (pa_cons pe_int (pa_cons pe_int (pa_cons pe_int (pa_cons pe_int (pa_cons pe_int (pa_cons pe_int (pa_cons pe_int (pa_cons pe_int (pa_cons pe_int pa_nil))))))))))))) (pa_cons (pe_tup (pa_cons pe_int (pa_cons pe_int pa_nil))) pa_nil))))) (pss_one (ps_ret pe_bl)) pss_nil)
 (pss_one (ps_ret (pe_callB (cr_allK (K := K) rfl rfl) (by rfl) T.b_all (by decide +kernel) (pa_cons (pe_lc (own := [("_law_k", 1)]) (by rfl) sc_law.nd (pi_range1 rfl T.b_range (pa_cons (pe_callB (call_max2 rfl) (by rfl) T.b_max (by decide +kernel) (pa_cons pe_int (pa_cons (pe_callB (call_min2 rfl) (by rfl) T.b_min (by decide +kernel) (pa_cons pe_int (pa_cons (pe_callB (call_lenK (K := K) rfl) (by rfl) T.b_len (by decide +kernel) (pa_cons (pv 0) pa_nil)) pa_nil))) pa_nil))) pa_nil)) (blkOk_by (own := [("_law_k", 1)]) (N := ["_law_script", "_law_k"]) (sc := defScope s_law) (by decide +kernel)) (fun _ _ _ _ _ => (pg_name (i := 1) sc_law.nd rfl (by first | exact Or.inl rfl | exact Or.inr rfl))) (fun _ _ _ _ _ => pts_nil) (fun _ _ _ _ _ => (pe_callG (ok_right T) gu (hr.mono (by decide)) (by rfl) T.m_right T.F_right.kp (b_right T) .nil pass0 (pa_cons (pe_call (ok_pot T) (hr.mono (by decide)) (by rfl) T.m_pot T.F_pot.kp (b_pot T) .nil pass0 (pa_cons (pv 0) (pa_cons (pv 1) pa_nil))) pa_nil)))) pa_nil))))), ?_⟩
    refine ⟨rfl, sum_of (ws := ([1, 2, 3, 4, 5, 6, 7, 8, 9, 10, 11, 12] : List Int).map V.int) (xs := ([1, 2, 3, 4, 5, 6, 7, 8, 9, 10, 11, 12] : List Int).map fun n => (n, 1)) (ints_ps _) ?_ (by decide) fun H1 q s1 am => ?_⟩
    · intro x hx
      obtain ⟨n, hn, rfl⟩ := List.mem_map.mp hx
      refine ⟨?_, bd_one, (by show (0 : Int) < 1; decide), (by simp)⟩
      show n.natAbs < 2 ^ 80
      simp only [List.mem_cons, List.not_mem_nil, or_false] at hn
      rcases hn with rfl | rfl | rfl | rfl | rfl | rfl | rfl | rfl | rfl | rfl | rfl | rfl <;> decide
    have e78 : sumF (([1, 2, 3, 4, 5, 6, 7, 8, 9, 10, 11, 12] : List Int).map fun n => (n, 1)) = (78, 1) := by decide +kernel
    rw [e78] at am
    refine ⟨sz, fun t ht => ?_⟩
    have st := Lb.Same.upd (o := .tup [V.int 78, V.int 1]) ht
    refine ⟨q, t, (78, 1), rfl, am.same st, upd_same, by show (78 : Int).natAbs < 2 ^ 1800; exact Nat.lt_of_lt_of_le (by decide : 78 < 2 ^ 7) (Nat.pow_le_pow_right (by decide) (by decide)), bd_one, fun H2 s2 => ⟨true, rfl, iteF ?_⟩⟩
    have hS := Same.seq ((s1.trans st).trans s2) hS
    refine ⟨_, rfl, _, _, rfl, .inl hS, _, _, rfl, _, _, rfl, ?_⟩
    have hn : ∃ n : Nat, n ≤ 4 ∧ (if (if (((ns.map V.int).length : Nat) : Int) < 4 then (((ns.map V.int).length : Nat) : Int) else 4) > 1 then (if (((ns.map V.int).length : Nat) : Int) < 4 then (((ns.map V.int).length : Nat) : Int) else 4) else 1) = (n : Int) := by
      rw [List.length_map]
      refine ⟨(if (if ns.length < 4 then ns.length else 4) > 1 then (if ns.length < 4 then ns.length else 4) else 1), ?_, ?_⟩
      · split <;> (try split) <;> omega
      · split <;> split <;> (try split) <;> (try split) <;> omega
    obtain ⟨n, hn4, en⟩ := hn
    rw [en]
    refine ⟨_, rfl, (by omega), (by omega), fun D hD => ?_⟩
    refine lc_range (lo := 0) (n := n) (fun i H' => Same H2 H' ∧ H' D = some (.lst ((List.replicate i true).map V.bl))) ⟨Lb.Same.upd hD, upd_same⟩ ?_ ?_
    · rintro i H' hi ⟨s1, e1⟩
      refine ⟨rfl, ?_⟩
      refine ⟨_, rfl, _, rfl, sc, ns, i, by simp, Same.seq s1 hS, hlen, by omega, fun H2 p s2 hp pot => ?_⟩
      refine ⟨p, rfl, pot, fun H3 m3 => ?_⟩
      have nD : D ≠ p := fun q => by
        rw [← q, e1] at hp
        cases hp
      have keep : ∀ b o, H' b = some o → H3 b = some o := fun b o e => m3.keep b o (ne_of_none e hp) (s2 _ _ e)
      refine ⟨_, keep _ _ e1, ?_, ?_, ?_⟩
      · rw [List.length_map, List.length_replicate]
        exact szlt (by omega)
      · exact Lb.Same.updl (s1.trans keep) hD
      · rw [upd_same, List.replicate_succ', List.map_append]
        rfl
    · rintro H' ⟨s1, e1⟩
      refine ⟨D, _, rfl, SqL.of e1, ?_⟩
      rw [all_replicate_true]
      exact k _
end
end K11

set_option Elab.async false
set_option linter.all false
set_option maxRecDepth 100000
namespace K11
open PySem L2 Lb
set_option maxHeartbeats 0 in
theorem all_mk {l : PySem.W.OpenLaw} {w : World} {K : PySem.W.Frag} {h : Heap} {mg : Str → Option Value} (X : K.In h) (G : h.Ns mainGlobals mg) {fa : Addr} (hfa : mg "law" = some (.ref fa))
    {c_Amount : Addr}
    {p_top : Addr}
    {p_bottom : Addr}
    {p_sign : Addr}
    {p_sum : Addr}
    {f_is_integer : Addr} {od_0 an_0 : Option Addr} {sl_0 : Array (Option Value)} {oc_0 kV_0 dc_0 pm_0 cd_0 ct_0 : Value}
    {f_is_amount : Addr} {od_1 an_1 : Option Addr} {sl_1 : Array (Option Value)} {oc_1 kV_1 dc_1 pm_1 cd_1 ct_1 : Value}
    {f_amount_of : Addr} {od_2 an_2 : Option Addr} {sl_2 : Array (Option Value)} {oc_2 kV_2 dc_2 pm_2 cd_2 ct_2 : Value}
    {f_decimal : Addr} {od_3 an_3 : Option Addr} {sl_3 : Array (Option Value)} {oc_3 kV_3 dc_3 pm_3 cd_3 ct_3 : Value}
    {f_Amount_init_ : Addr} {od_4 an_4 : Option Addr} {sl_4 : Array (Option Value)} {oc_4 kV_4 dc_4 pm_4 cd_4 ct_4 : Value}
    {T_4 : Addr} {o_4 : Obj} {dn_4 : Nat} {its_4 : List Value}
    {f_Amounttop : Addr} {od_5 an_5 : Option Addr} {sl_5 : Array (Option Value)} {oc_5 kV_5 dc_5 pm_5 cd_5 ct_5 : Value}
    {rest_5 : List Value}
    {f_Amountbottom : Addr} {od_6 an_6 : Option Addr} {sl_6 : Array (Option Value)} {oc_6 kV_6 dc_6 pm_6 cd_6 ct_6 : Value}
    {rest_6 : List Value}
    {f_Amountsign : Addr} {od_7 an_7 : Option Addr} {sl_7 : Array (Option Value)} {oc_7 kV_7 dc_7 pm_7 cd_7 ct_7 : Value}
    {rest_7 : List Value}
    {f_Amount_add_ : Addr} {od_8 an_8 : Option Addr} {sl_8 : Array (Option Value)} {oc_8 kV_8 dc_8 pm_8 cd_8 ct_8 : Value}
    {f_Amount_radd_ : Addr} {od_9 an_9 : Option Addr} {sl_9 : Array (Option Value)} {oc_9 kV_9 dc_9 pm_9 cd_9 ct_9 : Value}
    {f_Amount_sub_ : Addr} {od_10 an_10 : Option Addr} {sl_10 : Array (Option Value)} {oc_10 kV_10 dc_10 pm_10 cd_10 ct_10 : Value}
    {f_Amount_rsub_ : Addr} {od_11 an_11 : Option Addr} {sl_11 : Array (Option Value)} {oc_11 kV_11 dc_11 pm_11 cd_11 ct_11 : Value}
    {f_Amount_mul_ : Addr} {od_12 an_12 : Option Addr} {sl_12 : Array (Option Value)} {oc_12 kV_12 dc_12 pm_12 cd_12 ct_12 : Value}
    {f_Amount_rmul_ : Addr} {od_13 an_13 : Option Addr} {sl_13 : Array (Option Value)} {oc_13 kV_13 dc_13 pm_13 cd_13 ct_13 : Value}
    {f_Amountover : Addr} {od_14 an_14 : Option Addr} {sl_14 : Array (Option Value)} {oc_14 kV_14 dc_14 pm_14 cd_14 ct_14 : Value}
    {f_Amount_neg_ : Addr} {od_15 an_15 : Option Addr} {sl_15 : Array (Option Value)} {oc_15 kV_15 dc_15 pm_15 cd_15 ct_15 : Value}
    {f_Amount_abs_ : Addr} {od_16 an_16 : Option Addr} {sl_16 : Array (Option Value)} {oc_16 kV_16 dc_16 pm_16 cd_16 ct_16 : Value}
    {f_Amount_bool_ : Addr} {od_17 an_17 : Option Addr} {sl_17 : Array (Option Value)} {oc_17 kV_17 dc_17 pm_17 cd_17 ct_17 : Value}
    {f_Amount_str_ : Addr} {od_18 an_18 : Option Addr} {sl_18 : Array (Option Value)} {oc_18 kV_18 dc_18 pm_18 cd_18 ct_18 : Value}
    {f_Amount_repr_ : Addr} {od_19 an_19 : Option Addr} {sl_19 : Array (Option Value)} {oc_19 kV_19 dc_19 pm_19 cd_19 ct_19 : Value}
    {f_Amountsum_of : Addr} {od_20 an_20 : Option Addr} {sl_20 : Array (Option Value)} {oc_20 kV_20 dc_20 pm_20 cd_20 ct_20 : Value}
    {rest_20 : List Value}
    {f_pot : Addr} {od_21 an_21 : Option Addr} {sl_21 : Array (Option Value)} {oc_21 kV_21 dc_21 pm_21 cd_21 ct_21 : Value}
    {f_draw : Addr} {od_22 an_22 : Option Addr} {sl_22 : Array (Option Value)} {oc_22 kV_22 dc_22 pm_22 cd_22 ct_22 : Value}
    {f_choice : Addr} {od_23 an_23 : Option Addr} {sl_23 : Array (Option Value)} {oc_23 kV_23 dc_23 pm_23 cd_23 ct_23 : Value}
    {f_number : Addr} {od_24 an_24 : Option Addr} {sl_24 : Array (Option Value)} {oc_24 kV_24 dc_24 pm_24 cd_24 ct_24 : Value}
    {f_lowest : Addr} {od_25 an_25 : Option Addr} {sl_25 : Array (Option Value)} {oc_25 kV_25 dc_25 pm_25 cd_25 ct_25 : Value}
    {f_drawn : Addr} {od_26 an_26 : Option Addr} {sl_26 : Array (Option Value)} {oc_26 kV_26 dc_26 pm_26 cd_26 ct_26 : Value}
    {f_text : Addr} {od_27 an_27 : Option Addr} {sl_27 : Array (Option Value)} {oc_27 kV_27 dc_27 pm_27 cd_27 ct_27 : Value}
    {f_is : Addr} {od_28 an_28 : Option Addr} {sl_28 : Array (Option Value)} {oc_28 kV_28 dc_28 pm_28 cd_28 ct_28 : Value}
    {f_plus : Addr} {od_29 an_29 : Option Addr} {sl_29 : Array (Option Value)} {oc_29 kV_29 dc_29 pm_29 cd_29 ct_29 : Value}
    {f_times : Addr} {od_30 an_30 : Option Addr} {sl_30 : Array (Option Value)} {oc_30 kV_30 dc_30 pm_30 cd_30 ct_30 : Value}
    {f_opposite : Addr} {od_31 an_31 : Option Addr} {sl_31 : Array (Option Value)} {oc_31 kV_31 dc_31 pm_31 cd_31 ct_31 : Value}
    {f_step : Addr} {od_32 an_32 : Option Addr} {sl_32 : Array (Option Value)} {oc_32 kV_32 dc_32 pm_32 cd_32 ct_32 : Value}
    {f_sums_right : Addr} {od_33 an_33 : Option Addr} {sl_33 : Array (Option Value)} {oc_33 kV_33 dc_33 pm_33 cd_33 ct_33 : Value}
    {f_right : Addr} {od_34 an_34 : Option Addr} {sl_34 : Array (Option Value)} {oc_34 kV_34 dc_34 pm_34 cd_34 ct_34 : Value}
    {f_law : Addr} {od_35 an_35 : Option Addr} {sl_35 : Array (Option Value)} {oc_35 kV_35 dc_35 pm_35 cd_35 ct_35 : Value}
    {tP : Tok}
    {tL : Tok}
    {fo_add ro_add : Option Value}
    {fo_sub ro_sub : Option Value}
    {fo_mul ro_mul : Option Value}
    (aC_Amount : PySem.W.nsIn K mainGlobals "Amount" = some (some (.ref c_Amount)))
    (a_is_integer : PySem.W.nsIn K mainGlobals "is_integer" = some (some (.ref f_is_integer)))
    (l_is_integer : K.lookup f_is_integer = some ⟨oc_0, od_0, .func (PySem.W.fnOf "is_integer" "is_integer" (defArgs s_is_integer) (defBody s_is_integer) (defScope s_is_integer) .none kV_0 dc_0 pm_0 an_0 cd_0 ct_0), sl_0⟩)
    (k1_is_integer : PySem.W.codeIn K cd_0 "is_integer" = true)
    (k2_is_integer : PySem.W.keepIn K (.ref f_is_integer) = true)
    (a_is_amount : PySem.W.nsIn K mainGlobals "is_amount" = some (some (.ref f_is_amount)))
    (l_is_amount : K.lookup f_is_amount = some ⟨oc_1, od_1, .func (PySem.W.fnOf "is_amount" "is_amount" (defArgs s_is_amount) (defBody s_is_amount) (defScope s_is_amount) .none kV_1 dc_1 pm_1 an_1 cd_1 ct_1), sl_1⟩)
    (k1_is_amount : PySem.W.codeIn K cd_1 "is_amount" = true)
    (k2_is_amount : PySem.W.keepIn K (.ref f_is_amount) = true)
    (a_amount_of : PySem.W.nsIn K mainGlobals "amount_of" = some (some (.ref f_amount_of)))
    (l_amount_of : K.lookup f_amount_of = some ⟨oc_2, od_2, .func (PySem.W.fnOf "amount_of" "amount_of" (defArgs s_amount_of) (defBody s_amount_of) (defScope s_amount_of) .none kV_2 dc_2 pm_2 an_2 cd_2 ct_2), sl_2⟩)
    (k1_amount_of : PySem.W.codeIn K cd_2 "amount_of" = true)
    (k2_amount_of : PySem.W.keepIn K (.ref f_amount_of) = true)
    (a_decimal : PySem.W.nsIn K mainGlobals "_decimal" = some (some (.ref f_decimal)))
    (l_decimal : K.lookup f_decimal = some ⟨oc_3, od_3, .func (PySem.W.fnOf "_decimal" "_decimal" (defArgs s_decimal) (defBody s_decimal) (defScope s_decimal) .none kV_3 dc_3 pm_3 an_3 cd_3 ct_3), sl_3⟩)
    (k1_decimal : PySem.W.codeIn K cd_3 "_decimal" = true)
    (k2_decimal : PySem.W.keepIn K (.ref f_decimal) = true)
    (a_Amount_init_ : PySem.W.findIn K (.ref c_Amount) "__init__" = some (some (.ref f_Amount_init_)))
    (i_Amount_init_ : PySem.W.isFn K (.ref f_Amount_init_) = true)
    (l_Amount_init_ : K.lookup f_Amount_init_ = some ⟨oc_4, od_4, .func (PySem.W.fnOf "__init__" "Amount.__init__" (defArgs s_Amount_init_) (defBody s_Amount_init_) (defScope s_Amount_init_) (.ref T_4) kV_4 dc_4 pm_4 an_4 cd_4 ct_4), sl_4⟩)
    (k1_Amount_init_ : PySem.W.codeIn K cd_4 "Amount.__init__" = true)
    (k2_Amount_init_ : PySem.W.keepIn K (.ref f_Amount_init_) = true)
    (dl_Amount_init_ : K.lookup T_4 = some o_4)
    (do_Amount_init_ : o_4.data = .seq its_4.toArray dn_4)
    (dv_Amount_init_ : Vals [.int 1] its_4)
    (pa_Amounttop : PySem.W.findIn K (.ref c_Amount) "top" = some (some (.ref p_top)))
    (pg_Amounttop : PySem.W.specialIn K (.ref p_top) "__get__" = some (some (.builtin "property.__get__")))
    (pt_Amounttop : PySem.W.takesIn K (.ref p_top) = some true)
    (pr_Amounttop : PySem.W.recIn K p_top "property" = some (.ref f_Amounttop :: rest_5))
    (l_Amounttop : K.lookup f_Amounttop = some ⟨oc_5, od_5, .func (PySem.W.fnOf "top" "Amount.top" (defArgs s_Amounttop) (defBody s_Amounttop) (defScope s_Amounttop) .none kV_5 dc_5 pm_5 an_5 cd_5 ct_5), sl_5⟩)
    (k1_Amounttop : PySem.W.codeIn K cd_5 "Amount.top" = true)
    (k2_Amounttop : PySem.W.keepIn K (.ref f_Amounttop) = true)
    (pa_Amountbottom : PySem.W.findIn K (.ref c_Amount) "bottom" = some (some (.ref p_bottom)))
    (pg_Amountbottom : PySem.W.specialIn K (.ref p_bottom) "__get__" = some (some (.builtin "property.__get__")))
    (pt_Amountbottom : PySem.W.takesIn K (.ref p_bottom) = some true)
    (pr_Amountbottom : PySem.W.recIn K p_bottom "property" = some (.ref f_Amountbottom :: rest_6))
    (l_Amountbottom : K.lookup f_Amountbottom = some ⟨oc_6, od_6, .func (PySem.W.fnOf "bottom" "Amount.bottom" (defArgs s_Amountbottom) (defBody s_Amountbottom) (defScope s_Amountbottom) .none kV_6 dc_6 pm_6 an_6 cd_6 ct_6), sl_6⟩)
    (k1_Amountbottom : PySem.W.codeIn K cd_6 "Amount.bottom" = true)
    (k2_Amountbottom : PySem.W.keepIn K (.ref f_Amountbottom) = true)
    (pa_Amountsign : PySem.W.findIn K (.ref c_Amount) "sign" = some (some (.ref p_sign)))
    (pg_Amountsign : PySem.W.specialIn K (.ref p_sign) "__get__" = some (some (.builtin "property.__get__")))
    (pt_Amountsign : PySem.W.takesIn K (.ref p_sign) = some true)
    (pr_Amountsign : PySem.W.recIn K p_sign "property" = some (.ref f_Amountsign :: rest_7))
    (l_Amountsign : K.lookup f_Amountsign = some ⟨oc_7, od_7, .func (PySem.W.fnOf "sign" "Amount.sign" (defArgs s_Amountsign) (defBody s_Amountsign) (defScope s_Amountsign) .none kV_7 dc_7 pm_7 an_7 cd_7 ct_7), sl_7⟩)
    (k1_Amountsign : PySem.W.codeIn K cd_7 "Amount.sign" = true)
    (k2_Amountsign : PySem.W.keepIn K (.ref f_Amountsign) = true)
    (a_Amount_add_ : PySem.W.findIn K (.ref c_Amount) "__add__" = some (some (.ref f_Amount_add_)))
    (i_Amount_add_ : PySem.W.isFn K (.ref f_Amount_add_) = true)
    (l_Amount_add_ : K.lookup f_Amount_add_ = some ⟨oc_8, od_8, .func (PySem.W.fnOf "__add__" "Amount.__add__" (defArgs s_Amount_add_) (defBody s_Amount_add_) (defScope s_Amount_add_) .none kV_8 dc_8 pm_8 an_8 cd_8 ct_8), sl_8⟩)
    (k1_Amount_add_ : PySem.W.codeIn K cd_8 "Amount.__add__" = true)
    (k2_Amount_add_ : PySem.W.keepIn K (.ref f_Amount_add_) = true)
    (a_Amount_radd_ : PySem.W.findIn K (.ref c_Amount) "__radd__" = some (some (.ref f_Amount_radd_)))
    (i_Amount_radd_ : PySem.W.isFn K (.ref f_Amount_radd_) = true)
    (l_Amount_radd_ : K.lookup f_Amount_radd_ = some ⟨oc_9, od_9, .func (PySem.W.fnOf "__radd__" "Amount.__radd__" (defArgs s_Amount_radd_) (defBody s_Amount_radd_) (defScope s_Amount_radd_) .none kV_9 dc_9 pm_9 an_9 cd_9 ct_9), sl_9⟩)
    (k1_Amount_radd_ : PySem.W.codeIn K cd_9 "Amount.__radd__" = true)
    (k2_Amount_radd_ : PySem.W.keepIn K (.ref f_Amount_radd_) = true)
    (a_Amount_sub_ : PySem.W.findIn K (.ref c_Amount) "__sub__" = some (some (.ref f_Amount_sub_)))
    (i_Amount_sub_ : PySem.W.isFn K (.ref f_Amount_sub_) = true)
    (l_Amount_sub_ : K.lookup f_Amount_sub_ = some ⟨oc_10, od_10, .func (PySem.W.fnOf "__sub__" "Amount.__sub__" (defArgs s_Amount_sub_) (defBody s_Amount_sub_) (defScope s_Amount_sub_) .none kV_10 dc_10 pm_10 an_10 cd_10 ct_10), sl_10⟩)
    (k1_Amount_sub_ : PySem.W.codeIn K cd_10 "Amount.__sub__" = true)
    (k2_Amount_sub_ : PySem.W.keepIn K (.ref f_Amount_sub_) = true)
    (a_Amount_rsub_ : PySem.W.findIn K (.ref c_Amount) "__rsub__" = some (some (.ref f_Amount_rsub_)))
    (i_Amount_rsub_ : PySem.W.isFn K (.ref f_Amount_rsub_) = true)
    (l_Amount_rsub_ : K.lookup f_Amount_rsub_ = some ⟨oc_11, od_11, .func (PySem.W.fnOf "__rsub__" "Amount.__rsub__" (defArgs s_Amount_rsub_) (defBody s_Amount_rsub_) (defScope s_Amount_rsub_) .none kV_11 dc_11 pm_11 an_11 cd_11 ct_11), sl_11⟩)
    (k1_Amount_rsub_ : PySem.W.codeIn K cd_11 "Amount.__rsub__" = true)
    (k2_Amount_rsub_ : PySem.W.keepIn K (.ref f_Amount_rsub_) = true)
    (a_Amount_mul_ : PySem.W.findIn K (.ref c_Amount) "__mul__" = some (some (.ref f_Amount_mul_)))
    (i_Amount_mul_ : PySem.W.isFn K (.ref f_Amount_mul_) = true)
    (l_Amount_mul_ : K.lookup f_Amount_mul_ = some ⟨oc_12, od_12, .func (PySem.W.fnOf "__mul__" "Amount.__mul__" (defArgs s_Amount_mul_) (defBody s_Amount_mul_) (defScope s_Amount_mul_) .none kV_12 dc_12 pm_12 an_12 cd_12 ct_12), sl_12⟩)
    (k1_Amount_mul_ : PySem.W.codeIn K cd_12 "Amount.__mul__" = true)
    (k2_Amount_mul_ : PySem.W.keepIn K (.ref f_Amount_mul_) = true)
    (a_Amount_rmul_ : PySem.W.findIn K (.ref c_Amount) "__rmul__" = some (some (.ref f_Amount_rmul_)))
    (i_Amount_rmul_ : PySem.W.isFn K (.ref f_Amount_rmul_) = true)
    (l_Amount_rmul_ : K.lookup f_Amount_rmul_ = some ⟨oc_13, od_13, .func (PySem.W.fnOf "__rmul__" "Amount.__rmul__" (defArgs s_Amount_rmul_) (defBody s_Amount_rmul_) (defScope s_Amount_rmul_) .none kV_13 dc_13 pm_13 an_13 cd_13 ct_13), sl_13⟩)
    (k1_Amount_rmul_ : PySem.W.codeIn K cd_13 "Amount.__rmul__" = true)
    (k2_Amount_rmul_ : PySem.W.keepIn K (.ref f_Amount_rmul_) = true)
    (a_Amountover : PySem.W.findIn K (.ref c_Amount) "over" = some (some (.ref f_Amountover)))
    (i_Amountover : PySem.W.isFn K (.ref f_Amountover) = true)
    (l_Amountover : K.lookup f_Amountover = some ⟨oc_14, od_14, .func (PySem.W.fnOf "over" "Amount.over" (defArgs s_Amountover) (defBody s_Amountover) (defScope s_Amountover) .none kV_14 dc_14 pm_14 an_14 cd_14 ct_14), sl_14⟩)
    (k1_Amountover : PySem.W.codeIn K cd_14 "Amount.over" = true)
    (k2_Amountover : PySem.W.keepIn K (.ref f_Amountover) = true)
    (a_Amount_neg_ : PySem.W.findIn K (.ref c_Amount) "__neg__" = some (some (.ref f_Amount_neg_)))
    (i_Amount_neg_ : PySem.W.isFn K (.ref f_Amount_neg_) = true)
    (l_Amount_neg_ : K.lookup f_Amount_neg_ = some ⟨oc_15, od_15, .func (PySem.W.fnOf "__neg__" "Amount.__neg__" (defArgs s_Amount_neg_) (defBody s_Amount_neg_) (defScope s_Amount_neg_) .none kV_15 dc_15 pm_15 an_15 cd_15 ct_15), sl_15⟩)
    (k1_Amount_neg_ : PySem.W.codeIn K cd_15 "Amount.__neg__" = true)
    (k2_Amount_neg_ : PySem.W.keepIn K (.ref f_Amount_neg_) = true)
    (a_Amount_abs_ : PySem.W.findIn K (.ref c_Amount) "__abs__" = some (some (.ref f_Amount_abs_)))
    (i_Amount_abs_ : PySem.W.isFn K (.ref f_Amount_abs_) = true)
    (l_Amount_abs_ : K.lookup f_Amount_abs_ = some ⟨oc_16, od_16, .func (PySem.W.fnOf "__abs__" "Amount.__abs__" (defArgs s_Amount_abs_) (defBody s_Amount_abs_) (defScope s_Amount_abs_) .none kV_16 dc_16 pm_16 an_16 cd_16 ct_16), sl_16⟩)
    (k1_Amount_abs_ : PySem.W.codeIn K cd_16 "Amount.__abs__" = true)
    (k2_Amount_abs_ : PySem.W.keepIn K (.ref f_Amount_abs_) = true)
    (a_Amount_bool_ : PySem.W.findIn K (.ref c_Amount) "__bool__" = some (some (.ref f_Amount_bool_)))
    (i_Amount_bool_ : PySem.W.isFn K (.ref f_Amount_bool_) = true)
    (l_Amount_bool_ : K.lookup f_Amount_bool_ = some ⟨oc_17, od_17, .func (PySem.W.fnOf "__bool__" "Amount.__bool__" (defArgs s_Amount_bool_) (defBody s_Amount_bool_) (defScope s_Amount_bool_) .none kV_17 dc_17 pm_17 an_17 cd_17 ct_17), sl_17⟩)
    (k1_Amount_bool_ : PySem.W.codeIn K cd_17 "Amount.__bool__" = true)
    (k2_Amount_bool_ : PySem.W.keepIn K (.ref f_Amount_bool_) = true)
    (a_Amount_str_ : PySem.W.findIn K (.ref c_Amount) "__str__" = some (some (.ref f_Amount_str_)))
    (i_Amount_str_ : PySem.W.isFn K (.ref f_Amount_str_) = true)
    (l_Amount_str_ : K.lookup f_Amount_str_ = some ⟨oc_18, od_18, .func (PySem.W.fnOf "__str__" "Amount.__str__" (defArgs s_Amount_str_) (defBody s_Amount_str_) (defScope s_Amount_str_) .none kV_18 dc_18 pm_18 an_18 cd_18 ct_18), sl_18⟩)
    (k1_Amount_str_ : PySem.W.codeIn K cd_18 "Amount.__str__" = true)
    (k2_Amount_str_ : PySem.W.keepIn K (.ref f_Amount_str_) = true)
    (a_Amount_repr_ : PySem.W.findIn K (.ref c_Amount) "__repr__" = some (some (.ref f_Amount_repr_)))
    (i_Amount_repr_ : PySem.W.isFn K (.ref f_Amount_repr_) = true)
    (l_Amount_repr_ : K.lookup f_Amount_repr_ = some ⟨oc_19, od_19, .func (PySem.W.fnOf "__repr__" "Amount.__repr__" (defArgs s_Amount_repr_) (defBody s_Amount_repr_) (defScope s_Amount_repr_) .none kV_19 dc_19 pm_19 an_19 cd_19 ct_19), sl_19⟩)
    (k1_Amount_repr_ : PySem.W.codeIn K cd_19 "Amount.__repr__" = true)
    (k2_Amount_repr_ : PySem.W.keepIn K (.ref f_Amount_repr_) = true)
    (pa_Amountsum_of : PySem.W.findCls K (.ref c_Amount) (.type "type") "sum_of" = some (.get (.builtin "classmethod.__get__") (.ref p_sum) .none (.ref c_Amount)))
    (pr_Amountsum_of : PySem.W.recIn K p_sum "classmethod" = some (.ref f_Amountsum_of :: rest_20))
    (pf_Amountsum_of : PySem.W.fnIn K f_Amountsum_of = true)
    (l_Amountsum_of : K.lookup f_Amountsum_of = some ⟨oc_20, od_20, .func (PySem.W.fnOf "sum_of" "Amount.sum_of" (defArgs s_Amountsum_of) (defBody s_Amountsum_of) (defScope s_Amountsum_of) .none kV_20 dc_20 pm_20 an_20 cd_20 ct_20), sl_20⟩)
    (k1_Amountsum_of : PySem.W.codeIn K cd_20 "Amount.sum_of" = true)
    (k2_Amountsum_of : PySem.W.keepIn K (.ref f_Amountsum_of) = true)
    (a_pot : PySem.W.nsIn K mainGlobals "_law_pot" = some (some (.ref f_pot)))
    (l_pot : K.lookup f_pot = some ⟨oc_21, od_21, .func (PySem.W.fnOf "_law_pot" "_law_pot" (defArgs s_pot) (defBody s_pot) (defScope s_pot) .none kV_21 dc_21 pm_21 an_21 cd_21 ct_21), sl_21⟩)
    (k1_pot : PySem.W.codeIn K cd_21 "_law_pot" = true)
    (k2_pot : PySem.W.keepIn K (.ref f_pot) = true)
    (a_draw : PySem.W.nsIn K mainGlobals "_law_draw" = some (some (.ref f_draw)))
    (l_draw : K.lookup f_draw = some ⟨oc_22, od_22, .func (PySem.W.fnOf "_law_draw" "_law_draw" (defArgs s_draw) (defBody s_draw) (defScope s_draw) .none kV_22 dc_22 pm_22 an_22 cd_22 ct_22), sl_22⟩)
    (k1_draw : PySem.W.codeIn K cd_22 "_law_draw" = true)
    (k2_draw : PySem.W.keepIn K (.ref f_draw) = true)
    (a_choice : PySem.W.nsIn K mainGlobals "_law_choice" = some (some (.ref f_choice)))
    (l_choice : K.lookup f_choice = some ⟨oc_23, od_23, .func (PySem.W.fnOf "_law_choice" "_law_choice" (defArgs s_choice) (defBody s_choice) (defScope s_choice) .none kV_23 dc_23 pm_23 an_23 cd_23 ct_23), sl_23⟩)
    (k1_choice : PySem.W.codeIn K cd_23 "_law_choice" = true)
    (k2_choice : PySem.W.keepIn K (.ref f_choice) = true)
    (a_number : PySem.W.nsIn K mainGlobals "_law_number" = some (some (.ref f_number)))
    (l_number : K.lookup f_number = some ⟨oc_24, od_24, .func (PySem.W.fnOf "_law_number" "_law_number" (defArgs s_number) (defBody s_number) (defScope s_number) .none kV_24 dc_24 pm_24 an_24 cd_24 ct_24), sl_24⟩)
    (k1_number : PySem.W.codeIn K cd_24 "_law_number" = true)
    (k2_number : PySem.W.keepIn K (.ref f_number) = true)
    (a_lowest : PySem.W.nsIn K mainGlobals "_law_lowest" = some (some (.ref f_lowest)))
    (l_lowest : K.lookup f_lowest = some ⟨oc_25, od_25, .func (PySem.W.fnOf "_law_lowest" "_law_lowest" (defArgs s_lowest) (defBody s_lowest) (defScope s_lowest) .none kV_25 dc_25 pm_25 an_25 cd_25 ct_25), sl_25⟩)
    (k1_lowest : PySem.W.codeIn K cd_25 "_law_lowest" = true)
    (k2_lowest : PySem.W.keepIn K (.ref f_lowest) = true)
    (a_drawn : PySem.W.nsIn K mainGlobals "_law_drawn" = some (some (.ref f_drawn)))
    (l_drawn : K.lookup f_drawn = some ⟨oc_26, od_26, .func (PySem.W.fnOf "_law_drawn" "_law_drawn" (defArgs s_drawn) (defBody s_drawn) (defScope s_drawn) .none kV_26 dc_26 pm_26 an_26 cd_26 ct_26), sl_26⟩)
    (k1_drawn : PySem.W.codeIn K cd_26 "_law_drawn" = true)
    (k2_drawn : PySem.W.keepIn K (.ref f_drawn) = true)
    (a_text : PySem.W.nsIn K mainGlobals "_law_text" = some (some (.ref f_text)))
    (l_text : K.lookup f_text = some ⟨oc_27, od_27, .func (PySem.W.fnOf "_law_text" "_law_text" (defArgs s_text) (defBody s_text) (defScope s_text) .none kV_27 dc_27 pm_27 an_27 cd_27 ct_27), sl_27⟩)
    (k1_text : PySem.W.codeIn K cd_27 "_law_text" = true)
    (k2_text : PySem.W.keepIn K (.ref f_text) = true)
    (a_is : PySem.W.nsIn K mainGlobals "_law_is" = some (some (.ref f_is)))
    (l_is : K.lookup f_is = some ⟨oc_28, od_28, .func (PySem.W.fnOf "_law_is" "_law_is" (defArgs s_is) (defBody s_is) (defScope s_is) .none kV_28 dc_28 pm_28 an_28 cd_28 ct_28), sl_28⟩)
    (k1_is : PySem.W.codeIn K cd_28 "_law_is" = true)
    (k2_is : PySem.W.keepIn K (.ref f_is) = true)
    (a_plus : PySem.W.nsIn K mainGlobals "_law_plus" = some (some (.ref f_plus)))
    (l_plus : K.lookup f_plus = some ⟨oc_29, od_29, .func (PySem.W.fnOf "_law_plus" "_law_plus" (defArgs s_plus) (defBody s_plus) (defScope s_plus) .none kV_29 dc_29 pm_29 an_29 cd_29 ct_29), sl_29⟩)
    (k1_plus : PySem.W.codeIn K cd_29 "_law_plus" = true)
    (k2_plus : PySem.W.keepIn K (.ref f_plus) = true)
    (a_times : PySem.W.nsIn K mainGlobals "_law_times" = some (some (.ref f_times)))
    (l_times : K.lookup f_times = some ⟨oc_30, od_30, .func (PySem.W.fnOf "_law_times" "_law_times" (defArgs s_times) (defBody s_times) (defScope s_times) .none kV_30 dc_30 pm_30 an_30 cd_30 ct_30), sl_30⟩)
    (k1_times : PySem.W.codeIn K cd_30 "_law_times" = true)
    (k2_times : PySem.W.keepIn K (.ref f_times) = true)
    (a_opposite : PySem.W.nsIn K mainGlobals "_law_opposite" = some (some (.ref f_opposite)))
    (l_opposite : K.lookup f_opposite = some ⟨oc_31, od_31, .func (PySem.W.fnOf "_law_opposite" "_law_opposite" (defArgs s_opposite) (defBody s_opposite) (defScope s_opposite) .none kV_31 dc_31 pm_31 an_31 cd_31 ct_31), sl_31⟩)
    (k1_opposite : PySem.W.codeIn K cd_31 "_law_opposite" = true)
    (k2_opposite : PySem.W.keepIn K (.ref f_opposite) = true)
    (a_step : PySem.W.nsIn K mainGlobals "_law_step" = some (some (.ref f_step)))
    (l_step : K.lookup f_step = some ⟨oc_32, od_32, .func (PySem.W.fnOf "_law_step" "_law_step" (defArgs s_step) (defBody s_step) (defScope s_step) .none kV_32 dc_32 pm_32 an_32 cd_32 ct_32), sl_32⟩)
    (k1_step : PySem.W.codeIn K cd_32 "_law_step" = true)
    (k2_step : PySem.W.keepIn K (.ref f_step) = true)
    (a_sums_right : PySem.W.nsIn K mainGlobals "_law_sums_right" = some (some (.ref f_sums_right)))
    (l_sums_right : K.lookup f_sums_right = some ⟨oc_33, od_33, .func (PySem.W.fnOf "_law_sums_right" "_law_sums_right" (defArgs s_sums_right) (defBody s_sums_right) (defScope s_sums_right) .none kV_33 dc_33 pm_33 an_33 cd_33 ct_33), sl_33⟩)
    (k1_sums_right : PySem.W.codeIn K cd_33 "_law_sums_right" = true)
    (k2_sums_right : PySem.W.keepIn K (.ref f_sums_right) = true)
    (a_right : PySem.W.nsIn K mainGlobals "_law_right" = some (some (.ref f_right)))
    (l_right : K.lookup f_right = some ⟨oc_34, od_34, .func (PySem.W.fnOf "_law_right" "_law_right" (defArgs s_right) (defBody s_right) (defScope s_right) .none kV_34 dc_34 pm_34 an_34 cd_34 ct_34), sl_34⟩)
    (k1_right : PySem.W.codeIn K cd_34 "_law_right" = true)
    (k2_right : PySem.W.keepIn K (.ref f_right) = true)
    (a_law : PySem.W.nsIn K mainGlobals "law" = some (some (.ref f_law)))
    (l_law : K.lookup f_law = some ⟨oc_35, od_35, .func (PySem.W.fnOf "law" "law" (defArgs s_law) (defBody s_law) (defScope s_law) .none kV_35 dc_35 pm_35 an_35 cd_35 ct_35), sl_35⟩)
    (k1_law : PySem.W.codeIn K cd_35 "law" = true)
    (k2_law : PySem.W.keepIn K (.ref f_law) = true)
    (pgA : PySem.W.plainGet K c_Amount Str.empty = true)
    (hdA : PySem.W.hasDictIn K c_Amount = true)
    (poA : PySem.W.plainOver K c_Amount = true)
    (saA : PySem.W.findIn K (.ref c_Amount) "__setattr__" = some (some (.builtin "object.__setattr__")))
    (nTA : PySem.W.findIn K (.ref c_Amount) "_top" = some none)
    (nBA : PySem.W.findIn K (.ref c_Amount) "_bottom" = some none)
    (mkA_ : PySem.W.makesIn K c_Amount = true)
    (kcA : PySem.W.keepIn K (.ref c_Amount) = true)
    (gcd_ : PySem.W.nsIn K mainGlobals "gcd" = some (some (.builtin "math.gcd")))
    (ca_ : PySem.W.findIn K (.ref c_Amount) "__class__" = some (some (.builtin "object.__class__")))
    (cn_ : PySem.W.specialIn K (.builtin "object.__class__") "__get__" = some (some (.builtin "getset_descriptor.__get__")))
    (ct_ : PySem.W.takesIn K (.builtin "object.__class__") = some true)
    (cm_ : PySem.W.mroIn K c_Amount (.type "object") = some true)
    (ic_ : PySem.W.isClsIn K c_Amount = true)
    (it_ : PySem.W.typeIn K (.ref c_Amount) = some (.type "type"))
    (sb_NoneType : PySem.W.subIn K (.type "NoneType") (.ref c_Amount) = some false)
    (sb_bool : PySem.W.subIn K (.type "bool") (.ref c_Amount) = some false)
    (sb_int : PySem.W.subIn K (.type "int") (.ref c_Amount) = some false)
    (sb_str : PySem.W.subIn K (.type "str") (.ref c_Amount) = some false)
    (sb_list : PySem.W.subIn K (.type "list") (.ref c_Amount) = some false)
    (sb_tuple : PySem.W.subIn K (.type "tuple") (.ref c_Amount) = some false)
    (sb_dict : PySem.W.subIn K (.type "dict") (.ref c_Amount) = some false)
    (part_ : PySem.W.nsIn K mainGlobals "PART" = some (some (.int 1000000000000000000000000000000000000000000000000000000000000 tP)))
    (plen_ : PySem.W.nsIn K mainGlobals "PART_LENGTH" = some (some (.int 60 tL)))
    (sf_ : PySem.W.selfFirst K c_Amount = true)
    (s2_ : PySem.W.subIn K (.ref c_Amount) (.type "int") = some false)
    (o1_add : PySem.W.findIn K (.ref c_Amount) (PySem.dunder (PySem.Operator.info PySem.Operator.Add).2) = some (some (.ref f_Amount_add_)))
    (o2_add : PySem.W.findIn K (.ref c_Amount) (PySem.dunderR (PySem.Operator.info PySem.Operator.Add).2) = some (some (.ref f_Amount_radd_)))
    (o3_add : PySem.W.findIn K (.type "int") (PySem.dunder (PySem.Operator.info PySem.Operator.Add).2) = some fo_add)
    (o4_add : PySem.W.findIn K (.type "int") (PySem.dunderR (PySem.Operator.info PySem.Operator.Add).2) = some ro_add)
    (o1_sub : PySem.W.findIn K (.ref c_Amount) (PySem.dunder (PySem.Operator.info PySem.Operator.Sub).2) = some (some (.ref f_Amount_sub_)))
    (o2_sub : PySem.W.findIn K (.ref c_Amount) (PySem.dunderR (PySem.Operator.info PySem.Operator.Sub).2) = some (some (.ref f_Amount_rsub_)))
    (o3_sub : PySem.W.findIn K (.type "int") (PySem.dunder (PySem.Operator.info PySem.Operator.Sub).2) = some fo_sub)
    (o4_sub : PySem.W.findIn K (.type "int") (PySem.dunderR (PySem.Operator.info PySem.Operator.Sub).2) = some ro_sub)
    (o1_mul : PySem.W.findIn K (.ref c_Amount) (PySem.dunder (PySem.Operator.info PySem.Operator.Mult).2) = some (some (.ref f_Amount_mul_)))
    (o2_mul : PySem.W.findIn K (.ref c_Amount) (PySem.dunderR (PySem.Operator.info PySem.Operator.Mult).2) = some (some (.ref f_Amount_rmul_)))
    (o3_mul : PySem.W.findIn K (.type "int") (PySem.dunder (PySem.Operator.info PySem.Operator.Mult).2) = some fo_mul)
    (o4_mul : PySem.W.findIn K (.type "int") (PySem.dunderR (PySem.Operator.info PySem.Operator.Mult).2) = some ro_mul)
    (cr1_ : PySem.W.readsIn K c_Amount (.type "type") = true)
    (cr2_ : PySem.W.specialIn K (.ref c_Amount) "__getattribute__" = some (some (.builtin "type.__getattribute__")))
    (z_len : PySem.W.nsIn K mainGlobals "len" = some none)
    (z_abs : PySem.W.nsIn K mainGlobals "abs" = some none)
    (z_max : PySem.W.nsIn K mainGlobals "max" = some none)
    (z_min : PySem.W.nsIn K mainGlobals "min" = some none)
    (z_int : PySem.W.nsIn K mainGlobals "int" = some none)
    (z_divmod : PySem.W.nsIn K mainGlobals "divmod" = some none)
    (z_all : PySem.W.nsIn K mainGlobals "all" = some none)
    (z_repr : PySem.W.nsIn K mainGlobals "repr" = some none)
    (z_isinstance : PySem.W.nsIn K mainGlobals "isinstance" = some none)
    (z_str : PySem.W.nsIn K mainGlobals "str" = some none)
    (z_range : PySem.W.nsIn K mainGlobals "range" = some none)
    (z_bool : PySem.W.nsIn K mainGlobals "bool" = some none)
    (z_sum : PySem.W.nsIn K mainGlobals "sum" = some none) :
    ∃ fd : FuncData, (∀ (s : Shared) (v : Value), BindsTo s fd ⟨[v], []⟩ [("_law_script", v)]) ∧ ∀ base : Heap, K.In base → base.Ns mainGlobals mg → FnG l.prog w K mg base CX0 10 fa fd ["_law_script"] (sp_law K) := by
  have e := (PySem.W.mg_of X G a_law).symm.trans hfa
  cases e
  have T : Txt K mg { f_is_integer := f_is_integer, d_is_integer := PySem.W.fnOf "is_integer" "is_integer" (defArgs s_is_integer) (defBody s_is_integer) (defScope s_is_integer) .none kV_0 dc_0 pm_0 an_0 cd_0 ct_0, f_is_amount := f_is_amount, d_is_amount := PySem.W.fnOf "is_amount" "is_amount" (defArgs s_is_amount) (defBody s_is_amount) (defScope s_is_amount) .none kV_1 dc_1 pm_1 an_1 cd_1 ct_1, f_amount_of := f_amount_of, d_amount_of := PySem.W.fnOf "amount_of" "amount_of" (defArgs s_amount_of) (defBody s_amount_of) (defScope s_amount_of) .none kV_2 dc_2 pm_2 an_2 cd_2 ct_2, f_decimal := f_decimal, d_decimal := PySem.W.fnOf "_decimal" "_decimal" (defArgs s_decimal) (defBody s_decimal) (defScope s_decimal) .none kV_3 dc_3 pm_3 an_3 cd_3 ct_3, f_Amount_init_ := f_Amount_init_, d_Amount_init_ := PySem.W.fnOf "__init__" "Amount.__init__" (defArgs s_Amount_init_) (defBody s_Amount_init_) (defScope s_Amount_init_) (.ref T_4) kV_4 dc_4 pm_4 an_4 cd_4 ct_4, f_Amounttop := f_Amounttop, d_Amounttop := PySem.W.fnOf "top" "Amount.top" (defArgs s_Amounttop) (defBody s_Amounttop) (defScope s_Amounttop) .none kV_5 dc_5 pm_5 an_5 cd_5 ct_5, f_Amountbottom := f_Amountbottom, d_Amountbottom := PySem.W.fnOf "bottom" "Amount.bottom" (defArgs s_Amountbottom) (defBody s_Amountbottom) (defScope s_Amountbottom) .none kV_6 dc_6 pm_6 an_6 cd_6 ct_6, f_Amountsign := f_Amountsign, d_Amountsign := PySem.W.fnOf "sign" "Amount.sign" (defArgs s_Amountsign) (defBody s_Amountsign) (defScope s_Amountsign) .none kV_7 dc_7 pm_7 an_7 cd_7 ct_7, f_Amount_add_ := f_Amount_add_, d_Amount_add_ := PySem.W.fnOf "__add__" "Amount.__add__" (defArgs s_Amount_add_) (defBody s_Amount_add_) (defScope s_Amount_add_) .none kV_8 dc_8 pm_8 an_8 cd_8 ct_8, f_Amount_radd_ := f_Amount_radd_, d_Amount_radd_ := PySem.W.fnOf "__radd__" "Amount.__radd__" (defArgs s_Amount_radd_) (defBody s_Amount_radd_) (defScope s_Amount_radd_) .none kV_9 dc_9 pm_9 an_9 cd_9 ct_9, f_Amount_sub_ := f_Amount_sub_, d_Amount_sub_ := PySem.W.fnOf "__sub__" "Amount.__sub__" (defArgs s_Amount_sub_) (defBody s_Amount_sub_) (defScope s_Amount_sub_) .none kV_10 dc_10 pm_10 an_10 cd_10 ct_10, f_Amount_rsub_ := f_Amount_rsub_, d_Amount_rsub_ := PySem.W.fnOf "__rsub__" "Amount.__rsub__" (defArgs s_Amount_rsub_) (defBody s_Amount_rsub_) (defScope s_Amount_rsub_) .none kV_11 dc_11 pm_11 an_11 cd_11 ct_11, f_Amount_mul_ := f_Amount_mul_, d_Amount_mul_ := PySem.W.fnOf "__mul__" "Amount.__mul__" (defArgs s_Amount_mul_) (defBody s_Amount_mul_) (defScope s_Amount_mul_) .none kV_12 dc_12 pm_12 an_12 cd_12 ct_12, f_Amount_rmul_ := f_Amount_rmul_, d_Amount_rmul_ := PySem.W.fnOf "__rmul__" "Amount.__rmul__" (defArgs s_Amount_rmul_) (defBody s_Amount_rmul_) (defScope s_Amount_rmul_) .none kV_13 dc_13 pm_13 an_13 cd_13 ct_13, f_Amountover := f_Amountover, d_Amountover := PySem.W.fnOf "over" "Amount.over" (defArgs s_Amountover) (defBody s_Amountover) (defScope s_Amountover) .none kV_14 dc_14 pm_14 an_14 cd_14 ct_14, f_Amount_neg_ := f_Amount_neg_, d_Amount_neg_ := PySem.W.fnOf "__neg__" "Amount.__neg__" (defArgs s_Amount_neg_) (defBody s_Amount_neg_) (defScope s_Amount_neg_) .none kV_15 dc_15 pm_15 an_15 cd_15 ct_15, f_Amount_abs_ := f_Amount_abs_, d_Amount_abs_ := PySem.W.fnOf "__abs__" "Amount.__abs__" (defArgs s_Amount_abs_) (defBody s_Amount_abs_) (defScope s_Amount_abs_) .none kV_16 dc_16 pm_16 an_16 cd_16 ct_16, f_Amount_bool_ := f_Amount_bool_, d_Amount_bool_ := PySem.W.fnOf "__bool__" "Amount.__bool__" (defArgs s_Amount_bool_) (defBody s_Amount_bool_) (defScope s_Amount_bool_) .none kV_17 dc_17 pm_17 an_17 cd_17 ct_17, f_Amount_str_ := f_Amount_str_, d_Amount_str_ := PySem.W.fnOf "__str__" "Amount.__str__" (defArgs s_Amount_str_) (defBody s_Amount_str_) (defScope s_Amount_str_) .none kV_18 dc_18 pm_18 an_18 cd_18 ct_18, f_Amount_repr_ := f_Amount_repr_, d_Amount_repr_ := PySem.W.fnOf "__repr__" "Amount.__repr__" (defArgs s_Amount_repr_) (defBody s_Amount_repr_) (defScope s_Amount_repr_) .none kV_19 dc_19 pm_19 an_19 cd_19 ct_19, f_Amountsum_of := f_Amountsum_of, d_Amountsum_of := PySem.W.fnOf "sum_of" "Amount.sum_of" (defArgs s_Amountsum_of) (defBody s_Amountsum_of) (defScope s_Amountsum_of) .none kV_20 dc_20 pm_20 an_20 cd_20 ct_20, f_pot := f_pot, d_pot := PySem.W.fnOf "_law_pot" "_law_pot" (defArgs s_pot) (defBody s_pot) (defScope s_pot) .none kV_21 dc_21 pm_21 an_21 cd_21 ct_21, f_draw := f_draw, d_draw := PySem.W.fnOf "_law_draw" "_law_draw" (defArgs s_draw) (defBody s_draw) (defScope s_draw) .none kV_22 dc_22 pm_22 an_22 cd_22 ct_22, f_choice := f_choice, d_choice := PySem.W.fnOf "_law_choice" "_law_choice" (defArgs s_choice) (defBody s_choice) (defScope s_choice) .none kV_23 dc_23 pm_23 an_23 cd_23 ct_23, f_number := f_number, d_number := PySem.W.fnOf "_law_number" "_law_number" (defArgs s_number) (defBody s_number) (defScope s_number) .none kV_24 dc_24 pm_24 an_24 cd_24 ct_24, f_lowest := f_lowest, d_lowest := PySem.W.fnOf "_law_lowest" "_law_lowest" (defArgs s_lowest) (defBody s_lowest) (defScope s_lowest) .none kV_25 dc_25 pm_25 an_25 cd_25 ct_25, f_drawn := f_drawn, d_drawn := PySem.W.fnOf "_law_drawn" "_law_drawn" (defArgs s_drawn) (defBody s_drawn) (defScope s_drawn) .none kV_26 dc_26 pm_26 an_26 cd_26 ct_26, f_text := f_text, d_text := PySem.W.fnOf "_law_text" "_law_text" (defArgs s_text) (defBody s_text) (defScope s_text) .none kV_27 dc_27 pm_27 an_27 cd_27 ct_27, f_is := f_is, d_is := PySem.W.fnOf "_law_is" "_law_is" (defArgs s_is) (defBody s_is) (defScope s_is) .none kV_28 dc_28 pm_28 an_28 cd_28 ct_28, f_plus := f_plus, d_plus := PySem.W.fnOf "_law_plus" "_law_plus" (defArgs s_plus) (defBody s_plus) (defScope s_plus) .none kV_29 dc_29 pm_29 an_29 cd_29 ct_29, f_times := f_times, d_times := PySem.W.fnOf "_law_times" "_law_times" (defArgs s_times) (defBody s_times) (defScope s_times) .none kV_30 dc_30 pm_30 an_30 cd_30 ct_30, f_opposite := f_opposite, d_opposite := PySem.W.fnOf "_law_opposite" "_law_opposite" (defArgs s_opposite) (defBody s_opposite) (defScope s_opposite) .none kV_31 dc_31 pm_31 an_31 cd_31 ct_31, f_step := f_step, d_step := PySem.W.fnOf "_law_step" "_law_step" (defArgs s_step) (defBody s_step) (defScope s_step) .none kV_32 dc_32 pm_32 an_32 cd_32 ct_32, f_sums_right := f_sums_right, d_sums_right := PySem.W.fnOf "_law_sums_right" "_law_sums_right" (defArgs s_sums_right) (defBody s_sums_right) (defScope s_sums_right) .none kV_33 dc_33 pm_33 an_33 cd_33 ct_33, f_right := f_right, d_right := PySem.W.fnOf "_law_right" "_law_right" (defArgs s_right) (defBody s_right) (defScope s_right) .none kV_34 dc_34 pm_34 an_34 cd_34 ct_34, f_law := fa, d_law := PySem.W.fnOf "law" "law" (defArgs s_law) (defBody s_law) (defScope s_law) .none kV_35 dc_35 pm_35 an_35 cd_35 ct_35, c_Amount := c_Amount, p_top := p_top, p_bottom := p_bottom, p_sign := p_sign, p_sum := p_sum } := {
    F_is_integer := fun_mk (st := s_is_integer) l_is_integer k1_is_integer k2_is_integer,
    m_is_integer := PySem.W.mg_of X G a_is_integer,
    F_is_amount := fun_mk (st := s_is_amount) l_is_amount k1_is_amount k2_is_amount,
    m_is_amount := PySem.W.mg_of X G a_is_amount,
    F_amount_of := fun_mk (st := s_amount_of) l_amount_of k1_amount_of k2_amount_of,
    m_amount_of := PySem.W.mg_of X G a_amount_of,
    F_decimal := fun_mk (st := s_decimal) l_decimal k1_decimal k2_decimal,
    m_decimal := PySem.W.mg_of X G a_decimal,
    F_Amount_init_ := ⟨⟨_, _, _, _, _, _, _, _, _, _, rfl, l_Amount_init_, k1_Amount_init_, .inr ⟨by simp, _, _, _, _, rfl, dl_Amount_init_, do_Amount_init_, dv_Amount_init_⟩, .inl rfl⟩, k2_Amount_init_⟩,
    F_Amounttop := fun_mk (st := s_Amounttop) l_Amounttop k1_Amounttop k2_Amounttop,
    F_Amountbottom := fun_mk (st := s_Amountbottom) l_Amountbottom k1_Amountbottom k2_Amountbottom,
    F_Amountsign := fun_mk (st := s_Amountsign) l_Amountsign k1_Amountsign k2_Amountsign,
    F_Amount_add_ := fun_mk (st := s_Amount_add_) l_Amount_add_ k1_Amount_add_ k2_Amount_add_,
    F_Amount_radd_ := fun_mk (st := s_Amount_radd_) l_Amount_radd_ k1_Amount_radd_ k2_Amount_radd_,
    F_Amount_sub_ := fun_mk (st := s_Amount_sub_) l_Amount_sub_ k1_Amount_sub_ k2_Amount_sub_,
    F_Amount_rsub_ := fun_mk (st := s_Amount_rsub_) l_Amount_rsub_ k1_Amount_rsub_ k2_Amount_rsub_,
    F_Amount_mul_ := fun_mk (st := s_Amount_mul_) l_Amount_mul_ k1_Amount_mul_ k2_Amount_mul_,
    F_Amount_rmul_ := fun_mk (st := s_Amount_rmul_) l_Amount_rmul_ k1_Amount_rmul_ k2_Amount_rmul_,
    F_Amountover := fun_mk (st := s_Amountover) l_Amountover k1_Amountover k2_Amountover,
    F_Amount_neg_ := fun_mk (st := s_Amount_neg_) l_Amount_neg_ k1_Amount_neg_ k2_Amount_neg_,
    F_Amount_abs_ := fun_mk (st := s_Amount_abs_) l_Amount_abs_ k1_Amount_abs_ k2_Amount_abs_,
    F_Amount_bool_ := fun_mk (st := s_Amount_bool_) l_Amount_bool_ k1_Amount_bool_ k2_Amount_bool_,
    F_Amount_str_ := fun_mk (st := s_Amount_str_) l_Amount_str_ k1_Amount_str_ k2_Amount_str_,
    F_Amount_repr_ := fun_mk (st := s_Amount_repr_) l_Amount_repr_ k1_Amount_repr_ k2_Amount_repr_,
    F_Amountsum_of := fun_mk (st := s_Amountsum_of) l_Amountsum_of k1_Amountsum_of k2_Amountsum_of,
    F_pot := fun_mk (st := s_pot) l_pot k1_pot k2_pot,
    m_pot := PySem.W.mg_of X G a_pot,
    F_draw := fun_mk (st := s_draw) l_draw k1_draw k2_draw,
    m_draw := PySem.W.mg_of X G a_draw,
    F_choice := fun_mk (st := s_choice) l_choice k1_choice k2_choice,
    m_choice := PySem.W.mg_of X G a_choice,
    F_number := fun_mk (st := s_number) l_number k1_number k2_number,
    m_number := PySem.W.mg_of X G a_number,
    F_lowest := fun_mk (st := s_lowest) l_lowest k1_lowest k2_lowest,
    m_lowest := PySem.W.mg_of X G a_lowest,
    F_drawn := fun_mk (st := s_drawn) l_drawn k1_drawn k2_drawn,
    m_drawn := PySem.W.mg_of X G a_drawn,
    F_text := fun_mk (st := s_text) l_text k1_text k2_text,
    m_text := PySem.W.mg_of X G a_text,
    F_is := fun_mk (st := s_is) l_is k1_is k2_is,
    m_is := PySem.W.mg_of X G a_is,
    F_plus := fun_mk (st := s_plus) l_plus k1_plus k2_plus,
    m_plus := PySem.W.mg_of X G a_plus,
    F_times := fun_mk (st := s_times) l_times k1_times k2_times,
    m_times := PySem.W.mg_of X G a_times,
    F_opposite := fun_mk (st := s_opposite) l_opposite k1_opposite k2_opposite,
    m_opposite := PySem.W.mg_of X G a_opposite,
    F_step := fun_mk (st := s_step) l_step k1_step k2_step,
    m_step := PySem.W.mg_of X G a_step,
    F_sums_right := fun_mk (st := s_sums_right) l_sums_right k1_sums_right k2_sums_right,
    m_sums_right := PySem.W.mg_of X G a_sums_right,
    F_right := fun_mk (st := s_right) l_right k1_right k2_right,
    m_right := PySem.W.mg_of X G a_right,
    F_law := fun_mk (st := s_law) l_law k1_law k2_law,
    m_law := PySem.W.mg_of X G a_law,
    cl := ⟨pgA, hdA, poA, saA⟩,
    nT := nTA,
    nB := nBA,
    mA := PySem.W.mg_of X G aC_Amount,
    mkA := ⟨mkA_, a_Amount_init_, i_Amount_init_, kcA⟩,
    m_gcd := PySem.W.mg_of X G gcd_,
    I := ⟨ca_, cn_, ct_, cm_, (kit_own ic_ it_ sb_NoneType).1, (kit_own ic_ it_ sb_bool).1, (kit_own ic_ it_ sb_int).1, (kit_own ic_ it_ sb_str).1, (kit_own ic_ it_ sb_list).1, (kit_own ic_ it_ sb_tuple).1, (kit_own ic_ it_ sb_dict).1, (kit_own ic_ it_ sb_NoneType).2, (kit_own ic_ it_ sb_bool).2, (kit_own ic_ it_ sb_int).2, (kit_own ic_ it_ sb_str).2, (kit_own ic_ it_ sb_list).2, (kit_own ic_ it_ sb_tuple).2, (kit_own ic_ it_ sb_dict).2⟩,
    p_top := ⟨pa_Amounttop, pg_Amounttop, pt_Amounttop, ⟨_, pr_Amounttop⟩⟩,
    p_bottom := ⟨pa_Amountbottom, pg_Amountbottom, pt_Amountbottom, ⟨_, pr_Amountbottom⟩⟩,
    p_sign := ⟨pa_Amountsign, pg_Amountsign, pt_Amountsign, ⟨_, pr_Amountsign⟩⟩,
    gPart := ⟨tP, (show (10 : Int) ^ 60 = 1000000000000000000000000000000000000000000000000000000000000 by decide) ▸ PySem.W.mg_of X G part_⟩,
    gLen := ⟨tL, PySem.W.mg_of X G plen_⟩,
    oAdd := { first := sf_, at_ := o1_add, fn := i_Amount_add_, rat := o2_add, rfn := i_Amount_radd_, i1 := ⟨_, o3_add⟩, i2 := ⟨_, o4_add⟩, ss1 := sb_int, ss2 := s2_ },
    oSub := { first := sf_, at_ := o1_sub, fn := i_Amount_sub_, rat := o2_sub, rfn := i_Amount_rsub_, i1 := ⟨_, o3_sub⟩, i2 := ⟨_, o4_sub⟩, ss1 := sb_int, ss2 := s2_ },
    oMul := { first := sf_, at_ := o1_mul, fn := i_Amount_mul_, rat := o2_mul, rfn := i_Amount_rmul_, i1 := ⟨_, o3_mul⟩, i2 := ⟨_, o4_mul⟩, ss1 := sb_int, ss2 := s2_ },
    cNg := ⟨a_Amount_neg_, i_Amount_neg_⟩,
    cAb := ⟨a_Amount_abs_, i_Amount_abs_⟩,
    cBo := ⟨a_Amount_bool_, i_Amount_bool_⟩,
    cSt := ⟨a_Amount_str_, i_Amount_str_⟩,
    cRe := ⟨a_Amount_repr_, i_Amount_repr_⟩,
    mOver := ⟨a_Amountover, i_Amountover, k2_Amountover⟩,
    cR := ⟨cr1_, cr2_⟩,
    cSum := ⟨pa_Amountsum_of, ⟨_, pr_Amountsum_of⟩, pf_Amountsum_of⟩,
    b_len := PySem.W.mg_none_of X G z_len,
    b_abs := PySem.W.mg_none_of X G z_abs,
    b_max := PySem.W.mg_none_of X G z_max,
    b_min := PySem.W.mg_none_of X G z_min,
    b_int := PySem.W.mg_none_of X G z_int,
    b_divmod := PySem.W.mg_none_of X G z_divmod,
    b_all := PySem.W.mg_none_of X G z_all,
    b_repr := PySem.W.mg_none_of X G z_repr,
    b_isinstance := PySem.W.mg_none_of X G z_isinstance,
    b_str := PySem.W.mg_none_of X G z_str,
    b_range := PySem.W.mg_none_of X G z_range,
    b_bool := PySem.W.mg_none_of X G z_bool,
    b_sum := PySem.W.mg_none_of X G z_sum }
  exact ⟨_, fun s v => (BindsTo.of_eq rfl : BindsTo s (PySem.W.fnOf "law" "law" (defArgs s_law) (defBody s_law) (defScope s_law) .none kV_35 dc_35 pm_35 an_35 cd_35 ct_35) ⟨[v], []⟩ [("_law_script", v)]), fun base _ _ => ok_law T⟩
theorem walk {l : PySem.W.OpenLaw} {q : Program} {loose : List Str} {XP : (Str → Option Value) → Heap → Prop} {YP : World → Heap → Prop} {d : DefRec} {K : Params → PySem.W.Frag} (hn : l.most = some 63) (hdf : d.params.defaults = [])
    (hY : ∀ (w : World) (h : Heap), YP w h → (K w.params).In h)
    (F : ∀ (w : World) (mg : Str → Option Value) (fa : Addr) (h : Heap), (K w.params).In h → h.Ns mainGlobals mg → mg d.name = some (.ref fa) →
      ∃ fd : FuncData, (∀ (s : Shared) (u : Value), BindsTo s fd ⟨[u], []⟩ [("_law_script", u)]) ∧ ∀ base : Heap, (K w.params).In base → base.Ns mainGlobals mg → FnG l.prog w (K w.params) mg base CX0 10 fa fd ["_law_script"] (sp_law (K w.params))) :
    PySem.W.WalkO q loose XP YP l.row.toRowW d [] (fun f vs => PySem.call f vs) :=
  walkG (n := 63) (k := 10) (x := "_law_script") (sp := fun K => sp_law K) hn (by decide) hdf ⟨rfl, by decide, by decide⟩ hY F (fun K H a ns hl _ hS => ⟨a, ns, rfl, hS, hl, fun _ => rfl⟩)
end K11

open PySem PySem.W PyProof.Rows in
set_option maxRecDepth 100000 in
set_option maxHeartbeats 0 in
theorem PySem.Challenge.cw_surepipes_k11_whole_amounts_reckoned_holds : PySem.Challenge.rw_surepipes_k11_whole_amounts_reckoned.Holds := by
  w_on; o_law; k_head; (case hw => w_witness2)
  k_fill
  refine K11.walk (l := PySem.Challenge.rw_surepipes_k11_whole_amounts_reckoned) rfl rfl (fun w h Y => PySem.W.kIn_of Y) ?F
  case F =>
    intro w mg fa h KX G hmg
    refine' K11.all_mk KX G hmg ?aC_Amount ?a_is_integer ?l_is_integer ?k1_is_integer ?k2_is_integer ?a_is_amount ?l_is_amount ?k1_is_amount ?k2_is_amount ?a_amount_of ?l_amount_of ?k1_amount_of ?k2_amount_of ?a_decimal ?l_decimal ?k1_decimal ?k2_decimal ?a_Amount_init_ ?i_Amount_init_ ?l_Amount_init_ ?k1_Amount_init_ ?k2_Amount_init_ ?dl_Amount_init_ ?do_Amount_init_ ?dv_Amount_init_ ?pa_Amounttop ?pg_Amounttop ?pt_Amounttop ?pr_Amounttop ?l_Amounttop ?k1_Amounttop ?k2_Amounttop ?pa_Amountbottom ?pg_Amountbottom ?pt_Amountbottom ?pr_Amountbottom ?l_Amountbottom ?k1_Amountbottom ?k2_Amountbottom ?pa_Amountsign ?pg_Amountsign ?pt_Amountsign ?pr_Amountsign ?l_Amountsign ?k1_Amountsign ?k2_Amountsign ?a_Amount_add_ ?i_Amount_add_ ?l_Amount_add_ ?k1_Amount_add_ ?k2_Amount_add_ ?a_Amount_radd_ ?i_Amount_radd_ ?l_Amount_radd_ ?k1_Amount_radd_ ?k2_Amount_radd_ ?a_Amount_sub_ ?i_Amount_sub_ ?l_Amount_sub_ ?k1_Amount_sub_ ?k2_Amount_sub_ ?a_Amount_rsub_ ?i_Amount_rsub_ ?l_Amount_rsub_ ?k1_Amount_rsub_ ?k2_Amount_rsub_ ?a_Amount_mul_ ?i_Amount_mul_ ?l_Amount_mul_ ?k1_Amount_mul_ ?k2_Amount_mul_ ?a_Amount_rmul_ ?i_Amount_rmul_ ?l_Amount_rmul_ ?k1_Amount_rmul_ ?k2_Amount_rmul_ ?a_Amountover ?i_Amountover ?l_Amountover ?k1_Amountover ?k2_Amountover ?a_Amount_neg_ ?i_Amount_neg_ ?l_Amount_neg_ ?k1_Amount_neg_ ?k2_Amount_neg_ ?a_Amount_abs_ ?i_Amount_abs_ ?l_Amount_abs_ ?k1_Amount_abs_ ?k2_Amount_abs_ ?a_Amount_bool_ ?i_Amount_bool_ ?l_Amount_bool_ ?k1_Amount_bool_ ?k2_Amount_bool_ ?a_Amount_str_ ?i_Amount_str_ ?l_Amount_str_ ?k1_Amount_str_ ?k2_Amount_str_ ?a_Amount_repr_ ?i_Amount_repr_ ?l_Amount_repr_ ?k1_Amount_repr_ ?k2_Amount_repr_ ?pa_Amountsum_of ?pr_Amountsum_of ?pf_Amountsum_of ?l_Amountsum_of ?k1_Amountsum_of ?k2_Amountsum_of ?a_pot ?l_pot ?k1_pot ?k2_pot ?a_draw ?l_draw ?k1_draw ?k2_draw ?a_choice ?l_choice ?k1_choice ?k2_choice ?a_number ?l_number ?k1_number ?k2_number ?a_lowest ?l_lowest ?k1_lowest ?k2_lowest ?a_drawn ?l_drawn ?k1_drawn ?k2_drawn ?a_text ?l_text ?k1_text ?k2_text ?a_is ?l_is ?k1_is ?k2_is ?a_plus ?l_plus ?k1_plus ?k2_plus ?a_times ?l_times ?k1_times ?k2_times ?a_opposite ?l_opposite ?k1_opposite ?k2_opposite ?a_step ?l_step ?k1_step ?k2_step ?a_sums_right ?l_sums_right ?k1_sums_right ?k2_sums_right ?a_right ?l_right ?k1_right ?k2_right ?a_law ?l_law ?k1_law ?k2_law ?pgA ?hdA ?poA ?saA ?nTA ?nBA ?mkA_ ?kcA ?gcd_ ?ca_ ?cn_ ?ct_ ?cm_ ?ic_ ?it_ ?sb_NoneType ?sb_bool ?sb_int ?sb_str ?sb_list ?sb_tuple ?sb_dict ?part_ ?plen_ ?sf_ ?s2_ ?o1_add ?o2_add ?o3_add ?o4_add ?o1_sub ?o2_sub ?o3_sub ?o4_sub ?o1_mul ?o2_mul ?o3_mul ?o4_mul ?cr1_ ?cr2_ ?z_len ?z_abs ?z_max ?z_min ?z_int ?z_divmod ?z_all ?z_repr ?z_isinstance ?z_str ?z_range ?z_bool ?z_sum
    (case aC_Amount => k_is)
    (case a_is_integer => k_is)
    (case l_is_integer => k_is)
    (case k1_is_integer => k_is)
    (case k2_is_integer => k_is)
    (case a_is_amount => k_is)
    (case l_is_amount => k_is)
    (case k1_is_amount => k_is)
    (case k2_is_amount => k_is)
    (case a_amount_of => k_is)
    (case l_amount_of => k_is)
    (case k1_amount_of => k_is)
    (case k2_amount_of => k_is)
    (case a_decimal => k_is)
    (case l_decimal => k_is)
    (case k1_decimal => k_is)
    (case k2_decimal => k_is)
    (case a_Amount_init_ => k_is)
    (case i_Amount_init_ => k_is)
    (case l_Amount_init_ => k_is)
    (case k1_Amount_init_ => k_is)
    (case k2_Amount_init_ => k_is)
    (case dl_Amount_init_ => k_is)
    (case do_Amount_init_ => rfl)
    (case dv_Amount_init_ => exact .cons ⟨_, rfl⟩ .nil)
    (case pa_Amounttop => k_is)
    (case pg_Amounttop => k_is)
    (case pt_Amounttop => k_is)
    (case pr_Amounttop => k_is)
    (case l_Amounttop => k_is)
    (case k1_Amounttop => k_is)
    (case k2_Amounttop => k_is)
    (case pa_Amountbottom => k_is)
    (case pg_Amountbottom => k_is)
    (case pt_Amountbottom => k_is)
    (case pr_Amountbottom => k_is)
    (case l_Amountbottom => k_is)
    (case k1_Amountbottom => k_is)
    (case k2_Amountbottom => k_is)
    (case pa_Amountsign => k_is)
    (case pg_Amountsign => k_is)
    (case pt_Amountsign => k_is)
    (case pr_Amountsign => k_is)
    (case l_Amountsign => k_is)
    (case k1_Amountsign => k_is)
    (case k2_Amountsign => k_is)
    (case a_Amount_add_ => k_is)
    (case i_Amount_add_ => k_is)
    (case l_Amount_add_ => k_is)
    (case k1_Amount_add_ => k_is)
    (case k2_Amount_add_ => k_is)
    (case a_Amount_radd_ => k_is)
    (case i_Amount_radd_ => k_is)
    (case l_Amount_radd_ => k_is)
    (case k1_Amount_radd_ => k_is)
    (case k2_Amount_radd_ => k_is)
    (case a_Amount_sub_ => k_is)
    (case i_Amount_sub_ => k_is)
    (case l_Amount_sub_ => k_is)
    (case k1_Amount_sub_ => k_is)
    (case k2_Amount_sub_ => k_is)
    (case a_Amount_rsub_ => k_is)
    (case i_Amount_rsub_ => k_is)
    (case l_Amount_rsub_ => k_is)
    (case k1_Amount_rsub_ => k_is)
    (case k2_Amount_rsub_ => k_is)
    (case a_Amount_mul_ => k_is)
    (case i_Amount_mul_ => k_is)
    (case l_Amount_mul_ => k_is)
    (case k1_Amount_mul_ => k_is)
    (case k2_Amount_mul_ => k_is)
    (case a_Amount_rmul_ => k_is)
    (case i_Amount_rmul_ => k_is)
    (case l_Amount_rmul_ => k_is)
    (case k1_Amount_rmul_ => k_is)
    (case k2_Amount_rmul_ => k_is)
    (case a_Amountover => k_is)
    (case i_Amountover => k_is)
    (case l_Amountover => k_is)
    (case k1_Amountover => k_is)
    (case k2_Amountover => k_is)
    (case a_Amount_neg_ => k_is)
    (case i_Amount_neg_ => k_is)
    (case l_Amount_neg_ => k_is)
    (case k1_Amount_neg_ => k_is)
    (case k2_Amount_neg_ => k_is)
    (case a_Amount_abs_ => k_is)
    (case i_Amount_abs_ => k_is)
    (case l_Amount_abs_ => k_is)
    (case k1_Amount_abs_ => k_is)
    (case k2_Amount_abs_ => k_is)
    (case a_Amount_bool_ => k_is)
    (case i_Amount_bool_ => k_is)
    (case l_Amount_bool_ => k_is)
    (case k1_Amount_bool_ => k_is)
    (case k2_Amount_bool_ => k_is)
    (case a_Amount_str_ => k_is)
    (case i_Amount_str_ => k_is)
    (case l_Amount_str_ => k_is)
    (case k1_Amount_str_ => k_is)
    (case k2_Amount_str_ => k_is)
    (case a_Amount_repr_ => k_is)
    (case i_Amount_repr_ => k_is)
    (case l_Amount_repr_ => k_is)
    (case k1_Amount_repr_ => k_is)
    (case k2_Amount_repr_ => k_is)
    (case pa_Amountsum_of => k_is)
    (case pr_Amountsum_of => k_is)
    (case pf_Amountsum_of => k_is)
    (case l_Amountsum_of => k_is)
    (case k1_Amountsum_of => k_is)
    (case k2_Amountsum_of => k_is)
    (case a_pot => k_is)
    (case l_pot => k_is)
    (case k1_pot => k_is)
    (case k2_pot => k_is)
    (case a_draw => k_is)
    (case l_draw => k_is)
    (case k1_draw => k_is)
    (case k2_draw => k_is)
    (case a_choice => k_is)
    (case l_choice => k_is)
    (case k1_choice => k_is)
    (case k2_choice => k_is)
    (case a_number => k_is)
    (case l_number => k_is)
    (case k1_number => k_is)
    (case k2_number => k_is)
    (case a_lowest => k_is)
    (case l_lowest => k_is)
    (case k1_lowest => k_is)
    (case k2_lowest => k_is)
    (case a_drawn => k_is)
    (case l_drawn => k_is)
    (case k1_drawn => k_is)
    (case k2_drawn => k_is)
    (case a_text => k_is)
    (case l_text => k_is)
    (case k1_text => k_is)
    (case k2_text => k_is)
    (case a_is => k_is)
    (case l_is => k_is)
    (case k1_is => k_is)
    (case k2_is => k_is)
    (case a_plus => k_is)
    (case l_plus => k_is)
    (case k1_plus => k_is)
    (case k2_plus => k_is)
    (case a_times => k_is)
    (case l_times => k_is)
    (case k1_times => k_is)
    (case k2_times => k_is)
    (case a_opposite => k_is)
    (case l_opposite => k_is)
    (case k1_opposite => k_is)
    (case k2_opposite => k_is)
    (case a_step => k_is)
    (case l_step => k_is)
    (case k1_step => k_is)
    (case k2_step => k_is)
    (case a_sums_right => k_is)
    (case l_sums_right => k_is)
    (case k1_sums_right => k_is)
    (case k2_sums_right => k_is)
    (case a_right => k_is)
    (case l_right => k_is)
    (case k1_right => k_is)
    (case k2_right => k_is)
    (case a_law => k_is)
    (case l_law => k_is)
    (case k1_law => k_is)
    (case k2_law => k_is)
    (case pgA => k_is)
    (case hdA => k_is)
    (case poA => k_is)
    (case saA => k_is)
    (case nTA => k_is)
    (case nBA => k_is)
    (case mkA_ => k_is)
    (case kcA => k_is)
    (case gcd_ => k_is)
    (case ca_ => k_is)
    (case cn_ => k_is)
    (case ct_ => k_is)
    (case cm_ => k_is)
    (case ic_ => k_is)
    (case it_ => k_is)
    (case sb_NoneType => k_is)
    (case sb_bool => k_is)
    (case sb_int => k_is)
    (case sb_str => k_is)
    (case sb_list => k_is)
    (case sb_tuple => k_is)
    (case sb_dict => k_is)
    (case part_ => k_is)
    (case plen_ => k_is)
    (case sf_ => k_is)
    (case s2_ => k_is)
    (case o1_add => k_is)
    (case o2_add => k_is)
    (case o3_add => k_is)
    (case o4_add => k_is)
    (case o1_sub => k_is)
    (case o2_sub => k_is)
    (case o3_sub => k_is)
    (case o4_sub => k_is)
    (case o1_mul => k_is)
    (case o2_mul => k_is)
    (case o3_mul => k_is)
    (case o4_mul => k_is)
    (case cr1_ => k_is)
    (case cr2_ => k_is)
    (case z_len => k_is)
    (case z_abs => k_is)
    (case z_max => k_is)
    (case z_min => k_is)
    (case z_int => k_is)
    (case z_divmod => k_is)
    (case z_all => k_is)
    (case z_repr => k_is)
    (case z_isinstance => k_is)
    (case z_str => k_is)
    (case z_range => k_is)
    (case z_bool => k_is)
    (case z_sum => k_is)
#print axioms PySem.Challenge.cw_surepipes_k11_whole_amounts_reckoned_holds

