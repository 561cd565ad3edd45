import PyProof.Rows.All
import Wide.All
import OpenK.AllK
import Wide.FinOn
import PyProof.TwoTypes
import PyProof.InstNe
import KE.KOpsOwn
import KE.KCallOwn
import HandS.ForMost
import HandS.ForExc
import HandS.OwnEq
import HandS.ClsMeth
import HandS.Defaults
import HandS.Gcd
import HandS.Wide
import HandS.Small
import HandS.IsInst
import HandS.Text
import HandS.FStr
import PySem.Challenge.RW_rodwebs_k40_next_stretch
import HandS.Flow
import HandS.WideMore
import PyProof.StrBlock2
import HandS.TryMany
import HandS.ExcIs
import HandS.ExcField
import HandS.ExcInit
import HandS.HotCalls
import KE.KExcIs
import HandS.Codes
import HandS.Walk
import HandS.Style
import HandS.Lambda
import HandS.HeadWalk
set_option Elab.async false
set_option linter.all false
set_option maxRecDepth 100000
set_option maxHeartbeats 4000000
/-! Operators of an own class, in the words of the hand layer. -/
namespace Fx
open PySem PySem.Spec PyProof.Rows L2

/-- a plain instance of the class at C -/
def Ins (C : Addr) (H : Hp) (x : V) : Prop := ∃ a dx fs, x = .ref a ∧ H a = some (.ins C dx fs)

section
variable {X : Cx} {CX : CXT} {k : Nat} {f C : Addr} {fd : FuncData} {ps : List Str} {sp : Sp} {E : XK}

theorem cmpBack_EP {pins : List (Addr × Obj)} {σ : L2.St} {Q : VK} {v : Value} {s' : Shared} (h : EP X pins σ Q v s') : PySem.W.CmpBack (EP X pins σ Q) v s' := by
  obtain ⟨x, H', I, r, q⟩ := id h
  cases x with
  | non => cases (show v = Value.none from r); exact h
  | bl b => cases (show v = Value.bool b from r); exact h
  | int i => obtain ⟨t, e⟩ := (show ∃ t, v = Value.int i t from r); cases e; exact h
  | str z => obtain ⟨t, e⟩ := (show ∃ t, v = Value.str z t from r); cases e; exact h
  | byt b => obtain ⟨t, e⟩ := (show ∃ t, v = Value.bytes b t from r); cases e; exact h
  | flt b => obtain ⟨t, e⟩ := (show ∃ t, v = Value.float b t from r); cases e; exact h
  | ref a => cases (show v = Value.ref a from r); exact h
  | ty n => cases (show v = Value.type n from r); exact h

/-- the class's own slot of a number operator -/
structure BinF (K : PySem.W.Frag) (C f : Addr) (op : Operator) : Prop where
  sf : PySem.W.selfFirst K C = true
  at_ : PySem.W.findIn K (.ref C) (PySem.dunder op.info.2) = some (some (.ref f))
  fn : PySem.W.isFn K (.ref f) = true
  rf : ∃ rc, PySem.W.findIn K (.ref C) (dunderR op.info.2) = some rc ∧ (rc = none ∨ ∃ g : Addr, rc = some (.ref g))
  i1 : ∃ fo, PySem.W.findIn K (.type "int") (PySem.dunder op.info.2) = some fo
  i2 : ∃ ro, PySem.W.findIn K (.type "int") (dunderR op.info.2) = some ro
  sub : PySem.W.subIn K (.type "int") (.ref C) = some false

/-- x op y, x an instance, y one too or an int -/
def rOwn (C : Addr) (sp : Sp) (E : XK) : R2 := fun x y H Q => Ins C H x ∧ (Ins C H y ∨ ∃ j, y = .int j) ∧ sp [x, y] H Q E
theorem op_own {op : Operator} (B : BinF X.K C f op) (F : FnOk X.prog X.w X.K X.mg X.base CX k f fd ps sp) (hr : Room k X.A) (hb : Binds X.K fd ps []) (hx : Passes CX X E) : OpR X (binaryOp op) (rOwn C sp E) := by
  intro pins s σ H x y v u Q I rx ry h
  obtain ⟨⟨a, dx, fs, rfl, ha⟩, hy, q⟩ := h
  obtain rfl : v = Value.ref a := rx
  obtain ⟨mA, J, _⟩ := ins_get I.hok ha
  obtain ⟨od, J, _⟩ := J.look
  obtain ⟨m, hF⟩ := I.fr
  have run : wpAny (model X.prog X.w) X.A (call (.ref f) [.ref a, u]) (PySem.W.CmpBack (EP X pins σ Q)) X.xe s :=
    wpAny_mono (run_fn (us := [.ref a, u]) (vs := [.ref a, y]) F hr hb .nil hx I (.cons rfl (.cons ry .nil)) q) (fun _ _ z => cmpBack_EP z) fun _ _ z => z
  rcases hy with ⟨b, dy, gs, rfl, hb'⟩ | ⟨j, rfl⟩
  · obtain rfl : u = Value.ref b := ry
    obtain ⟨mB, J', _⟩ := ins_get I.hok hb'
    obtain ⟨od', J', _⟩ := J'.look
    exact PySem.W.binop_K hF I.ok.mod.kin J J'.type B.sf B.at_ B.fn run
  · obtain ⟨t, rfl⟩ := (show ∃ t, u = Value.int j t from ry)
    obtain ⟨rc, r1, r2⟩ := B.rf
    obtain ⟨fo, i1⟩ := B.i1
    obtain ⟨ro, i2⟩ := B.i2
    exact PySem.W.ksp_binT (T := "int") hF I.ok.mod.kin J rfl B.sf B.at_ B.fn r1 r2 i1 i2 B.sub run

/-- int op instance: what int's own slot declines goes to the instance's reflected one -/
structure RefF (K : PySem.W.Frag) (C g : Addr) (op : Operator) : Prop where
  sf : PySem.W.selfFirst K C = true
  fo : ∃ x, PySem.W.findIn K (.ref C) (PySem.dunder op.info.2) = some (some (.ref x))
  at_ : PySem.W.findIn K (.ref C) (dunderR op.info.2) = some (some (.ref g))
  fn : PySem.W.isFn K (.ref g) = true
  sub : PySem.W.subIn K (.ref C) (.type "int") = some false

/-- a plain object is no int -/
theorem asInt_ref {M : Model} {A : Around} {E : Value → Shared → Prop} {s : Shared} {a : Addr} {o : Obj} {Q : Option Int → Shared → Prop} (h : s.heap.get? a = some o) (hd : o.data = .plain) (q : Q none s) : wpAny M A (asInt? (.ref a)) Q E s := by
  unfold asInt?
  refine wpAny_bind (wpAny_load h ?_)
  rw [hd]
  exact wpAny_pure q
theorem intBinary_declines {M : Model} {A : Around} {E : Value → Shared → Prop} {s : Shared} {i : Int} {t : Tok} {a : Addr} {o : Obj} {name : String} {g : Int → Int → Sem Fin} {rf : Bool} {Q : Fin → Shared → Prop}
    (h : s.heap.get? a = some o) (hd : o.data = .plain) (q : Q (.done (.ret .notImplemented)) s) : wpAny M A (Builtin.Int.intBinary name g rf ⟨[.int i t, .ref a], []⟩) Q E s := by
  unfold Builtin.Int.intBinary
  refine wpAny_bind (m := slotArgs name 1 _) (wpAny_pure ?_)
  refine wpAny_bind (m := Builtin.Int.intOfSelf _) (wpAny_pure ?_)
  refine wpAny_bind (m := asInt? _) (asInt_ref h hd ?_)
  refine wpAny_bind (wpAny_rule ?_)
  exact wpAny_pure q

/-- int's slot, called with an instance, declines -/
theorem slot_declines {M : Model} {A : Around} {E : Value → Shared → Prop} {prog : Program} {w : World} {s : Shared} {i : Int} {t : Tok} {a : Addr} {n : Str} {id : String} {B : Builtin} {Q : Value → Shared → Prop}
    (slot : Slot "int" n id) (entry : entryFor table id = some B) (args : argsOk id ⟨[.int i t, .ref a], []⟩)
    (hB : ∀ (A : Around) (E : Value → Shared → Prop) (Q : Fin → Shared → Prop), Q (.done (.ret .notImplemented)) s → wpAny (model prog w) A (B ⟨[.int i t, .ref a], []⟩) Q E s) (q : Q .notImplemented s) :
    wpAny (model prog w) A (call (.builtin id) [.int i t, .ref a]) Q E s :=
  GQ.call_here slot rfl entry args (hB _ _ _ q)

/-- int's slots for the operator -/
structure IntOp (op : Operator) (idl : String) (B : Builtin) : Prop where
  fills : fillsNumberSlot (.type "int") op.info.2 = pure true
  slot : Slot "int" (PySem.dunder op.info.2) idl
  entry : entryFor table idl = some B
  args : ∀ a b, argsOk idl ⟨[a, b], []⟩
  dec : ∀ (M : Model) (A : Around) (E : Value → Shared → Prop) (s : Shared) (i : Int) (t : Tok) (a : Addr) (o : Obj) (Q : Fin → Shared → Prop), s.heap.get? a = some o → o.data = .plain → Q (.done (.ret .notImplemented)) s → wpAny M A (B ⟨[.int i t, .ref a], []⟩) Q E s

theorem bin1_refl {prog : Program} {w : World} {A : Around} {E : Value → Shared → Prop} {s : Shared} {K : PySem.W.Frag} {h₀ : Heap} {L a C g : Addr} {m : Str → Option Value} {ox : Obj} {od : Option Obj} {op : Operator} {idl : String} {B : Builtin} {i : Int} {t : Tok} {Q : Value → Shared → Prop}
    (N : IntOp op idl B) (R : RefF K C g op) (F : PyProof.Rows.Fr h₀ L s.heap m) (X₀ : K.In h₀) (I : PySem.W.InstAt s.heap a ox C od) (hd : ox.data = .plain)
    (h : wpAny (model prog w) A (call (.ref g) [.ref a, .int i t]) (PySem.W.CmpBack Q) E s) : wpAny (model prog w) A (binaryOp1 op.info.2 (.int i t) (.ref a)) (fun r s' => ∃ v, r = some v ∧ Q v s') E s := by
  have X := X₀.keeps F.keep
  obtain ⟨cd, rest, hcd, hm⟩ := PySem.W.ksp_first R.sf
  obtain ⟨fo, hfo⟩ := R.fo
  have n1 := N.fills
  have n2 := N.slot
  have r1 := R.at_
  rcases hi : op.info with ⟨sym, nm⟩
  rw [hi] at hfo n1 n2 r1
  dsimp only at hfo n1 n2 r1 ⊢
  have hne : (Value.type "int" == Value.ref C) = false := Bool.eq_false_iff.mpr fun q => by cases beq_iff_eq.mp q
  unfold binaryOp1
  refine wpAny_bind (wpAny_typeOf (typeIs_int s i t) (wpAny_bind (I.type.here (wpAny_bind (wpAny_of_eq n1 ?_)))))
  simp only [hne, Bool.false_eq_true, if_false]
  refine wpAny_bind ((PySem.W.fills_K X hcd hm hfo).here ?_)
  simp only [Bool.and_self, if_true]
  refine wpAny_bind ((PySem.W.looks_subIn X R.sub).here ?_)
  have hpy : numberSlotInPython (.type "int") nm = pure false := rfl
  simp only [Bool.false_eq_true, if_false, pure_bind, Bool.not_false, Bool.and_self, if_true, hpy]
  refine wpAny_bind (wpAny_tryMethod_declines (typeIs_int s i t) n2 (slot_declines (M := model prog w) n2 N.entry (N.args _ _) (fun A E Q q => N.dec _ A E s i t a ox Q I.at_ hd q) ⟨rfl, ?_⟩))
  refine wpAny_bind (wpAny_mono (PySem.W.ksp_try X I r1 R.fn h) (fun r s' z => ?_) fun _ _ z => z)
  obtain ⟨v, rfl, hq⟩ := z
  exact wpAny_bind (wpAny_rule (wpAny_pure ⟨v, rfl, hq⟩))
theorem bin_refl {prog : Program} {w : World} {A : Around} {E : Value → Shared → Prop} {s : Shared} {K : PySem.W.Frag} {h₀ : Heap} {L a C g : Addr} {m : Str → Option Value} {ox : Obj} {od : Option Obj} {op : Operator} {idl : String} {B : Builtin} {i : Int} {t : Tok} {Q : Value → Shared → Prop}
    (N : IntOp op idl B) (R : RefF K C g op) (F : PyProof.Rows.Fr h₀ L s.heap m) (X₀ : K.In h₀) (I : PySem.W.InstAt s.heap a ox C od) (hd : ox.data = .plain)
    (h : wpAny (model prog w) A (call (.ref g) [.ref a, .int i t]) (PySem.W.CmpBack Q) E s) : wpAny (model prog w) A (binaryOp op (.int i t) (.ref a)) Q E s := by
  have one := bin1_refl N R F X₀ I hd h
  rcases hi : op.info with ⟨sym, nm⟩
  rw [hi] at one
  simp only [binaryOp, hi]
  refine wpAny_holding (wpAny_bind (wpAny_mono one (fun r s' z => ?_) fun _ _ z => z))
  obtain ⟨v, rfl, hq⟩ := z
  exact wpAny_pure hq

def rRef (C : Addr) (sp : Sp) (E : XK) : R2 := fun x y H Q => (∃ i, x = .int i) ∧ Ins C H y ∧ sp [y, x] H Q E
theorem op_ref {op : Operator} {idl : String} {B : Builtin} (N : IntOp op idl B) (R : RefF X.K C f op) (F : FnOk X.prog X.w X.K X.mg X.base CX k f fd ps sp) (hr : Room k X.A) (hb : Binds X.K fd ps []) (hx : Passes CX X E) : OpR X (binaryOp op) (rRef C sp E) := by
  intro pins s σ H x y v u Q I rx ry h
  obtain ⟨⟨i, rfl⟩, ⟨a, dx, fs, rfl, ha⟩, q⟩ := h
  obtain ⟨t, rfl⟩ := (show ∃ t, v = Value.int i t from rx)
  obtain rfl : u = Value.ref a := ry
  obtain ⟨mA, J, _⟩ := ins_get I.hok ha
  have hob := J.obj
  obtain ⟨od, J, _⟩ := J.look
  obtain ⟨m, hF⟩ := I.fr
  refine bin_refl N R hF I.ok.mod.kin J rfl ?_
  exact wpAny_mono (run_fn (us := [.ref a, .int i t]) (vs := [.ref a, .int i]) F hr hb .nil hx I (.cons rfl (.cons ⟨_, rfl⟩ .nil)) q) (fun _ _ z => cmpBack_EP z) fun _ _ z => z

theorem int_add : IntOp .Add "int.__add__" Builtin.«int.__add__» := ⟨PySem.F.fills_int_add, PySem.F.slot_int_add, PySem.F.entry_int_add, PySem.F.args_int_add_2, fun _ _ _ _ _ _ _ _ _ h hd q => intBinary_declines h hd q⟩
theorem int_sub : IntOp .Sub "int.__sub__" Builtin.«int.__sub__» := ⟨PySem.F.fills_int_sub, PySem.F.slot_int_sub, PySem.F.entry_int_sub, PySem.F.args_int_sub_2, fun _ _ _ _ _ _ _ _ _ h hd q => intBinary_declines h hd q⟩
theorem int_mul : IntOp .Mult "int.__mul__" Builtin.«int.__mul__» := ⟨PySem.F.fills_int_mul, PySem.F.slot_int_mul, PySem.F.entry_int_mul, PySem.F.args_int_mul_2, fun _ _ _ _ _ _ _ _ _ h hd q => intBinary_declines h hd q⟩
theorem int_mod : IntOp .Mod "int.__mod__" Builtin.«int.__mod__» := ⟨PySem.F.fills_int_mod, PySem.F.slot_int_mod, PySem.F.entry_int_mod, PySem.F.args_int_mod_2, fun _ _ _ _ _ _ _ _ _ h hd q => intBinary_declines h hd q⟩
theorem int_fdiv : IntOp .FloorDiv "int.__floordiv__" Builtin.«int.__floordiv__» := by
  refine ⟨PySem.F.fills_int_floordiv, PySem.F.slot_int_floordiv, PySem.F.entry_int_floordiv, PySem.F.args_int_floordiv_2, fun _ _ _ s i t a o _ h hd q => ?_⟩
  unfold Builtin.«int.__floordiv__» Builtin.exactOperandsForPylong
  refine wpAny_bind ?_
  have e : ([Value.int i t, Value.ref a].any Value.onHeap) = true := rfl
  simp only [e, if_true]
  refine wpAny_bind (m := asInt? (.int i t)) (wpAny_pure ?_)
  refine wpAny_bind (m := asInt? _) (asInt_ref h hd ?_)
  exact wpAny_pure (intBinary_declines h hd q)

/-- the callee runs, somewhere below the body -/
theorem run_fnA {A : Around} {pins : List (Addr × Obj)} {σ : L2.St} {H : Hp} {s : Shared} {Q : VK} {us : List Value} {vs : List V} (F : FnOk X.prog X.w X.K X.mg X.base CX k f fd ps sp) (hr : Room k A) (hfr : A.frames = X.A.frames) (hb : Binds X.K fd ps [])
    (hx : Passes CX X E) (I : Inv X pins σ H s) (r : Vals vs us) (h : sp vs H Q E) : wpAny (model X.prog X.w) A (call (.ref f) us) (EP X pins σ Q) X.xe s := by
  have hl : us.length = ps.length := by rw [← r.length]; exact F.len _ _ _ _ h
  have e0 : Env0 X.prog X.w X.K X.mg X.base A X.stack s H := by
    have e := I.env0
    exact ⟨by rw [hfr]; exact e.frames, e.mod, e.bs, e.bsz, e.funs, e.frf, e.hok, e.bare⟩
  have hb' : BindsTo s fd ⟨us, []⟩ (ps.zip us) := by
    have := hb s us I.kIn (by simpa using hl)
    simpa using this
  refine wpAny_call (codeAny_mono (F.run A X.stack s H ⟨us, []⟩ us vs Q E hr e0 hb' r h) fun r s' hq => ?_)
  cases r with
  | error e => exact hx pins σ H s e s' I hq
  | ok fl =>
    cases fl with
    | ret u => exact I.after hq
    | next => exact False.elim hq
    | brk => exact False.elim hq
    | cont => exact False.elim hq

/-! ### comparisons -/
structure CmpF (K : PySem.W.Frag) (C f : Addr) (nm : Str) : Prop where
  at_ : PySem.W.findIn K (.ref C) nm = some (some (.ref f))
  fn : PySem.W.isFn K (.ref f) = true
  sub : PySem.W.subIn K (.type "int") (.ref C) = some false
  sub' : PySem.W.subIn K (.ref C) (.type "int") = some false
theorem notFirst_int {K : PySem.W.Frag} {C : Addr} (h : PySem.W.subIn K (.type "int") (.ref C) = some false) : PySem.W.notFirst K C (.type "int") = true := by
  unfold PySem.W.notFirst
  rw [h]
  simp

theorem op_cmp {op : CmpOp} (B : CmpF X.K C f (cmpInfo op).2.1) (F : FnOk X.prog X.w X.K X.mg X.base CX k f fd ps sp) (hr : Room k X.A) (hb : Binds X.K fd ps []) (hx : Passes CX X E)
    (hop : ∀ a b, compareOp op a b = richCompare op a b) : OpR X (compareOp op) (rOwn C sp E) := by
  intro pins s σ H x y v u Q I rx ry h
  obtain ⟨⟨a, dx, fs, rfl, ha⟩, hy, q⟩ := h
  obtain rfl : v = Value.ref a := rx
  obtain ⟨mA, J, _⟩ := ins_get I.hok ha
  obtain ⟨od, J, _⟩ := J.look
  obtain ⟨m, hF⟩ := I.fr
  have run : wpAny (model X.prog X.w) X.A (call (.ref f) [.ref a, u]) (PySem.W.CmpBack (EP X pins σ Q)) X.xe s :=
    wpAny_mono (run_fn (us := [.ref a, u]) (vs := [.ref a, y]) F hr hb .nil hx I (.cons rfl (.cons ry .nil)) q) (fun _ _ z => cmpBack_EP z) fun _ _ z => z
  rw [hop]
  rcases hy with ⟨b, dy, gs, rfl, hb'⟩ | ⟨j, rfl⟩
  · obtain rfl : u = Value.ref b := ry
    obtain ⟨mB, J', _⟩ := ins_get I.hok hb'
    obtain ⟨od', J', _⟩ := J'.look
    exact PySem.W.cmp_K (tb := .ref C) hr.units0 hF I.ok.mod.kin J J'.type (by simp [PySem.W.notFirst]) B.at_ B.fn run
  · obtain ⟨t, rfl⟩ := (show ∃ t, u = Value.int j t from ry)
    exact PySem.W.cmp_K (tb := .type "int") hr.units0 hF I.ok.mod.kin J (PySem.W.Looks.of_pure rfl) (notFirst_int B.sub) B.at_ B.fn run

structure IntCmp (op : CmpOp) (idl : String) (B : Builtin) : Prop where
  slot : Slot "int" (cmpInfo op).2.1 idl
  entry : entryFor table idl = some B
  args : ∀ a b, argsOk idl ⟨[a, b], []⟩
  dec : ∀ (M : Model) (A : Around) (E : Value → Shared → Prop) (s : Shared) (i : Int) (t : Tok) (a : Addr) (o : Obj) (Q : Fin → Shared → Prop), s.heap.get? a = some o → o.data = .plain → Q (.done (.ret .notImplemented)) s → wpAny M A (B ⟨[.int i t, .ref a], []⟩) Q E s

theorem cmp_refl {prog : Program} {w : World} {A : Around} {E : Value → Shared → Prop} {s : Shared} {K : PySem.W.Frag} {h₀ : Heap} {L a C : Addr} {m : Str → Option Value} {ox : Obj} {od : Option Obj} {op : CmpOp} {idl : String} {B : Builtin} {i : Int} {t : Tok} {Q : Value → Shared → Prop}
    (N : IntCmp op idl B) (hu : A.units < cLine) (F : PyProof.Rows.Fr h₀ L s.heap m) (X₀ : K.In h₀) (I : PySem.W.InstAt s.heap a ox C od) (hd : ox.data = .plain) (sub' : PySem.W.subIn K (.ref C) (.type "int") = some false)
    (h : wpAny (model prog w) A (tryCompare (.ref a) (cmpInfo op).2.2 (.int i t)) (fun r s' => ∃ v, r = some v ∧ Q v s') E s) : wpAny (model prog w) A (richCompare op (.int i t) (.ref a)) Q E s := by
  have X := X₀.keeps F.keep
  have n2 := N.slot
  rcases hi : cmpInfo op with ⟨sym, nf, nr⟩
  rw [hi] at n2 h
  dsimp only at n2 h
  simp only [richCompare, hi]
  refine wpAny_holding (wpAny_bind (wpAny_cRoomFor hu ?_))
  have e1 : oneThing? op (.int i t) (.ref a) = none := (typeIs_int s i t).oneThing_none op (.ref a)
  rw [e1]
  refine wpAny_bind (wpAny_typeOf (typeIs_int s i t) (wpAny_bind (I.type.here ?_)))
  have hne : (Value.type "int" != Value.ref C) = true := by
    rw [bne_iff_ne]
    exact fun z => by cases z
  simp only [hne, if_true]
  refine wpAny_bind ((PySem.W.looks_subIn X sub').here ?_)
  simp only [Bool.false_eq_true, if_false, Bool.not_false, if_true]
  refine wpAny_bind (m := tryCompare (.int i t) nf (.ref a)) ?_
  have dec : wpAny (model prog w) A (call (.builtin idl) [.int i t, .ref a]) (fun v s' => v = .notImplemented ∧ s' = s) E s := slot_declines (M := model prog w) n2 N.entry (N.args _ _) (fun A E Q q => N.dec _ A E s i t a ox Q I.at_ hd q) ⟨rfl, rfl⟩
  unfold tryCompare
  refine wpAny_bind (wpAny_callSpecialIfBound?_slot (typeIs_int s i t) n2 (wpAny_mono dec (fun v s' z => ?_) fun _ _ z => z))
  obtain ⟨rfl, rfl⟩ := z
  refine wpAny_pure ?_
  refine wpAny_bind (wpAny_mono h (fun r s' z => ?_) fun _ _ z => z)
  obtain ⟨v, rfl, hq⟩ := z
  exact wpAny_pure hq

theorem try_own {prog : Program} {w : World} {A : Around} {E : Value → Shared → Prop} {s : Shared} {K : PySem.W.Frag} {a C f : Addr} {ox : Obj} {od : Option Obj} {nm : Str} {b : Value} {Q : Value → Shared → Prop} (X : K.In s.heap) (I : PySem.W.InstAt s.heap a ox C od)
    (hs : PySem.W.findIn K (.ref C) nm = some (some (.ref f))) (hf : PySem.W.isFn K (.ref f) = true) (h : wpAny (model prog w) A (call (.ref f) [.ref a, b]) (PySem.W.CmpBack Q) E s) :
    wpAny (model prog w) A (tryCompare (.ref a) nm b) (fun r s' => ∃ v, r = some v ∧ Q v s') E s := by
  unfold tryCompare
  refine wpAny_bind (PySem.W.ifBound_K X I hs hf (wpAny_mono h (fun v s' hv => ?_) fun _ _ e => e))
  cases v <;> first | exact hv.elim | exact wpAny_pure ⟨_, rfl, hv⟩

theorem op_cmpR {op : CmpOp} {idl : String} {B : Builtin} (N : IntCmp op idl B) (R : CmpF X.K C f (cmpInfo op).2.2) (F : FnOk X.prog X.w X.K X.mg X.base CX k f fd ps sp) (hr : Room k X.A) (hb : Binds X.K fd ps []) (hx : Passes CX X E)
    (hop : ∀ a b, compareOp op a b = richCompare op a b) : OpR X (compareOp op) (rRef C sp E) := by
  intro pins s σ H x y v u Q I rx ry h
  obtain ⟨⟨i, rfl⟩, ⟨a, dx, fs, rfl, ha⟩, q⟩ := h
  obtain ⟨t, rfl⟩ := (show ∃ t, v = Value.int i t from rx)
  obtain rfl : u = Value.ref a := ry
  obtain ⟨mA, J, _⟩ := ins_get I.hok ha
  obtain ⟨od, J, _⟩ := J.look
  obtain ⟨m, hF⟩ := I.fr
  rw [hop]
  refine cmp_refl N hr.units0 hF I.ok.mod.kin J rfl R.sub' (try_own I.kIn J R.at_ R.fn ?_)
  exact wpAny_mono (run_fn (us := [.ref a, .int i t]) (vs := [.ref a, .int i]) F hr hb .nil hx I (.cons rfl (.cons ⟨_, rfl⟩ .nil)) q) (fun _ _ z => cmpBack_EP z) fun _ _ z => z

theorem int_lt : IntCmp .Lt "int.__lt__" Builtin.«int.__lt__» := ⟨PySem.F.slot_int_lt, PySem.F.entry_int_lt, PySem.F.args_int_lt_2, fun _ _ _ _ _ _ _ _ _ h hd q => intBinary_declines h hd q⟩
theorem int_le : IntCmp .LtE "int.__le__" Builtin.«int.__le__» := ⟨PySem.F.slot_int_le, PySem.F.entry_int_le, PySem.F.args_int_le_2, fun _ _ _ _ _ _ _ _ _ h hd q => intBinary_declines h hd q⟩
theorem int_gt : IntCmp .Gt "int.__gt__" Builtin.«int.__gt__» := ⟨PySem.F.slot_int_gt, PySem.F.entry_int_gt, PySem.F.args_int_gt_2, fun _ _ _ _ _ _ _ _ _ h hd q => intBinary_declines h hd q⟩
theorem int_ge : IntCmp .GtE "int.__ge__" Builtin.«int.__ge__» := ⟨PySem.F.slot_int_ge, PySem.F.entry_int_ge, PySem.F.args_int_ge_2, fun _ _ _ _ _ _ _ _ _ h hd q => intBinary_declines h hd q⟩
theorem int_eq : IntCmp .Eq "int.__eq__" Builtin.«int.__eq__» := ⟨PySem.F.slot_int_eq, PySem.F.entry_int_eq, PySem.F.args_int_eq_2, fun _ _ _ _ _ _ _ _ _ h hd q => intBinary_declines h hd q⟩
theorem int_ne : IntCmp .NotEq "int.__ne__" Builtin.«int.__ne__» := ⟨PySem.F.slot_int_ne, PySem.F.entry_int_ne, PySem.F.args_int_ne_2, fun _ _ _ _ _ _ _ _ _ h hd q => intBinary_declines h hd q⟩

/-! ### != by the own == -/
theorem ifBound_B {prog : Program} {w : World} {A : Around} {E : Value → Shared → Prop} {s : Shared} {K : PySem.W.Frag} {x C : Addr} {ox : Obj} {od : Option Obj} {name : Str} {id : String} {args : List Value} {Q : Option Value → Shared → Prop} (X : K.In s.heap) (I : PySem.W.InstAt s.heap x ox C od)
    (hs : PySem.W.findIn K (.ref C) name = some (some (.builtin id))) (hb : ∀ self, bindSpecial (.builtin id) self = pure (.builtin id, [self])) (h : wpAny (model prog w) A (call (.builtin id) (.ref x :: args)) (fun v => Q (some v)) E s) :
    wpAny (model prog w) A (callSpecialIfBound? (.ref x) name args) Q E s := by
  simp only [callSpecialIfBound?, bindSpecialIfBound?]
  refine wpAny_holding (wpAny_bind (wpAny_bind (wpAny_bind (I.type.here ((PySem.W.looks_findIn X hs).here ?_)))))
  refine wpAny_bind (wpAny_askSetting (wpAny_ite ?_))
  have fin : wpAny (model prog w) A (call (.builtin id) ([.ref x] ++ args) >>= fun v => pure (some v)) Q E s := wpAny_bind (wpAny_mono h (fun v s' h' => wpAny_pure h') fun _ _ h' => h')
  split
  · exact wpAny_bind ((PySem.W.Looks.of_pure (hb _)).here (wpAny_pure (by exact fin)))
  · exact wpAny_tryCatch (wpAny_bind ((PySem.W.Looks.of_pure (hb _)).here (wpAny_pure (by exact fin))))
/-- what the class has for != : object's own -/
structure NeF (K : PySem.W.Frag) (C f : Addr) : Prop where
  eq : PySem.W.findIn K (.ref C) "__eq__" = some (some (.ref f))
  fn : PySem.W.isFn K (.ref f) = true
  ne : PySem.W.findIn K (.ref C) "__ne__" = some (some (.builtin "object.__ne__"))
  mro : PySem.W.mroIn K C (.type "object") = some true
  sub : PySem.W.subIn K (.type "int") (.ref C) = some false
  sub' : PySem.W.subIn K (.ref C) (.type "int") = some false
theorem ne_bind (self : Value) : bindSpecial (.builtin "object.__ne__") self = pure (.builtin "object.__ne__", [self]) := PySem.F.slot_tuple_iterator_ne.bind self
theorem try_ne {prog : Program} {w : World} {A : Around} {E : Value → Shared → Prop} {s : Shared} {K : PySem.W.Frag} {a C f : Addr} {ox : Obj} {od : Option Obj} {b : Value} {Q : Value → Shared → Prop} (N : NeF K C f) (hu : A.in1.units < cLine) (X : K.In s.heap) (I : PySem.W.InstAt s.heap a ox C od)
    (h : wpAny (model prog w) A.in1 (call (.ref f) [.ref a, b]) (fun v s' => ∃ k, v = .bool k ∧ Q (.bool (!k)) s') E s) :
    wpAny (model prog w) A (tryCompare (.ref a) "__ne__" b) (fun r s' => ∃ v, r = some v ∧ Q v s') E s := by
  unfold tryCompare
  refine wpAny_bind (ifBound_B X I N.ne ne_bind ?_)
  refine wpAny_call (codeAny_call_builtin (by decide +kernel) F.cmpEntry_ne (PySem.W.check_slot (i := "object.__ne__") (owner := "object") (n := "__ne__") (by decide +kernel) (by decide +kernel) (I.type.andThen (PySem.W.looks_mroIn X N.mro)) (F.cmpArgs_ne _ _) ?_))
  unfold Builtin.«object.__ne__»
  refine wpAny_bind (m := slotArgs "__ne__" 1 _) (wpAny_pure ?_)
  refine wpAny_bind (m := cRoomFor _ _) (wpAny_cRoomFor hu ?_)
  refine wpAny_bind (m := callSpecialIfBound? (.ref a) (Str.ofString "__eq__") _) (PySem.W.ifBound_K X I N.eq N.fn (wpAny_mono h (fun r s' hq => ?_) fun _ _ y => y))
  obtain ⟨k, rfl, q⟩ := hq
  refine wpAny_bind (wpAny_truthy_bool ?_)
  exact wpAny_pure (wpAny_pure ⟨_, rfl, q⟩)

def rNe (C : Addr) (sp : Sp) (E : XK) : R2 := fun x y H Q => (Ins C H x ∧ (Ins C H y ∨ ∃ j, y = .int j) ∧ sp [x, y] H (fun v H' => ∃ k, v = .bl k ∧ Q (.bl (!k)) H') E) ∨
  ((∃ i, x = .int i) ∧ Ins C H y ∧ sp [y, x] H (fun v H' => ∃ k, v = .bl k ∧ Q (.bl (!k)) H') E)
theorem o_ne (N : NeF X.K C f) (F : FnOk X.prog X.w X.K X.mg X.base CX k f fd ps sp) (hr : Room (k + 1) X.A) (hb : Binds X.K fd ps []) (hx : Passes CX X E) : OpR X (compareOp .NotEq) (rNe C sp E) := by
  intro pins s σ H x y v u Q I rx ry h
  have hu1 : X.A.in1.units < cLine := (hr.in1).units0
  show wpAny (model X.prog X.w) X.A (richCompare .NotEq v u) (EP X pins σ Q) X.xe s
  obtain ⟨m, hF⟩ := I.fr
  have X0 := I.kIn
  rcases h with ⟨⟨a, dx, fs, rfl, ha⟩, hy, q⟩ | ⟨⟨i, rfl⟩, ⟨a, dx, fs, rfl, ha⟩, q⟩
  · obtain rfl : v = Value.ref a := rx
    obtain ⟨mA, J, _⟩ := ins_get I.hok ha
    obtain ⟨od, J, _⟩ := J.look
    have one : wpAny (model X.prog X.w) X.A (tryCompare (.ref a) "__ne__" u) (fun r s' => ∃ v, r = some v ∧ EP X pins σ Q v s') X.xe s := by
      refine try_ne N hu1 X0 J (wpAny_mono (run_fnA (us := [.ref a, u]) (vs := [.ref a, y]) F hr.in1 rfl hb hx I (.cons rfl (.cons ry .nil)) q) (fun v s' z => ?_) fun _ _ z => z)
      obtain ⟨w', H', I', r', k', rfl, q'⟩ := z
      obtain rfl : v = Value.bool k' := r'
      exact ⟨k', rfl, .bl (!k'), H', I', rfl, q'⟩
    unfold richCompare
    simp only [oneThing_ref]
    refine wpAny_holding (wpAny_bind (wpAny_cRoomFor hr.units0 ?_))
    rcases hy with ⟨b, dy, gs, rfl, hb'⟩ | ⟨j, rfl⟩
    · obtain rfl : u = Value.ref b := ry
      obtain ⟨mB, J', _⟩ := ins_get I.hok hb'
      obtain ⟨od', J', _⟩ := J'.look
      refine wpAny_bind (J.type.here (wpAny_bind (J'.type.here ?_)))
      simp only [bne_self_eq_false, Bool.false_eq_true, if_false]
      refine wpAny_bind (wpAny_pure ?_)
      simp only [Bool.false_eq_true, if_false]
      refine wpAny_bind (m := tryCompare (.ref a) "__ne__" (.ref b)) (wpAny_mono one (fun r s' z => ?_) fun _ _ e => e)
      obtain ⟨v, rfl, hq⟩ := z
      exact wpAny_pure hq
    · obtain ⟨t, rfl⟩ := (show ∃ t, u = Value.int j t from ry)
      refine wpAny_bind (J.type.here (wpAny_bind (wpAny_typeOf (typeIs_int s j t) ?_)))
      have hne : (Value.ref C != Value.type "int") = true := by
        rw [bne_iff_ne]
        exact fun z => by cases z
      simp only [hne, if_true]
      refine wpAny_bind ((PySem.W.looks_subIn X0 N.sub).here ?_)
      simp only [Bool.false_eq_true, if_false]
      refine wpAny_bind (m := tryCompare (.ref a) "__ne__" (.int j t)) (wpAny_mono one (fun r s' z => ?_) fun _ _ e => e)
      obtain ⟨v, rfl, hq⟩ := z
      exact wpAny_pure hq
  · obtain ⟨t, rfl⟩ := (show ∃ t, v = Value.int i t from rx)
    obtain rfl : u = Value.ref a := ry
    obtain ⟨mA, J, _⟩ := ins_get I.hok ha
    obtain ⟨od, J, _⟩ := J.look
    refine cmp_refl int_ne hr.units0 hF I.ok.mod.kin J rfl N.sub' ?_
    show wpAny (model X.prog X.w) X.A (tryCompare (.ref a) "__ne__" (.int i t)) (fun r s' => ∃ v, r = some v ∧ EP X pins σ Q v s') X.xe s
    refine try_ne N hu1 X0 J (wpAny_mono (run_fnA (us := [.ref a, .int i t]) (vs := [.ref a, .int i]) F hr.in1 rfl hb hx I (.cons rfl (.cons ⟨_, rfl⟩ .nil)) q) (fun v s' z => ?_) fun _ _ z => z)
    obtain ⟨w', H', I', r', k', rfl, q'⟩ := z
    obtain rfl : v = Value.bool k' := r'
    exact ⟨k', rfl, .bl (!k'), H', I', rfl, q'⟩

/-! ### -x, abs(x), bool(x), str(x), truth -/
structure UnF (K : PySem.W.Frag) (C f : Addr) (nm : Str) : Prop where
  at_ : PySem.W.findIn K (.ref C) nm = some (some (.ref f))
  fn : PySem.W.isFn K (.ref f) = true
def rUn (C : Addr) (sp : Sp) (E : XK) : V → Hp → VK → Prop := fun x H Q => Ins C H x ∧ sp [x] H Q E
theorem o_neg (U : UnF X.K C f "__neg__") (F : FnOk X.prog X.w X.K X.mg X.base CX k f fd ps sp) (hr : Room k X.A) (hb : Binds X.K fd ps []) (hx : Passes CX X E) : UnR X (unaryOp .USub) (rUn C sp E) := by
  intro pins s σ H x v Q I rx h
  obtain ⟨⟨a, dx, fs, rfl, ha⟩, q⟩ := h
  obtain rfl : v = Value.ref a := rx
  obtain ⟨mA, J, _⟩ := ins_get I.hok ha
  obtain ⟨od, J, _⟩ := J.look
  obtain ⟨m, hF⟩ := I.fr
  exact PySem.W.ksp_neg hF I.ok.mod.kin J U.at_ U.fn (run_fnA (us := [.ref a]) (vs := [.ref a]) F hr rfl hb hx I (.cons rfl .nil) q)
def rCall1 (C : Addr) (sp : Sp) (P : V → Prop) (E : XK) : List V → Hp → VK → Prop := fun xs H Q => ∃ x, xs = [x] ∧ Ins C H x ∧ sp [x] H (fun v H' => P v ∧ Q v H') E
theorem o_abs (U : UnF X.K C f "__abs__") (F : FnOk X.prog X.w X.K X.mg X.base CX k f fd ps sp) (hr : Room (k + 1) X.A) (hb : Binds X.K fd ps []) (hx : Passes CX X E) : CallR X (.builtin "abs") (rCall1 C sp (fun _ => True) E) := by
  intro pins s σ H xs us Q I r h
  obtain ⟨x, rfl, ⟨a, dx, fs, rfl, ha⟩, q⟩ := h
  obtain ⟨u, rfl, rx⟩ := vals1 r
  obtain rfl : u = Value.ref a := rx
  obtain ⟨mA, J, _⟩ := ins_get I.hok ha
  obtain ⟨od, J, _⟩ := J.look
  refine PySem.Calls.call_function_entry kind_abs plain_abs entry_abs (args_abs _) ?_
  unfold Builtin.«abs»
  refine wpAny_bind (m := oneArg "abs" _) (wpAny_pure ?_)
  refine wpAny_bind (m := callSpecial? (.ref a) (Str.ofString "__abs__")) (PySem.W.special_fn I.kIn J U.at_ (beq_iff_eq.mp U.fn) (wpAny_mono (run_fnA (us := [.ref a]) (vs := [.ref a]) F hr.in1 rfl hb hx I (.cons rfl .nil) q) (fun v s' z => ?_) fun _ _ z => z))
  obtain ⟨v', H', I', r', _, q'⟩ := z
  exact wpAny_pure ⟨_, rfl, v', H', I', r', q'⟩
theorem strBack {pins : List (Addr × Obj)} {σ : L2.St} {Q : VK} {v : Value} {s' : Shared} (h : EP X pins σ (fun v H' => (∃ z, v = .str z) ∧ Q v H') v s') : PySem.W.StrBack (EP X pins σ Q) v s' := by
  obtain ⟨v', H', I', r', ⟨z, rfl⟩, q'⟩ := h
  obtain ⟨t, rfl⟩ := (show ∃ t, v = Value.str z t from r')
  exact ⟨.str z, H', I', ⟨t, rfl⟩, q'⟩
theorem o_str (U : UnF X.K C f "__str__") (F : FnOk X.prog X.w X.K X.mg X.base CX k f fd ps sp) (hr : Room (k + 2) X.A) (hb : Binds X.K fd ps []) (hx : Passes CX X E) : CallR X (.type "str") (rCall1 C sp (fun v => ∃ z, v = .str z) E) := by
  intro pins s σ H xs us Q I r h
  obtain ⟨x, rfl, ⟨a, dx, fs, rfl, ha⟩, q⟩ := h
  obtain ⟨u, rfl, rx⟩ := vals1 r
  obtain rfl : u = Value.ref a := rx
  obtain ⟨mA, J, _⟩ := ins_get I.hok ha
  obtain ⟨od, J, _⟩ := J.look
  exact PySem.W.kso_call (hr.in1.in1).units0 I.kIn J U.at_ U.fn (wpAny_mono (run_fnA (us := [.ref a]) (vs := [.ref a]) F hr.in1.in1 rfl hb hx I (.cons rfl .nil) q) (fun v s' z => strBack z) fun _ _ z => z)
theorem boolBack {pins : List (Addr × Obj)} {σ : L2.St} {Q : Bool → Hp → Prop} {v : Value} {s' : Shared} (h : EP X pins σ (fun v H' => ∃ z, v = .bl z ∧ Q z H') v s') : PySem.W.BoolBack (TP X pins σ Q) v s' := by
  obtain ⟨v', H', I', r', z, rfl, q'⟩ := h
  obtain rfl : v = Value.bool z := r'
  exact ⟨H', I', q'⟩
theorem o_bool (U : UnF X.K C f "__bool__") (F : FnOk X.prog X.w X.K X.mg X.base CX k f fd ps sp) (hr : Room (k + 2) X.A) (hb : Binds X.K fd ps []) (hx : Passes CX X E) :
    CallR X (.type "bool") (fun xs H Q => ∃ x, xs = [x] ∧ Ins C H x ∧ sp [x] H (fun v H' => ∃ z, v = .bl z ∧ Q (.bl z) H') E) := by
  intro pins s σ H xs us Q I r h
  obtain ⟨x, rfl, ⟨a, dx, fs, rfl, ha⟩, q⟩ := h
  obtain ⟨u, rfl, rx⟩ := vals1 r
  obtain rfl : u = Value.ref a := rx
  obtain ⟨mA, J, _⟩ := ins_get I.hok ha
  obtain ⟨od, J, _⟩ := J.look
  obtain ⟨m, hF⟩ := I.fr
  refine callType_codes (T := "bool") (Bi := Builtin.«object.__init__») (Q₁ := fun r s₁ => ∃ b, r = .bool b ∧ EP X pins σ Q r s₁) PySem.F.called_bool (PySem.F.typeCall_bool_1 _) PySem.F.entry_object_init ?_ ?_
  · refine codeAny_of_tree ?_
    show wpAny _ X.A.in1.in1 (do checkBuiltinCall "bool.__new__" ⟨[.type "bool", .ref a], []⟩; again (.builtin "bool.__new__" ⟨[.type "bool", .ref a], []⟩)) _ _ s
    refine wpAny_bind (wpAny_of_eq (PySem.F.newCall_bool_1 _) (wpAny_pure ⟨plainId_quiet (by decide +kernel) _, codeAny_builtin PySem.F.entry_bool_new ?_⟩))
    rw [Around.under_plainId (by decide +kernel) _]
    have tru : wpAny (model X.prog X.w) X.A.in1.in1 (truthy (.ref a)) (TP X pins σ fun b H' => Q (.bl b) H') X.xe s :=
      PySem.W.truthy_K hF I.ok.mod.kin J U.at_ U.fn (wpAny_mono (run_fnA (us := [.ref a]) (vs := [.ref a]) F hr.in1.in1 rfl hb hx I (.cons rfl .nil) q) (fun v s' z => boolBack (Q := fun b H' => Q (.bl b) H') z) fun _ _ z => z)
    unfold Builtin.«bool.__new__»
    refine wpAny_bind (wpAny_pure ?_)
    refine wpAny_bind (wpAny_of_eq PySem.F.conv_sub_bool ?_)
    refine wpAny_bind (m := someArgs "bool" 0 1 _) (wpAny_pure ?_)
    refine wpAny_bind (m := truthy (.ref a)) (wpAny_mono tru (fun b s' z => ?_) fun _ _ y => y)
    obtain ⟨H', I', q'⟩ := z
    exact wpAny_pure ⟨b, rfl, .bl b, H', I', rfl, q'⟩
  · rintro obj s₁ ⟨y, rfl, hq⟩
    exact ⟨rfl, PySem.F.args_object_init_2 _ _, object_init_meets PySem.F.called_bool.init.lookup PySem.F.called_bool.made (by decide) X.prog X.w X.A.in1 _ s₁ ⟨rfl, rfl, hq⟩⟩
end
end Fx

set_option Elab.async false
set_option linter.all false
set_option maxRecDepth 100000
set_option maxHeartbeats 4000000
namespace Fx
open PySem PySem.Spec PyProof.Rows L2
section
variable {X : Cx} {CX : CXT} {k : Nat} {f C : Addr} {fd : FuncData} {ps : List Str} {sp : Sp} {E : XK}

/-! ### a static method read off its class and called -/
structure SMet (K : PySem.W.Frag) (C : Addr) (mc : Value) (m : Str) (p g : Addr) : Prop where
  at_ : PySem.W.findCls K (.ref C) mc m = some (.get (.builtin "staticmethod.__get__") (.ref p) .none (.ref C))
  rc : ∃ rest, PySem.W.recIn K p "staticmethod" = some (.ref g :: rest)
  kp : PySem.W.keepIn K (.ref g) = true
def tSMeth (C : Addr) (sp : Sp) (E : XK) (ta : TE) (t : TA) : TE := fun σ H Q => ta σ H fun x H1 => x = .ref C ∧ t σ H1 fun vs H2 => sp vs H2 Q E
theorem pe_smeth {pl : Sem Bool} {mc : Value} {p g : Addr} {o e : Expr} {es : List Expr} {m : Str} {pos apos : Pos} {ta : TE} {t : TA} (he : PE X o ta) (r : ClX.CRead X.K C mc) (c : SMet X.K C mc m p g) (ty : PySem.W.typeIn X.K (.ref C) = some mc) (F : FnOk X.prog X.w X.K X.mg X.base CX k g fd ps sp) (hr : Room k X.A) (hb : Binds X.K fd ps []) (hx : Passes CX X E) (ha : PA X (e :: es) t)
    (hst : starEach (e :: es) X.env = (false, eval e X.env) :: starEach es X.env := by rfl) (hpl : (backTo pos (starEach es X.env)).any (·.1) = false := by rfl)
    (ht : eval (.Call (.Attribute o m apos) (e :: es) [] pos) X.env = (do
      let ov ← eval o X.env
      standAt apos.atName
      let (f, first) ← holding [ov] (getMethod ov m pl)
      callWith pos f first (backTo pos (starEach (e :: es) X.env)) (backToKw pos (keywordEach [] X.env))) := by rfl) :
    PE X (.Call (.Attribute o m apos) (e :: es) [] pos) (tSMeth C sp E ta t) := by
  refine ⟨fun pins s σ H Q I h => ?_⟩
  refine PySem.W.methodCall_KW (pl := pl) (thn (he.run pins s σ H _ I h) fun u s1 ⟨x, H1, I1, rx, ex, q⟩ => ?_) ht
  subst ex
  obtain rfl : u = Value.ref C := rx
  obtain ⟨m', hF⟩ := I1.fr
  obtain ⟨rest, hp⟩ := c.rc
  refine PySem.W.method_cls I1.kIn r.ga ?_
  refine PySem.W.cls_sm hF I1.ok.mod.kin ty r.rd c.at_ hp rfl ?_
  refine PySem.W.callWith_K (first := []) (h₀ := X.base) I.ok.mod.kin c.kp (thn (ha.run pos pins _ σ H1 _ (I1.tok _) q) fun us s2 ⟨vs, H2, I2, r2, q2⟩ => ⟨I2.kIn, ?_⟩) hst hpl
  exact run_fnA (us := us) (vs := vs) F hr rfl hb hx I2 r2 q2

/-! ### += where the class has no in-place form -/
structure NoIn (K : PySem.W.Frag) (C : Addr) : Prop where
  mro : ∃ cd, PySem.W.clsIn K C = some cd ∧ cd.mro = [.ref C, .type "object"]
  no : PySem.W.findIn K (.ref C) "__iadd__" = some none
  no' : PySem.W.findIn K (.type "object") "__iadd__" = some none
  noI : PySem.W.findIn K (.type "int") "__iadd__" = some none
theorem fillsI_no {M : Model} {h : Heap} {K : PySem.W.Frag} {C : Addr} (X : K.In h) (N : NoIn K C) : PySem.W.Looks M h (fillsInplaceSlot (.ref C) "add" true) false := by
  intro A Q E s k q
  obtain ⟨cd, hc, hm⟩ := N.mro
  have Lm : PySem.W.Looks M h (mroOf (.ref C)) cd.mro := (PySem.W.looks_clsIn X hc).andThen (f := fun cd => pure cd.mro) .now
  have X' : K.In s.heap := X.keeps k
  unfold fillsInplaceSlot
  refine wpAny_bind (Lm A _ E s k ?_)
  rw [hm, List.anyM_cons]
  refine wpAny_bind ?_
  refine wpAny_bind ((PySem.W.looks_findIn X' N.no).here ?_)
  refine wpAny_pure ?_
  simp only [Bool.false_eq_true, if_false]
  rw [List.anyM_cons]
  refine wpAny_bind ?_
  refine wpAny_bind ((PySem.W.looks_findIn X' N.no').here ?_)
  refine wpAny_pure ?_
  simp only [Bool.false_eq_true, if_false]
  exact wpAny_pure q

theorem iop_own (B : BinF X.K C f .Add) (N : NoIn X.K C) (F : FnOk X.prog X.w X.K X.mg X.base CX k f fd ps sp) (hr : Room k X.A) (hb : Binds X.K fd ps []) (hx : Passes CX X E) : OpR X (inplaceOp .Add) (fun x y H Q => Ins C H x ∧ Ins C H y ∧ sp [x, y] H Q E) := by
  intro pins s σ H x y v u Q I rx ry h
  obtain ⟨⟨a, dx, fs, rfl, ha⟩, ⟨b, dy, gs, rfl, hb'⟩, q⟩ := h
  obtain rfl : v = Value.ref a := rx
  obtain rfl : u = Value.ref b := ry
  obtain ⟨mA, J, _⟩ := ins_get I.hok ha
  obtain ⟨od, J, _⟩ := J.look
  obtain ⟨mB, J', _⟩ := ins_get I.hok hb'
  obtain ⟨od', J', _⟩ := J'.look
  have X0 := I.kIn
  obtain ⟨cd, rest, hcd, hm⟩ := PySem.W.ksp_first B.sf
  have one := PySem.W.ksp_try (M := model X.prog X.w) (A := X.A) (E := X.xe) (Q := EP X pins σ Q) X0 J B.at_ B.fn (wpAny_mono (run_fnA (us := [.ref a, .ref b]) (vs := [.ref a, .ref b]) F hr rfl hb hx I (.cons rfl (.cons rfl .nil)) q) (fun _ _ z => cmpBack_EP z) fun _ _ z => z)
  unfold inplaceOp
  refine wpAny_holding ?_
  refine wpAny_bind (J.type.here ?_)
  refine wpAny_bind ((fillsI_no X0 N).here ?_)
  simp only [Bool.false_eq_true, if_false]
  refine wpAny_bind (m := binaryOp1 "add" (.ref a) (.ref b)) ?_
  unfold binaryOp1
  refine wpAny_bind (J.type.here (wpAny_bind (J'.type.here (wpAny_bind ((PySem.W.fills_K X0 hcd hm B.at_).here ?_)))))
  simp only [beq_self_eq_true, if_true]
  refine wpAny_bind (wpAny_pure ?_)
  simp only [Bool.and_false, Bool.false_eq_true, if_false, Bool.false_and]
  refine wpAny_bind (wpAny_pure ?_)
  simp only [Bool.false_eq_true, if_false]
  refine wpAny_bind (m := tryMethod (.ref a) _ (.ref b)) (wpAny_mono one (fun r s' z => ?_) fun _ _ z => z)
  obtain ⟨v, rfl, hq⟩ := z
  exact wpAny_pure (wpAny_pure hq)

theorem iop_ref (R : RefF X.K C f .Add) (N : NoIn X.K C) (F : FnOk X.prog X.w X.K X.mg X.base CX k f fd ps sp) (hr : Room k X.A) (hb : Binds X.K fd ps []) (hx : Passes CX X E) : OpR X (inplaceOp .Add) (rRef C sp E) := by
  intro pins s σ H x y v u Q I rx ry h
  obtain ⟨⟨i, rfl⟩, ⟨a, dx, fs, rfl, ha⟩, q⟩ := h
  obtain ⟨t, rfl⟩ := (show ∃ t, v = Value.int i t from rx)
  obtain rfl : u = Value.ref a := ry
  obtain ⟨mA, J, _⟩ := ins_get I.hok ha
  obtain ⟨od, J, _⟩ := J.look
  obtain ⟨m, hF⟩ := I.fr
  have one := bin1_refl (Q := EP X pins σ Q) (E := X.xe) (A := X.A) (prog := X.prog) (w := X.w) (t := t) int_add R hF I.ok.mod.kin J rfl
    (wpAny_mono (run_fnA (us := [.ref a, .int i t]) (vs := [.ref a, .int i]) F hr rfl hb hx I (.cons rfl (.cons ⟨_, rfl⟩ .nil)) q) (fun _ _ z => cmpBack_EP z) fun _ _ z => z)
  have X0 := I.kIn
  unfold inplaceOp
  refine wpAny_holding ?_
  refine wpAny_bind (wpAny_typeOf (typeIs_int s i t) ?_)
  have L1 : PySem.W.Looks (model X.prog X.w) s.heap (fillsInplaceSlot (.type "int") "add" true) false := by
    intro A Q E s k q
    unfold fillsInplaceSlot
    refine wpAny_bind ((PySem.W.looks_findIn (X0.keeps k) N.noI).here ?_)
    exact wpAny_pure q
  refine wpAny_bind (L1.here ?_)
  simp only [Bool.false_eq_true, if_false]
  refine wpAny_bind (m := binaryOp1 "add" (.int i t) (.ref a)) (wpAny_mono one (fun r s' z => ?_) fun _ _ z => z)
  obtain ⟨v, rfl, hq⟩ := z
  exact wpAny_pure hq
end
end Fx

set_option linter.all false
/-! Fractions in lowest terms, plain Lean. -/
namespace FM
/-- the common divisor with the sign of the bottom -/
def sg (b : Int) (g : Nat) : Int := if b < 0 then -(g : Int) else (g : Int)
def low (a b : Int) : Int × Int := (a.fdiv (sg b (Nat.gcd a.natAbs b.natAbs)), b.fdiv (sg b (Nat.gcd a.natAbs b.natAbs)))
structure Low (p : Int × Int) : Prop where
  pos : 0 < p.2
  cop : Nat.gcd p.1.natAbs p.2.natAbs = 1
theorem sg_ne {a b : Int} (h : b ≠ 0) : sg b (Nat.gcd a.natAbs b.natAbs) ≠ 0 := by
  have g : 0 < Nat.gcd a.natAbs b.natAbs := Nat.gcd_pos_of_pos_right _ (by omega)
  unfold sg
  split <;> omega
theorem sg_abs (b : Int) (g : Nat) : (sg b g).natAbs = g := by
  unfold sg
  split <;> omega
theorem fdiv_exact {a c : Int} (h : c ≠ 0) (d : c ∣ a) : a.fdiv c * c = a := by
  obtain ⟨k, rfl⟩ := d
  rw [Int.mul_comm c k, Int.mul_fdiv_cancel _ h]
theorem sg_dvd_l (a b : Int) : sg b (Nat.gcd a.natAbs b.natAbs) ∣ a := by
  rw [← Int.natAbs_dvd_natAbs, sg_abs]
  exact Nat.gcd_dvd_left _ _
theorem sg_dvd_r (a b : Int) : sg b (Nat.gcd a.natAbs b.natAbs) ∣ b := by
  rw [← Int.natAbs_dvd_natAbs, sg_abs]
  exact Nat.gcd_dvd_right _ _
theorem low_l {a b : Int} (h : b ≠ 0) : (low a b).1 * sg b (Nat.gcd a.natAbs b.natAbs) = a := fdiv_exact (sg_ne h) (sg_dvd_l a b)
theorem low_r {a b : Int} (h : b ≠ 0) : (low a b).2 * sg b (Nat.gcd a.natAbs b.natAbs) = b := fdiv_exact (sg_ne h) (sg_dvd_r a b)
theorem low_low {a b : Int} (h : b ≠ 0) : Low (low a b) := by
  have e1 := low_l (a := a) h
  have e2 := low_r (a := a) h
  have hg := sg_ne (a := a) h
  have ha := sg_abs b (Nat.gcd a.natAbs b.natAbs)
  have gp : 0 < Nat.gcd a.natAbs b.natAbs := Nat.gcd_pos_of_pos_right _ (by omega)
  refine ⟨?_, ?_⟩
  · by_cases hb : b < 0
    · have e3 : sg b (Nat.gcd a.natAbs b.natAbs) < 0 := by
        unfold sg
        rw [if_pos hb]
        omega
      rcases Int.lt_or_le 0 (low a b).2 with z | z
      · exact z
      · have := Int.mul_nonneg_of_nonpos_of_nonpos z (Int.le_of_lt e3)
        omega
    · have e3 : 0 < sg b (Nat.gcd a.natAbs b.natAbs) := by
        unfold sg
        rw [if_neg hb]
        omega
      rcases Int.lt_or_le 0 (low a b).2 with z | z
      · exact z
      · have := Int.mul_nonpos_of_nonpos_of_nonneg z (Int.le_of_lt e3)
        omega
  · have h1 : a.natAbs = (low a b).1.natAbs * Nat.gcd a.natAbs b.natAbs := by
      have := congrArg Int.natAbs e1
      rw [Int.natAbs_mul, ha] at this
      exact this.symm
    have h2 : b.natAbs = (low a b).2.natAbs * Nat.gcd a.natAbs b.natAbs := by
      have := congrArg Int.natAbs e2
      rw [Int.natAbs_mul, ha] at this
      exact this.symm
    have h3 : Nat.gcd ((low a b).1.natAbs * Nat.gcd a.natAbs b.natAbs) ((low a b).2.natAbs * Nat.gcd a.natAbs b.natAbs) = Nat.gcd a.natAbs b.natAbs := by
      rw [← h1, ← h2]
    rw [Nat.gcd_mul_right] at h3
    exact Nat.eq_of_mul_eq_mul_right gp (by rw [h3, Nat.one_mul])
/-- the form is one -/
theorem low_uniq {p : Int × Int} {c : Int} (h : Low p) (hc : c ≠ 0) : low (p.1 * c) (p.2 * c) = p := by
  have hp := h.pos
  have e : Nat.gcd (p.1 * c).natAbs (p.2 * c).natAbs = c.natAbs := by
    rw [Int.natAbs_mul, Int.natAbs_mul, Nat.gcd_mul_right, h.cop, Nat.one_mul]
  have e2 : sg (p.2 * c) c.natAbs = c := by
    unfold sg
    by_cases hn : c < 0
    · rw [if_pos (Int.mul_neg_of_pos_of_neg hp hn)]
      omega
    · have := Int.mul_nonneg (Int.le_of_lt hp) (show 0 ≤ c by omega)
      rw [if_neg (by omega)]
      omega
  unfold low
  rw [e, e2, Int.mul_fdiv_cancel _ hc, Int.mul_fdiv_cancel _ hc]
theorem low_self {p : Int × Int} (h : Low p) : low p.1 p.2 = p := by
  have := low_uniq h (c := 1) (by decide)
  rwa [Int.mul_one, Int.mul_one] at this
theorem low_scale {a b s : Int} (hb : b ≠ 0) (hs : s ≠ 0) : low (a * s) (b * s) = low a b := by
  have h := low_low (a := a) hb
  have g := sg_ne (a := a) hb
  have e := low_uniq h (c := sg b (Nat.gcd a.natAbs b.natAbs) * s) (Int.mul_ne_zero g hs)
  rw [← Int.mul_assoc, ← Int.mul_assoc, low_l hb, low_r hb] at e
  exact e
theorem low_int (n : Int) : low n 1 = (n, 1) := low_self (p := (n, 1)) ⟨Int.one_pos, by simp⟩
theorem lowInt (n : Int) : Low (n, 1) := ⟨Int.one_pos, by simp⟩
theorem low_cross {p q : Int × Int} (hp : Low p) (hq : Low q) : (p = q) ↔ p.1 * q.2 - q.1 * p.2 = 0 := by
  constructor
  · rintro rfl
    exact Int.sub_self _
  · intro h
    have e1 := low_uniq hp (c := q.2) (by have := hq.pos; omega)
    have e2 := low_uniq hq (c := p.2) (by have := hp.pos; omega)
    have hh : p.1 * q.2 = q.1 * p.2 := by omega
    exact (e1.symm.trans (by rw [hh, Int.mul_comm p.2 q.2])).trans e2
theorem low_neg {p : Int × Int} (h : Low p) : Low (-p.1, p.2) := ⟨h.pos, by rw [Int.natAbs_neg]; exact h.cop⟩
theorem low_abs {p : Int × Int} (h : Low p) : Low ((p.1.natAbs : Int), p.2) := ⟨h.pos, by simpa using h.cop⟩
theorem fdiv_scale_pos {a b g : Int} (hg : 0 < g) (hb : 0 < b) : (a * g).fdiv (b * g) = a.fdiv b := by
  rw [Int.fdiv_eq_ediv_of_nonneg _ (Int.le_of_lt (Int.mul_pos hb hg)), Int.fdiv_eq_ediv_of_nonneg _ (Int.le_of_lt hb)]
  exact Int.mul_ediv_mul_of_pos_left a b hg
theorem fdiv_scale {a b g : Int} (hg : g ≠ 0) (hb : b ≠ 0) : (a * g).fdiv (b * g) = a.fdiv b := by
  have key : ∀ (a b g : Int), 0 < g → b ≠ 0 → (a * g).fdiv (b * g) = a.fdiv b := by
    intro a b g hg hb
    rcases Int.lt_or_lt_of_ne hb with h | h
    · rw [← Int.neg_fdiv_neg, ← Int.neg_mul, ← Int.neg_mul, fdiv_scale_pos hg (by omega), Int.neg_fdiv_neg]
    · exact fdiv_scale_pos hg h
  rcases Int.lt_or_lt_of_ne hg with h | h
  · rw [← Int.neg_fdiv_neg, ← Int.mul_neg, ← Int.mul_neg]
    exact key a b (-g) (by omega) hb
  · exact key a b g h hb
theorem low_floor {a b : Int} (hb : b ≠ 0) : (low a b).1.fdiv (low a b).2 = a.fdiv b := by
  have h := low_low (a := a) hb
  have e := fdiv_scale (a := (low a b).1) (b := (low a b).2) (g := sg b (Nat.gcd a.natAbs b.natAbs)) (sg_ne hb) (by have := h.pos; omega)
  rw [low_l hb, low_r hb] at e
  exact e.symm
/-- powers of coprimes -/
theorem low_pow {p : Int × Int} (h : Low p) (k : Nat) : Low (p.1 ^ k, p.2 ^ k) := by
  refine ⟨Int.pow_pos h.pos, ?_⟩
  have e : ∀ (x : Int), (x ^ k).natAbs = x.natAbs ^ k := fun x => Int.natAbs_pow x k
  show Nat.gcd (p.1 ^ k).natAbs (p.2 ^ k).natAbs = 1
  rw [e, e]
  exact Nat.Coprime.pow k k h.cop
/-- the values of sums, differences, products, quotients -/
def fadd (p q : Int × Int) : Int × Int := low (p.1 * q.2 + q.1 * p.2) (p.2 * q.2)
def fsub (p q : Int × Int) : Int × Int := low (p.1 * q.2 - q.1 * p.2) (p.2 * q.2)
def fmul (p q : Int × Int) : Int × Int := low (p.1 * q.1) (p.2 * q.2)
def fover (p q : Int × Int) : Int × Int := low (p.1 * q.2) (p.2 * q.1)
def fflo (p q : Int × Int) : Int := (p.1 * q.2).fdiv (p.2 * q.1)
/-- a difference may be taken with the second one out of lowest terms -/
theorem fsub_low {p : Int × Int} {a b : Int} (hp : Low p) (hb : b ≠ 0) : fsub p (low a b) = low (p.1 * b - a * p.2) (p.2 * b) := by
  have g := sg_ne (a := a) hb
  have h := low_low (a := a) hb
  unfold fsub
  rw [← low_scale (a := p.1 * (low a b).2 - (low a b).1 * p.2) (b := p.2 * (low a b).2) (s := sg b (Nat.gcd a.natAbs b.natAbs)) (Int.mul_ne_zero (by have := hp.pos; omega) (by have := h.pos; omega)) g]
  have e1 := low_l (a := a) hb
  have e2 := low_r (a := a) hb
  rw [Int.sub_mul, Int.mul_assoc, e2, Int.mul_right_comm, e1, Int.mul_assoc, e2]
theorem log2_lt {n : Int} {k : Nat} (h : n.natAbs < 2 ^ k) (hk : 0 < k) : n.natAbs.log2 < k := by
  by_cases z : n.natAbs = 0
  · rw [z]
    simpa using hk
  · exact (Nat.log2_lt z).mpr h
/-- a part of lowest terms is no greater -/
theorem low_le1 {a b : Int} (h : b ≠ 0) : (low a b).1.natAbs ≤ a.natAbs := by
  have e1 := congrArg Int.natAbs (low_l (a := a) h)
  have hg := sg_ne (a := a) h
  rw [Int.natAbs_mul] at e1
  rw [← e1]
  exact Nat.le_mul_of_pos_right _ (by omega)
theorem low_le2 {a b : Int} (h : b ≠ 0) : (low a b).2.natAbs ≤ b.natAbs := by
  have e1 := congrArg Int.natAbs (low_r (a := a) h)
  have hg := sg_ne (a := a) h
  rw [Int.natAbs_mul] at e1
  rw [← e1]
  exact Nat.le_mul_of_pos_right _ (by omega)
end FM

set_option Elab.async false
set_option linter.all false
set_option maxRecDepth 100000
set_option maxHeartbeats 4000000
namespace Fx
open PySem PySem.Spec PyProof.Rows L2 FM
section
variable {X : Cx}
/-- X(), X an own exception class without own __init__ -/
theorem pmk_own0 {C : Addr} {bmB : List Value} {B newId initId : String} {x : Str} {p pos : Pos} (F : ExcBaseFacts B newId initId bmB) (q : PySem.W.excIn X.K C bmB newId = true) (gC : X.mg x = some (.ref C))
    (kC : PySem.W.keepIn X.K (.ref C) = true) (r : Raises X (.ref C)) (hg : Gl X x) (hdb : (x == ("__debug__" : Str)) = false := by decide) :
    PMk X (.Call (.Name x p) [] [] pos) (fun σ H Q => Q (.ref C) none H) := by
  intro pins s σ H Q I h
  refine wpAny_Call_Name_kw (ld_glob I hg gC ?_ hdb)
  refine PySem.W.callWith_K0 I.kIn kC ?_
  show wpAny _ _ (call (.ref C) []) _ _ _
  obtain ⟨bm, N, nm, qn, bs, hdct, sn, sub, ab, col, dd, k0, k1, k2, k3, k5, mN, hC, hN, hni, T⟩ := exc_obj I.kIn q
  refine wpAny_call_exc_subT F T hC hN hni (fun h' e hm => ?_) (by show 0 ≤ sizeLine; exact Nat.zero_le _)
  exact mk_of I hm r h (I.hok.gone hm.new)
/-- // by a divisor of either sign -/
def CDivZ (_ j : Int) : Prop := j ≠ 0 ∧ j.natAbs.log2 < 9000
theorem op_fdivZ : OpR X (binaryOp .FloorDiv) (rI CDivZ fun i j => .int (i.fdiv j)) := opI fun i j _ _ _ _ _ hc q => floordiv_int hc.1 q (.inl (PyProof.noPylong_of_log2 hc.2))
end
/-! ### the text -/
def top (i : Nat) : Stmt := PySem.Challenge.pw_rodwebs_k40_next_stretch.main.body.getD i (.Pass ⟨0, 0, 0, 0⟩)
abbrev sInit : Stmt := inClass (top 11) 1
/-! ### a Frac in the heap -/
def kN : Str := "num"
def kD : Str := "den"
def fr (p : Int × Int) : List (Str × V) := [("num", .int p.1), ("den", .int p.2)]
def FracAt (C : Addr) (H : Hp) (a : Addr) (p : Int × Int) : Prop := ∃ dx, H a = some (.ins C dx (fr p))
theorem FracAt.ext {C : Addr} {H H' : Hp} {a : Addr} {p : Int × Int} (h : FracAt C H a p) (e : Ext H H') : FracAt C H' a p := let ⟨dx, h⟩ := h; ⟨dx, e _ _ h⟩
theorem FracAt.ins {C : Addr} {H : Hp} {a : Addr} {p : Int × Int} (h : FracAt C H a p) : Ins C H (.ref a) := let ⟨dx, h⟩ := h; ⟨a, dx, _, rfl, h⟩
theorem ndk : ¬ (("num" : Str) = "den") := by decide +kernel
theorem fr_num (p : Int × Int) : (fr p).lookup ("num" : Str) = some (.int p.1) := by simp [fr, List.lookup]
theorem fr_den (p : Int × Int) : (fr p).lookup ("den" : Str) = some (.int p.2) := by
  have q : (("den" : Str) == ("num" : Str)) = false := by decide +kernel
  simp [fr, List.lookup, q]
theorem fr_no (p : Int × Int) {m : Str} (h1 : (m == ("num" : Str)) = false) (h2 : (m == ("den" : Str)) = false) : (fr p).lookup m = none := by simp [fr, List.lookup, h1, h2]
/-- sizes -/
def Bd (n : Int) : Prop := n.natAbs < 2 ^ 4000
def Bi (n : Int) : Prop := n.natAbs < 2 ^ 8900
theorem Bi.log {n : Int} (h : Bi n) : n.natAbs.log2 < 9000 := Nat.lt_of_lt_of_le (log2_lt h (by decide)) (by decide)
/-- where the things of the text lie -/
structure Adr where
  (C Z T B W init add radd sub rsub mul rmul flo rflo mod rmod pow neg abs bool eq lt le gt ge str over of_ read isnum wq rdb pOf pRead : Addr)
/-- what the walk asks of the text -/
structure FT (K : PySem.W.Frag) (mg : Str → Option Value) (A : Adr) : Prop where
  cl : Cls K A.C
  nN : NoAttr K A.C "num"
  nD : NoAttr K A.C "den"
  mgC : mg "Frac" = some (.ref A.C)
  gcd : mg "gcd" = some (.builtin "math.gcd")
  gZ : mg "DivisionByZero" = some (.ref A.Z)
  xZ : PySem.W.excIn K A.Z [.type "ValueError", .type "Exception", .type "BaseException", .type "object"] "ValueError.__new__" = true
  kZ : PySem.W.keepIn K (.ref A.Z) = true
  bZ : PySem.W.subIn K (.ref A.Z) (.type "BaseException") = some true
  tZ : PySem.W.typeIn K (.ref A.Z) = some (.type "type")
  isi : mg "isinstance" = none
  int0 : mg "int" = none
  ca : PySem.W.findIn K (.ref A.C) "__class__" = some (some (.builtin "object.__class__"))
  cg : PySem.W.specialIn K (.builtin "object.__class__") "__get__" = some (some (.builtin "getset_descriptor.__get__"))
  ct : PySem.W.takesIn K (.builtin "object.__class__") = some true
  cm : PySem.W.mroIn K A.C (.type "object") = some true
  isC : PySem.W.isClsIn K A.C = true
  tC : PySem.W.typeIn K (.ref A.C) = some (.type "type")
  sub1 : PySem.W.subIn K (.ref A.C) (.type "int") = some false
  sub2 : PySem.W.subIn K (.type "int") (.ref A.C) = some false
  sf : PySem.W.selfFirst K A.C = true
  gIs : mg "is_number" = some (.ref A.isnum)
  gWq : mg "_whole_quotient" = some (.ref A.wq)
/-- a number: a Frac in the heap, or an int -/
def Num (A : Adr) (H : Hp) (y : V) (q : Int × Int) : Prop := (∃ b, y = .ref b ∧ FracAt A.C H b q) ∨ (y = .int q.1 ∧ q.2 = 1)
theorem Num.ext {A : Adr} {H H' : Hp} {y : V} {q : Int × Int} (h : Num A H y q) (e : Ext H H') : Num A H' y q := h.elim (fun ⟨b, e1, f⟩ => .inl ⟨b, e1, f.ext e⟩) .inr
theorem Num.of {A : Adr} {H : Hp} {b : Addr} {q : Int × Int} (h : FracAt A.C H b q) : Num A H (.ref b) q := .inl ⟨b, rfl, h⟩
theorem Num.int {A : Adr} {H : Hp} (n : Int) : Num A H (.int n) (n, 1) := .inr ⟨rfl, rfl⟩
/-- a fraction in lowest terms, of a size -/
structure Okf (p : Int × Int) : Prop where
  low : Low p
  b1 : Bd p.1
  b2 : Bd p.2
theorem ext1 {H : Hp} {p : Addr} {o : HO} (h : H p = none) : Ext H (upd H p o) := fun a u e => by rw [upd_ne (ne_of_none e h)]; exact e
section
variable {K : PySem.W.Frag} {mg : Str → Option Value} {A : Adr} {H : Hp}
theorem FT.tyF (T : FT K mg A) {a : Addr} {p : Int × Int} (h : FracAt A.C H a p) : TyX K H (.ref a) (.ref A.C) := let ⟨_, h⟩ := h; .base (.ins h T.cl T.ca T.cg T.ct T.cm)
theorem tyI (n : Int) : TyX K H (.int n) (.type "int") := .base (.int n)
theorem kit_meta_int : PySem.W.kitMeta "int" = true := by decide +kernel
theorem kit_II : PySem.W.kitOne K (.type "int") (.type "int") = some true := by unfold PySem.W.kitOne; rw [if_pos (by simp)]
theorem kit_CC : PySem.W.kitOne K (.ref A.C) (.ref A.C) = some true := by unfold PySem.W.kitOne; rw [if_pos (by simp)]
theorem FT.kit_CI (T : FT K mg A) : PySem.W.kitOne K (.ref A.C) (.type "int") = some false := by
  unfold PySem.W.kitOne PySem.W.kitCls
  rw [if_neg (by intro z; cases beq_iff_eq.mp z)]
  simp only [kit_meta_int, if_true]
  exact T.sub1
theorem FT.kit_IC (T : FT K mg A) : PySem.W.kitOne K (.type "int") (.ref A.C) = some false := by
  unfold PySem.W.kitOne PySem.W.kitCls
  rw [if_neg (by intro z; cases beq_iff_eq.mp z)]
  have e : (PySem.W.clsIn K A.C).isSome = true := T.isC
  simp only [e, T.tC, beq_self_eq_true, Bool.and_self, if_true]
  exact T.sub2
end
/-- a def of the text with its promise -/
structure Cal (P : Program) (w : World) (K : PySem.W.Frag) (mg : Str → Option Value) (base : Heap) (k : Nat) (f : Addr) (ps : List Str) (sp : Sp) : Prop where
  ex : ∃ fd, FnOk P w K mg base (L2.CX P w) k f fd ps sp ∧ Binds K fd ps []
  kp : PySem.W.keepIn K (.ref f) = true
section
variable {P : Program} {w : World} {K : PySem.W.Frag} {mg : Str → Option Value} {base : Heap} {A : Adr}
/-- Frac.__init__: the parts in lowest terms, or DivisionByZero -/
def spInit (C Z : Addr) : Sp := fun vs H Q E => ∃ (x dx : Addr) (n d : Int), vs = [.ref x, .int n, .int d] ∧ H x = some (.ins C dx []) ∧ Bi d ∧
  (d = 0 → E (.ref Z) none H) ∧ (d ≠ 0 → Q .non (upd H x (.ins C dx (fr (low n d)))))
theorem scInit : FnScope ["self", "num", "den", "common"] ["self", "num", "den"] (defScope sInit) := ⟨rfl, rfl, rfl, by decide +kernel, rfl, by decide +kernel, by decide +kernel⟩
theorem ok_init {f : Addr} {fd : FuncData} (F : FunD K "__init__" "Frac.__init__" (defArgs sInit) (defBody sInit) (defScope sInit) [.int 0, .int 1] [] f fd) (T : FT K mg A) : FnOk P w K mg base (L2.CX P w) 1 f fd ["self", "num", "den"] (spInit A.C A.Z) := by
  refine F.ok scInit (fun vs H Q E h => ?_) (fun cdv AA outer s H vs Q E hr h => ?_)
  · obtain ⟨x, dx, n, d, rfl, _⟩ := h
    rfl
  · obtain ⟨x, dx, n, d, rfl, hx, hd, k0, k1⟩ := h
    refine ⟨_, pss_cons (ps_if (pt_cmpR L2.op_eq (pv 2) pe_int (nomark _)) (pss_one (ps_raise rfl (takes_of rfl rfl rfl rfl) (pmk_own0 PySem.F.excBase_ValueError T.xZ T.gZ T.kZ (raises_own T.bZ T.tZ) rfl))) pss_nil)
      (pss_cons (ps_set (i := 3) scInit.nd rfl (Or.inl rfl) (pe_callBfun cr_gcd (by rfl) T.gcd (pa_cons (pv 1) (pa_cons (pv 2) pa_nil))))
      (pss_cons (ps_if (pt_cmpR L2.op_lt (pv 2) pe_int (nomark _)) (pss_one (ps_set (i := 3) scInit.nd rfl (Or.inl rfl) (pe_un L2.un_neg (pv 3)))) pss_nil)
      (pss_cons (ps_fld (pv 0) (pe_op op_fdivZ (pv 1) (pv 3)) rfl)
      (pss_one (ps_fld (pv 0) (pe_op op_fdivZ (pv 2) (pv 3)) rfl))))), ?_⟩
    refine ⟨_, rfl, rfl, _, rfl, ?_⟩
    by_cases hz : d = 0
    · subst hz
      refine iteT ?_
      exact k0 rfl
    · have e0 : decide (V.int d = V.int 0) = false := decide_eq_false (by intro z; injection z with z; exact hz z)
      rw [e0]
      refine iteF ?_
      refine ⟨_, rfl, _, rfl, n, d, rfl, ?_⟩
      have fin : ∀ (t : Int) , t = sg d (Nat.gcd n.natAbs d.natAbs) →
          (tSeq (sFld K (tVar 0) (tOp (rI CDivZ fun i j => .int (i.fdiv j)) (tVar 1) (tVar 3)) "num") (sFld K (tVar 0) (tOp (rI CDivZ fun i j => .int (i.fdiv j)) (tVar 2) (tVar 3)) "den")) { nx := fun _ H' => Q .non H', rt := Q } [some (.ref x), some (.int n), some (.int d), some (.int t)] H := by
        rintro t rfl
        have g := sg_ne (a := n) hz
        have gl : (sg d (Nat.gcd n.natAbs d.natAbs)).natAbs.log2 < 9000 := by
          rw [sg_abs]
          refine Nat.lt_of_lt_of_le (log2_lt (n := ((Nat.gcd n.natAbs d.natAbs : Nat) : Int)) (k := 8900) ?_ (by decide)) (by decide)
          exact Nat.lt_of_le_of_lt (Nat.gcd_le_right _ (by omega)) hd
        refine ⟨_, rfl, _, rfl, _, _, rfl, rfl, ⟨g, gl⟩, _, rfl, x, A.C, dx, [], rfl, hx, T.cl, T.nN, (by show 0 < 1000; decide), ?_⟩
        refine ⟨_, rfl, _, rfl, _, _, rfl, rfl, ⟨g, gl⟩, _, rfl, x, A.C, dx, _, rfl, upd_same, T.cl, T.nD, (by show 1 < 1000; decide), ?_⟩
        rw [upd_upd]
        exact k1 hz
      refine ⟨_, rfl, _, _, rfl, rfl, _, rfl, ?_⟩
      by_cases hn : d < 0
      · rw [decide_eq_true hn]
        refine iteT ?_
        refine ⟨_, rfl, _, rfl, ?_⟩
        exact fin _ (by unfold sg; rw [if_pos hn])
      · rw [decide_eq_false hn]
        refine iteF ?_
        exact fin _ (by unfold sg; rw [if_neg hn])

/-- Frac is made: what a call of it needs -/
structure MkF (P : Program) (w : World) (K : PySem.W.Frag) (mg : Str → Option Value) (base : Heap) (A : Adr) : Prop where
  mkc : Mk K A.C A.init
  ex : ∃ fd, FnOk P w K mg base (L2.CX P w) 1 A.init fd ["self", "num", "den"] (spInit A.C A.Z) ∧ Binds K fd ["self", "num", "den"] [] ∧ (∃ ds, Vals [V.int 1] ds ∧ Binds K fd ["self", "num", "den"] ds) ∧ (∃ ds, Vals [V.int 0, V.int 1] ds ∧ Binds K fd ["self", "num", "den"] ds)
theorem mkF {fd : FuncData} (F : FunD K "__init__" "Frac.__init__" (defArgs sInit) (defBody sInit) (defScope sInit) [.int 0, .int 1] [] A.init fd) (M : Mk K A.C A.init) (T : FT K mg A) : MkF P w K mg base A := by
  refine ⟨M, fd, ok_init F T, ?_, ?_, ?_⟩
  · obtain ⟨ds, v, b⟩ := F.binds1 (ps := ["self", "num", "den"]) 3 2 (by simp) rfl fun T kV doc pm an cdv ct us its l1 l2 => match us, its, l1, l2 with | [_, _, _], [_, _], _, _ => ⟨_, rfl, rfl⟩
    cases v
    exact b
  · exact F.binds1 (ps := ["self", "num", "den"]) 2 1 (by simp) rfl fun T kV doc pm an cdv ct us its l1 l2 => match us, its, l1, l2 with | [_, _], [_, _], _, _ => ⟨_, rfl, rfl⟩
  · exact F.binds1 (ps := ["self", "num", "den"]) 1 0 (by simp) rfl fun T kV doc pm an cdv ct us its l1 l2 => match us, its, l1, l2 with | [_], [_, _], _, _ => ⟨_, rfl, rfl⟩
end
section
variable {X : Cx} {A : Adr} {e e2 : Expr} {p pos : Pos} {t : TA}
theorem made_ext {H : Hp} {x dx : Addr} {o1 o2 o3 : HO} (hx : H x = none) (hdx : H dx = none) : Ext H (upd (upd (upd H dx o1) x o2) x o3) := fun a u e => by
  rw [upd_ne (ne_of_none e hx), upd_ne (ne_of_none e hx), upd_ne (ne_of_none e hdx)]
  exact e
/-- Frac(n, d), d not 0 -/
def tFr (A : Adr) (t : TA) : TE := fun σ H Q => t σ H fun vs H1 => ∃ n d, vs = [.int n, .int d] ∧ d ≠ 0 ∧ Bi d ∧ ∀ r H', Ext H1 H' → FracAt A.C H' r (low n d) → Q (.ref r) H'
theorem pe_frac2 (m : MkF X.prog X.w X.K X.mg X.base A) (T : FT X.K X.mg A) (hr : Room 2 X.A) (hg : Gl X "Frac") (ha : PA X [e, e2] t)
    (he : starEach [e, e2] X.env = (false, eval e X.env) :: starEach [e2] X.env := by rfl) (hpl : (backTo pos (starEach [e2] X.env)).any (·.1) = false := by rfl) : PE X (.Call (.Name "Frac" p) [e, e2] [] pos) (tFr A t) := by
  obtain ⟨fd, F, hb, _⟩ := m.ex
  refine ⟨fun pins s σ H Q I h => ?_⟩
  refine wpAny_Call_Name_kw (ld_glob I hg T.mgC ?_ (by decide))
  refine PySem.W.callWith_K (h₀ := X.base) I.ok.mod.kin m.mkc.kp (thn (ha.run pos pins s σ H _ I h) fun us s1 ⟨vs, H1, I1, r, q⟩ => ⟨I1.kIn, ?_⟩) he hpl
  obtain ⟨n, d, rfl, hd, bd, k⟩ := q
  exact run_make m.mkc F hr hb .nil (E := E0) passL I1 r fun x dx nx ndx nex => ⟨x, dx, n, d, rfl, upd_same, bd, fun z => absurd z hd, fun _ => ⟨rfl, k x _ (made_ext nx ndx) ⟨dx, upd_same⟩⟩⟩
/-- Frac(n) -/
def tFr1 (A : Adr) (t : TA) : TE := fun σ H Q => t σ H fun vs H1 => ∃ n, vs = [.int n] ∧ ∀ r H', Ext H1 H' → FracAt A.C H' r (n, 1) → Q (.ref r) H'
theorem Bi_one : Bi 1 := by unfold Bi; exact Nat.one_lt_two_pow (by decide)
theorem pe_frac1 (m : MkF X.prog X.w X.K X.mg X.base A) (T : FT X.K X.mg A) (hr : Room 2 X.A) (hg : Gl X "Frac") (ha : PA X [e] t)
    (he : starEach [e] X.env = (false, eval e X.env) :: starEach [] X.env := by rfl) (hpl : (backTo pos (starEach [] X.env)).any (·.1) = false := by rfl) : PE X (.Call (.Name "Frac" p) [e] [] pos) (tFr1 A t) := by
  obtain ⟨fd, F, _, ⟨ds, hv, hb⟩, _⟩ := m.ex
  refine ⟨fun pins s σ H Q I h => ?_⟩
  refine wpAny_Call_Name_kw (ld_glob I hg T.mgC ?_ (by decide))
  refine PySem.W.callWith_K (h₀ := X.base) I.ok.mod.kin m.mkc.kp (thn (ha.run pos pins s σ H _ I h) fun us s1 ⟨vs, H1, I1, r, q⟩ => ⟨I1.kIn, ?_⟩) he hpl
  obtain ⟨n, rfl, k⟩ := q
  exact run_make m.mkc F hr hb hv (E := E0) passL I1 r fun x dx nx ndx nex => ⟨x, dx, n, 1, rfl, upd_same, Bi_one, fun z => absurd z (by decide), fun _ => ⟨rfl, k x _ (made_ext nx ndx) ⟨dx, by rw [low_int]; exact upd_same⟩⟩⟩
/-- Frac() -/
def tFr0 (A : Adr) : TE := fun σ H Q => ∀ r H', Ext H H' → FracAt A.C H' r (0, 1) → Q (.ref r) H'
theorem pe_frac0 (m : MkF X.prog X.w X.K X.mg X.base A) (T : FT X.K X.mg A) (hr : Room 2 X.A) (hg : Gl X "Frac") : PE X (.Call (.Name "Frac" p) [] [] pos) (tFr0 A) := by
  obtain ⟨fd, F, _, _, ⟨ds, hv, hb⟩⟩ := m.ex
  refine ⟨fun pins s σ H Q I h => ?_⟩
  refine wpAny_Call_Name_kw (ld_glob I hg T.mgC ?_ (by decide))
  exact PySem.W.callWith_K0 I.kIn m.mkc.kp (run_make (us := []) m.mkc F hr hb hv (E := E0) passL I .nil fun x dx nx ndx nex => ⟨x, dx, 0, 1, rfl, upd_same, Bi_one, fun z => absurd z (by decide), fun _ => ⟨rfl, h x _ (made_ext nx ndx) ⟨dx, by rw [low_int]; exact upd_same⟩⟩⟩)
end
end Fx

set_option Elab.async false
set_option linter.all false
set_option maxRecDepth 100000
set_option maxHeartbeats 4000000
set_option exponentiation.threshold 20000
namespace Fx
open PySem PySem.Spec PyProof.Rows L2 FM
abbrev sIsNum : Stmt := top 12
abbrev sWq : Stmt := top 14
abbrev sAdd : Stmt := inClass (top 11) 2
abbrev sRadd : Stmt := inClass (top 11) 3
abbrev sSub : Stmt := inClass (top 11) 4
abbrev sRsub : Stmt := inClass (top 11) 5
abbrev sMul : Stmt := inClass (top 11) 6
abbrev sRmul : Stmt := inClass (top 11) 7
abbrev sNeg : Stmt := inClass (top 11) 13
abbrev sOf : Stmt := inClass (top 11) 23
theorem Bd.add {a b : Int} {m n k : Nat} (ha : a.natAbs < 2 ^ m) (hb : b.natAbs < 2 ^ n) (h1 : m < k) (h2 : n < k) : (a + b).natAbs < 2 ^ k := by
  have x := Nat.pow_le_pow_right (show 0 < 2 by decide) (show m ≤ k - 1 by omega)
  have y := Nat.pow_le_pow_right (show 0 < 2 by decide) (show n ≤ k - 1 by omega)
  have z : 2 ^ k = 2 ^ (k - 1) + 2 ^ (k - 1) := by
    rw [← Nat.two_mul, ← Nat.pow_succ']
    congr 1
    omega
  omega
theorem Bd.mul {a b : Int} (ha : Bd a) (hb : Bd b) : Bi (a * b) := Nat.lt_of_lt_of_le (wide_lt ha hb) (Nat.pow_le_pow_right (by decide) (by decide))
theorem Bd.cm {a b : Int} (ha : Bd a) (hb : Bd b) : CMulW a b := wide_mul ha hb (by decide) (by decide) (by decide)
theorem Bd.bi {a : Int} (ha : Bd a) : Bi a := Nat.lt_of_lt_of_le ha (Nat.pow_le_pow_right (by decide) (by decide))
theorem Bd_one : Bd 1 := Nat.one_lt_two_pow (by decide)
section
variable {P : Program} {w : World} {K : PySem.W.Frag} {mg : Str → Option Value} {base : Heap} {A : Adr}
theorem boot_isi : bootBuiltins "isinstance" = some (.builtin "isinstance") := by decide +kernel
theorem boot_int : bootBuiltins "int" = some (.type "int") := by decide +kernel

/-! ### is_number -/
def spIsNum (A : Adr) : Sp := fun vs H Q _ => ∃ x q, vs = [x] ∧ Num A H x q ∧ ∀ H', Ext H H' → Q (.bl true) H'
theorem scIsNum : FnScope ["value"] ["value"] (defScope sIsNum) := ⟨rfl, rfl, rfl, by decide +kernel, rfl, by decide +kernel, by decide +kernel⟩
theorem ok_isnum {f : Addr} {fd : FuncData} (F : Fun K "is_number" "is_number" sIsNum f fd) (T : FT K mg A) : FnOk P w K mg base (L2.CX P w) 1 f fd ["value"] (spIsNum A) := by
  refine F.okX scIsNum (fun vs H Q E h => ?_) (fun cdv AA outer s H vs Q E hr h => ?_)
  · obtain ⟨x, q, rfl, _⟩ := h
    rfl
  · obtain ⟨x, q, rfl, hn, k⟩ := h
    refine ⟨_, pss_one (ps_ret (pe_callB call_isiT (by rfl) T.isi boot_isi (pa_cons (pv 0) (pa_cons (pe_tup (pa_cons (pe_bltn (v := .ty "int") (by rfl) T.int0 boot_int rfl) (pa_cons (pe_glob (v := .ref A.C) (by rfl) T.mgC rfl) pa_nil))) pa_nil)))), ?_⟩
    refine ⟨_, rfl, (by show 2 ≤ sizeLine; decide), fun p np => ?_⟩
    rcases hn with ⟨b, rfl, hf⟩ | ⟨rfl, _⟩
    · refine ⟨_, p, _, .ref A.C, [.type "int", .ref A.C], true, rfl, upd_same, .cons (.ty "int") (.cons (.own A.C) .nil), T.tyF (hf.ext (ext1 np)), ?_, k _ (ext1 np)⟩
      exact kitAny_cons T.kit_CI (fun _ => kitAny_cons kit_CC (fun z => by cases z) (fun _ => rfl)) (fun z => by cases z)
    · refine ⟨_, p, _, .type "int", [.type "int", .ref A.C], true, rfl, upd_same, .cons (.ty "int") (.cons (.own A.C) .nil), tyI _, ?_, k _ (ext1 np)⟩
      exact kitAny_cons kit_II (fun z => by cases z) (fun _ => rfl)

/-! ### Frac.of -/
def spOf (A : Adr) : Sp := fun vs H Q _ => ∃ x q, vs = [x] ∧ Num A H x q ∧ ∀ r H', Ext H H' → FracAt A.C H' r q → Q (.ref r) H'
theorem scOf : FnScope ["value"] ["value"] (defScope sOf) := ⟨rfl, rfl, rfl, by decide +kernel, rfl, by decide +kernel, by decide +kernel⟩
theorem ok_of {f : Addr} {fd : FuncData} (F : Fun K "of" "Frac.of" sOf f fd) (T : FT K mg A) (M : MkF P w K mg base A) : FnOk P w K mg base (L2.CX P w) 3 f fd ["value"] (spOf A) := by
  refine F.okX scOf (fun vs H Q E h => ?_) (fun cdv AA outer s H vs Q E hr h => ?_)
  · obtain ⟨x, q, rfl, _⟩ := h
    rfl
  · obtain ⟨x, q, rfl, hn, k⟩ := h
    refine ⟨_, pss_cons (ps_if (pt_val (pe_callB call_isi (by rfl) T.isi boot_isi (pa_cons (pv 0) (pa_cons (pe_glob (v := .ref A.C) (by rfl) T.mgC rfl) pa_nil)))) (pss_one (ps_ret (pv 0))) pss_nil)
      (pss_one (ps_ret (pe_frac1 M T hr rfl (pa_cons (pv 0) pa_nil)))), ?_⟩
    rcases hn with ⟨b, rfl, hf⟩ | ⟨rfl, h1⟩
    · refine ⟨_, rfl, _, _, _, _, true, rfl, .own A.C, T.tyF hf, kit_CC, _, rfl, iteT ?_⟩
      exact ⟨_, rfl, k b H Ext.rfl' hf⟩
    · refine ⟨_, rfl, _, _, _, _, false, rfl, .own A.C, tyI _, T.kit_IC, _, rfl, iteF ?_⟩
      refine ⟨_, rfl, q.1, rfl, fun r H' e hf => k r H' e ?_⟩
      rw [← h1] at hf
      exact hf

/-! ### sums, differences, products: the promise of both forms -/
def spB (A : Adr) (g : Int × Int → Int × Int → Int × Int) : Sp := fun vs H Q _ => ∃ a p y q, vs = [.ref a, y] ∧ FracAt A.C H a p ∧ Num A H y q ∧ Okf p ∧ Okf q ∧ ∀ r H', Ext H H' → FracAt A.C H' r (g p q) → Q (.ref r) H'
theorem Okf.ne {p : Int × Int} (o : Okf p) : p.2 ≠ 0 := by have := o.low.pos; omega
theorem Okf.mne {p q : Int × Int} (o : Okf p) (o' : Okf q) : p.2 * q.2 ≠ 0 := Int.mul_ne_zero o.ne o'.ne
theorem one_of {p : Int × Int} (h : p.2 = 1) : p = (p.1, 1) := by cases p; simp_all
theorem scAdd : FnScope ["self", "other"] ["self", "other"] (defScope sAdd) := ⟨rfl, rfl, rfl, by decide +kernel, rfl, by decide +kernel, by decide +kernel⟩
theorem ok_add {f : Addr} {fd : FuncData} (F : Fun K "__add__" "Frac.__add__" sAdd f fd) (T : FT K mg A) (M : MkF P w K mg base A) (N : Cal P w K mg base 1 A.isnum ["value"] (spIsNum A)) : FnOk P w K mg base (L2.CX P w) 3 f fd ["self", "other"] (spB A fadd) := by
  refine F.okX scAdd (fun vs H Q E h => ?_) (fun cdv AA outer s H vs Q E hr h => ?_)
  · obtain ⟨a, p, y, q, rfl, _⟩ := h
    rfl
  · obtain ⟨a, p, y, q, rfl, ha, hy, op, oq, k⟩ := h
    obtain ⟨fdN, GN, bN⟩ := N.ex
    refine ⟨_, pss_cons (ps_if (pt_not (pt_val (pe_call GN (hr.mono (by decide)) rfl T.gIs N.kp bN .nil (E := E0) passL (pa_cons (pv 1) pa_nil)))) (pss_one ps_never) pss_nil)
      (pss_cons (ps_if (pt_val (pe_callB call_isi (by rfl) T.isi boot_isi (pa_cons (pv 1) (pa_cons (pe_bltn (v := .ty "int") (by rfl) T.int0 boot_int rfl) pa_nil))))
        (pss_one (ps_ret (pe_frac2 M T hr rfl (pa_cons (pe_op L2.op_add (pe_fld (pv 0) rfl) (pe_op op_mulW (pv 1) (pe_fld (pv 0) rfl))) (pa_cons (pe_fld (pv 0) rfl) pa_nil))))) pss_nil)
      (pss_one (ps_ret (pe_frac2 M T hr rfl (pa_cons (pe_op L2.op_add (pe_op op_mulW (pe_fld (pv 0) rfl) (pe_fld (pv 1) rfl)) (pe_op op_mulW (pe_fld (pv 1) rfl) (pe_fld (pv 0) rfl))) (pa_cons (pe_op op_mulW (pe_fld (pv 0) rfl) (pe_fld (pv 1) rfl)) pa_nil)))))), ?_⟩
    refine ⟨_, rfl, y, q, rfl, hy, fun H1 e1 => ⟨_, rfl, iteF ?_⟩⟩
    obtain ⟨dx, hA⟩ := ha.ext e1
    rcases hy.ext e1 with ⟨b, rfl, hf⟩ | ⟨rfl, h1⟩
    · obtain ⟨dy, hB⟩ := id hf
      refine ⟨_, rfl, _, _, _, _, false, rfl, .ty "int", T.tyF hf, T.kit_CI, _, rfl, iteF ?_⟩
      exact ⟨_, rfl, _, _, _, _, _, rfl, hA, T.cl, T.nN, fr_num _, _, rfl, _, _, _, _, _, rfl, hB, T.cl, T.nD, fr_den _, _, _, rfl, rfl, (op.b1.cm oq.b2), _, rfl, _, _, _, _, _, rfl, hB, T.cl, T.nN, fr_num _, _, rfl, _, _, _, _, _, rfl, hA, T.cl, T.nD, fr_den _, _, _, rfl, rfl, (oq.b1.cm op.b2), _, _, rfl, rfl, _, rfl, _, _, _, _, _, rfl, hA, T.cl, T.nD, fr_den _, _, rfl, _, _, _, _, _, rfl, hB, T.cl, T.nD, fr_den _, _, _, rfl, rfl, (op.b2.cm oq.b2), _, _, rfl, op.mne oq, op.b2.mul oq.b2, fun r H' e hf => k r H' (e1.trans e) hf⟩
    · refine ⟨_, rfl, _, _, _, _, true, rfl, .ty "int", tyI _, kit_II, _, rfl, iteT ?_⟩
      refine ⟨_, rfl, _, _, _, _, _, rfl, hA, T.cl, T.nN, fr_num _, _, rfl, _, rfl, _, _, _, _, _, rfl, hA, T.cl, T.nD, fr_den _, _, _, rfl, rfl, (oq.b1.cm op.b2), _, _, rfl, rfl, _, rfl, _, _, _, _, _, rfl, hA, T.cl, T.nD, fr_den _, _, _, rfl, op.ne, op.b2.bi, fun r H' e hf => k r H' (e1.trans e) ?_⟩
      unfold fadd
      rw [h1, Int.mul_one, Int.mul_one]
      exact hf

/-! ### own operators of Fracs -/
def rBF (A : Adr) (g : Int × Int → Int × Int → Int × Int) : R2 := fun x y H Q => ∃ a p q, x = .ref a ∧ FracAt A.C H a p ∧ Num A H y q ∧ Okf p ∧ Okf q ∧ ∀ r H', Ext H H' → FracAt A.C H' r (g p q) → Q (.ref r) H'
def rBR (A : Adr) (g : Int × Int → Int × Int → Int × Int) : R2 := fun x y H Q => ∃ n b q, x = .int n ∧ y = .ref b ∧ FracAt A.C H b q ∧ Bd n ∧ Okf q ∧ ∀ r H', Ext H H' → FracAt A.C H' r (g (n, 1) q) → Q (.ref r) H'
theorem Okf.int {n : Int} (h : Bd n) : Okf (n, 1) := ⟨lowInt n, h, Bd_one⟩
end
section
variable {X : Cx} {A : Adr} {k : Nat} {f : Addr} {g : Int × Int → Int × Int → Int × Int}
theorem op_BF {op : Operator} (B : BinF X.K A.C f op) (c : Cal X.prog X.w X.K X.mg X.base k f ["self", "other"] (spB A g)) (hr : Room k X.A) : OpR X (binaryOp op) (rBF A g) := by
  obtain ⟨fd, F, b⟩ := c.ex
  intro pins s σ H x y v u Q I rx ry h
  obtain ⟨a, p, q, rfl, ha, hy, op', oq, k⟩ := h
  exact op_own B F hr b (E := E0) passL pins s σ H _ y v u Q I rx ry ⟨ha.ins, hy.elim (fun ⟨b, e, f⟩ => .inl (by rw [e]; exact f.ins)) (fun e => .inr ⟨_, e.1⟩), a, p, y, q, rfl, ha, hy, op', oq, k⟩
theorem op_BR {op : Operator} {idl : String} {B : Builtin} (N : IntOp op idl B) (R : RefF X.K A.C f op) (c : Cal X.prog X.w X.K X.mg X.base k f ["self", "other"] (spB A fun p q => g q p)) (hr : Room k X.A) : OpR X (binaryOp op) (rBR A g) := by
  obtain ⟨fd, F, b⟩ := c.ex
  intro pins s σ H x y v u Q I rx ry h
  obtain ⟨n, b', q, rfl, rfl, hb, hn, oq, k⟩ := h
  exact op_ref N R F hr b (E := E0) passL pins s σ H _ _ v u Q I rx ry ⟨⟨n, rfl⟩, hb.ins, b', q, .int n, (n, 1), rfl, hb, .int n, oq, .int hn, k⟩
end
section
variable {P : Program} {w : World} {K : PySem.W.Frag} {mg : Str → Option Value} {base : Heap} {A : Adr}
theorem scRadd : FnScope ["self", "other"] ["self", "other"] (defScope sRadd) := ⟨rfl, rfl, rfl, by decide +kernel, rfl, by decide +kernel, by decide +kernel⟩
theorem fadd_comm (p q : Int × Int) : fadd p q = fadd q p := by unfold fadd; rw [Int.add_comm, Int.mul_comm p.2 q.2]
theorem ok_radd {f : Addr} {fd : FuncData} (F : Fun K "__radd__" "Frac.__radd__" sRadd f fd) (T : FT K mg A) (N : Cal P w K mg base 1 A.isnum ["value"] (spIsNum A)) (B : BinF K A.C A.add .Add) (c : Cal P w K mg base 3 A.add ["self", "other"] (spB A fadd)) :
    FnOk P w K mg base (L2.CX P w) 4 f fd ["self", "other"] (spB A fun p q => fadd q p) := by
  refine F.okX scRadd (fun vs H Q E h => ?_) (fun cdv AA outer s H vs Q E hr h => ?_)
  · obtain ⟨a, p, y, q, rfl, _⟩ := h
    rfl
  · obtain ⟨a, p, y, q, rfl, ha, hy, op, oq, k⟩ := h
    obtain ⟨fdN, GN, bN⟩ := N.ex
    refine ⟨_, pss_cons (ps_if (pt_not (pt_val (pe_call GN (hr.mono (by decide)) rfl T.gIs N.kp bN .nil (E := E0) passL (pa_cons (pv 1) pa_nil)))) (pss_one ps_never) pss_nil)
      (pss_one (ps_ret (pe_op (op_BF B c hr) (pv 0) (pv 1)))), ?_⟩
    refine ⟨_, rfl, y, q, rfl, hy, fun H1 e1 => ⟨_, rfl, iteF ?_⟩⟩
    exact ⟨_, rfl, _, rfl, a, p, q, rfl, ha.ext e1, hy.ext e1, op, oq, fun r H' e hf => k r H' (e1.trans e) (by show FracAt A.C H' r (fadd q p); rw [fadd_comm]; exact hf)⟩
end
end Fx

set_option Elab.async false
set_option linter.all false
set_option maxRecDepth 100000
set_option maxHeartbeats 4000000
set_option exponentiation.threshold 20000
namespace Fx
open PySem PySem.Spec PyProof.Rows L2 FM
abbrev sAbs : Stmt := inClass (top 11) 14
abbrev sFlo : Stmt := inClass (top 11) 8
abbrev sRflo : Stmt := inClass (top 11) 9
section
variable {P : Program} {w : World} {K : PySem.W.Frag} {mg : Str → Option Value} {base : Heap} {A : Adr}
theorem scSub : FnScope ["self", "other"] ["self", "other"] (defScope sSub) := ⟨rfl, rfl, rfl, by decide +kernel, rfl, by decide +kernel, by decide +kernel⟩
theorem ok_sub {f : Addr} {fd : FuncData} (F : Fun K "__sub__" "Frac.__sub__" sSub f fd) (T : FT K mg A) (M : MkF P w K mg base A) (N : Cal P w K mg base 1 A.isnum ["value"] (spIsNum A)) : FnOk P w K mg base (L2.CX P w) 3 f fd ["self", "other"] (spB A fsub) := by
  refine F.okX scSub (fun vs H Q E h => ?_) (fun cdv AA outer s H vs Q E hr h => ?_)
  · obtain ⟨a, p, y, q, rfl, _⟩ := h
    rfl
  · obtain ⟨a, p, y, q, rfl, ha, hy, op, oq, k⟩ := h
    obtain ⟨fdN, GN, bN⟩ := N.ex
    refine ⟨_, pss_cons (ps_if (pt_not (pt_val (pe_call GN (hr.mono (by decide)) rfl T.gIs N.kp bN .nil (E := E0) passL (pa_cons (pv 1) pa_nil)))) (pss_one ps_never) pss_nil)
      (pss_cons (ps_if (pt_val (pe_callB call_isi (by rfl) T.isi boot_isi (pa_cons (pv 1) (pa_cons (pe_bltn (v := .ty "int") (by rfl) T.int0 boot_int rfl) pa_nil))))
        (pss_one (ps_ret (pe_frac2 M T hr rfl (pa_cons (pe_op L2.op_sub (pe_fld (pv 0) rfl) (pe_op op_mulW (pv 1) (pe_fld (pv 0) rfl))) (pa_cons (pe_fld (pv 0) rfl) pa_nil))))) pss_nil)
      (pss_one (ps_ret (pe_frac2 M T hr rfl (pa_cons (pe_op L2.op_sub (pe_op op_mulW (pe_fld (pv 0) rfl) (pe_fld (pv 1) rfl)) (pe_op op_mulW (pe_fld (pv 1) rfl) (pe_fld (pv 0) rfl))) (pa_cons (pe_op op_mulW (pe_fld (pv 0) rfl) (pe_fld (pv 1) rfl)) pa_nil)))))), ?_⟩
    refine ⟨_, rfl, y, q, rfl, hy, fun H1 e1 => ⟨_, rfl, iteF ?_⟩⟩
    obtain ⟨dx, hA⟩ := ha.ext e1
    rcases hy.ext e1 with ⟨b, rfl, hf⟩ | ⟨rfl, h1⟩
    · obtain ⟨dy, hB⟩ := id hf
      refine ⟨_, rfl, _, _, _, _, false, rfl, .ty "int", T.tyF hf, T.kit_CI, _, rfl, iteF ?_⟩
      exact ⟨_, rfl, _, _, _, _, _, rfl, hA, T.cl, T.nN, fr_num _, _, rfl, _, _, _, _, _, rfl, hB, T.cl, T.nD, fr_den _, _, _, rfl, rfl, (op.b1.cm oq.b2), _, rfl, _, _, _, _, _, rfl, hB, T.cl, T.nN, fr_num _, _, rfl, _, _, _, _, _, rfl, hA, T.cl, T.nD, fr_den _, _, _, rfl, rfl, (oq.b1.cm op.b2), _, _, rfl, rfl, _, rfl, _, _, _, _, _, rfl, hA, T.cl, T.nD, fr_den _, _, rfl, _, _, _, _, _, rfl, hB, T.cl, T.nD, fr_den _, _, _, rfl, rfl, (op.b2.cm oq.b2), _, _, rfl, op.mne oq, op.b2.mul oq.b2, fun r H' e hf => k r H' (e1.trans e) hf⟩
    · refine ⟨_, rfl, _, _, _, _, true, rfl, .ty "int", tyI _, kit_II, _, rfl, iteT ?_⟩
      refine ⟨_, rfl, _, _, _, _, _, rfl, hA, T.cl, T.nN, fr_num _, _, rfl, _, rfl, _, _, _, _, _, rfl, hA, T.cl, T.nD, fr_den _, _, _, rfl, rfl, (oq.b1.cm op.b2), _, _, rfl, rfl, _, rfl, _, _, _, _, _, rfl, hA, T.cl, T.nD, fr_den _, _, _, rfl, op.ne, op.b2.bi, fun r H' e hf => k r H' (e1.trans e) ?_⟩
      unfold fsub
      rw [h1, Int.mul_one, Int.mul_one]
      exact hf
theorem scMul : FnScope ["self", "other"] ["self", "other"] (defScope sMul) := ⟨rfl, rfl, rfl, by decide +kernel, rfl, by decide +kernel, by decide +kernel⟩
theorem ok_mul {f : Addr} {fd : FuncData} (F : Fun K "__mul__" "Frac.__mul__" sMul f fd) (T : FT K mg A) (M : MkF P w K mg base A) (N : Cal P w K mg base 1 A.isnum ["value"] (spIsNum A)) : FnOk P w K mg base (L2.CX P w) 3 f fd ["self", "other"] (spB A fmul) := by
  refine F.okX scMul (fun vs H Q E h => ?_) (fun cdv AA outer s H vs Q E hr h => ?_)
  · obtain ⟨a, p, y, q, rfl, _⟩ := h
    rfl
  · obtain ⟨a, p, y, q, rfl, ha, hy, op, oq, k⟩ := h
    obtain ⟨fdN, GN, bN⟩ := N.ex
    refine ⟨_, pss_cons (ps_if (pt_not (pt_val (pe_call GN (hr.mono (by decide)) rfl T.gIs N.kp bN .nil (E := E0) passL (pa_cons (pv 1) pa_nil)))) (pss_one ps_never) pss_nil)
      (pss_cons (ps_if (pt_val (pe_callB call_isi (by rfl) T.isi boot_isi (pa_cons (pv 1) (pa_cons (pe_bltn (v := .ty "int") (by rfl) T.int0 boot_int rfl) pa_nil))))
        (pss_one (ps_ret (pe_frac2 M T hr rfl (pa_cons (pe_op op_mulW (pe_fld (pv 0) rfl) (pv 1)) (pa_cons (pe_fld (pv 0) rfl) pa_nil))))) pss_nil)
      (pss_one (ps_ret (pe_frac2 M T hr rfl (pa_cons (pe_op op_mulW (pe_fld (pv 0) rfl) (pe_fld (pv 1) rfl)) (pa_cons (pe_op op_mulW (pe_fld (pv 0) rfl) (pe_fld (pv 1) rfl)) pa_nil)))))), ?_⟩
    refine ⟨_, rfl, y, q, rfl, hy, fun H1 e1 => ⟨_, rfl, iteF ?_⟩⟩
    obtain ⟨dx, hA⟩ := ha.ext e1
    rcases hy.ext e1 with ⟨b, rfl, hf⟩ | ⟨rfl, h1⟩
    · obtain ⟨dy, hB⟩ := id hf
      refine ⟨_, rfl, _, _, _, _, false, rfl, .ty "int", T.tyF hf, T.kit_CI, _, rfl, iteF ?_⟩
      exact ⟨_, rfl, _, _, _, _, _, rfl, hA, T.cl, T.nN, fr_num _, _, rfl, _, _, _, _, _, rfl, hB, T.cl, T.nN, fr_num _, _, _, rfl, rfl, (op.b1.cm oq.b1), _, rfl, _, _, _, _, _, rfl, hA, T.cl, T.nD, fr_den _, _, rfl, _, _, _, _, _, rfl, hB, T.cl, T.nD, fr_den _, _, _, rfl, rfl, (op.b2.cm oq.b2), _, _, rfl, op.mne oq, op.b2.mul oq.b2, fun r H' e hf => k r H' (e1.trans e) hf⟩
    · refine ⟨_, rfl, _, _, _, _, true, rfl, .ty "int", tyI _, kit_II, _, rfl, iteT ?_⟩
      refine ⟨_, rfl, _, _, _, _, _, rfl, hA, T.cl, T.nN, fr_num _, _, rfl, _, _, rfl, rfl, (op.b1.cm oq.b1), _, rfl, _, _, _, _, _, rfl, hA, T.cl, T.nD, fr_den _, _, _, rfl, op.ne, op.b2.bi, fun r H' e hf => k r H' (e1.trans e) ?_⟩
      unfold fmul
      rw [h1, Int.mul_one]
      exact hf
/-- a promise of one Frac -/
def spU (A : Adr) (g : Int × Int → Int × Int) : Sp := fun vs H Q _ => ∃ a p, vs = [.ref a] ∧ FracAt A.C H a p ∧ Okf p ∧ ∀ r H', Ext H H' → FracAt A.C H' r (g p) → Q (.ref r) H'
def fneg (p : Int × Int) : Int × Int := (-p.1, p.2)
def fabs (p : Int × Int) : Int × Int := ((p.1.natAbs : Int), p.2)
theorem Okf.neg {p : Int × Int} (o : Okf p) : Okf (fneg p) := ⟨low_neg o.low, by unfold Bd fneg; rw [Int.natAbs_neg]; exact o.b1, o.b2⟩
theorem scNeg : FnScope ["self"] ["self"] (defScope sNeg) := ⟨rfl, rfl, rfl, by decide +kernel, rfl, by decide +kernel, by decide +kernel⟩
theorem ok_neg {f : Addr} {fd : FuncData} (F : Fun K "__neg__" "Frac.__neg__" sNeg f fd) (T : FT K mg A) (M : MkF P w K mg base A) : FnOk P w K mg base (L2.CX P w) 3 f fd ["self"] (spU A fneg) := by
  refine F.okX scNeg (fun vs H Q E h => ?_) (fun cdv AA outer s H vs Q E hr h => ?_)
  · obtain ⟨a, p, rfl, _⟩ := h
    rfl
  · obtain ⟨a, p, rfl, ha, op, k⟩ := h
    obtain ⟨dx, hA⟩ := ha
    refine ⟨_, pss_one (ps_ret (pe_frac2 M T hr rfl (pa_cons (pe_un L2.un_neg (pe_fld (pv 0) rfl)) (pa_cons (pe_fld (pv 0) rfl) pa_nil)))), ?_⟩
    refine ⟨_, rfl, _, _, _, _, _, rfl, hA, T.cl, T.nN, fr_num _, _, rfl, _, rfl, _, _, _, _, _, rfl, hA, T.cl, T.nD, fr_den _, _, _, rfl, op.ne, op.b2.bi, fun r H' e hf => k r H' e ?_⟩
    have e2 := low_self (low_neg op.low)
    dsimp only at e2
    rw [e2] at hf
    exact hf
theorem scAbs : FnScope ["self"] ["self"] (defScope sAbs) := ⟨rfl, rfl, rfl, by decide +kernel, rfl, by decide +kernel, by decide +kernel⟩
theorem boot_abs' : bootBuiltins "abs" = some (.builtin "abs") := by decide +kernel
theorem ok_abs {f : Addr} {fd : FuncData} (F : Fun K "__abs__" "Frac.__abs__" sAbs f fd) (T : FT K mg A) (M : MkF P w K mg base A) (ab : mg "abs" = none) : FnOk P w K mg base (L2.CX P w) 3 f fd ["self"] (spU A fabs) := by
  refine F.okX scAbs (fun vs H Q E h => ?_) (fun cdv AA outer s H vs Q E hr h => ?_)
  · obtain ⟨a, p, rfl, _⟩ := h
    rfl
  · obtain ⟨a, p, rfl, ha, op, k⟩ := h
    obtain ⟨dx, hA⟩ := ha
    refine ⟨_, pss_one (ps_ret (pe_frac2 M T hr rfl (pa_cons (pe_callB L2.call_abs (by rfl) ab boot_abs' (pa_cons (pe_fld (pv 0) rfl) pa_nil)) (pa_cons (pe_fld (pv 0) rfl) pa_nil)))), ?_⟩
    refine ⟨_, rfl, _, _, _, _, _, rfl, hA, T.cl, T.nN, fr_num _, _, rfl, _, rfl, _, _, _, _, _, rfl, hA, T.cl, T.nD, fr_den _, _, _, rfl, op.ne, op.b2.bi, fun r H' e hf => k r H' e ?_⟩
    have e2 := low_self (low_abs op.low)
    have e3 : (if p.1 < 0 then -p.1 else p.1) = (p.1.natAbs : Int) := by split <;> omega
    rw [e3] at hf
    dsimp only at e2
    rw [e2] at hf
    exact hf
theorem scRmul : FnScope ["self", "other"] ["self", "other"] (defScope sRmul) := ⟨rfl, rfl, rfl, by decide +kernel, rfl, by decide +kernel, by decide +kernel⟩
theorem fmul_comm (p q : Int × Int) : fmul p q = fmul q p := by unfold fmul; rw [Int.mul_comm p.1 q.1, Int.mul_comm p.2 q.2]
theorem ok_rmul {f : Addr} {fd : FuncData} (F : Fun K "__rmul__" "Frac.__rmul__" sRmul f fd) (T : FT K mg A) (N : Cal P w K mg base 1 A.isnum ["value"] (spIsNum A)) (B : BinF K A.C A.mul .Mult) (c : Cal P w K mg base 3 A.mul ["self", "other"] (spB A fmul)) :
    FnOk P w K mg base (L2.CX P w) 4 f fd ["self", "other"] (spB A fun p q => fmul q p) := by
  refine F.okX scRmul (fun vs H Q E h => ?_) (fun cdv AA outer s H vs Q E hr h => ?_)
  · obtain ⟨a, p, y, q, rfl, _⟩ := h
    rfl
  · obtain ⟨a, p, y, q, rfl, ha, hy, op, oq, k⟩ := h
    obtain ⟨fdN, GN, bN⟩ := N.ex
    refine ⟨_, pss_cons (ps_if (pt_not (pt_val (pe_call GN (hr.mono (by decide)) rfl T.gIs N.kp bN .nil (E := E0) passL (pa_cons (pv 1) pa_nil)))) (pss_one ps_never) pss_nil)
      (pss_one (ps_ret (pe_op (op_BF B c hr) (pv 0) (pv 1)))), ?_⟩
    refine ⟨_, rfl, y, q, rfl, hy, fun H1 e1 => ⟨_, rfl, iteF ?_⟩⟩
    exact ⟨_, rfl, _, rfl, a, p, q, rfl, ha.ext e1, hy.ext e1, op, oq, fun r H' e hf => k r H' (e1.trans e) (by show FracAt A.C H' r (fmul q p); rw [fmul_comm]; exact hf)⟩
theorem scRsub : FnScope ["self", "other"] ["self", "other"] (defScope sRsub) := ⟨rfl, rfl, rfl, by decide +kernel, rfl, by decide +kernel, by decide +kernel⟩
theorem fadd_neg (p q : Int × Int) : fadd (fneg p) q = fsub q p := by
  unfold fadd fsub fneg
  dsimp only
  rw [Int.neg_mul, Int.mul_comm p.2 q.2, show -(p.1 * q.2) + q.1 * p.2 = q.1 * p.2 - p.1 * q.2 by omega]
theorem ok_rsub {f : Addr} {fd : FuncData} (F : Fun K "__rsub__" "Frac.__rsub__" sRsub f fd) (T : FT K mg A) (N : Cal P w K mg base 1 A.isnum ["value"] (spIsNum A)) (B : BinF K A.C A.add .Add) (c : Cal P w K mg base 3 A.add ["self", "other"] (spB A fadd))
    (U : UnF K A.C A.neg "__neg__") (cn : Cal P w K mg base 3 A.neg ["self"] (spU A fneg)) : FnOk P w K mg base (L2.CX P w) 4 f fd ["self", "other"] (spB A fun p q => fsub q p) := by
  refine F.okX scRsub (fun vs H Q E h => ?_) (fun cdv AA outer s H vs Q E hr h => ?_)
  · obtain ⟨a, p, y, q, rfl, _⟩ := h
    rfl
  · obtain ⟨a, p, y, q, rfl, ha, hy, op, oq, k⟩ := h
    obtain ⟨fdN, GN, bN⟩ := N.ex
    obtain ⟨fdn, Gn, bn⟩ := cn.ex
    refine ⟨_, pss_cons (ps_if (pt_not (pt_val (pe_call GN (hr.mono (by decide)) rfl T.gIs N.kp bN .nil (E := E0) passL (pa_cons (pv 1) pa_nil)))) (pss_one ps_never) pss_nil)
      (pss_one (ps_ret (pe_op (op_BF B c hr) (pe_un (o_neg U Gn hr bn (E := E0) passL) (pv 0)) (pv 1)))), ?_⟩
    refine ⟨_, rfl, y, q, rfl, hy, fun H1 e1 => ⟨_, rfl, iteF ?_⟩⟩
    refine ⟨_, rfl, (ha.ext e1).ins, a, p, rfl, ha.ext e1, op, fun r H2 e2 hf => ?_⟩
    exact ⟨_, rfl, r, _, q, rfl, hf, hy.ext (e1.trans e2), op.neg, oq, fun r H' e hf => k r H' ((e1.trans e2).trans e) (by show FracAt A.C H' r (fsub q p); rw [← fadd_neg]; exact hf)⟩
theorem scWq : FnScope ["first", "second"] ["first", "second"] (defScope sWq) := ⟨rfl, rfl, rfl, by decide +kernel, rfl, by decide +kernel, by decide +kernel⟩
/-- _whole_quotient: the floor, or DivisionByZero -/
def spWq (A : Adr) : Sp := fun vs H Q E => ∃ a p b q, vs = [.ref a, .ref b] ∧ FracAt A.C H a p ∧ FracAt A.C H b q ∧ Okf p ∧ Okf q ∧ (q.1 = 0 → E (.ref A.Z) none H) ∧ (q.1 ≠ 0 → Q (.int (fflo p q)) H)
theorem ok_wq {f : Addr} {fd : FuncData} (F : Fun K "_whole_quotient" "_whole_quotient" sWq f fd) (T : FT K mg A) : FnOk P w K mg base (L2.CX P w) 1 f fd ["first", "second"] (spWq A) := by
  refine F.okX scWq (fun vs H Q E h => ?_) (fun cdv AA outer s H vs Q E hr h => ?_)
  · obtain ⟨a, p, b, q, rfl, _⟩ := h
    rfl
  · obtain ⟨a, p, b, q, rfl, ⟨dx, hA⟩, ⟨dy, hB⟩, op, oq, k0, k1⟩ := h
    refine ⟨_, pss_cons (ps_if (pt_cmpR L2.op_eq (pe_fld (pv 1) rfl) pe_int (nomark _)) (pss_one (ps_raise rfl (takes_of rfl rfl rfl rfl) (pmk_own0 PySem.F.excBase_ValueError T.xZ T.gZ T.kZ (raises_own T.bZ T.tZ) rfl))) pss_nil)
      (pss_one (ps_ret (pe_op op_fdivZ (pe_op op_mulW (pe_fld (pv 0) rfl) (pe_fld (pv 1) rfl)) (pe_op op_mulW (pe_fld (pv 0) rfl) (pe_fld (pv 1) rfl))))), ?_⟩
    refine ⟨_, rfl, _, _, _, _, _, rfl, hB, T.cl, T.nN, fr_num _, rfl, _, rfl, ?_⟩
    by_cases hz : q.1 = 0
    · rw [hz]
      exact iteT (k0 hz)
    · rw [show decide (V.int q.1 = V.int 0) = false from decide_eq_false (by intro z; injection z with z; exact hz z)]
      refine iteF ?_
      exact ⟨_, rfl, _, _, _, _, _, rfl, hA, T.cl, T.nN, fr_num _, _, rfl, _, _, _, _, _, rfl, hB, T.cl, T.nD, fr_den _, _, _, rfl, rfl, (op.b1.cm oq.b2), _, rfl, _, _, _, _, _, rfl, hA, T.cl, T.nD, fr_den _, _, rfl, _, _, _, _, _, rfl, hB, T.cl, T.nN, fr_num _, _, _, rfl, rfl, (op.b2.cm oq.b1), _, _, rfl, rfl, ⟨Int.mul_ne_zero op.ne hz, (op.b2.mul oq.b1).log⟩, k1 hz⟩
end
end Fx

set_option Elab.async false
set_option linter.all false
set_option maxRecDepth 100000
set_option maxHeartbeats 4000000
set_option exponentiation.threshold 20000
namespace Fx
open PySem PySem.Spec PyProof.Rows L2 FM
abbrev sMod : Stmt := inClass (top 11) 10
abbrev sRmod : Stmt := inClass (top 11) 11
abbrev sBool : Stmt := inClass (top 11) 15
abbrev sEq : Stmt := inClass (top 11) 16
abbrev sLt : Stmt := inClass (top 11) 17
abbrev sLe : Stmt := inClass (top 11) 18
abbrev sGt : Stmt := inClass (top 11) 19
abbrev sGe : Stmt := inClass (top 11) 20
abbrev sStr : Stmt := inClass (top 11) 21
abbrev sOver : Stmt := inClass (top 11) 22
/-- Frac's static methods are read off it -/
structure StF (K : PySem.W.Frag) (A : Adr) : Prop where
  cr : ClX.CRead K A.C (.type "type")
  sm : SMet K A.C (.type "type") "of" A.pOf A.of_
theorem OpR.or {X : Cx} {f : Value → Value → Sem Value} {r r' : R2} (h : OpR X f r) (h' : OpR X f r') : OpR X f (fun x y H Q => r x y H Q ∨ r' x y H Q) := fun pins s σ H x y v u Q I rx ry q =>
  q.elim (fun q => h pins s σ H x y v u Q I rx ry q) fun q => h' pins s σ H x y v u Q I rx ry q
section
variable {P : Program} {w : World} {K : PySem.W.Frag} {mg : Str → Option Value} {base : Heap} {A : Adr}
theorem scFlo : FnScope ["self", "other"] ["self", "other"] (defScope sFlo) := ⟨rfl, rfl, rfl, by decide +kernel, rfl, by decide +kernel, by decide +kernel⟩
/-- the floor of a quotient, or DivisionByZero -/
def spFlo (A : Adr) : Sp := fun vs H Q E => ∃ a p y q, vs = [.ref a, y] ∧ FracAt A.C H a p ∧ Num A H y q ∧ Okf p ∧ Okf q ∧ (q.1 = 0 → ∀ H', Ext H H' → E (.ref A.Z) none H') ∧ (q.1 ≠ 0 → ∀ H', Ext H H' → Q (.int (fflo p q)) H')
theorem ok_flo {f : Addr} {fd : FuncData} (F : Fun K "__floordiv__" "Frac.__floordiv__" sFlo f fd) (T : FT K mg A) (S : StF K A) (O : Cal P w K mg base 3 A.of_ ["value"] (spOf A)) (N : Cal P w K mg base 1 A.isnum ["value"] (spIsNum A)) (W : Cal P w K mg base 1 A.wq ["first", "second"] (spWq A)) : FnOk P w K mg base (L2.CX P w) 4 f fd ["self", "other"] (spFlo A) := by
  refine F.okX scFlo (fun vs H Q E h => ?_) (fun cdv AA outer s H vs Q E hr h => ?_)
  · obtain ⟨a, p, y, q, rfl, _⟩ := h
    rfl
  · obtain ⟨a, p, y, q, rfl, ha, hy, op, oq, k0, k1⟩ := h
    obtain ⟨fdN, GN, bN⟩ := N.ex
    obtain ⟨fdO, GO, bO⟩ := O.ex
    obtain ⟨fdW, GW, bW⟩ := W.ex
    refine ⟨_, pss_cons (ps_if (pt_not (pt_val (pe_call GN (hr.mono (by decide)) rfl T.gIs N.kp bN .nil (E := E0) passL (pa_cons (pv 1) pa_nil)))) (pss_one ps_never) pss_nil)
      (pss_one (ps_ret (pe_call GW (hr.mono (by decide)) rfl T.gWq W.kp bW .nil (passes_call (takes_of rfl rfl rfl rfl) (fun _ _ _ _ h => h)) (pa_cons (pv 0) (pa_cons (pe_smeth (pe_glob (v := .ref A.C) (by rfl) T.mgC rfl) S.cr S.sm T.tC GO (hr.mono (by decide)) bO (E := E0) passL (pa_cons (pv 1) pa_nil)) pa_nil))))), ?_⟩
    refine ⟨_, rfl, y, q, rfl, hy, fun H1 e1 => ⟨_, rfl, iteF ?_⟩⟩
    exact ⟨_, rfl, rfl, _, rfl, y, q, rfl, hy.ext e1, fun r H2 e2 hf => ⟨a, p, r, q, rfl, ha.ext (e1.trans e2), hf, op, oq, fun z => k0 z _ (e1.trans e2), fun z => k1 z _ (e1.trans e2)⟩⟩
theorem scRflo : FnScope ["self", "other"] ["self", "other"] (defScope sRflo) := ⟨rfl, rfl, rfl, by decide +kernel, rfl, by decide +kernel, by decide +kernel⟩
def spRflo (A : Adr) : Sp := fun vs H Q E => ∃ a p y q, vs = [.ref a, y] ∧ FracAt A.C H a p ∧ Num A H y q ∧ Okf p ∧ Okf q ∧ (p.1 = 0 → ∀ H', Ext H H' → E (.ref A.Z) none H') ∧ (p.1 ≠ 0 → ∀ H', Ext H H' → Q (.int (fflo q p)) H')
theorem ok_rflo {f : Addr} {fd : FuncData} (F : Fun K "__rfloordiv__" "Frac.__rfloordiv__" sRflo f fd) (T : FT K mg A) (S : StF K A) (O : Cal P w K mg base 3 A.of_ ["value"] (spOf A)) (N : Cal P w K mg base 1 A.isnum ["value"] (spIsNum A)) (W : Cal P w K mg base 1 A.wq ["first", "second"] (spWq A)) : FnOk P w K mg base (L2.CX P w) 4 f fd ["self", "other"] (spRflo A) := by
  refine F.okX scRflo (fun vs H Q E h => ?_) (fun cdv AA outer s H vs Q E hr h => ?_)
  · obtain ⟨a, p, y, q, rfl, _⟩ := h
    rfl
  · obtain ⟨a, p, y, q, rfl, ha, hy, op, oq, k0, k1⟩ := h
    obtain ⟨fdN, GN, bN⟩ := N.ex
    obtain ⟨fdO, GO, bO⟩ := O.ex
    obtain ⟨fdW, GW, bW⟩ := W.ex
    refine ⟨_, pss_cons (ps_if (pt_not (pt_val (pe_call GN (hr.mono (by decide)) rfl T.gIs N.kp bN .nil (E := E0) passL (pa_cons (pv 1) pa_nil)))) (pss_one ps_never) pss_nil)
      (pss_one (ps_ret (pe_call GW (hr.mono (by decide)) rfl T.gWq W.kp bW .nil (passes_call (takes_of rfl rfl rfl rfl) (fun _ _ _ _ h => h)) (pa_cons (pe_smeth (pe_glob (v := .ref A.C) (by rfl) T.mgC rfl) S.cr S.sm T.tC GO (hr.mono (by decide)) bO (E := E0) passL (pa_cons (pv 1) pa_nil)) (pa_cons (pv 0) pa_nil))))), ?_⟩
    refine ⟨_, rfl, y, q, rfl, hy, fun H1 e1 => ⟨_, rfl, iteF ?_⟩⟩
    exact ⟨rfl, _, rfl, y, q, rfl, hy.ext e1, fun r H2 e2 hf => ⟨_, rfl, r, q, a, p, rfl, hf, ha.ext (e1.trans e2), oq, op, fun z => k0 z _ (e1.trans e2), fun z => k1 z _ (e1.trans e2)⟩⟩
/-- smaller parts -/
structure Oks (p : Int × Int) : Prop where
  low : Low p
  b1 : p.1.natAbs < 2 ^ 900
  b2 : p.2.natAbs < 2 ^ 900
theorem Oks.ok {p : Int × Int} (o : Oks p) : Okf p := ⟨o.low, Nat.lt_of_lt_of_le o.b1 (Nat.pow_le_pow_right (by decide) (by decide)), Nat.lt_of_lt_of_le o.b2 (Nat.pow_le_pow_right (by decide) (by decide))⟩
theorem fdiv_le (a b : Int) (hb : b ≠ 0) : (a.fdiv b).natAbs ≤ a.natAbs := by
  have key : ∀ a b : Int, 0 < b → (a.fdiv b).natAbs ≤ a.natAbs := fun a b hb => by
    rw [Int.fdiv_eq_ediv_of_nonneg _ (Int.le_of_lt hb)]
    exact Int.natAbs_ediv_le_natAbs a b
  rcases Int.lt_or_lt_of_ne hb with h | h
  · rw [← Int.neg_fdiv_neg]
    have := key (-a) (-b) (by omega)
    rwa [Int.natAbs_neg] at this
  · exact key a b h
def fmod_ (p q : Int × Int) : Int × Int := fsub p (fmul q (fflo p q, 1))
theorem flo_b {p q : Int × Int} (op : Oks p) (oq : Oks q) (hz : q.1 ≠ 0) : (fflo p q).natAbs < 2 ^ 1800 :=
  Nat.lt_of_le_of_lt (fdiv_le _ _ (Int.mul_ne_zero op.ok.ne hz)) (wide_lt op.b1 oq.b2)
theorem flo_mul {p q : Int × Int} (op : Oks p) (oq : Oks q) (hz : q.1 ≠ 0) : (q.1 * fflo p q).natAbs < 2 ^ 2700 := wide_lt oq.b1 (flo_b op oq hz)
theorem flo_bd {p q : Int × Int} (op : Oks p) (oq : Oks q) (hz : q.1 ≠ 0) : Okf (fflo p q, 1) := .int (Nat.lt_of_lt_of_le (flo_b op oq hz) (Nat.pow_le_pow_right (by decide) (by decide)))
theorem fmul_ok {p q : Int × Int} (op : Oks p) (oq : Oks q) (hz : q.1 ≠ 0) : Okf (fmul q (fflo p q, 1)) := by
  have h : q.2 * 1 ≠ 0 := by rw [Int.mul_one]; exact oq.ok.ne
  refine ⟨low_low h, ?_, ?_⟩
  · exact Nat.lt_of_le_of_lt (low_le1 h) (Nat.lt_of_lt_of_le (flo_mul op oq hz) (Nat.pow_le_pow_right (by decide) (by decide)))
  · refine Nat.lt_of_le_of_lt (low_le2 h) ?_
    rw [Int.mul_one]
    exact oq.ok.b2
theorem scMod : FnScope ["self", "other"] ["self", "other"] (defScope sMod) := ⟨rfl, rfl, rfl, by decide +kernel, rfl, by decide +kernel, by decide +kernel⟩
def spMod (A : Adr) : Sp := fun vs H Q E => ∃ a p y q, vs = [.ref a, y] ∧ FracAt A.C H a p ∧ Num A H y q ∧ Oks p ∧ Oks q ∧ (q.1 = 0 → ∀ H', Ext H H' → E (.ref A.Z) none H') ∧ (q.1 ≠ 0 → ∀ r H', Ext H H' → FracAt A.C H' r (fmod_ p q) → Q (.ref r) H')
theorem ok_mod {f : Addr} {fd : FuncData} (F : Fun K "__mod__" "Frac.__mod__" sMod f fd) (T : FT K mg A) (S : StF K A) (O : Cal P w K mg base 3 A.of_ ["value"] (spOf A)) (N : Cal P w K mg base 1 A.isnum ["value"] (spIsNum A)) (W : Cal P w K mg base 1 A.wq ["first", "second"] (spWq A))
    (Bs : BinF K A.C A.sub .Sub) (cs : Cal P w K mg base 3 A.sub ["self", "other"] (spB A fsub)) (Bm : BinF K A.C A.mul .Mult) (cm : Cal P w K mg base 3 A.mul ["self", "other"] (spB A fmul)) : FnOk P w K mg base (L2.CX P w) 4 f fd ["self", "other"] (spMod A) := by
  refine F.okX scMod (fun vs H Q E h => ?_) (fun cdv AA outer s H vs Q E hr h => ?_)
  · obtain ⟨a, p, y, q, rfl, _⟩ := h
    rfl
  · obtain ⟨a, p, y, q, rfl, ha, hy, op, oq, k0, k1⟩ := h
    obtain ⟨fdN, GN, bN⟩ := N.ex
    obtain ⟨fdO, GO, bO⟩ := O.ex
    obtain ⟨fdW, GW, bW⟩ := W.ex
    refine ⟨_, pss_cons (ps_if (pt_not (pt_val (pe_call GN (hr.mono (by decide)) rfl T.gIs N.kp bN .nil (E := E0) passL (pa_cons (pv 1) pa_nil)))) (pss_one ps_never) pss_nil)
      (pss_one (ps_ret (pe_op (op_BF Bs cs hr) (pv 0) (pe_op (OpR.or (op_BF Bm cm hr) op_mulW) (pv 1) (pe_call GW (hr.mono (by decide)) rfl T.gWq W.kp bW .nil (passes_call (takes_of rfl rfl rfl rfl) (fun _ _ _ _ h => h)) (pa_cons (pv 0) (pa_cons (pe_smeth (pe_glob (v := .ref A.C) (by rfl) T.mgC rfl) S.cr S.sm T.tC GO (hr.mono (by decide)) bO (E := E0) passL (pa_cons (pv 1) pa_nil)) pa_nil))))))), ?_⟩
    refine ⟨_, rfl, y, q, rfl, hy, fun H1 e1 => ⟨_, rfl, iteF ?_⟩⟩
    refine ⟨_, rfl, _, rfl, _, rfl, rfl, _, rfl, y, q, rfl, hy.ext e1, fun r H2 e2 hf => ⟨a, p, r, q, rfl, ha.ext (e1.trans e2), hf, op.ok, oq.ok, fun z => k0 z _ (e1.trans e2), fun z => ?_⟩⟩
    have e12 := e1.trans e2
    rcases hy.ext e12 with ⟨b, rfl, hb⟩ | ⟨rfl, h1⟩
    · refine .inl ⟨b, q, (fflo p q, 1), rfl, hb, .int _, oq.ok, flo_bd op oq z, fun r3 H3 e3 h3 => ?_⟩
      exact ⟨a, p, _, rfl, ha.ext (e12.trans e3), .of h3, op.ok, fmul_ok op oq z, fun r H' e hf => k1 z r H' ((e12.trans e3).trans e) hf⟩
    · refine .inr ⟨_, _, rfl, rfl, wide_mul oq.b1 (flo_b op oq z) (by decide) (by decide) (by decide), ?_⟩
      have e5 : fmul q (fflo p q, 1) = (q.1 * fflo p q, 1) := by
        unfold fmul
        rw [h1]
        exact low_int _
      have o5 := fmul_ok op oq z
      rw [e5] at o5
      exact ⟨a, p, _, rfl, ha.ext e12, .int _, op.ok, o5, fun r H' e hf => k1 z r H' (e12.trans e) (by unfold fmod_; rw [e5]; exact hf)⟩
theorem scRmod : FnScope ["self", "other"] ["self", "other"] (defScope sRmod) := ⟨rfl, rfl, rfl, by decide +kernel, rfl, by decide +kernel, by decide +kernel⟩
def spRmod (A : Adr) : Sp := fun vs H Q E => ∃ a p n, vs = [.ref a, .int n] ∧ FracAt A.C H a p ∧ Oks p ∧ Oks (n, 1) ∧ (p.1 = 0 → ∀ H', Ext H H' → E (.ref A.Z) none H') ∧ (p.1 ≠ 0 → ∀ r H', Ext H H' → FracAt A.C H' r (fmod_ (n, 1) p) → Q (.ref r) H')
theorem ok_rmod {f : Addr} {fd : FuncData} (F : Fun K "__rmod__" "Frac.__rmod__" sRmod f fd) (T : FT K mg A) (S : StF K A) (O : Cal P w K mg base 3 A.of_ ["value"] (spOf A)) (N : Cal P w K mg base 1 A.isnum ["value"] (spIsNum A)) (W : Cal P w K mg base 1 A.wq ["first", "second"] (spWq A))
    (Rs : RefF K A.C A.rsub .Sub) (cs : Cal P w K mg base 4 A.rsub ["self", "other"] (spB A fun p q => fsub q p)) (Bm : BinF K A.C A.mul .Mult) (cm : Cal P w K mg base 3 A.mul ["self", "other"] (spB A fmul)) : FnOk P w K mg base (L2.CX P w) 5 f fd ["self", "other"] (spRmod A) := by
  refine F.okX scRmod (fun vs H Q E h => ?_) (fun cdv AA outer s H vs Q E hr h => ?_)
  · obtain ⟨a, p, n, rfl, _⟩ := h
    rfl
  · obtain ⟨a, p, n, rfl, ha, op, on, k0, k1⟩ := h
    obtain ⟨fdN, GN, bN⟩ := N.ex
    obtain ⟨fdO, GO, bO⟩ := O.ex
    obtain ⟨fdW, GW, bW⟩ := W.ex
    refine ⟨_, pss_cons (ps_if (pt_not (pt_val (pe_call GN (hr.mono (by decide)) rfl T.gIs N.kp bN .nil (E := E0) passL (pa_cons (pv 1) pa_nil)))) (pss_one ps_never) pss_nil)
      (pss_one (ps_ret (pe_op (op_BR int_sub Rs cs hr) (pv 1) (pe_op (op_BF Bm cm (hr.mono (by decide))) (pv 0) (pe_call GW (hr.mono (by decide)) rfl T.gWq W.kp bW .nil (passes_call (takes_of rfl rfl rfl rfl) (fun _ _ _ _ h => h)) (pa_cons (pe_smeth (pe_glob (v := .ref A.C) (by rfl) T.mgC rfl) S.cr S.sm T.tC GO (hr.mono (by decide)) bO (E := E0) passL (pa_cons (pv 1) pa_nil)) (pa_cons (pv 0) pa_nil))))))), ?_⟩
    refine ⟨_, rfl, .int n, (n, 1), rfl, .int n, fun H1 e1 => ⟨_, rfl, iteF ?_⟩⟩
    refine ⟨_, rfl, _, rfl, rfl, _, rfl, .int n, (n, 1), rfl, .int n, fun r H2 e2 hf => ⟨_, rfl, r, (n, 1), a, p, rfl, hf, ha.ext (e1.trans e2), on.ok, op.ok, fun z => k0 z _ (e1.trans e2), fun z => ?_⟩⟩
    have e12 := e1.trans e2
    refine ⟨a, p, (fflo (n, 1) p, 1), rfl, ha.ext e12, .int _, op.ok, flo_bd on op z, fun r3 H3 e3 h3 => ?_⟩
    exact ⟨n, r3, _, rfl, rfl, h3, on.ok.b1, fmul_ok on op z, fun r H' e hf => k1 z r H' ((e12.trans e3).trans e) hf⟩
/-- a comparison's promise -/
def spC (A : Adr) (g : Int × Int → Int × Int → Bool) : Sp := fun vs H Q _ => ∃ a p y q, vs = [.ref a, y] ∧ FracAt A.C H a p ∧ Num A H y q ∧ Okf p ∧ Okf q ∧ ∀ H', Ext H H' → Q (.bl (g p q)) H'
def clt (p q : Int × Int) : Bool := decide (p.1 * q.2 < q.1 * p.2)
def cle (p q : Int × Int) : Bool := decide (p.1 * q.2 ≤ q.1 * p.2)
def cgt (p q : Int × Int) : Bool := decide (q.1 * p.2 < p.1 * q.2)
def cge (p q : Int × Int) : Bool := decide (q.1 * p.2 ≤ p.1 * q.2)
def ceq (p q : Int × Int) : Bool := decide (p = q)
theorem scLt : FnScope ["self", "other", "worth"] ["self", "other"] (defScope sLt) := ⟨rfl, rfl, rfl, by decide +kernel, rfl, by decide +kernel, by decide +kernel⟩
theorem ok_lt {f : Addr} {fd : FuncData} (F : Fun K "__lt__" "Frac.__lt__" sLt f fd) (T : FT K mg A) (S : StF K A) (O : Cal P w K mg base 3 A.of_ ["value"] (spOf A)) (N : Cal P w K mg base 1 A.isnum ["value"] (spIsNum A)) : FnOk P w K mg base (L2.CX P w) 4 f fd ["self", "other"] (spC A clt) := by
  refine F.okX scLt (fun vs H Q E h => ?_) (fun cdv AA outer s H vs Q E hr h => ?_)
  · obtain ⟨a, p, y, q, rfl, _⟩ := h
    rfl
  · obtain ⟨a, p, y, q, rfl, ha, hy, op, oq, k⟩ := h
    obtain ⟨fdN, GN, bN⟩ := N.ex
    obtain ⟨fdO, GO, bO⟩ := O.ex
    refine ⟨_, pss_cons (ps_if (pt_not (pt_val (pe_call GN (hr.mono (by decide)) rfl T.gIs N.kp bN .nil (E := E0) passL (pa_cons (pv 1) pa_nil)))) (pss_one ps_never) pss_nil)
      (pss_cons (ps_set (i := 2) scLt.nd rfl (Or.inl rfl) (pe_smeth (pe_glob (v := .ref A.C) (by rfl) T.mgC rfl) S.cr S.sm T.tC GO (hr.mono (by decide)) bO (E := E0) passL (pa_cons (pv 1) pa_nil)))
      (pss_one (ps_ret (pe_cmpR L2.op_lt (pe_op op_mulW (pe_fld (pv 0) rfl) (pe_fld (pv 2) rfl)) (pe_op op_mulW (pe_fld (pv 2) rfl) (pe_fld (pv 0) rfl)) (nomark _))))), ?_⟩
    refine ⟨_, rfl, y, q, rfl, hy, fun H1 e1 => ⟨_, rfl, iteF ?_⟩⟩
    refine ⟨rfl, _, rfl, y, q, rfl, hy.ext e1, fun r H2 e2 hf => ?_⟩
    obtain ⟨dx, hA⟩ := ha.ext (e1.trans e2)
    obtain ⟨dy, hB⟩ := hf
    exact ⟨_, rfl, _, _, _, _, _, rfl, hA, T.cl, T.nN, fr_num _, _, rfl, _, _, _, _, _, rfl, hB, T.cl, T.nD, fr_den _, _, _, rfl, rfl, (op.b1.cm oq.b2), _, rfl, _, _, _, _, _, rfl, hB, T.cl, T.nN, fr_num _, _, rfl, _, _, _, _, _, rfl, hA, T.cl, T.nD, fr_den _, _, _, rfl, rfl, (oq.b1.cm op.b2), _, _, rfl, rfl, k _ (e1.trans e2)⟩
theorem scLe : FnScope ["self", "other", "worth"] ["self", "other"] (defScope sLe) := ⟨rfl, rfl, rfl, by decide +kernel, rfl, by decide +kernel, by decide +kernel⟩
theorem ok_le {f : Addr} {fd : FuncData} (F : Fun K "__le__" "Frac.__le__" sLe f fd) (T : FT K mg A) (S : StF K A) (O : Cal P w K mg base 3 A.of_ ["value"] (spOf A)) (N : Cal P w K mg base 1 A.isnum ["value"] (spIsNum A)) : FnOk P w K mg base (L2.CX P w) 4 f fd ["self", "other"] (spC A cle) := by
  refine F.okX scLe (fun vs H Q E h => ?_) (fun cdv AA outer s H vs Q E hr h => ?_)
  · obtain ⟨a, p, y, q, rfl, _⟩ := h
    rfl
  · obtain ⟨a, p, y, q, rfl, ha, hy, op, oq, k⟩ := h
    obtain ⟨fdN, GN, bN⟩ := N.ex
    obtain ⟨fdO, GO, bO⟩ := O.ex
    refine ⟨_, pss_cons (ps_if (pt_not (pt_val (pe_call GN (hr.mono (by decide)) rfl T.gIs N.kp bN .nil (E := E0) passL (pa_cons (pv 1) pa_nil)))) (pss_one ps_never) pss_nil)
      (pss_cons (ps_set (i := 2) scLe.nd rfl (Or.inl rfl) (pe_smeth (pe_glob (v := .ref A.C) (by rfl) T.mgC rfl) S.cr S.sm T.tC GO (hr.mono (by decide)) bO (E := E0) passL (pa_cons (pv 1) pa_nil)))
      (pss_one (ps_ret (pe_cmpR L2.op_le (pe_op op_mulW (pe_fld (pv 0) rfl) (pe_fld (pv 2) rfl)) (pe_op op_mulW (pe_fld (pv 2) rfl) (pe_fld (pv 0) rfl)) (nomark _))))), ?_⟩
    refine ⟨_, rfl, y, q, rfl, hy, fun H1 e1 => ⟨_, rfl, iteF ?_⟩⟩
    refine ⟨rfl, _, rfl, y, q, rfl, hy.ext e1, fun r H2 e2 hf => ?_⟩
    obtain ⟨dx, hA⟩ := ha.ext (e1.trans e2)
    obtain ⟨dy, hB⟩ := hf
    exact ⟨_, rfl, _, _, _, _, _, rfl, hA, T.cl, T.nN, fr_num _, _, rfl, _, _, _, _, _, rfl, hB, T.cl, T.nD, fr_den _, _, _, rfl, rfl, (op.b1.cm oq.b2), _, rfl, _, _, _, _, _, rfl, hB, T.cl, T.nN, fr_num _, _, rfl, _, _, _, _, _, rfl, hA, T.cl, T.nD, fr_den _, _, _, rfl, rfl, (oq.b1.cm op.b2), _, _, rfl, rfl, k _ (e1.trans e2)⟩
theorem scGt : FnScope ["self", "other", "worth"] ["self", "other"] (defScope sGt) := ⟨rfl, rfl, rfl, by decide +kernel, rfl, by decide +kernel, by decide +kernel⟩
theorem ok_gt {f : Addr} {fd : FuncData} (F : Fun K "__gt__" "Frac.__gt__" sGt f fd) (T : FT K mg A) (S : StF K A) (O : Cal P w K mg base 3 A.of_ ["value"] (spOf A)) (N : Cal P w K mg base 1 A.isnum ["value"] (spIsNum A)) : FnOk P w K mg base (L2.CX P w) 4 f fd ["self", "other"] (spC A cgt) := by
  refine F.okX scGt (fun vs H Q E h => ?_) (fun cdv AA outer s H vs Q E hr h => ?_)
  · obtain ⟨a, p, y, q, rfl, _⟩ := h
    rfl
  · obtain ⟨a, p, y, q, rfl, ha, hy, op, oq, k⟩ := h
    obtain ⟨fdN, GN, bN⟩ := N.ex
    obtain ⟨fdO, GO, bO⟩ := O.ex
    refine ⟨_, pss_cons (ps_if (pt_not (pt_val (pe_call GN (hr.mono (by decide)) rfl T.gIs N.kp bN .nil (E := E0) passL (pa_cons (pv 1) pa_nil)))) (pss_one ps_never) pss_nil)
      (pss_cons (ps_set (i := 2) scGt.nd rfl (Or.inl rfl) (pe_smeth (pe_glob (v := .ref A.C) (by rfl) T.mgC rfl) S.cr S.sm T.tC GO (hr.mono (by decide)) bO (E := E0) passL (pa_cons (pv 1) pa_nil)))
      (pss_one (ps_ret (pe_cmpR L2.op_gt (pe_op op_mulW (pe_fld (pv 0) rfl) (pe_fld (pv 2) rfl)) (pe_op op_mulW (pe_fld (pv 2) rfl) (pe_fld (pv 0) rfl)) (nomark _))))), ?_⟩
    refine ⟨_, rfl, y, q, rfl, hy, fun H1 e1 => ⟨_, rfl, iteF ?_⟩⟩
    refine ⟨rfl, _, rfl, y, q, rfl, hy.ext e1, fun r H2 e2 hf => ?_⟩
    obtain ⟨dx, hA⟩ := ha.ext (e1.trans e2)
    obtain ⟨dy, hB⟩ := hf
    exact ⟨_, rfl, _, _, _, _, _, rfl, hA, T.cl, T.nN, fr_num _, _, rfl, _, _, _, _, _, rfl, hB, T.cl, T.nD, fr_den _, _, _, rfl, rfl, (op.b1.cm oq.b2), _, rfl, _, _, _, _, _, rfl, hB, T.cl, T.nN, fr_num _, _, rfl, _, _, _, _, _, rfl, hA, T.cl, T.nD, fr_den _, _, _, rfl, rfl, (oq.b1.cm op.b2), _, _, rfl, rfl, k _ (e1.trans e2)⟩
theorem scGe : FnScope ["self", "other", "worth"] ["self", "other"] (defScope sGe) := ⟨rfl, rfl, rfl, by decide +kernel, rfl, by decide +kernel, by decide +kernel⟩
theorem ok_ge {f : Addr} {fd : FuncData} (F : Fun K "__ge__" "Frac.__ge__" sGe f fd) (T : FT K mg A) (S : StF K A) (O : Cal P w K mg base 3 A.of_ ["value"] (spOf A)) (N : Cal P w K mg base 1 A.isnum ["value"] (spIsNum A)) : FnOk P w K mg base (L2.CX P w) 4 f fd ["self", "other"] (spC A cge) := by
  refine F.okX scGe (fun vs H Q E h => ?_) (fun cdv AA outer s H vs Q E hr h => ?_)
  · obtain ⟨a, p, y, q, rfl, _⟩ := h
    rfl
  · obtain ⟨a, p, y, q, rfl, ha, hy, op, oq, k⟩ := h
    obtain ⟨fdN, GN, bN⟩ := N.ex
    obtain ⟨fdO, GO, bO⟩ := O.ex
    refine ⟨_, pss_cons (ps_if (pt_not (pt_val (pe_call GN (hr.mono (by decide)) rfl T.gIs N.kp bN .nil (E := E0) passL (pa_cons (pv 1) pa_nil)))) (pss_one ps_never) pss_nil)
      (pss_cons (ps_set (i := 2) scGe.nd rfl (Or.inl rfl) (pe_smeth (pe_glob (v := .ref A.C) (by rfl) T.mgC rfl) S.cr S.sm T.tC GO (hr.mono (by decide)) bO (E := E0) passL (pa_cons (pv 1) pa_nil)))
      (pss_one (ps_ret (pe_cmpR L2.op_ge (pe_op op_mulW (pe_fld (pv 0) rfl) (pe_fld (pv 2) rfl)) (pe_op op_mulW (pe_fld (pv 2) rfl) (pe_fld (pv 0) rfl)) (nomark _))))), ?_⟩
    refine ⟨_, rfl, y, q, rfl, hy, fun H1 e1 => ⟨_, rfl, iteF ?_⟩⟩
    refine ⟨rfl, _, rfl, y, q, rfl, hy.ext e1, fun r H2 e2 hf => ?_⟩
    obtain ⟨dx, hA⟩ := ha.ext (e1.trans e2)
    obtain ⟨dy, hB⟩ := hf
    exact ⟨_, rfl, _, _, _, _, _, rfl, hA, T.cl, T.nN, fr_num _, _, rfl, _, _, _, _, _, rfl, hB, T.cl, T.nD, fr_den _, _, _, rfl, rfl, (op.b1.cm oq.b2), _, rfl, _, _, _, _, _, rfl, hB, T.cl, T.nN, fr_num _, _, rfl, _, _, _, _, _, rfl, hA, T.cl, T.nD, fr_den _, _, _, rfl, rfl, (oq.b1.cm op.b2), _, _, rfl, rfl, k _ (e1.trans e2)⟩
theorem scEq : FnScope ["self", "other"] ["self", "other"] (defScope sEq) := ⟨rfl, rfl, rfl, by decide +kernel, rfl, by decide +kernel, by decide +kernel⟩
theorem ok_eq {f : Addr} {fd : FuncData} (F : Fun K "__eq__" "Frac.__eq__" sEq f fd) (T : FT K mg A) : FnOk P w K mg base (L2.CX P w) 1 f fd ["self", "other"] (spC A ceq) := by
  refine F.okX scEq (fun vs H Q E h => ?_) (fun cdv AA outer s H vs Q E hr h => ?_)
  · obtain ⟨a, p, y, q, rfl, _⟩ := h
    rfl
  · obtain ⟨a, p, y, q, rfl, ha, hy, op, oq, k⟩ := h
    refine ⟨_, pss_cons (ps_if (pt_val (pe_callB call_isi (by rfl) T.isi boot_isi (pa_cons (pv 1) (pa_cons (pe_bltn (v := .ty "int") (by rfl) T.int0 boot_int rfl) pa_nil)))) (pss_one (ps_ret (pe_and (pe_cmpR L2.op_eq (pe_fld (pv 0) rfl) pe_int (nomark _)) (pe_one (pe_cmpR L2.op_eq (pe_fld (pv 0) rfl) (pv 1) (nomark _)))))) pss_nil)
      (pss_cons (ps_if (pt_not (pt_val (pe_callB call_isi (by rfl) T.isi boot_isi (pa_cons (pv 1) (pa_cons (pe_glob (v := .ref A.C) (by rfl) T.mgC rfl) pa_nil))))) (pss_one ps_never) pss_nil)
      (pss_one (ps_ret (pe_and (pe_cmpR L2.op_eq (pe_fld (pv 0) rfl) (pe_fld (pv 1) rfl) (nomark _)) (pe_one (pe_cmpR L2.op_eq (pe_fld (pv 0) rfl) (pe_fld (pv 1) rfl) (nomark _))))))), ?_⟩
    have kk := k H Ext.rfl'
    obtain ⟨dx, hA⟩ := ha
    rcases hy with ⟨b, rfl, hf⟩ | ⟨rfl, h1⟩
    · obtain ⟨dy, hB⟩ := id hf
      refine ⟨_, rfl, _, _, _, _, false, rfl, .ty "int", T.tyF hf, T.kit_CI, _, rfl, iteF ?_⟩
      refine ⟨_, rfl, _, _, _, _, true, rfl, .own A.C, T.tyF hf, kit_CC, _, rfl, iteF ?_⟩
      refine ⟨_, rfl, _, _, _, _, _, rfl, hA, T.cl, T.nN, fr_num _, _, rfl, _, _, _, _, _, rfl, hB, T.cl, T.nN, fr_num _, rfl, _, rfl, ?_⟩
      by_cases h2 : p.1 = q.1
      · rw [decide_eq_true (by rw [h2])]
        refine iteT ⟨_, rfl, _, _, _, _, _, rfl, hA, T.cl, T.nD, fr_den _, _, rfl, _, _, _, _, _, rfl, hB, T.cl, T.nD, fr_den _, rfl, ?_⟩
        have e : ceq p q = decide (V.int p.2 = V.int q.2) := by
          unfold ceq
          rw [Bool.eq_iff_iff]
          simp only [decide_eq_true_eq, V.int.injEq, Prod.ext_iff]
          exact ⟨fun z => z.2, fun z => ⟨h2, z⟩⟩
        rw [e] at kk
        exact kk
      · rw [decide_eq_false (by intro z; injection z with z; exact h2 z)]
        have e : ceq p q = false := decide_eq_false (by intro z; exact h2 (by rw [z]))
        rw [e] at kk
        exact iteF kk
    · refine ⟨_, rfl, _, _, _, _, true, rfl, .ty "int", tyI _, kit_II, _, rfl, iteT ?_⟩
      refine ⟨_, rfl, _, _, _, _, _, rfl, hA, T.cl, T.nD, fr_den _, rfl, _, rfl, ?_⟩
      by_cases h2 : p.2 = 1
      · rw [decide_eq_true (by rw [h2])]
        refine iteT ⟨_, rfl, _, _, _, _, _, rfl, hA, T.cl, T.nN, fr_num _, _, rfl, rfl, ?_⟩
        have e : ceq p q = decide (V.int p.1 = V.int q.1) := by
          unfold ceq
          rw [Bool.eq_iff_iff]
          simp only [decide_eq_true_eq, V.int.injEq, Prod.ext_iff]
          exact ⟨fun z => z.1, fun z => ⟨z, by rw [h1, h2]⟩⟩
        rw [e] at kk
        exact kk
      · rw [decide_eq_false (by intro z; injection z with z; exact h2 z)]
        have e : ceq p q = false := decide_eq_false (by intro z; exact h2 (by rw [z, h1]))
        rw [e] at kk
        exact iteF kk
theorem scBool : FnScope ["self"] ["self"] (defScope sBool) := ⟨rfl, rfl, rfl, by decide +kernel, rfl, by decide +kernel, by decide +kernel⟩
def spBool (A : Adr) : Sp := fun vs H Q _ => ∃ a p, vs = [.ref a] ∧ FracAt A.C H a p ∧ Q (.bl (decide (p.1 ≠ 0))) H
theorem boot_bool : bootBuiltins "bool" = some (.type "bool") := by decide +kernel
theorem ok_bool {f : Addr} {fd : FuncData} (F : Fun K "__bool__" "Frac.__bool__" sBool f fd) (T : FT K mg A) (bo : mg "bool" = none) : FnOk P w K mg base (L2.CX P w) 1 f fd ["self"] (spBool A) := by
  refine F.okX scBool (fun vs H Q E h => ?_) (fun cdv AA outer s H vs Q E hr h => ?_)
  · obtain ⟨a, p, rfl, _⟩ := h
    rfl
  · obtain ⟨a, p, rfl, ⟨dx, hA⟩, k⟩ := h
    refine ⟨_, pss_one (ps_ret (pe_callTy call_bool1 (by rfl) bo boot_bool (pa_cons (pe_cmpR L2.op_ne (pe_fld (pv 0) rfl) pe_int (nomark _)) pa_nil))), ?_⟩
    refine ⟨_, rfl, _, _, _, _, _, rfl, hA, T.cl, T.nN, fr_num _, rfl, .inr ⟨_, rfl, ?_⟩⟩
    have e : decide (p.1 ≠ 0) = !decide (V.int p.1 = V.int 0) := by
      rw [Bool.eq_iff_iff]
      simp
    rw [e] at k
    exact k
theorem scOver : FnScope ["self", "b", "worth"] ["self", "b"] (defScope sOver) := ⟨rfl, rfl, rfl, by decide +kernel, rfl, by decide +kernel, by decide +kernel⟩
/-- over: the quotient, or DivisionByZero -/
def spOver (A : Adr) : Sp := fun vs H Q E => ∃ a p y q, vs = [.ref a, y] ∧ FracAt A.C H a p ∧ Num A H y q ∧ Okf p ∧ Okf q ∧ (q.1 = 0 → ∀ H', Ext H H' → E (.ref A.Z) none H') ∧ (q.1 ≠ 0 → ∀ r H', Ext H H' → FracAt A.C H' r (fover p q) → Q (.ref r) H')
theorem made_ext2 {H : Hp} {x dx : Addr} {o1 o2 : HO} (hx : H x = none) (hdx : H dx = none) : Ext H (upd (upd H dx o1) x o2) := fun a u e => by
  rw [upd_ne (ne_of_none e hx), upd_ne (ne_of_none e hdx)]
  exact e
theorem ok_over {f : Addr} {fd : FuncData} (F : Fun K "over" "Frac.over" sOver f fd) (T : FT K mg A) (S : StF K A) (O : Cal P w K mg base 3 A.of_ ["value"] (spOf A)) (M : MkF P w K mg base A) : FnOk P w K mg base (L2.CX P w) 4 f fd ["self", "b"] (spOver A) := by
  refine F.okX scOver (fun vs H Q E h => ?_) (fun cdv AA outer s H vs Q E hr h => ?_)
  · obtain ⟨a, p, y, q, rfl, _⟩ := h
    rfl
  · obtain ⟨a, p, y, q, rfl, ha, hy, op, oq, k0, k1⟩ := h
    obtain ⟨fdO, GO, bO⟩ := O.ex
    obtain ⟨fdM, GM, bM, _⟩ := M.ex
    refine ⟨_, pss_cons (ps_set (i := 2) scOver.nd rfl (Or.inl rfl) (pe_smeth (pe_glob (v := .ref A.C) (by rfl) T.mgC rfl) S.cr S.sm T.tC GO (hr.mono (by decide)) bO (E := E0) passL (pa_cons (pv 1) pa_nil)))
      (pss_one (ps_ret (pe_make M.mkc GM (hr.mono (by decide)) rfl T.mgC bM .nil (passes_call (takes_of rfl rfl rfl rfl) (fun _ _ _ _ h => h)) (pa_cons (pe_op op_mulW (pe_fld (pv 0) rfl) (pe_fld (pv 2) rfl)) (pa_cons (pe_op op_mulW (pe_fld (pv 0) rfl) (pe_fld (pv 2) rfl)) pa_nil))))), ?_⟩
    refine ⟨rfl, _, rfl, y, q, rfl, hy, fun r H2 e2 hf => ?_⟩
    obtain ⟨dx, hA⟩ := ha.ext e2
    obtain ⟨dy, hB⟩ := hf
    refine ⟨_, rfl, _, _, _, _, _, rfl, hA, T.cl, T.nN, fr_num _, _, rfl, _, _, _, _, _, rfl, hB, T.cl, T.nD, fr_den _, _, _, rfl, rfl, (op.b1.cm oq.b2), _, rfl, _, _, _, _, _, rfl, hA, T.cl, T.nD, fr_den _, _, rfl, _, _, _, _, _, rfl, hB, T.cl, T.nN, fr_num _, _, _, rfl, rfl, (op.b2.cm oq.b1), fun x dx' nx ndx nex => ?_⟩
    refine ⟨x, dx', _, _, rfl, upd_same, op.b2.mul oq.b1, fun z => ?_, fun z => ⟨rfl, ?_⟩⟩
    · refine k0 ?_ _ (e2.trans (made_ext2 nx ndx))
      rcases Int.mul_eq_zero.mp z with z | z
      · exact absurd z op.ne
      · exact z
    · exact k1 (fun z' => z (by rw [z', Int.mul_zero])) x _ (e2.trans (made_ext nx ndx)) ⟨dx', upd_same⟩
theorem scStr : FnScope ["self"] ["self"] (defScope sStr) := ⟨rfl, rfl, rfl, by decide +kernel, rfl, by decide +kernel, by decide +kernel⟩
/-- an int's text -/
def wi (i : Int) : Str := toString i
/-- the written form -/
def wr (p : Int × Int) : Str := if p.2 = 1 then wi p.1 else Str.empty ++ wi p.1 ++ "/" ++ wi p.2
def spStr (A : Adr) : Sp := fun vs H Q _ => ∃ a p, vs = [.ref a] ∧ FracAt A.C H a p ∧ Oks p ∧ Q (.str (wr p)) H
theorem boot_str : bootBuiltins "str" = some (.type "str") := by decide +kernel
theorem wi_len {i : Int} (h : i.natAbs < 2 ^ 900) : (wi i).length ≤ 1921 := int_text_len_1921 (Nat.lt_of_lt_of_le (log2_lt h (by decide)) (by decide))
theorem app_len (x y : Str) : (x ++ y).length = x.length + y.length := by first | exact Str.length_append x y | simp
theorem ok_str {f : Addr} {fd : FuncData} (F : Fun K "__str__" "Frac.__str__" sStr f fd) (T : FT K mg A) (st : mg "str" = none) : FnOk P w K mg base (L2.CX P w) 1 f fd ["self"] (spStr A) := by
  refine F.okX scStr (fun vs H Q E h => ?_) (fun cdv AA outer s H vs Q E hr h => ?_)
  · obtain ⟨a, p, rfl, _⟩ := h
    rfl
  · obtain ⟨a, p, rfl, ⟨dx, hA⟩, op, k⟩ := h
    refine ⟨_, pss_cons (ps_if (pt_cmpR L2.op_eq (pe_fld (pv 0) rfl) pe_int (nomark _)) (pss_one (ps_ret (pe_callTy call_str_int (by rfl) st boot_str (pa_cons (pe_fld (pv 0) rfl) pa_nil)))) pss_nil)
      (pss_one (ps_ret (pe_joined (.cons (pe_fmt (pe_fld (pv 0) rfl)) (.cons pe_str (.cons (pe_fmt (pe_fld (pv 0) rfl)) .nil)))))), ?_⟩
    have l1 : p.1.natAbs.log2 < 1920 := Nat.lt_of_lt_of_le (log2_lt op.b1 (by decide)) (by decide)
    have l2 : p.2.natAbs.log2 < 1920 := Nat.lt_of_lt_of_le (log2_lt op.b2 (by decide)) (by decide)
    refine ⟨_, rfl, _, _, _, _, _, rfl, hA, T.cl, T.nD, fr_den _, rfl, _, rfl, ?_⟩
    unfold wr at k
    by_cases h : p.2 = 1
    · rw [if_pos h] at k
      rw [decide_eq_true (by rw [h])]
      exact iteT ⟨_, rfl, _, _, _, _, _, rfl, hA, T.cl, T.nN, fr_num _, _, rfl, l1, k⟩
    · rw [if_neg h] at k
      rw [decide_eq_false (by intro z; injection z with z; exact h z)]
      have s1 := wi_len op.b1
      have s2 := wi_len op.b2
      have s0 : (Str.empty).length = 0 := rfl
      have s3 : ("/" : Str).length = 1 := rfl
      refine iteF ⟨_, rfl, _, _, _, _, _, rfl, hA, T.cl, T.nN, fr_num _, .inr ⟨_, rfl, l1, _, rfl, ?_, _, rfl, ?_, _, rfl, _, _, _, _, _, rfl, hA, T.cl, T.nD, fr_den _, .inr ⟨_, rfl, l2, _, rfl, ?_, k⟩⟩⟩
      all_goals
        rw [sizeLine_eq]
        simp only [app_len, s0, s3]
        show _ + _ ≤ _
        unfold wi at s1 s2
        omega
end
end Fx

set_option Elab.async false
set_option linter.all false
set_option maxRecDepth 100000
set_option maxHeartbeats 4000000
set_option exponentiation.threshold 20000
namespace Fx
open PySem PySem.Spec PyProof.Rows L2 FM
abbrev sPow : Stmt := inClass (top 11) 12
section
variable {P : Program} {w : World} {K : PySem.W.Frag} {mg : Str → Option Value} {base : Heap} {A : Adr}
theorem pow_bd {x : Int} {b j : Nat} (h : x.natAbs < 2 ^ b) (hj : b * j < 4000) : Bd (x ^ j) := by
  unfold Bd
  rw [Int.natAbs_pow]
  refine Nat.lt_of_le_of_lt (Nat.pow_le_pow_left (Nat.le_of_lt h) j) ?_
  rw [← Nat.pow_mul]
  exact Nat.pow_lt_pow_right (by decide) hj
theorem scPow : FnScope ["self", "other", "num", "den", "_"] ["self", "other"] (defScope sPow) := ⟨rfl, rfl, rfl, by decide +kernel, rfl, by decide +kernel, by decide +kernel⟩
/-- a power -/
def spPow (A : Adr) : Sp := fun vs H Q _ => ∃ a p k b, vs = [.ref a, .int k] ∧ FracAt A.C H a p ∧ Low p ∧ 0 ≤ k ∧ k ≤ 64 ∧ p.1.natAbs < 2 ^ b ∧ p.2.natAbs < 2 ^ b ∧ b < 4000 ∧ b * k.toNat < 4000 ∧ ∀ r H', Ext H H' → FracAt A.C H' r (p.1 ^ k.toNat, p.2 ^ k.toNat) → Q (.ref r) H'
theorem ok_pow {f : Addr} {fd : FuncData} (F : Fun K "__pow__" "Frac.__pow__" sPow f fd) (T : FT K mg A) (M : MkF P w K mg base A) (ra : mg "range" = none) (mp : ∃ t, mg "MOST_POWER" = some (.int 64 t)) : FnOk P w K mg base (L2.CX P w) 3 f fd ["self", "other"] (spPow A) := by
  obtain ⟨tk, mp⟩ := mp
  refine F.okX scPow (fun vs H Q E h => ?_) (fun cdv AA outer s H vs Q E hr h => ?_)
  · obtain ⟨a, p, k, b, rfl, _⟩ := h
    rfl
  · obtain ⟨a, p, k, b, rfl, ⟨dx, hA⟩, lo, k0, k1, b1, b2, b3, b4, kk⟩ := h
    refine ⟨_, pss_cons (ps_if (pt_not (pt_chain L2.op_le L2.op_le pe_int (pv 1) (pe_glob (v := .int 64) (by rfl) mp ⟨_, rfl⟩))) (pss_one ps_never) pss_nil)
      (pss_cons (ps_asg2 pe_int (pg_name (i := 2) scPow.nd rfl (Or.inl rfl)) (pg_name (i := 3) scPow.nd rfl (Or.inl rfl)))
      (pss_cons (ps_for (passes_of rfl) rfl (pi_range1 rfl ra (pa_cons (pv 1) pa_nil)) (pg_name (i := 4) scPow.nd rfl (Or.inl rfl))
        (pss_cons (ps_set (i := 2) scPow.nd rfl (Or.inl rfl) (pe_op op_mulW (pv 2) (pe_fld (pv 0) rfl)))
        (pss_one (ps_set (i := 3) scPow.nd rfl (Or.inl rfl) (pe_op op_mulW (pv 3) (pe_fld (pv 0) rfl))))))
      (pss_one (ps_ret (pe_frac2 M T hr rfl (pa_cons (pv 2) (pa_cons (pv 3) pa_nil))))))), ?_⟩
    refine ⟨_, rfl, _, _, rfl, rfl, _, rfl, ?_⟩
    rw [decide_eq_true k0]
    refine iteT ⟨_, _, rfl, rfl, _, rfl, ?_⟩
    rw [decide_eq_true k1]
    refine iteF ?_
    refine ⟨_, rfl, k, rfl, by omega, by omega, for_range (lo := 0) (n := k.toNat) (fun i σ H2 => H2 = H ∧ ∃ v, σ = [some (.ref a), some (.int k), some (.int (p.1 ^ i)), some (.int (p.2 ^ i)), v]) ⟨rfl, none, by simp [Int.pow_zero]; rfl⟩ ?_ ?_⟩
    · rintro i σ H2 hi ⟨rfl, v, rfl⟩
      have bi : b * i < 4000 := Nat.lt_of_le_of_lt (Nat.mul_le_mul_left b (Nat.le_of_lt hi)) b4
      have c1 := (pow_bd b1 bi).cm (show Bd p.1 from Nat.lt_of_lt_of_le b1 (Nat.pow_le_pow_right (by decide) (Nat.le_of_lt b3)))
      have c2 := (pow_bd b2 bi).cm (show Bd p.2 from Nat.lt_of_lt_of_le b2 (Nat.pow_le_pow_right (by decide) (Nat.le_of_lt b3)))
      refine ⟨_, rfl, _, rfl, _, _, _, _, _, rfl, hA, T.cl, T.nN, fr_num _, _, _, rfl, rfl, c1, _, rfl, _, rfl, _, _, _, _, _, rfl, hA, T.cl, T.nD, fr_den _, _, _, rfl, rfl, c2, rfl, some (.int (0 + i)), ?_⟩
      rw [Int.pow_succ, Int.pow_succ]
      rfl
    · rintro σ H2 ⟨rfl, v, rfl⟩
      have dn : p.2 ^ k.toNat ≠ 0 := by
        have h9 : 0 < p.2 ^ k.toNat := Int.pow_pos lo.pos
        omega
      refine ⟨_, rfl, _, rfl, _, _, rfl, dn, (pow_bd b2 b4).bi, fun r H' e hf => kk r H' e ?_⟩
      have e2 := low_self (low_pow lo k.toNat)
      dsimp only at e2
      rw [e2] at hf
      exact hf
end
/-- a tuple of two ints -/
def TupAt (H : Hp) (r : Addr) (p : Int × Int) : Prop := H r = some (.tup [.int p.1, .int p.2])
structure Prt (p : Int × Int) : Prop where
  b1 : Bd p.1
  b2 : Bd p.2
  ne : p.2 ≠ 0
theorem Okf.prt {p : Int × Int} (o : Okf p) : Prt p := ⟨o.b1, o.b2, o.ne⟩
end Fx

set_option Elab.async false
set_option linter.all false
set_option maxRecDepth 100000
set_option maxHeartbeats 4000000
set_option exponentiation.threshold 20000
/-! What an expression gives, from any later heap. -/
namespace Fx
open PySem PySem.Spec PyProof.Rows L2 FM
/-- from every heap that holds what H0 holds, t gives a value with R, and only makes objects -/
def Gv (σ : L2.St) (H0 : Hp) (t : TE) (R : V → Hp → Prop) : Prop := ∀ H Q, Ext H0 H → (∀ v H', Ext H H' → R v H' → Q v H') → t σ H Q
def GvA (σ : L2.St) (H0 : Hp) (t : TA) (R : List V → Hp → Prop) : Prop := ∀ H Q, Ext H0 H → (∀ v H', Ext H H' → R v H' → Q v H') → t σ H Q
def Mo (R : V → Hp → Prop) : Prop := ∀ v H H', Ext H H' → R v H → R v H'
def All (R : V → Hp → Prop) (n : Nat) : List V → Hp → Prop := fun vs H => vs.length = n ∧ ∀ x ∈ vs, R x H
/-- a list of n things with R -/
def Lst (R : V → Hp → Prop) (n : Nat) : V → Hp → Prop := fun v H => ∃ l xs, v = .ref l ∧ H l = some (.lst xs) ∧ All R n xs H
theorem All.ext {R : V → Hp → Prop} {n : Nat} {vs : List V} {H H' : Hp} (m : Mo R) (h : All R n vs H) (e : Ext H H') : All R n vs H' := ⟨h.1, fun x hx => m x H H' e (h.2 x hx)⟩
theorem mo_lst {R : V → Hp → Prop} {n : Nat} (m : Mo R) : Mo (Lst R n) := fun v H H' e ⟨l, xs, h1, h2, h3⟩ => ⟨l, xs, h1, e _ _ h2, h3.ext m e⟩
section
variable {σ : L2.St} {H0 : Hp} {t t1 t2 : TE} {ta : TA} {R S1 S2 : V → Hp → Prop} {n m : Nat}
theorem Gv.imp (h : Gv σ H0 t R) (i : ∀ v H, R v H → S1 v H) : Gv σ H0 t S1 := fun H Q e k => h H Q e fun v H' e' r => k v H' e' (i v H' r)
theorem gv_c (v : V) : Gv σ H0 (tC v) (fun x _ => x = v) := fun H Q e k => k v H Ext.rfl' rfl
theorem gv_v {i : Nat} {v : V} (h : σ[i]? = some (some v)) (r : R v H0) (mo : Mo R) : Gv σ H0 (tVar i) R := fun H Q e k => ⟨v, h, k v H Ext.rfl' (mo v H0 H e r)⟩
theorem gva_nil : GvA σ H0 tNil (All R 0) := fun H Q e k => k [] H Ext.rfl' ⟨rfl, by simp⟩
theorem gva_cons (mo : Mo R) (h : Gv σ H0 t R) (h2 : GvA σ H0 ta (All R n)) : GvA σ H0 (tCons t ta) (All R (n + 1)) := fun H Q e k =>
  h H _ e fun v H1 e1 r1 => h2 H1 _ (e.trans e1) fun vs H2 e2 r2 => k (v :: vs) H2 (e1.trans e2) ⟨by simp [r2.1], fun x hx => by
    rcases List.mem_cons.mp hx with z | z
    · rw [z]; exact mo v H1 H2 e2 r1
    · exact r2.2 x z⟩
theorem gv_lst (mo : Mo R) (h : GvA σ H0 ta (All R n)) (hn : n ≤ sizeLine) : Gv σ H0 (tLst ta) (Lst R n) := fun H Q e k =>
  h H _ e fun vs H1 e1 r1 => ⟨by rw [r1.1]; exact hn, fun p np => k _ _ (e1.upd' np) ⟨p, vs, rfl, upd_same, r1.ext mo (ext1 np)⟩⟩
theorem gv_pair (mo : Mo S1) (h1 : Gv σ H0 t1 S1) (h2 : Gv σ H0 t2 S2) (mo2 : Mo S2) : Gv σ H0 (tTup (tCons t1 (tCons t2 tNil))) (fun v H => ∃ t a b, v = .ref t ∧ H t = some (.tup [a, b]) ∧ S1 a H ∧ S2 b H) := fun H Q e k =>
  h1 H _ e fun a H1 e1 r1 => h2 H1 _ (e.trans e1) fun b H2 e2 r2 => ⟨by show 2 ≤ sizeLine; decide, fun p np => k _ _ ((e1.trans e2).upd' np) ⟨p, a, b, rfl, upd_same, mo _ _ _ (e2.upd' np) r1, mo2 _ _ _ (ext1 np) r2⟩⟩
theorem gv_cat (mo : Mo R) (h1 : Gv σ H0 t1 (Lst R n)) (h2 : Gv σ H0 t2 (Lst R m)) (hn : n + m ≤ sizeLine) : Gv σ H0 (tOp rCat t1 t2) (Lst R (n + m)) := fun H Q e k =>
  h1 H _ e fun a H1 e1 r1 => h2 H1 _ (e.trans e1) fun b H2 e2 r2 => by
    obtain ⟨l, xs, rfl, hl, r1⟩ := r1
    obtain ⟨l2, ys, rfl, hl2, r2⟩ := r2
    refine ⟨l, l2, xs, ys, rfl, rfl, e2 _ _ hl, hl2, by rw [r1.1, r2.1]; exact hn, fun p np => k _ _ ((e1.trans e2).upd' np) ⟨p, _, rfl, upd_same, by rw [List.length_append, r1.1, r2.1], fun x hx => ?_⟩⟩
    rcases List.mem_append.mp hx with z | z
    · exact mo x _ _ (e2.upd' np) (r1.2 x z)
    · exact mo x _ _ (ext1 np) (r2.2 x z)
theorem gv_op {r : L2.R2} (mo : Mo S1) (h1 : Gv σ H0 t1 S1) (h2 : Gv σ H0 t2 S2) (h : ∀ x y H Q, Ext H0 H → S1 x H → S2 y H → (∀ v H', Ext H H' → R v H' → Q v H') → r x y H Q) : Gv σ H0 (tOp r t1 t2) R := fun H Q e k =>
  h1 H _ e fun a H1 e1 r1 => h2 H1 _ (e.trans e1) fun b H2 e2 r2 => h a b H2 _ ((e.trans e1).trans e2) (mo _ _ _ e2 r1) r2 fun v H' e' r' => k v H' ((e1.trans e2).trans e') r'
theorem gv_un {r : V → Hp → VK → Prop} (h1 : Gv σ H0 t1 S1) (h : ∀ x H Q, Ext H0 H → S1 x H → (∀ v H', Ext H H' → R v H' → Q v H') → r x H Q) : Gv σ H0 (tUn r t1) R := fun H Q e k =>
  h1 H _ e fun a H1 e1 r1 => h a H1 _ (e.trans e1) r1 fun v H' e' r' => k v H' (e1.trans e') r'
/-- statements -/
theorem seq_gv {i : Nat} {u : TS} {D : Ends} {H : Hp} (h : Gv σ H0 t R) (e : Ext H0 H) (k : ∀ v H', Ext H H' → R v H' → u D (σ.set i (some v)) H') : tSeq (tAsg t (gName i)) u D σ H := h H _ e k
theorem ret_gv {D : Ends} {H : Hp} (h : Gv σ H0 t R) (e : Ext H0 H) (k : ∀ v H', Ext H H' → R v H' → D.rt v H') : tRet t D σ H := h H _ e k
/-- all([.. for .. in rows]), each element True -/
theorem gv_all {K : PySem.W.Frag} {i l : Nat} {g : TG} {te : TE} {vs : List Nat} {xs : List V} (hσ : σ[i]? = some (some (.ref l))) (hl : H0 l = some (.lst xs)) (hx : All R n xs H0) (mo : Mo R) (hn : n < sizeLine)
    (step : ∀ (x : V) (H : Hp) (Q : VK) (Q' : Hp → Prop), Ext H0 H → R x H → (∀ H', Ext H H' → Q (.bl true) H') → g x (wipe σ vs) H fun σ2 H2 => wipe σ2 vs = wipe σ vs ∧ tYes σ2 H2 fun b H3 => if b = true then te σ2 H3 Q else Q' H3) :
    Gv σ H0 (tCB (rAll K) (tCons (tLc (iList K (tVar i)) g tYes te vs) tNil)) (fun v _ => v = .bl true) := by
  intro H Q e k
  have hlH := e _ _ hl
  refine ⟨_, hσ, l, rfl, ⟨_, SqL.of hlH⟩, fun D nD => ?_⟩
  have lD : l ≠ D := ne_of_none hlH nD
  refine lc_list (K := K) (a := l) (xs := xs) (fun i H2 => H2 D = some (.lst ((List.replicate i true).map V.bl)) ∧ Ext H H2) ⟨upd_same, ext1 nD⟩ (fun i H2 _ ⟨_, e2⟩ => SqL.of (e2 _ _ hlH)) ?_ ?_
  · rintro i x H2 hi ⟨hD, e2⟩
    have hil : i < n := by rw [← hx.1]; exact (List.getElem?_eq_some_iff.mp hi).1
    refine step x H2 _ _ (e.trans e2) (mo _ _ _ (e.trans e2) (hx.2 x (List.mem_of_getElem? hi))) fun H' e' => ⟨_, e' _ _ hD, ?_, ?_, ?_⟩
    · rw [List.length_map, List.length_replicate]
      exact Nat.lt_trans hil hn
    · rw [upd_same, List.replicate_succ', List.map_append]
      rfl
    · intro a o q
      rw [upd_ne (ne_of_none q nD)]
      exact e' _ _ (e2 _ _ q)
  · rintro H2 ⟨hD, e2⟩
    refine ⟨D, _, rfl, SqL.of hD, ?_⟩
    rw [show (List.replicate xs.length true).all id = true by simp]
    exact k _ _ e2 rfl
end
end Fx

set_option Elab.async false
set_option linter.all false
set_option maxRecDepth 100000
set_option maxHeartbeats 4000000
namespace Fx
open PySem PySem.Spec PyProof.Rows L2 FM
theorem set_set_comm' (σ : L2.St) {i j : Nat} (h : i ≠ j) (a b : Option V) : (σ.set i a).set j b = (σ.set j b).set i a := List.set_comm a b h
theorem wipe2 (σ : L2.St) {i j : Nat} (h : i ≠ j) (a b : Option V) : wipe (((wipe σ [i, j]).set i a).set j b) [i, j] = wipe σ [i, j] := by
  show ((((((σ.set j none).set i none).set i a).set j b).set j none).set i none) = (σ.set j none).set i none
  rw [List.set_set, List.set_set, List.set_comm a none h, List.set_set, List.set_set]
theorem wipe2_i (σ : L2.St) {i j : Nat} (h : i ≠ j) (hi : i < σ.length) (a b : Option V) : (((wipe σ [i, j]).set i a).set j b)[i]? = some a := by
  have hl : (wipe σ [i, j]).length = σ.length := wipe_length _ _
  rw [List.getElem?_set_ne (Ne.symm h), List.getElem?_set_self (by rw [hl]; exact hi)]
theorem wipe2_j (σ : L2.St) {i j : Nat} (hj : j < σ.length) (a b : Option V) : (((wipe σ [i, j]).set i a).set j b)[j]? = some b := by
  have hl : (wipe σ [i, j]).length = σ.length := wipe_length _ _
  rw [List.getElem?_set_self (by rw [List.length_set, hl]; exact hj)]
theorem wipe2_o (σ : L2.St) {i j k : Nat} (hi : k ≠ i) (hj : k ≠ j) (a b : Option V) : (((wipe σ [i, j]).set i a).set j b)[k]? = σ[k]? := by
  rw [List.getElem?_set_ne (Ne.symm hj), List.getElem?_set_ne (Ne.symm hi)]
  show ((σ.set j none).set i none)[k]? = σ[k]?
  rw [List.getElem?_set_ne (Ne.symm hi), List.getElem?_set_ne (Ne.symm hj)]
theorem wipe1 (σ : L2.St) {i : Nat} (a : Option V) : wipe ((wipe σ [i]).set i a) [i] = wipe σ [i] := by
  show (((σ.set i none).set i a).set i none) = σ.set i none
  rw [List.set_set, List.set_set]
theorem wipe1_i (σ : L2.St) {i : Nat} (hi : i < σ.length) (a : Option V) : ((wipe σ [i]).set i a)[i]? = some a := by
  have hl : (wipe σ [i]).length = σ.length := wipe_length _ _
  rw [List.getElem?_set_self (by rw [hl]; exact hi)]
theorem wipe1_o (σ : L2.St) {i k : Nat} (hi : k ≠ i) (a : Option V) : ((wipe σ [i]).set i a)[k]? = σ[k]? := by
  rw [List.getElem?_set_ne (Ne.symm hi)]
  show (σ.set i none)[k]? = σ[k]?
  rw [List.getElem?_set_ne (Ne.symm hi)]
/-- a pair with S -/
def Pr (S : V → V → Hp → Prop) : V → Hp → Prop := fun v H => ∃ t a b, v = .ref t ∧ H t = some (.tup [a, b]) ∧ S a b H
def Mo2 (S : V → V → Hp → Prop) : Prop := ∀ a b H H', Ext H H' → S a b H → S a b H'
theorem mo_pr {S : V → V → Hp → Prop} (m : Mo2 S) : Mo (Pr S) := fun _ _ _ e ⟨t, a, b, h1, h2, h3⟩ => ⟨t, a, b, h1, e _ _ h2, m _ _ _ _ e h3⟩
section
variable {σ : L2.St} {H0 : Hp} {n : Nat}
theorem gv_all2 {K : PySem.W.Frag} {i l i1 i2 : Nat} {te : TE} {xs : List V} {S : V → V → Hp → Prop} (hσ : σ[i]? = some (some (.ref l))) (hl : H0 l = some (.lst xs)) (hx : All (Pr S) n xs H0) (mo : Mo2 S) (hn : n < sizeLine) (hi : i1 ≠ i2) (l1 : i1 < σ.length) (l2 : i2 < σ.length)
    (step : ∀ (τ : L2.St) (a b : V) (H : Hp) (Q : VK), τ[i1]? = some (some a) → τ[i2]? = some (some b) → (∀ k, k ≠ i1 → k ≠ i2 → τ[k]? = σ[k]?) → Ext H0 H → S a b H → (∀ H', Ext H H' → Q (.bl true) H') → te τ H Q) :
    Gv σ H0 (tCB (rAll K) (tCons (tLc (iList K (tVar i)) (gTup K 2 (gCons (gName i1) (gCons (gName i2) gNil))) tYes te [i1, i2]) tNil)) (fun v _ => v = .bl true) :=
  gv_all hσ hl hx (mo_pr mo) hn fun x H Q Q' e ⟨t, a, b, ex, ht, hs⟩ k => by
    refine ⟨t, [a, b], ex, SqT.of ht, rfl, a, [b], rfl, b, [], rfl, rfl, wipe2 σ hi _ _, ?_⟩
    refine @iteT _ (Q' H) ?_
    exact step _ a b H Q (wipe2_i σ hi l1 _ _) (wipe2_j σ l2 _ _) (fun k h1 h2 => wipe2_o σ h1 h2 _ _) e hs k
theorem gv_all1 {K : PySem.W.Frag} {i l i1 : Nat} {te : TE} {xs : List V} {S : V → Hp → Prop} (hσ : σ[i]? = some (some (.ref l))) (hl : H0 l = some (.lst xs)) (hx : All S n xs H0) (mo : Mo S) (hn : n < sizeLine) (l1 : i1 < σ.length)
    (step : ∀ (τ : L2.St) (a : V) (H : Hp) (Q : VK), τ[i1]? = some (some a) → (∀ k, k ≠ i1 → τ[k]? = σ[k]?) → Ext H0 H → S a H → (∀ H', Ext H H' → Q (.bl true) H') → te τ H Q) :
    Gv σ H0 (tCB (rAll K) (tCons (tLc (iList K (tVar i)) (gName i1) tYes te [i1]) tNil)) (fun v _ => v = .bl true) :=
  gv_all hσ hl hx mo hn fun x H Q Q' e hs k => by
    refine ⟨wipe1 σ _, ?_⟩
    refine @iteT _ (Q' H) ?_
    exact step _ x H Q (wipe1_i σ l1 _) (fun k h1 => wipe1_o σ h1 _) e hs k
end
end Fx

set_option Elab.async false
set_option linter.all false
set_option maxRecDepth 100000
set_option maxHeartbeats 8000000
set_option exponentiation.threshold 20000
namespace Fx
open PySem PySem.Spec PyProof.Rows L2 FM
/-- all that is known of Frac -/
structure FA (P : Program) (w : World) (K : PySem.W.Frag) (mg : Str → Option Value) (base : Heap) (A : Adr) : Prop where
  T : FT K mg A
  M : MkF P w K mg base A
  S : StF K A
  O : Cal P w K mg base 3 A.of_ ["value"] (spOf A)
  bAdd : BinF K A.C A.add .Add
  cAdd : Cal P w K mg base 3 A.add ["self", "other"] (spB A fadd)
  rAdd : RefF K A.C A.radd .Add
  cRadd : Cal P w K mg base 4 A.radd ["self", "other"] (spB A fun p q => fadd q p)
  bSub : BinF K A.C A.sub .Sub
  cSub : Cal P w K mg base 3 A.sub ["self", "other"] (spB A fsub)
  rSub : RefF K A.C A.rsub .Sub
  cRsub : Cal P w K mg base 4 A.rsub ["self", "other"] (spB A fun p q => fsub q p)
  bMul : BinF K A.C A.mul .Mult
  cMul : Cal P w K mg base 3 A.mul ["self", "other"] (spB A fmul)
  rMul : RefF K A.C A.rmul .Mult
  cRmul : Cal P w K mg base 4 A.rmul ["self", "other"] (spB A fun p q => fmul q p)
  bFlo : BinF K A.C A.flo .FloorDiv
  cFlo : Cal P w K mg base 4 A.flo ["self", "other"] (spFlo A)
  rFlo : RefF K A.C A.rflo .FloorDiv
  cRflo : Cal P w K mg base 4 A.rflo ["self", "other"] (spRflo A)
  bMod : BinF K A.C A.mod .Mod
  cMod : Cal P w K mg base 4 A.mod ["self", "other"] (spMod A)
  rMod : RefF K A.C A.rmod .Mod
  cRmod : Cal P w K mg base 5 A.rmod ["self", "other"] (spRmod A)
  bPow : BinF K A.C A.pow .Pow
  cPow : Cal P w K mg base 3 A.pow ["self", "other"] (spPow A)
  uNeg : UnF K A.C A.neg "__neg__"
  cNeg : Cal P w K mg base 3 A.neg ["self"] (spU A fneg)
  uAbs : UnF K A.C A.abs "__abs__"
  cAbs : Cal P w K mg base 3 A.abs ["self"] (spU A fabs)
  uBool : UnF K A.C A.bool "__bool__"
  cBool : Cal P w K mg base 1 A.bool ["self"] (spBool A)
  uStr : UnF K A.C A.str "__str__"
  cStr : Cal P w K mg base 1 A.str ["self"] (spStr A)
  kEq : CmpF K A.C A.eq "__eq__"
  cEq : Cal P w K mg base 1 A.eq ["self", "other"] (spC A ceq)
  kLt : CmpF K A.C A.lt "__lt__"
  cLt : Cal P w K mg base 4 A.lt ["self", "other"] (spC A clt)
  kLe : CmpF K A.C A.le "__le__"
  cLe : Cal P w K mg base 4 A.le ["self", "other"] (spC A cle)
  kGt : CmpF K A.C A.gt "__gt__"
  cGt : Cal P w K mg base 4 A.gt ["self", "other"] (spC A cgt)
  kGe : CmpF K A.C A.ge "__ge__"
  cGe : Cal P w K mg base 4 A.ge ["self", "other"] (spC A cge)
  kNe : NeF K A.C A.eq
  mOver : Meth K A.C "over" A.over
  cOver : Cal P w K mg base 4 A.over ["self", "b"] (spOver A)
  noIn : NoIn K A.C
  ab : mg "abs" = none
  all : mg "all" = none
theorem boot_all : bootBuiltins "all" = some (.builtin "all") := by decide +kernel
end Fx

set_option Elab.async false
set_option linter.all false
set_option maxRecDepth 100000
set_option maxHeartbeats 4000000
/-! A try with several named clauses; a def that is handed the exception under way. -/
namespace Fx
open PySem PySem.Spec PyProof.Rows L2 FM
abbrev Clause := Value × Nat × (Addr → Value → Option Addr → TS)
/-- behind the suite of a named clause its name is gone -/
def Ends.gone (D : Ends) (i : Nat) : Ends := { nx := fun σ H => D.nx (σ.set i none) H, rt := D.rt, bk := fun σ H => D.bk (σ.set i none) H, ct := fun σ H => D.ct (σ.set i none) H }
def wNamed (K : PySem.W.Frag) (Wout : WX) (D : Ends) : List Clause → WX
  | [] => Wout
  | (c, i, ts) :: r => fun cls d σ H => ∃ b, PySem.W.exmOne K cls c = some b ∧ (b = true → ∀ a, H a = none → ts a cls d (Ends.gone D i) (σ.set i (some (.ref a))) H) ∧ (b = false → wNamed K Wout D r cls d σ H)
inductive Clauses (X : Cx) : List ExceptHandler → List Clause → Prop
  | nil : Clauses X [] []
  | cons {x n : Str} {i : Nat} {c : Value} {ts : Addr → Value → Option Addr → TS} {b₀ : Stmt} {suite : List Stmt} {np pos' : Pos} {hds : List ExceptHandler} {l : List Clause} (hi : X.N[i]? = some n) (hln : X.env.kindOf n = some .local) (hc : Names X x c)
      (hsu : ∀ (a : Addr) (oe : Obj) (cls : Value) (d : Option Addr) (pn : List (Addr × Obj)), Zc cls d oe → (∃ vs, oe.data = .fields vs) → PSs (X.suite a ((a, oe) :: pn)) (b₀ :: suite) (ts a cls d)) (r : Clauses X hds l) :
      Clauses X (.ExceptHandler (some (.Name x np)) (some n) (b₀ :: suite) pos' :: hds) ((c, i, ts) :: l)
section
variable {X : Cx} {body : List Stmt} {h₀ : ExceptHandler} {hds : List ExceptHandler} {l : List Clause} {pos : Pos} {tb : WX → TS} {Wout : WX}
theorem ps_try_named (hs : X.stack = X.env :: X.outer) (hf : X.env.frame = some X.env.locals) (hN : X.N.Nodup) (tk : Takes X Wout)
    (hb : ∀ (W : WX) (pn : List (Addr × Obj)) (xe : Value → Shared → Prop), Takes (X.tr pn xe) W → PassesOwn (model X.prog X.w) X.A X.env xe → PSs (X.tr pn xe) body (tb W))
    (hh : Clauses X (h₀ :: hds) l) : PS X (.Try body (h₀ :: hds) [] [] pos) (fun D σ H => tb (wNamed X.K Wout D l) D σ H) := by
  refine ⟨fun pins s σ H D I h => ?_⟩
  have ok := I.ok
  have hfr : X.A.frames = some (X.env :: X.outer) := by rw [ok.frames, hs]
  refine wpAny_Try_except ?_
  refine wpAny_mono ((hb (wNamed X.K Wout D l) (X.pn ++ pins) (fun e s₁ => wpAny (model X.prog X.w) X.A (noteFrame e X.env) (fun _ s₂ => wpAny (model X.prog X.w) X.A (setFlight e none) (fun _ s₃ =>
    wpAny (model X.prog X.w) X.A (handleBy e X.env (h₀ :: hds)) (SP X pins D) X.xe s₃) X.xe s₂) X.xe s₁) (fun u s' xx => ?_) PassesOwn.looking).run [] s σ H D (I.toTry _) h) (fun f s1 hsp => ?_) (fun e s1 he => he)
  · obtain ⟨a, B, sI, pins', σ', H', cls, d, rfl, J', nb, up, sky, na, os, ag, w⟩ := xx
    have J : Inv X pins σ' H' sI := J'.ofTry ok
    have sky' : Sky B (X.env :: X.outer) a (Zc cls d) X.env.locals s'.heap := by rw [← hs]; exact sky
    show wpAny (model X.prog X.w) X.A (noteFrame (.ref a) X.env) _ _ _
    refine Sky.land Zc.steady hfr hf sky' fun h3 fl3 up3 => ?_
    have J3 : Inv X pins σ' H' { s' with heap := h3 } := J.landed nb fl3.1 (up.trans up3) os ag
    obtain ⟨oe3, vs3, he3, hz3, hd3⟩ := fl3.there
    have nfr : a ∉ frs (X.env :: X.outer) := fun hm => by
      obtain ⟨_, o', e', hnf⟩ := fl3.2.2.1.mem hm
      rw [he3] at e'; cases e'
      exact hnf _ hd3
    have nL : a ≠ X.env.locals := fun z => nfr (List.mem_filterMap.mpr ⟨X.env, List.mem_cons_self, by rw [hf, z]⟩)
    have nF : a ∉ X.fs := fun hm => by
      obtain ⟨e, he, q⟩ := List.mem_filterMap.mp hm
      exact nfr (List.mem_filterMap.mpr ⟨e, List.mem_cons_of_mem _ he, q⟩)
    have S3 := J3.suite he3 hd3 na nL nF
    have LT : PySem.W.Looks (model X.prog X.w) h3 (typeOf (.ref a)) cls := fun A Q E s k q => wpAny_typeOf_ref (k _ _ he3) (by rw [hz3.1]; exact q)
    clear h
    generalize h₀ :: hds = hs' at hh ⊢
    induction hh with
    | nil =>
      refine wpAny_handleBy_nil ?_
      obtain ⟨k1, k2, k3, oe, vs, T, oT, ts', he, hz, hd, h1, hr⟩ := id fl3
      unfold PySem.passOn
      refine wpAny_bind (wpAny_field he hd h1 ?_)
      rw [if_neg (show ¬ ((Value.ref T == Value.none) = true) from by simp)]
      have fin : wpAny (model X.prog X.w) X.A (setFlight (.ref a) X.env.frame) (fun _ s4 => wpAny (model X.prog X.w) X.A (throw (.ref a) : Sem Flow) (SP X pins D) X.xe s4) X.xe { s' with heap := h3 } := by
        rw [hf]
        exact HandSPX.setFlight_upZ fl3 fun h4 hh4 up4 => wpAny_throw (tk _ _ ⟨a, B, sI, pins, σ', H', cls, d, rfl, J, nb, (up.trans up3).trans up4, .inr (.inr (by rw [hs]; exact hh4)), na, os, ag, w⟩)
      first
        | exact wpAny_bind (wpAny_pure (wpAny_bind fin))
        | exact wpAny_bind fin
    | @cons x n i c ts b₀ suite np pos' hds2 l2 hi hln hc hsu r ih =>
      obtain ⟨b, hb1, hyes, hno⟩ := w
      refine wpAny_handleBy_cons (codeAny_handlers_test ?_) (by intro q; cases q)
      have LM := PySem.W.exm_one (M := model X.prog X.w) (J3.kIn) LT hb1
      have test : ∀ {Q : Value → Shared → Prop} {E : Value → Shared → Prop}, Q c { s' with heap := h3 } → wpAny (model X.prog X.w) (X.A.mark (some (.ref a))) (eval (.Name x np) X.env) Q E { s' with heap := h3 } := fun {Q E} q => by
        obtain ⟨hg, hdbg, hm | ⟨hm, hv, hnn⟩⟩ := hc
        · exact ld_glob (X := X.suite a ((a, oe3) :: (X.pn ++ pins))) S3 hg hm q hdbg
        · exact ld_blt (X := X.suite a ((a, oe3) :: (X.pn ++ pins))) S3 hg hm hv q hnn hdbg
      refine test (LM.here ?_)
      cases b with
      | true =>
        refine codeAny_handlers_suite_as ?_
        refine HandSPX.lands_againZ fl3 fun h4 fl4 up4 => ?_
        have J4 : Inv X pins σ' H' { s' with heap := h4 } := J.landed nb fl4.1 ((up.trans up3).trans up4) os ag
        obtain ⟨oe4, vs4, he4, hz4, hd4⟩ := fl4.there
        have S4 := J4.suite he4 hd4 na nL nF
        refine store_ok (X := X.suite a ((a, oe4) :: (X.pn ++ pins))) (v := .ref a) S4 hN hi (.inl hln) rfl (fun s5 S5 => ?_) (.inr hln)
        refine wpAny_mono ((hsu a oe4 cls d (X.pn ++ pins) hz4 ⟨_, hd4⟩).run [] s5 _ H' _ S5 (hyes rfl a na)) (fun f s6 hsp => ?_) (fun _ _ z => False.elim z)
        cases f with
        | ret u =>
          obtain ⟨v6, σ6, H6, S6, r6, q6⟩ := hsp
          exact gone_ok (S6.unsuite ok) hN hi hln fun s7 J7 => ⟨_, _, _, J7, r6, q6⟩
        | next =>
          obtain ⟨σ6, H6, S6, q6⟩ := hsp
          exact gone_ok (S6.unsuite ok) hN hi hln fun s7 J7 => ⟨_, _, J7, q6⟩
        | brk =>
          obtain ⟨σ6, H6, S6, q6⟩ := hsp
          exact gone_ok (S6.unsuite ok) hN hi hln fun s7 J7 => ⟨_, _, J7, q6⟩
        | cont =>
          obtain ⟨σ6, H6, S6, q6⟩ := hsp
          exact gone_ok (S6.unsuite ok) hN hi hln fun s7 J7 => ⟨_, _, J7, q6⟩
      | false =>
        show wpAny _ X.A (handleBy (.ref a) X.env hds2) _ _ _
        exact ih (hno rfl)
  · cases f with
    | next =>
      obtain ⟨σ', H', J', q⟩ := hsp
      exact wpAny_execs_nil ⟨σ', H', J'.ofTry ok, q⟩
    | brk => exact hsp.imp fun _ ⟨_, J', q⟩ => ⟨_, J'.ofTry ok, q⟩
    | cont => exact hsp.imp fun _ ⟨_, J', q⟩ => ⟨_, J'.ofTry ok, q⟩
    | ret u => exact hsp.imp fun _ ⟨_, _, J', r, q⟩ => ⟨_, _, J'.ofTry ok, r, q⟩
/-- what a callee lets out of a try's body is taken, for frames of the right length -/
theorem passes_len {W : WX} {E : XK} (tk : Takes X W) (hW : ∀ cls d σ H, σ.length = X.N.length → E cls d H → W cls d σ H) : Passes (L2.CX X.prog X.w) X E :=
  fun _ σ _ _ e s' I c => tk e s' (XE.of_call I (fun cls d H' h => hW cls d σ H' I.len h) c)
end
/-! ### isinstance of an exception of an own class, with or without fields -/
section
variable {X : Cx} {a D : Addr} {oe : Obj} {d : Option Addr}
/-- its dict, where it has one, is known -/
def Dk (H : Hp) (d : Option Addr) : Prop := d = none ∨ ∃ dd fs, d = some dd ∧ H dd = some (.xd fs)
def rIsX (K : PySem.W.Frag) (D a : Addr) (d : Option Addr) : List V → Hp → VK → Prop := fun xs H Q => ∃ (c : V) (cv : Value) (b : Bool), xs = [.ref a, c] ∧ (∀ u, RelV c u → u = cv) ∧ PySem.W.kitOne K (.ref D) cv = some b ∧ Dk H d ∧ Q (.bl b) H
theorem call_isX (C : ExcC X.K D) (hin : (a, oe) ∈ X.pn) (hz : Zc (.ref D) d oe) (hf : ∃ vs, oe.data = .fields vs) : CallR X (.builtin "isinstance") (rIsX X.K D a d) := by
  intro pins s σ H xs us Q I r h
  obtain ⟨c, cv, b, rfl, hcv, e, hd, q⟩ := h
  cases r with
  | cons rx rr =>
    cases rr with
    | cons rt rr =>
      cases rr
      cases rx
      have ec := hcv _ rt
      subst ec
      obtain ⟨hget, _⟩ := I.pin (a, oe) (List.mem_append_left _ hin)
      obtain ⟨vs, hv⟩ := hf
      obtain ⟨cd, hcd, _⟩ := PySem.W.any_some C.hd
      have nc : PySem.W.notCls oe = true := by unfold PySem.W.notCls; rw [hv] <;> rfl
      have fin : ∀ od, PySem.W.InstAt s.heap a oe D od → wpAny (model X.prog X.w) X.A (call (.builtin "isinstance") _) (EP X pins σ Q) X.xe s := fun od J =>
        PySem.W.kia_one (PySem.W.kitx_exc (od := od) (by rw [hcd]; rfl) C.hg C.hk C.hs C.ha C.hn C.ht C.hm) I.kIn J e (fun z => nomatch z) fun tk => ⟨.bl b, H, I.kept (t' := tk) fun _ _ z => z, rfl, q⟩
      rcases hd with rfl | ⟨dd, fs, rfl, hx⟩
      · exact fin none ⟨hget, hz.1, nc, by rw [hz.2]; trivial⟩
      · obtain ⟨mA, hns, hr⟩ := I.hok dd _ hx
        obtain ⟨od, ho, hl⟩ := lookIn_ns hns
        exact fin (some od) ⟨hget, hz.1, nc, by rw [hz.2]; exact ho⟩
end
/-! ### a def that is handed the exception under way -/
structure FnZ (P : Program) (w : World) (K : PySem.W.Frag) (mg : Str → Option Value) (base : Heap) (k : Nat) (f : Addr) (fd : FuncData) (ps : List Str) (sp : Addr → Value → Option Addr → Sp) : Prop where
  len : ∀ a cls d vs H Q E, sp a cls d vs H Q E → vs.length = ps.length
  run : ∀ (A : Around) (outer : List Env) (s : Shared) (H : Hp) (args : Args) (us : List Value) (vs : List V) (Q : VK) (p : Addr × Obj) (cls : Value) (d : Option Addr), L2H.RoomH k A → Zc cls d p.2 → (∃ vs, p.2.data = .fields vs) → L2H.PinOk outer H s p → Env0 P w K mg base A outer s H → BindsTo s fd args (ps.zip us) → Vals vs us → sp p.1 cls d vs H Q E0 →
    codeAny (model P w) A (.call (.ref f) args) (CR (L2.CX P w) outer P w H s Q E0) s
theorem fn_ofZ {P : Program} {w : World} {K : PySem.W.Frag} {mg : Str → Option Value} {base : Heap} {k : Nat} {f : Addr} {name qual : Str} {params : Arguments} {body : List Stmt} {scope : Scope} {dV kV doc pm cdv ct oc : Value} {an od : Option Addr}
    {osl : Array (Option Value)} {N ps : List Str} {sp : Addr → Value → Option Addr → Sp} (lk : K.lookup f = some ⟨oc, od, .func (PySem.W.fnOf name qual params body scope dV kV doc pm an cdv ct), osl⟩) (hcd : PySem.W.codeIn K cdv qual = true) (S : FnScope N ps scope)
    (len : ∀ a cls d vs H Q E, sp a cls d vs H Q E → vs.length = ps.length)
    (hbody : ∀ (A : Around) (outer : List Env) (s : Shared) (H : Hp) (vs : List V) (Q : VK) (p : Addr × Obj) (cls : Value) (d : Option Addr), Zc cls d p.2 → (∃ vs, p.2.data = .fields vs) → L2H.RoomH k (A.deeper (envOfC qual scope s.heap.objs.size f cdv)) → sp p.1 cls d vs H Q E0 →
      ∃ t, PSs (L2H.cxH (L2.CX P w) P w K mg base N qual scope f cdv A outer s H E0 p) body t ∧ t { nx := fun _ H' => Q .non H', rt := Q } (L2.start N vs) H) :
    FnZ P w K mg base (k + 1) f (PySem.W.fnOf name qual params body scope dV kV doc pm an cdv ct) ps sp := by
  refine ⟨len, fun A outer s H args us vs Q p cls d hr hz hf hpin e0 hb r hsp => ?_⟩
  have hl := len _ _ _ _ _ _ _ hsp
  have KX : K.In s.heap := e0.mod.kin.keeps fun b o e => (e0.bs b o e).1
  have lim : s.heap.NoLimit := e0.mod.nolimit.keeps fun b o e => (e0.bs b o e).1
  have hkind : ∀ y ∈ ps.zip us, scope.names.lookup y.1 = some .local ∨ (scope.names.lookup y.1 = some .cell ∧ ((cellsFrom (s.heap.objs.size + 1) scope.names []).lookup y.1).isSome = true) := fun ⟨n, v⟩ hy =>
    (S.par n (List.of_mem_zip hy).1).imp id fun q => ⟨q, PySem.W.cellsFrom_some _ _ _ (.inl q)⟩
  refine codeAny_call_function hr.depth (KX _ _ lk) rfl S.co S.gen rfl (PySem.W.codeRec_of KX hcd) (hb _ _ _ _ ?_)
  refine wpAny_newFunctionEnv_cells S.kind hkind fun env he s1 x => ?_
  subst he
  refine ⟨lim.keeps x.toInCall.keep, codeAny_func ?_⟩
  obtain ⟨t, ht, hq⟩ := hbody A outer s H vs Q p cls d hz hf (hr.deeper _) hsp
  refine wpAny_mono (ht.run [] s1 (L2.start N vs) H _ (L2H.inv_startH S hpin e0 hl r x) hq) (fun fl s' hs => ?_) fun e s' hs => hs
  cases fl with
  | ret u =>
    obtain ⟨v, σ', H', J, rv, q⟩ := hs
    exact ⟨v, H', J.os, J.bare, J.base, J.hok, rv, q⟩
  | next =>
    obtain ⟨σ', H', J, q⟩ := hs
    exact ⟨.non, H', J.os, J.bare, J.base, J.hok, rfl, q⟩
  | brk =>
    obtain ⟨_, _, _, q⟩ := hs
    exact False.elim q
  | cont =>
    obtain ⟨_, _, _, q⟩ := hs
    exact False.elim q
section
variable {X : Cx} {k : Nat} {f a : Addr} {oe : Obj} {cls : Value} {d : Option Addr} {fd : FuncData} {ps : List Str} {sp : Addr → Value → Option Addr → Sp} {x : Str} {q pos : Pos} {e : Expr} {es : List Expr} {t : TA}
theorem pe_callZ (F : FnZ X.prog X.w X.K X.mg X.base k f fd ps sp) (hr : L2H.RoomH k X.A) (hin : (a, oe) ∈ X.pn) (hz : Zc cls d oe) (hf : ∃ vs, oe.data = .fields vs) (hg : Gl X x) (hm : X.mg x = some (.ref f)) (hk : PySem.W.keepIn X.K (.ref f) = true) (hb : Binds X.K fd ps [])
    (ha : PA X (e :: es) t) (hdb : (x == ("__debug__" : Str)) = false := by decide) (he : starEach (e :: es) X.env = (false, eval e X.env) :: starEach es X.env := by rfl) (hpl : (backTo pos (starEach es X.env)).any (·.1) = false := by rfl) :
    PE X (.Call (.Name x q) (e :: es) [] pos) (fun σ H Q => t σ H fun vs H1 => sp a cls d vs H1 Q E0) := by
  refine ⟨fun pins s σ H Q I h => ?_⟩
  refine wpAny_Call_Name_kw (ld_glob I hg hm ?_ hdb)
  refine PySem.W.callWith_K (h₀ := X.base) I.ok.mod.kin hk (thn (ha.run pos pins s σ H _ I h) fun us s1 ⟨vs, H1, I1, r, q⟩ => ⟨I1.kIn, ?_⟩) he hpl
  have hl : us.length = ps.length := by rw [← r.length]; exact F.len _ _ _ _ _ _ _ q
  have b := hb s1 us I1.kIn (by rw [List.append_nil]; exact hl)
  rw [List.append_nil] at b
  have P1 := I1.pin (a, oe) (List.mem_append_left _ hin)
  have hpin : L2H.PinOk X.stack H1 s1 (a, oe) := ⟨P1.1, P1.2.1, fun hm => (List.mem_cons.mp (I1.stkSub a hm)).elim P1.2.2.1 P1.2.2.2.1, P1.2.2.2.2⟩
  refine wpAny_call (codeAny_mono (F.run X.A X.stack s1 H1 ⟨us, []⟩ us vs Q (a, oe) cls d hr hz hf hpin I1.env0 b r q) fun r s' hq => ?_)
  cases r with
  | error e =>
    obtain ⟨_, _, _, _, _, _, _, _, _, _, _, _, w⟩ := hq
    exact w.elim
  | ok fl =>
    cases fl with
    | ret u => exact I1.after hq
    | next => exact False.elim hq
    | brk => exact False.elim hq
    | cont => exact False.elim hq
end
end Fx

set_option linter.all false
/-! Piles and their echoes over the rational numbers, plain Lean. -/
namespace KM
open FM
/-- the rational number of a pair -/
def val (p : Int × Int) : Rat := (p.1 : Rat) / (p.2 : Rat)
theorem cast_ne {n : Int} (h : n ≠ 0) : (n : Rat) ≠ 0 := by
  intro e
  exact h (by exact_mod_cast e)
theorem val_low {a b : Int} (h : b ≠ 0) : val (low a b) = (a : Rat) / (b : Rat) := by
  have e1 := low_l (a := a) h
  have e2 := low_r (a := a) h
  have hb := cast_ne h
  have hl := low_low (a := a) h
  have h2 : ((low a b).2 : Rat) ≠ 0 := cast_ne (by have := hl.pos; omega)
  have g := cast_ne (sg_ne (a := a) h)
  unfold val
  have c1 : ((low a b).1 : Rat) * ((sg b (Nat.gcd a.natAbs b.natAbs) : Int) : Rat) = (a : Rat) := by exact_mod_cast e1
  have c2 : ((low a b).2 : Rat) * ((sg b (Nat.gcd a.natAbs b.natAbs) : Int) : Rat) = (b : Rat) := by exact_mod_cast e2
  rw [← c1, ← c2]
  grind
theorem val_inj {p q : Int × Int} (hp : Low p) (hq : Low q) (h : val p = val q) : p = q := by
  rw [low_cross hp hq]
  have h2 : (p.2 : Rat) ≠ 0 := cast_ne (by have := hp.pos; omega)
  have h3 : (q.2 : Rat) ≠ 0 := cast_ne (by have := hq.pos; omega)
  unfold val at h
  have e : (p.1 : Rat) * q.2 - q.1 * p.2 = 0 := by grind
  exact_mod_cast e
theorem Low.ne {p : Int × Int} (h : Low p) : p.2 ≠ 0 := by have := h.pos; omega
theorem val_add {p q : Int × Int} (hp : Low p) (hq : Low q) : val (fadd p q) = val p + val q := by
  have h2 := cast_ne (Low.ne hp)
  have h3 := cast_ne (Low.ne hq)
  unfold fadd
  rw [val_low (Int.mul_ne_zero (Low.ne hp) (Low.ne hq))]
  unfold val
  push_cast
  grind
theorem val_sub {p q : Int × Int} (hp : Low p) (hq : Low q) : val (fsub p q) = val p - val q := by
  have h2 := cast_ne (Low.ne hp)
  have h3 := cast_ne (Low.ne hq)
  unfold fsub
  rw [val_low (Int.mul_ne_zero (Low.ne hp) (Low.ne hq))]
  unfold val
  push_cast
  grind
theorem val_mul {p q : Int × Int} (hp : Low p) (hq : Low q) : val (fmul p q) = val p * val q := by
  have h2 := cast_ne (Low.ne hp)
  have h3 := cast_ne (Low.ne hq)
  unfold fmul
  rw [val_low (Int.mul_ne_zero (Low.ne hp) (Low.ne hq))]
  unfold val
  push_cast
  grind
theorem val_over {p q : Int × Int} (hp : Low p) (hq : Low q) (h : q.1 ≠ 0) : val (fover p q) = val p / val q := by
  have h2 := cast_ne (Low.ne hp)
  have h3 := cast_ne (Low.ne hq)
  have h4 := cast_ne h
  unfold fover
  rw [val_low (Int.mul_ne_zero (Low.ne hp) h)]
  unfold val
  push_cast
  grind
theorem val_int (n : Int) : val (n, 1) = (n : Rat) := by
  have e : val (n, 1) = (n : Rat) / ((1 : Int) : Rat) := rfl
  rw [e]
  grind
theorem low_fadd {p q : Int × Int} (hp : Low p) (hq : Low q) : Low (fadd p q) := low_low (Int.mul_ne_zero (Low.ne hp) (Low.ne hq))
theorem low_fsub {p q : Int × Int} (hp : Low p) (hq : Low q) : Low (fsub p q) := low_low (Int.mul_ne_zero (Low.ne hp) (Low.ne hq))
theorem low_fmul {p q : Int × Int} (hp : Low p) (hq : Low q) : Low (fmul p q) := low_low (Int.mul_ne_zero (Low.ne hp) (Low.ne hq))
theorem low_fover {p q : Int × Int} (hp : Low p) (h : q.1 ≠ 0) : Low (fover p q) := low_low (Int.mul_ne_zero (Low.ne hp) h)
theorem val_zero {p : Int × Int} (h : Low p) : val p = 0 ↔ p.1 = 0 := by
  have h2 := cast_ne (Low.ne h)
  unfold val
  constructor
  · intro e
    have : (p.1 : Rat) = 0 := by grind
    exact_mod_cast this
  · intro e
    rw [e]
    grind
/-- a common bottom, and how great the tops are -/
def Rep (D M : Nat) (x : Rat) : Prop := ∃ N : Int, x * (D : Rat) = (N : Rat) ∧ N.natAbs ≤ M
theorem Rep.le {D M M' : Nat} {x : Rat} (h : Rep D M x) (l : M ≤ M') : Rep D M' x := let ⟨N, a, b⟩ := h; ⟨N, a, Nat.le_trans b l⟩
theorem Rep.mul {D M : Nat} {x : Rat} (h : Rep D M x) (k : Nat) : Rep (D * k) (M * k) x := by
  obtain ⟨N, a, b⟩ := h
  refine ⟨N * k, ?_, ?_⟩
  · push_cast
    rw [← a]
    grind
  · rw [Int.natAbs_mul]
    exact Nat.mul_le_mul_right k b
theorem Rep.sub {D M M' : Nat} {x y : Rat} (h : Rep D M x) (h' : Rep D M' y) : Rep D (M + M') (x - y) := by
  obtain ⟨N, a, b⟩ := h
  obtain ⟨N', a', b'⟩ := h'
  refine ⟨N - N', ?_, ?_⟩
  · push_cast
    rw [← a, ← a']
    grind
  · omega
/-- a step: x - c * y -/
theorem Rep.step {D M : Nat} {x y : Rat} {c : Int × Int} (h : Rep D M x) (h' : Rep D M y) (hc : Low c) (hl : c.1.natAbs ≤ c.2.natAbs) : Rep (D * c.2.natAbs) (2 * c.2.natAbs * M) (x - val c * y) := by
  have a1 := h.mul c.2.natAbs
  have a2 : Rep (D * c.2.natAbs) (M * c.2.natAbs) (val c * y) := by
    obtain ⟨N, a, b⟩ := h'
    have h2 := cast_ne (Low.ne hc)
    refine ⟨c.1 * N, ?_, ?_⟩
    · have e : ((c.2.natAbs : Nat) : Rat) = (c.2 : Rat) := by
        have := hc.pos
        have e : ((c.2.natAbs : Nat) : Int) = c.2 := by omega
        exact_mod_cast congrArg (fun z : Int => (z : Rat)) e
      push_cast
      rw [e, ← a]
      unfold val
      grind
    · rw [Int.natAbs_mul, Nat.mul_comm]
      exact Nat.mul_le_mul b hl
  refine (a1.sub a2).le ?_
  rw [Nat.mul_comm M, Nat.mul_assoc, Nat.two_mul]
  exact Nat.le_refl _
theorem Rep.dvd {D M : Nat} {p : Int × Int} (hp : Low p) (h : Rep D M (val p)) (hD : 0 < D) : p.2.natAbs ≤ D ∧ p.1.natAbs ≤ M := by
  obtain ⟨N, a, b⟩ := h
  have h2 := cast_ne (Low.ne hp)
  have e : (p.1 : Rat) * ((D : Nat) : Int) = (N : Rat) * p.2 := by
    unfold val at a
    push_cast
    grind
  have e1 : p.1 * ((D : Nat) : Int) = N * p.2 := by exact_mod_cast e
  have e2 : p.1.natAbs * D = N.natAbs * p.2.natAbs := by
    have := congrArg Int.natAbs e1
    rw [Int.natAbs_mul, Int.natAbs_mul] at this
    simpa using this
  have c := hp.cop
  have d1 : p.2.natAbs ∣ D := by
    refine Nat.Coprime.dvd_of_dvd_mul_left (m := p.1.natAbs) ?_ ⟨N.natAbs, by rw [e2, Nat.mul_comm]⟩
    show Nat.gcd p.2.natAbs p.1.natAbs = 1
    rw [Nat.gcd_comm]
    exact c
  refine ⟨Nat.le_of_dvd hD d1, ?_⟩
  have d2 : p.1.natAbs ∣ N.natAbs := Nat.Coprime.dvd_of_dvd_mul_right (n := p.2.natAbs) c ⟨D, e2.symm⟩
  by_cases z : N.natAbs = 0
  · rw [z, Nat.zero_mul] at e2
    rcases Nat.mul_eq_zero.mp e2 with q | q
    · omega
    · omega
  · exact Nat.le_trans (Nat.le_of_dvd (by omega) d2) b
end KM

set_option linter.all false
/-! Peeling: two sequences, pane by pane. -/
namespace KM
open FM
abbrev Sq := Nat → Rat
def nxA (c : Rat) (A B : Sq) : Sq := fun j => A (j + 1) - c * B (j + 1)
def nxB (c : Rat) (A B : Sq) : Sq := fun j => B j - c * A j
def run : List Rat → Sq → Sq → Sq × Sq
  | [], A, B => (A, B)
  | c :: cs, A, B => run cs (nxA c A B) (nxB c A B)
/-- the panes are what the heads say -/
def Sch : List Rat → Sq → Sq → Prop
  | [], _, _ => True
  | c :: cs, A, B => A 0 = c * B 0 ∧ Sch cs (nxA c A B) (nxB c A B)
def dl : Sq := fun k => if k = 0 then 1 else 0
/-- the product of 1 - c * c -/
def rch : List Rat → Rat
  | [] => 1
  | c :: cs => (1 - c * c) * rch cs
theorem run_app (cs ds : List Rat) (A B : Sq) : run (cs ++ ds) A B = run ds (run cs A B).1 (run cs A B).2 := by
  induction cs generalizing A B with
  | nil => rfl
  | cons c cs ih => exact ih _ _
theorem sch_app {cs ds : List Rat} {A B : Sq} : Sch (cs ++ ds) A B ↔ Sch cs A B ∧ Sch ds (run cs A B).1 (run cs A B).2 := by
  induction cs generalizing A B with
  | nil => simp [Sch, run]
  | cons c cs ih =>
    show A 0 = c * B 0 ∧ Sch (cs ++ ds) _ _ ↔ (A 0 = c * B 0 ∧ Sch cs _ _) ∧ _
    rw [ih, and_assoc]
    rfl
theorem rch_app (cs ds : List Rat) : rch (cs ++ ds) = rch cs * rch ds := by
  induction cs with
  | nil => show rch ds = 1 * rch ds; grind
  | cons c cs ih => show (1 - c * c) * rch (cs ++ ds) = (1 - c * c) * rch cs * rch ds; rw [ih]; grind
theorem rch_pos {cs : List Rat} (h : ∀ c ∈ cs, -1 < c ∧ c < 1) : 0 < rch cs := by
  induction cs with
  | nil => show (0 : Rat) < 1; decide
  | cons c cs ih =>
    have h1 := h c (List.mem_cons_self ..)
    have h2 := ih fun x hx => h x (List.mem_cons_of_mem _ hx)
    show 0 < (1 - c * c) * rch cs
    have h3 : 0 < (1 - c) * (1 + c) := Rat.mul_pos (by grind) (by grind)
    have e : (1 - c) * (1 + c) = 1 - c * c := by grind
    rw [e] at h3
    exact Rat.mul_pos h3 h2
/-- the head of the bottom -/
theorem run_B0 {cs : List Rat} {A B : Sq} (h : Sch cs A B) : (run cs A B).2 0 = rch cs * B 0 := by
  induction cs generalizing A B with
  | nil => show B 0 = 1 * B 0; grind
  | cons c cs ih =>
    obtain ⟨h1, h2⟩ := h
    show (run cs (nxA c A B) (nxB c A B)).2 0 = (1 - c * c) * rch cs * B 0
    rw [ih h2]
    unfold nxB
    rw [h1]
    grind
/-- what differs from place m on -/
theorem run_pert {cs : List Rat} {A A' B B' : Sq} {m : Nat} (hl : cs.length ≤ m) (hA : ∀ j, j < m → A j = A' j) (hB : ∀ j, j ≤ m → B j = B' j) :
    (∀ j, j + cs.length < m → (run cs A B).1 j = (run cs A' B').1 j) ∧ (∀ j, j + cs.length ≤ m → (run cs A B).2 j = (run cs A' B').2 j) ∧
    (run cs A B).1 (m - cs.length) - (run cs A' B').1 (m - cs.length) = A m - A' m ∧ (Sch cs A' B' → Sch cs A B) := by
  induction cs generalizing A A' B B' m with
  | nil => exact ⟨fun j h => hA j (by simpa using h), fun j h => hB j (by simpa using h), rfl, fun _ => True.intro⟩
  | cons c cs ih =>
    have hl' : cs.length + 1 ≤ m := hl
    obtain ⟨k, rfl⟩ : ∃ k, m = k + 1 := ⟨m - 1, by omega⟩
    have a1 : ∀ j, j < k → nxA c A B j = nxA c A' B' j := fun j h => by
      unfold nxA
      rw [hA (j + 1) (by omega), hB (j + 1) (by omega)]
    have a2 : ∀ j, j ≤ k → nxB c A B j = nxB c A' B' j := fun j h => by
      unfold nxB
      rw [hB j (by omega), hA j (by omega)]
    obtain ⟨b1, b2, b3, b4⟩ := ih (m := k) (by omega) a1 a2
    refine ⟨fun j h => b1 j (by simp at h; omega), fun j h => b2 j (by simp at h; omega), ?_, fun hs => ⟨?_, b4 hs.2⟩⟩
    · have e : k + 1 - (c :: cs).length = k - cs.length := by simp
      rw [e]
      refine Eq.trans b3 ?_
      unfold nxA
      rw [hB (k + 1) (Nat.le_refl _)]
      grind
    · rw [hA 0 (by omega), hB 0 (by omega)]
      exact hs.1
/-- all panes and the end -/
def Full : List Rat → Rat → Sq → Sq → Prop
  | [], e, A, B => ∀ k, A k = e * B k
  | c :: cs, e, A, B => A 0 = c * B 0 ∧ Full cs e (nxA c A B) (nxB c A B)
theorem full_app {cs ds : List Rat} {e : Rat} {A B : Sq} : Full (cs ++ ds) e A B ↔ Sch cs A B ∧ Full ds e (run cs A B).1 (run cs A B).2 := by
  induction cs generalizing A B with
  | nil => simp [Sch, run]
  | cons c cs ih =>
    show A 0 = c * B 0 ∧ Full (cs ++ ds) e _ _ ↔ (A 0 = c * B 0 ∧ Sch cs _ _) ∧ _
    rw [ih, and_assoc]
    rfl
theorem full_sch {cs : List Rat} {e : Rat} {A B : Sq} (h : Full cs e A B) : Sch cs A B ∧ ∀ k, (run cs A B).1 k = e * (run cs A B).2 k := by
  have := (full_app (cs := cs) (ds := []) (e := e) (A := A) (B := B)).mp (by rw [List.append_nil]; exact h)
  exact this
/-- the first of what is left -/
def hd : List Rat → Rat → Rat
  | [], e => e
  | c :: _, _ => c
theorem full_hd {cs : List Rat} {e : Rat} {A B : Sq} (h : Full cs e A B) : A 0 = hd cs e * B 0 := by
  cases cs with
  | nil => exact h 0
  | cons c cs => exact h.1
/-- an echo told by the panes ahead of it -/
structure Ec (cs : List Rat) (e : Rat) (s : Sq) : Prop where
  full : Full cs e s dl
theorem ec_diff {ps cs ds : List Rat} {e e' : Rat} {s s' : Sq} (h : Ec (ps ++ cs) e s) (h' : Ec (ps ++ ds) e' s') (ag : ∀ j, j < ps.length → s j = s' j) :
    s ps.length - s' ps.length = rch ps * (hd cs e - hd ds e') := by
  obtain ⟨f1, f2⟩ := full_app.mp h.full
  obtain ⟨g1, g2⟩ := full_app.mp h'.full
  obtain ⟨_, b2, b3, _⟩ := run_pert (cs := ps) (A := s) (A' := s') (B := dl) (B' := dl) (m := ps.length) (Nat.le_refl _) ag (fun _ _ => rfl)
  rw [Nat.sub_self] at b3
  have e1 := full_hd f2
  have e2 := full_hd g2
  have e3 := run_B0 f1
  have e4 := run_B0 g1
  have d0 : dl 0 = 1 := rfl
  rw [d0] at e3 e4
  rw [← b3, e1, e2, e3, e4]
  grind
theorem ec_agree {ps cs ds : List Rat} {e e' : Rat} {s s' : Sq} (h : Ec (ps ++ cs) e s) (h' : Ec (ps ++ ds) e' s') : ∀ j, j < ps.length → s j = s' j := by
  intro j
  induction j using Nat.strongRecOn with
  | _ j ih =>
    intro hj
    have e1 : ps = ps.take j ++ ps[j] :: ps.drop (j + 1) := by rw [← List.drop_eq_getElem_cons hj, List.take_append_drop]
    have l1 : (ps.take j).length = j := by rw [List.length_take]; omega
    have q1 : Ec (ps.take j ++ (ps[j] :: ps.drop (j + 1) ++ cs)) e s := by rw [← List.append_assoc, ← e1]; exact h
    have q2 : Ec (ps.take j ++ (ps[j] :: ps.drop (j + 1) ++ ds)) e' s' := by rw [← List.append_assoc, ← e1]; exact h'
    have d := ec_diff q1 q2 fun i hi => ih i (by omega) (by omega)
    rw [l1] at d
    have z : hd (ps[j] :: ps.drop (j + 1) ++ cs) e - hd (ps[j] :: ps.drop (j + 1) ++ ds) e' = 0 := by
      show ps[j] - ps[j] = 0
      grind
    rw [z] at d
    grind
/-! ### products of polynomials and series -/
def conv : Sq → Sq → Nat → Rat
  | f, g, 0 => f 0 * g 0
  | f, g, k + 1 => f 0 * g (k + 1) + conv (fun j => f (j + 1)) g k
def tm (f : Sq) : Sq := fun k => match k with | 0 => 0 | k + 1 => f k
theorem conv_l (a b : Rat) (f f' g : Sq) (k : Nat) : conv (fun j => a * f j + b * f' j) g k = a * conv f g k + b * conv f' g k := by
  induction k generalizing f f' with
  | zero => show (a * f 0 + b * f' 0) * g 0 = a * (f 0 * g 0) + b * (f' 0 * g 0); grind
  | succ k ih =>
    show (a * f 0 + b * f' 0) * g (k + 1) + conv (fun j => a * f (j + 1) + b * f' (j + 1)) g k = a * (f 0 * g (k + 1) + conv (fun j => f (j + 1)) g k) + b * (f' 0 * g (k + 1) + conv (fun j => f' (j + 1)) g k)
    rw [ih]
    grind
theorem conv_r (a b : Rat) (f g g' : Sq) (k : Nat) : conv f (fun j => a * g j + b * g' j) k = a * conv f g k + b * conv f g' k := by
  induction k generalizing f with
  | zero => show f 0 * (a * g 0 + b * g' 0) = a * (f 0 * g 0) + b * (f 0 * g' 0); grind
  | succ k ih =>
    show f 0 * (a * g (k + 1) + b * g' (k + 1)) + conv (fun j => f (j + 1)) (fun j => a * g j + b * g' j) k = a * (f 0 * g (k + 1) + conv (fun j => f (j + 1)) g k) + b * (f 0 * g' (k + 1) + conv (fun j => f (j + 1)) g' k)
    rw [ih]
    grind
theorem conv_tm (f g : Sq) : conv (tm f) g 0 = 0 ∧ ∀ k, conv (tm f) g (k + 1) = conv f g k := by
  refine ⟨?_, fun k => ?_⟩
  · show (0 : Rat) * g 0 = 0; grind
  · show (0 : Rat) * g (k + 1) + conv (fun j => f j) g k = conv f g k; grind
theorem conv_z {f g : Sq} (h : g 0 = 0) (k : Nat) : conv f g (k + 1) = conv f (fun j => g (j + 1)) k := by
  induction k generalizing f with
  | zero => show f 0 * g 1 + f 1 * g 0 = f 0 * g 1; rw [h]; grind
  | succ k ih =>
    show f 0 * g (k + 2) + conv (fun j => f (j + 1)) g (k + 1) = f 0 * g (k + 2) + conv (fun j => f (j + 1)) (fun j => g (j + 1)) k
    rw [ih]
theorem conv_dl (f : Sq) (k : Nat) : conv f dl k = f k := by
  induction k generalizing f with
  | zero => show f 0 * 1 = f 0; grind
  | succ k ih =>
    show f 0 * 0 + conv (fun j => f (j + 1)) dl k = f (k + 1)
    rw [ih]
    grind
theorem conv_1 (g : Sq) (k : Nat) : conv dl g k = g k := by
  cases k with
  | zero => show 1 * g 0 = g 0; grind
  | succ k =>
    have z : ∀ k, conv (fun _ => 0) g k = 0 := fun k => by
      induction k with
      | zero => show 0 * g 0 = 0; grind
      | succ k ih => show 0 * g (k + 1) + conv (fun _ => 0) g k = 0; rw [ih]; grind
    show 1 * g (k + 1) + conv (fun j => dl (j + 1)) g k = g (k + 1)
    have e : (fun j => dl (j + 1)) = fun _ => 0 := by funext j; rfl
    rw [e, z]
    grind
/-- top and bottom of the quotient -/
def HL : List Rat → Rat → Sq × Sq
  | [], e => (fun k => e * dl k, dl)
  | c :: cs, e => (fun k => c * (HL cs e).2 k + 1 * tm (HL cs e).1 k, fun k => 1 * (HL cs e).2 k + c * tm (HL cs e).1 k)
theorem HL_L0 (cs : List Rat) (e : Rat) : (HL cs e).2 0 = 1 := by
  induction cs with
  | nil => rfl
  | cons c cs ih =>
    show 1 * (HL cs e).2 0 + c * 0 = 1
    rw [ih]
    grind
theorem full_of {cs : List Rat} {e : Rat} {A B : Sq} (h : ∀ k, conv (HL cs e).2 A k = conv (HL cs e).1 B k) : Full cs e A B := by
  induction cs generalizing A B with
  | nil =>
    intro k
    have := h k
    have e1 : conv (HL [] e).1 B k = e * conv dl B k := by
      have := conv_l e 0 dl dl B k
      have e2 : (fun j => e * dl j + 0 * dl j) = (HL [] e).1 := by funext j; show e * dl j + 0 * dl j = e * dl j; grind
      rw [e2] at this
      rw [this]
      grind
    rw [e1, conv_1] at this
    rw [← this]
    exact (conv_1 A k).symm
  | cons c cs ih =>
    have key : ∀ k, conv (HL cs e).2 (fun j => 1 * A j + (-c) * B j) k = conv (tm (HL cs e).1) (fun j => 1 * B j + (-c) * A j) k := fun k => by
      have := h k
      have e1 : conv (HL (c :: cs) e).2 A k = 1 * conv (HL cs e).2 A k + c * conv (tm (HL cs e).1) A k := conv_l _ _ _ _ _ _
      have e2 : conv (HL (c :: cs) e).1 B k = c * conv (HL cs e).2 B k + 1 * conv (tm (HL cs e).1) B k := conv_l _ _ _ _ _ _
      rw [e1, e2] at this
      rw [conv_r, conv_r]
      grind
    have k0 := key 0
    rw [(conv_tm _ _).1] at k0
    have k1 : (HL cs e).2 0 * (1 * A 0 + (-c) * B 0) = 0 := k0
    rw [HL_L0] at k1
    refine ⟨by grind, ih fun k => ?_⟩
    have k2 := key (k + 1)
    rw [(conv_tm _ _).2, conv_z (by show 1 * A 0 + (-c) * B 0 = 0; grind)] at k2
    have e1 : (fun j => 1 * A (j + 1) + (-c) * B (j + 1)) = nxA c A B := by funext j; unfold nxA; grind
    have e2 : (fun j => 1 * B j + (-c) * A j) = nxB c A B := by funext j; unfold nxB; grind
    rw [e1, e2] at k2
    exact k2
/-- a series whose product with the bottom is the top -/
theorem ec_of {cs : List Rat} {e : Rat} {s : Sq} (h : ∀ k, conv (HL cs e).2 s k = (HL cs e).1 k) : Ec cs e s := ⟨full_of fun k => by rw [h, conv_dl]⟩
end KM

set_option linter.all false
namespace KM
open FM
/-! ### one series for each pile -/
theorem ec_uniq {cs : List Rat} {e : Rat} {s s' : Sq} (h : Ec cs e s) (h' : Ec cs e s') : ∀ j, s j = s' j := by
  intro j
  induction j using Nat.strongRecOn with
  | _ j ih =>
    by_cases hj : j < cs.length
    · have a : Ec (cs ++ []) e s := by rw [List.append_nil]; exact h
      have b : Ec (cs ++ []) e s' := by rw [List.append_nil]; exact h'
      exact ec_agree a b j hj
    · obtain ⟨f1, f2⟩ := full_sch h.full
      obtain ⟨g1, g2⟩ := full_sch h'.full
      obtain ⟨_, b2, b3, _⟩ := run_pert (cs := cs) (A := s) (A' := s') (B := dl) (B' := dl) (m := j) (by omega) (fun i hi => ih i hi) (fun _ _ => rfl)
      have e1 := b2 (j - cs.length) (by omega)
      rw [f2, g2, e1] at b3
      grind
/-! ### sums -/
def sumR : Nat → Sq → Rat
  | 0, _ => 0
  | n + 1, F => F 0 + sumR n (fun i => F (i + 1))
theorem sumR_last (n : Nat) (F : Sq) : sumR (n + 1) F = sumR n F + F n := by
  induction n generalizing F with
  | zero => show F 0 + 0 = 0 + F 0; grind
  | succ n ih =>
    show F 0 + sumR (n + 1) (fun i => F (i + 1)) = F 0 + sumR n (fun i => F (i + 1)) + F (n + 1)
    rw [ih]
    grind
theorem conv_sum (f g : Sq) (k : Nat) : conv f g k = sumR (k + 1) fun j => f j * g (k - j) := by
  induction k generalizing f with
  | zero => show f 0 * g 0 = f 0 * g 0 + 0; grind
  | succ k ih =>
    show f 0 * g (k + 1) + conv (fun j => f (j + 1)) g k = f 0 * g (k + 1) + sumR (k + 1) fun i => f (i + 1) * g (k + 1 - (i + 1))
    rw [ih]
    have : (fun i => f (i + 1) * g (k + 1 - (i + 1))) = fun j => f (j + 1) * g (k - j) := by
      funext j
      rw [show k + 1 - (j + 1) = k - j by omega]
    rw [this]
theorem sumR_ext {n : Nat} {F G : Sq} (h : ∀ j, j < n → F j = G j) : sumR n F = sumR n G := by
  induction n with
  | zero => rfl
  | succ n ih => rw [sumR_last, sumR_last, ih fun j hj => h j (by omega), h n (by omega)]
theorem sumR_zero {a b : Nat} {F : Sq} (h : ∀ j, a ≤ j → F j = 0) (hab : a ≤ b) : sumR b F = sumR a F := by
  induction b with
  | zero =>
    have : a = 0 := by omega
    rw [this]
  | succ b ih =>
    by_cases e : a = b + 1
    · rw [e]
    · rw [sumR_last, ih (by omega), h b (by omega)]
      grind
/-- the terms that the inner loop takes away -/
def tms (f s : Sq) (k : Nat) : Sq := fun j => if 1 ≤ j ∧ j ≤ k then f j * s (k - j) else 0
theorem conv_tms {f s : Sq} {k m : Nat} (hf : ∀ j, m ≤ j → f j = 0) : conv f s k = f 0 * s k + sumR m (tms f s k) := by
  have a1 : sumR (max m (k + 1)) (tms f s k) = sumR m (tms f s k) := sumR_zero (fun j hj => by
    unfold tms
    split
    · rw [hf j hj]; grind
    · rfl) (by omega)
  have a2 : sumR (max m (k + 1)) (tms f s k) = sumR (k + 1) (tms f s k) := sumR_zero (fun j hj => by
    unfold tms
    rw [if_neg (by omega)]) (by omega)
  rw [conv_sum, ← a1, a2]
  show f 0 * s (k - 0) + sumR k _ = f 0 * s k + (tms f s k 0 + sumR k _)
  have t0 : tms f s k 0 = 0 := by
    unfold tms
    rw [if_neg (by omega)]
  rw [t0, Nat.sub_zero]
  have : sumR k (fun i => f (i + 1) * s (k - (i + 1))) = sumR k (fun i => tms f s k (i + 1)) := sumR_ext fun j hj => by
    unfold tms
    rw [if_pos (by omega)]
  rw [this]
  grind
/-- from integers in proportion to the two polynomials -/
structure QuoP (cs : List Rat) (e : Rat) (n : Nat) (hf lf : Nat → Int) : Prop where
  ex : ∃ k : Rat, k ≠ 0 ∧ (∀ j, (hf j : Rat) = k * (HL cs e).1 j) ∧ ∀ j, (lf j : Rat) = k * (HL cs e).2 j
  bh : ∀ j, (hf j).natAbs ≤ 2 ^ 26
  bl : ∀ j, (lf j).natAbs ≤ 2 ^ 26
  zh : ∀ j, n ≤ j → hf j = 0
  zl : ∀ j, n ≤ j → lf j = 0
theorem QuoP.l0 {cs : List Rat} {e : Rat} {n : Nat} {hf lf : Nat → Int} (h : QuoP cs e n hf lf) : lf 0 ≠ 0 := by
  obtain ⟨k, k0, _, h2⟩ := h.ex
  have := h2 0
  rw [HL_L0] at this
  intro z
  rw [z] at this
  apply k0
  have e : ((0 : Int) : Rat) = 0 := rfl
  rw [e] at this
  grind
theorem QuoP.ec {cs : List Rat} {e : Rat} {n : Nat} {hf lf : Nat → Int} {s : Sq} (h : QuoP cs e n hf lf) (hs : ∀ k, conv (fun j => (lf j : Rat)) s k = (hf k : Rat)) : Ec cs e s := by
  obtain ⟨k, k0, h1, h2⟩ := h.ex
  refine ec_of fun i => ?_
  have a := hs i
  have e1 : (fun j => (lf j : Rat)) = fun j => k * (HL cs e).2 j + 0 * (HL cs e).2 j := by
    funext j
    rw [h2]
    grind
  rw [e1, conv_l, h1] at a
  grind
/-- the walk over the panes from the last one on -/
structure QI (ds : List (Int × Int)) (e : Int) (hf lf : Nat → Int) (W : Nat) : Prop where
  ex : ∃ k : Rat, k ≠ 0 ∧ (∀ j, (hf j : Rat) = k * (HL (ds.map val) (e : Rat)).1 j) ∧ ∀ j, (lf j : Rat) = k * (HL (ds.map val) (e : Rat)).2 j
  bh : ∀ j, (hf j).natAbs ≤ W
  bl : ∀ j, (lf j).natAbs ≤ W
  zh : ∀ j, ds.length + 1 ≤ j → hf j = 0
  zl : ∀ j, ds.length + 1 ≤ j → lf j = 0
def tmI (f : Nat → Int) : Nat → Int := fun k => match k with | 0 => 0 | k + 1 => f k
def wt : List (Int × Int) → Nat
  | [] => 1
  | c :: cs => (c.1.natAbs + c.2.natAbs) * wt cs
theorem qi_nil {e : Int} (he : e = 1 ∨ e = -1) : QI [] e (fun j => if j = 0 then e else 0) (fun j => if j = 0 then 1 else 0) 1 := by
  refine ⟨⟨1, by decide, fun j => ?_, fun j => ?_⟩, fun j => ?_, fun j => ?_, fun j hj => ?_, fun j hj => ?_⟩
  · show _ = 1 * ((e : Rat) * dl j)
    unfold dl
    by_cases h : j = 0
    · rw [if_pos h, if_pos h]; grind
    · rw [if_neg h, if_neg h]
      have e : ((0 : Int) : Rat) = 0 := rfl
      rw [e]; grind
  · show _ = 1 * dl j
    unfold dl
    by_cases h : j = 0
    · rw [if_pos h, if_pos h]
      have e : ((1 : Int) : Rat) = 1 := rfl
      rw [e]; grind
    · rw [if_neg h, if_neg h]
      have e : ((0 : Int) : Rat) = 0 := rfl
      rw [e]; grind
  · split <;> omega
  · split <;> omega
  · have : j ≠ 0 := by simp at hj; omega
    simp [this]
  · have : j ≠ 0 := by simp at hj; omega
    simp [this]
theorem qi_cons {ds : List (Int × Int)} {e : Int} {hf lf : Nat → Int} {W : Nat} {c : Int × Int} (h : QI ds e hf lf W) (hc : c.2 ≠ 0) :
    QI (c :: ds) e (fun j => c.1 * lf j + c.2 * tmI hf j) (fun j => c.2 * lf j + c.1 * tmI hf j) ((c.1.natAbs + c.2.natAbs) * W) := by
  obtain ⟨k, k0, h1, h2⟩ := h.ex
  have q := cast_ne hc
  have ht : ∀ j, ((tmI hf j : Int) : Rat) = k * tm (HL (ds.map val) (e : Rat)).1 j := fun j => by
    cases j with
    | zero => show ((0 : Int) : Rat) = k * 0; have e : ((0 : Int) : Rat) = 0 := rfl; rw [e]; grind
    | succ j => exact h1 j
  have hv : val c * (c.2 : Rat) = (c.1 : Rat) := by unfold val; grind
  have bt : ∀ j, (tmI hf j).natAbs ≤ W := fun j => by
    cases j with
    | zero => exact Nat.zero_le _
    | succ j => exact h.bh j
  have bb : ∀ (a b x y : Int), x.natAbs ≤ W → y.natAbs ≤ W → (a * x + b * y).natAbs ≤ (a.natAbs + b.natAbs) * W := fun a b x y hx hy => by
    have e1 : (a * x).natAbs ≤ a.natAbs * W := by rw [Int.natAbs_mul]; exact Nat.mul_le_mul_left _ hx
    have e2 : (b * y).natAbs ≤ b.natAbs * W := by rw [Int.natAbs_mul]; exact Nat.mul_le_mul_left _ hy
    rw [Nat.add_mul]
    omega
  refine ⟨⟨(c.2 : Rat) * k, ?_, fun j => ?_, fun j => ?_⟩, fun j => bb _ _ _ _ (h.bl j) (bt j), fun j => ?_, fun j hj => ?_, fun j hj => ?_⟩
  · intro z
    rcases Rat.mul_eq_zero.mp z with y | y
    · exact q y
    · exact k0 y
  · show ((c.1 * lf j + c.2 * tmI hf j : Int) : Rat) = (c.2 : Rat) * k * (val c * (HL (ds.map val) (e : Rat)).2 j + 1 * tm (HL (ds.map val) (e : Rat)).1 j)
    push_cast
    rw [h2, ht]
    grind
  · show ((c.2 * lf j + c.1 * tmI hf j : Int) : Rat) = (c.2 : Rat) * k * (1 * (HL (ds.map val) (e : Rat)).2 j + val c * tm (HL (ds.map val) (e : Rat)).1 j)
    push_cast
    rw [h2, ht]
    grind
  · rw [Nat.add_comm c.1.natAbs]
    exact bb _ _ _ _ (h.bl j) (bt j)
  · have l : ds.length + 1 + 1 ≤ j := hj
    cases j with
    | zero => omega
    | succ j =>
      show c.1 * lf (j + 1) + c.2 * hf j = 0
      rw [h.zl _ (by omega), h.zh _ (by omega)]
      simp
  · have l : ds.length + 1 + 1 ≤ j := hj
    cases j with
    | zero => omega
    | succ j =>
      show c.2 * lf (j + 1) + c.1 * hf j = 0
      rw [h.zl _ (by omega), h.zh _ (by omega)]
      simp
/-- the common part is taken out -/
theorem QI.quo {ds : List (Int × Int)} {e : Int} {hf lf : Nat → Int} {W : Nat} {g : Int} (h : QI ds e hf lf W) (hW : W ≤ 2 ^ 26) (g0 : g ≠ 0) (dh : ∀ j, g ∣ hf j) (dv : ∀ j, g ∣ lf j) :
    QuoP (ds.map val) (e : Rat) (ds.length + 1) (fun j => (hf j).fdiv g) (fun j => (lf j).fdiv g) := by
  obtain ⟨k, k0, h1, h2⟩ := h.ex
  have q := cast_ne g0
  have ex : ∀ {x : Int}, g ∣ x → (((x.fdiv g : Int)) : Rat) = (x : Rat) / (g : Rat) := fun {x} d => by
    have := fdiv_exact g0 d
    have e : ((x.fdiv g : Int) : Rat) * (g : Rat) = (x : Rat) := by exact_mod_cast this
    rw [← e]
    grind
  have le : ∀ {x : Int}, g ∣ x → (x.fdiv g).natAbs ≤ x.natAbs := fun {x} d => by
    have := fdiv_exact g0 d
    have e := congrArg Int.natAbs this
    rw [Int.natAbs_mul] at e
    rw [← e]
    exact Nat.le_mul_of_pos_right _ (by omega)
  refine ⟨⟨k / (g : Rat), ?_, fun j => ?_, fun j => ?_⟩, fun j => Nat.le_trans (le (dh j)) (Nat.le_trans (h.bh j) hW), fun j => Nat.le_trans (le (dv j)) (Nat.le_trans (h.bl j) hW), fun j hj => ?_, fun j hj => ?_⟩
  · intro z
    apply k0
    have : k / (g : Rat) * (g : Rat) = k := by grind
    rw [← this, z]
    grind
  · rw [ex (dh j), h1]
    grind
  · rw [ex (dv j), h2]
    grind
  · rw [h.zh j hj]
    exact Int.zero_fdiv g
  · rw [h.zl j hj]
    exact Int.zero_fdiv g
end KM

set_option linter.all false
namespace KM
open FM
theorem conv_tms' (f s : Sq) (k : Nat) : conv f s k = f 0 * s k + sumR (k + 1) (tms f s k) := by
  rw [conv_sum]
  show f 0 * s (k - 0) + sumR k _ = f 0 * s k + (tms f s k 0 + sumR k _)
  have t0 : tms f s k 0 = 0 := by
    unfold tms
    rw [if_neg (by omega)]
  rw [t0, Nat.sub_zero]
  have : sumR k (fun i => f (i + 1) * s (k - (i + 1))) = sumR k (fun i => tms f s k (i + 1)) := sumR_ext fun j hj => by
    unfold tms
    rw [if_pos (by omega)]
  rw [this]
  grind
/-- the series, number by number -/
def serS (f h : Sq) : Nat → Sq
  | 0 => fun _ => 0
  | n + 1 => fun j => if j = n then (h n - sumR (n + 1) (tms f (serS f h n) n)) / f 0 else serS f h n j
theorem serS_stab (f h : Sq) {j m : Nat} (hj : j < m) : serS f h m j = serS f h (j + 1) j := by
  induction m with
  | zero => omega
  | succ m ih =>
    by_cases e : j = m
    · rw [e]
    · have : serS f h (m + 1) j = serS f h m j := if_neg e
      rw [this, ih (by omega)]
theorem ser_ex {f h : Sq} (f0 : f 0 ≠ 0) : ∃ s : Sq, ∀ k, conv f s k = h k := by
  refine ⟨fun j => serS f h (j + 1) j, fun k => ?_⟩
  rw [conv_tms']
  have e1 : sumR (k + 1) (tms f (fun j => serS f h (j + 1) j) k) = sumR (k + 1) (tms f (serS f h k) k) := sumR_ext fun j hj => by
    unfold tms
    split
    · rename_i h9
      dsimp only
      rw [← serS_stab f h (show k - j < k by omega)]
    · rfl
  have e2 : serS f h (k + 1) k = (h k - sumR (k + 1) (tms f (serS f h k) k)) / f 0 := if_pos rfl
  rw [e1, e2]
  grind
theorem pow_rat (a : Int) (k : Nat) : ((a ^ (k + 1) : Int) : Rat) = ((a ^ k : Int) : Rat) * (a : Rat) := by
  rw [Int.pow_succ]
  push_cast
  rfl
theorem pow_le {a : Int} (h : a.natAbs ≤ 2 ^ 26) (k : Nat) : (a ^ k).natAbs ≤ 2 ^ (26 * k) := by
  rw [Int.natAbs_pow, Nat.pow_mul]
  exact Nat.pow_le_pow_left h k
/-- a term of the inner loop is not too great -/
theorem term_le {a b c : Int} {k j : Nat} (ha : a.natAbs ≤ 2 ^ 26) (hb : b.natAbs ≤ 2 ^ (26 * (j - 1))) (hc : c.natAbs ≤ 2 ^ (64 * (k - j + 1))) (h1 : 1 ≤ j) (h2 : j ≤ k) : (a * b * c).natAbs ≤ 2 ^ (64 * k + 26) := by
  rw [Int.natAbs_mul, Int.natAbs_mul]
  refine Nat.le_trans (Nat.mul_le_mul (Nat.mul_le_mul ha hb) hc) ?_
  rw [← Nat.pow_add, ← Nat.pow_add]
  exact Nat.pow_le_pow_right (by decide) (by omega)
end KM

set_option Elab.async false
set_option linter.all false
set_option maxRecDepth 100000
set_option maxHeartbeats 4000000
set_option exponentiation.threshold 20000
namespace Fx
open PySem PySem.Spec PyProof.Rows L2 FM KM
/-- a def of the law's own, by its name -/
def LF (P : Program) (w : World) (K : PySem.W.Frag) (mg : Str → Option Value) (base : Heap) (x : Str) (k : Nat) (ps : List Str) (sp : Sp) : Prop := ∃ f, mg x = some (.ref f) ∧ Cal P w K mg base k f ps sp
theorem if_D {c : Prop} [Decidable c] {A B : Prop} (h1 : c → A) (h2 : ¬ c → B) : if decide c = true then A else B := by
  by_cases h : c
  · rw [decide_eq_true h, if_pos rfl]; exact h1 h
  · rw [decide_eq_false h, if_neg Bool.false_ne_true]; exact h2 h
theorem if_ND {c : Prop} [Decidable c] {A B : Prop} (h1 : ¬ c → A) (h2 : c → B) : if (!decide c) = true then A else B := by
  by_cases h : c
  · rw [decide_eq_true h]; exact h2 h
  · rw [decide_eq_false h]; exact h1 h
theorem vne {i j : Int} (h : i ≠ j) : ¬ (V.int i = V.int j) := fun z => by injection z with z; exact h z
section
variable {P : Program} {w : World} {K : PySem.W.Frag} {mg : Str → Option Value} {base : Heap} {A : Adr}
theorem scGcd : FnScope ["one", "two", "rest"] ["one", "two"] (defScope (top 27)) := ⟨rfl, rfl, rfl, by decide +kernel, rfl, by decide +kernel, by decide +kernel⟩
def spGcd : Sp := fun vs H Q _ => ∃ a b, vs = [.int a, .int b] ∧ Bi b ∧ Q (.int ((Nat.gcd a.natAbs b.natAbs : Nat) : Int)) H
theorem ok_gcd {f : Addr} {fd : FuncData} (F : Fun K "_law_gcd" "_law_gcd" (top 27) f fd) (ab : mg "abs" = none) (it : mg "int" = none) : FnOk P w K mg base (L2.CX P w) 1 f fd ["one", "two"] spGcd := by
  refine F.okX scGcd (fun vs H Q E h => ?_) (fun cdv AA outer s H vs Q E hr h => ?_)
  · obtain ⟨a, b, rfl, _⟩ := h
    rfl
  · obtain ⟨a, b, rfl, hb, k⟩ := h
    refine ⟨_, (pss_cons (ps_set (i := 0) scGcd.nd rfl (Or.inl rfl) (pe_callB L2.call_abs (by rfl) ab boot_abs' (pa_cons (pv 0) pa_nil)))
      (pss_cons (ps_set (i := 1) scGcd.nd rfl (Or.inl rfl) (pe_callB L2.call_abs (by rfl) ab boot_abs' (pa_cons (pv 1) pa_nil)))
      (pss_cons (ps_while (passes_of rfl) (pt_cmpR L2.op_ne (pv 1) pe_int (nomark _)) (pss_cons (ps_set (i := 2) scGcd.nd rfl (Or.inl rfl) (pe_op op_modN (pe_callTy call_int1 (by rfl) it boot_int (pa_cons (pv 0) pa_nil)) (pv 1)))
      (pss_cons (ps_set (i := 0) scGcd.nd rfl (Or.inl rfl) (pv 1))
      (pss_one (ps_set (i := 1) scGcd.nd rfl (Or.inl rfl) (pv 2))))))
      (pss_one (ps_ret (pv 0)))))), ?_⟩
    have ea : ∀ z : Int, (if z < 0 then -z else z) = (z.natAbs : Int) := fun z => by split <;> omega
    refine ⟨_, rfl, _, rfl, _, rfl, _, rfl, ?_⟩
    rw [ea, ea]
    refine while_by (fun σ H2 => H2 = H ∧ ∃ (x y : Nat) (c : Option V), σ = [some (.int x), some (.int y), c] ∧ Nat.gcd x y = Nat.gcd a.natAbs b.natAbs)
      (fun (σ : L2.St) _ => match σ[1]? with | some (some (V.int b)) => b.toNat | _ => 0) ⟨rfl, _, _, none, rfl, rfl⟩ ?_ ?_
    · rintro σ H2 ⟨rfl, x, y, c, rfl, hg⟩
      refine ⟨_, rfl, rfl, _, rfl, if_ND (fun hn => ?_) (fun he => ?_)⟩
      · have hy : 0 < (y : Int) := by
          rcases Nat.eq_zero_or_pos y with z | z
          · rw [z] at hn; exact absurd rfl hn
          · omega
        have hm : (x : Int).fmod (y : Int) = ((x % y : Nat) : Int) := by
          rw [Int.fmod_eq_emod_of_nonneg _ (Int.le_of_lt hy)]
          rfl
        refine ⟨_, rfl, .inl ⟨_, rfl, _, rfl, _, _, rfl, rfl, by omega, _, rfl, _, rfl, ⟨rfl, y, x % y, some (.int ((x : Int).fmod (y : Int))), ?_, ?_⟩, ?_⟩⟩
        · show [some (V.int (y : Int)), some (V.int ((x : Int).fmod (y : Int))), some (V.int ((x : Int).fmod (y : Int)))] = _
          rw [hm]
        · rw [← hg, Nat.gcd_comm x y, Nat.gcd_rec y x, Nat.gcd_comm]
        · show ((x : Int).fmod (y : Int)).toNat < (y : Int).toNat
          rw [hm]
          have := Nat.mod_lt x (show 0 < y by omega)
          omega
      · injection he with he
        have y0 : y = 0 := by omega
        subst y0
        rw [Nat.gcd_zero_right] at hg
        subst hg
        exact ⟨_, rfl, k⟩
    · rintro σ H2 Q1 Q2 hq ⟨v, e, i, j, e3, q⟩
      exact ⟨v, e, i, j, e3, hq _ _ q⟩
theorem scLowK : FnScope ["top", "bottom", "part"] ["top", "bottom"] (defScope (top 28)) := ⟨rfl, rfl, rfl, by decide +kernel, rfl, by decide +kernel, by decide +kernel⟩
def spLowK : Sp := fun vs H Q _ => ∃ n d, vs = [.int n, .int d] ∧ d ≠ 0 ∧ Bi d ∧ ∀ r H', Ext H H' → TupAt H' r (low n d) → Q (.ref r) H'
theorem ok_lowK {f : Addr} {fd : FuncData} (F : Fun K "_law_low" "_law_low" (top 28) f fd) (hG : LF P w K mg base "_law_gcd" 1 ["one", "two"] spGcd) : FnOk P w K mg base (L2.CX P w) 2 f fd ["top", "bottom"] spLowK := by
  refine F.okX scLowK (fun vs H Q E h => ?_) (fun cdv AA outer s H vs Q E hr h => ?_)
  · obtain ⟨n, d, rfl, _⟩ := h
    rfl
  · obtain ⟨n, d, rfl, dz, bd, k⟩ := h
    obtain ⟨fG, gG, cG⟩ := hG
    obtain ⟨fdG, GG, bG⟩ := cG.ex
    refine ⟨_, (pss_cons (ps_set (i := 2) scLowK.nd rfl (Or.inl rfl) (pe_call GG (hr.mono (by decide)) rfl gG cG.kp bG .nil (E := E0) passL (pa_cons (pv 0) (pa_cons (pv 1) pa_nil))))
      (C8.pss_cut (ps_if (pt_cmpR L2.op_lt (pv 1) pe_int (nomark _)) (pss_one (ps_set (i := 2) scLowK.nd rfl (Or.inl rfl) (pe_un L2.un_neg (pv 2)))) pss_nil)
      (pss_one (ps_ret (pe_tup (pa_cons (pe_op op_fdivZ (pv 0) (pv 2)) (pa_cons (pe_op op_fdivZ (pv 1) (pv 2)) pa_nil))))))), ?_⟩
    refine ⟨_, rfl, _, rfl, n, d, rfl, bd, ?_⟩
    have g := sg_ne (a := n) dz
    have gl : (sg d (Nat.gcd n.natAbs d.natAbs)).natAbs.log2 < 9000 := by
      rw [sg_abs]
      refine Nat.lt_of_lt_of_le (log2_lt (n := ((Nat.gcd n.natAbs d.natAbs : Nat) : Int)) (k := 8900) ?_ (by decide)) (by decide)
      exact Nat.lt_of_le_of_lt (Nat.gcd_le_right _ (by omega)) bd
    refine ⟨fun σ H2 => H2 = H ∧ σ = [some (.int n), some (.int d), some (.int (sg d (Nat.gcd n.natAbs d.natAbs)))], ?_, ?_⟩
    · refine ⟨_, rfl, _, _, rfl, rfl, _, rfl, if_D (fun hn => ?_) (fun hn => ?_)⟩
      · refine ⟨_, rfl, _, rfl, rfl, ?_⟩
        unfold sg
        rw [if_pos hn]
        rfl
      · refine ⟨rfl, ?_⟩
        unfold sg
        rw [if_neg hn]
        rfl
    · rintro σ H3 ⟨rfl, rfl⟩
      exact ⟨_, rfl, _, rfl, _, _, rfl, rfl, ⟨g, gl⟩, _, rfl, _, rfl, _, _, rfl, rfl, ⟨g, gl⟩, (by show 2 ≤ sizeLine; decide), fun r nr => k r _ (ext1 nr) upd_same⟩
theorem scAddK : FnScope ["x", "y"] ["x", "y"] (defScope (top 29)) := ⟨rfl, rfl, rfl, by decide +kernel, rfl, by decide +kernel, by decide +kernel⟩
def spAddK : Sp := fun vs H Q _ => ∃ a p b q, vs = [.ref a, .ref b] ∧ TupAt H a p ∧ TupAt H b q ∧ Prt p ∧ Prt q ∧ ∀ r H', Ext H H' → TupAt H' r (fadd p q) → Q (.ref r) H'
theorem ok_spAddK {f : Addr} {fd : FuncData} (F : Fun K "_law_add" "_law_add" (top 29) f fd) (hL : LF P w K mg base "_law_low" 2 ["top", "bottom"] spLowK) : FnOk P w K mg base (L2.CX P w) 3 f fd ["x", "y"] spAddK := by
  refine F.okX scAddK (fun vs H Q E h => ?_) (fun cdv AA outer s H vs Q E hr h => ?_)
  · obtain ⟨a, p, b, q, rfl, _⟩ := h
    rfl
  · obtain ⟨a, p, b, q, rfl, ha, hb, op, oq, k⟩ := h
    obtain ⟨fL, gL, cL⟩ := hL
    obtain ⟨fdL, GL, bL⟩ := cL.ex
    refine ⟨_, (pss_one (ps_ret (pe_call GL (hr.mono (by decide)) rfl gL cL.kp bL .nil (E := E0) passL (pa_cons (pe_op L2.op_add (pe_op op_mulW (pe_ix ix_tup (pv 0) pe_int (fun _ _ => rfl)) (pe_ix ix_tup (pv 1) pe_int (fun _ _ => rfl))) (pe_op op_mulW (pe_ix ix_tup (pv 1) pe_int (fun _ _ => rfl)) (pe_ix ix_tup (pv 0) pe_int (fun _ _ => rfl)))) (pa_cons (pe_op op_mulW (pe_ix ix_tup (pv 0) pe_int (fun _ _ => rfl)) (pe_ix ix_tup (pv 1) pe_int (fun _ _ => rfl))) pa_nil))))), ?_⟩
    exact ⟨_, rfl, _, _, _, _, rfl, rfl, SqT.of ha, rfl, _, rfl, _, _, _, _, rfl, rfl, SqT.of hb, rfl, _, _, rfl, rfl, op.b1.cm oq.b2, _, rfl, _, _, _, _, rfl, rfl, SqT.of hb, rfl, _, rfl, _, _, _, _, rfl, rfl, SqT.of ha, rfl, _, _, rfl, rfl, oq.b1.cm op.b2, _, _, rfl, rfl, _, rfl, _, _, _, _, rfl, rfl, SqT.of ha, rfl, _, rfl, _, _, _, _, rfl, rfl, SqT.of hb, rfl, _, _, rfl, rfl, op.b2.cm oq.b2, _, _, rfl, Int.mul_ne_zero op.ne oq.ne, op.b2.mul oq.b2, k⟩
theorem scMulK : FnScope ["x", "y"] ["x", "y"] (defScope (top 30)) := ⟨rfl, rfl, rfl, by decide +kernel, rfl, by decide +kernel, by decide +kernel⟩
def spMulK : Sp := fun vs H Q _ => ∃ a p b q, vs = [.ref a, .ref b] ∧ TupAt H a p ∧ TupAt H b q ∧ Prt p ∧ Prt q ∧ ∀ r H', Ext H H' → TupAt H' r (fmul p q) → Q (.ref r) H'
theorem ok_spMulK {f : Addr} {fd : FuncData} (F : Fun K "_law_mul" "_law_mul" (top 30) f fd) (hL : LF P w K mg base "_law_low" 2 ["top", "bottom"] spLowK) : FnOk P w K mg base (L2.CX P w) 3 f fd ["x", "y"] spMulK := by
  refine F.okX scMulK (fun vs H Q E h => ?_) (fun cdv AA outer s H vs Q E hr h => ?_)
  · obtain ⟨a, p, b, q, rfl, _⟩ := h
    rfl
  · obtain ⟨a, p, b, q, rfl, ha, hb, op, oq, k⟩ := h
    obtain ⟨fL, gL, cL⟩ := hL
    obtain ⟨fdL, GL, bL⟩ := cL.ex
    refine ⟨_, (pss_one (ps_ret (pe_call GL (hr.mono (by decide)) rfl gL cL.kp bL .nil (E := E0) passL (pa_cons (pe_op op_mulW (pe_ix ix_tup (pv 0) pe_int (fun _ _ => rfl)) (pe_ix ix_tup (pv 1) pe_int (fun _ _ => rfl))) (pa_cons (pe_op op_mulW (pe_ix ix_tup (pv 0) pe_int (fun _ _ => rfl)) (pe_ix ix_tup (pv 1) pe_int (fun _ _ => rfl))) pa_nil))))), ?_⟩
    exact ⟨_, rfl, _, _, _, _, rfl, rfl, SqT.of ha, rfl, _, rfl, _, _, _, _, rfl, rfl, SqT.of hb, rfl, _, _, rfl, rfl, op.b1.cm oq.b1, _, rfl, _, _, _, _, rfl, rfl, SqT.of ha, rfl, _, rfl, _, _, _, _, rfl, rfl, SqT.of hb, rfl, _, _, rfl, rfl, op.b2.cm oq.b2, _, _, rfl, Int.mul_ne_zero op.ne oq.ne, op.b2.mul oq.b2, k⟩
end
end Fx

set_option Elab.async false
set_option linter.all false
set_option maxRecDepth 100000
set_option maxHeartbeats 4000000
set_option exponentiation.threshold 20000
namespace Fx
open PySem PySem.Spec PyProof.Rows L2 FM KM
/-! ### lists of fractions -/
def FV (A : Adr) (H : Hp) (x : V) (r : Rat) : Prop := ∃ a p, x = .ref a ∧ FracAt A.C H a p ∧ Low p ∧ val p = r
def FL (A : Adr) (H : Hp) (l : Addr) (n : Nat) (f : Sq) : Prop := ∃ xs : List V, H l = some (.lst xs) ∧ xs.length = n ∧ ∀ j x, xs[j]? = some x → FV A H x (f j)
theorem FV.ext {A : Adr} {H H' : Hp} {x : V} {r : Rat} (h : FV A H x r) (e : Ext H H') : FV A H' x r := let ⟨a, p, h1, h2, h3, h4⟩ := h; ⟨a, p, h1, h2.ext e, h3, h4⟩
theorem FL.ext {A : Adr} {H H' : Hp} {l : Addr} {n : Nat} {f : Sq} (h : FL A H l n f) (e : Ext H H') : FL A H' l n f := let ⟨xs, h1, h2, h3⟩ := h; ⟨xs, e _ _ h1, h2, fun j x hx => (h3 j x hx).ext e⟩
/-- an item -/
theorem FL.get {A : Adr} {H : Hp} {l : Addr} {n : Nat} {f : Sq} (h : FL A H l n f) {K : PySem.W.Frag} {j : Nat} (hj : j < n) : ∃ a p xs, SqL K H l xs ∧ xs.length = n ∧ xs[j]? = some (.ref a) ∧ atI xs (j : Int) = some (V.ref a) ∧ FracAt A.C H a p ∧ Low p ∧ val p = f j := by
  obtain ⟨xs, h1, h2, h3⟩ := h
  have hj' : j < xs.length := by omega
  obtain ⟨a, p, e1, e2, e3, e4⟩ := h3 j xs[j] (List.getElem?_eq_getElem hj')
  have e5 : xs[j]? = some (.ref a) := by rw [List.getElem?_eq_getElem hj', e1]
  exact ⟨a, p, xs, SqL.of h1, h2, e5, atI_nat e5, e2, e3, e4⟩
theorem okf_rep {p : Int × Int} {D M : Nat} (h : Low p) (r : Rep D M (val p)) (h0 : 0 < D) (h1 : D < 2 ^ 4000) (h2 : M < 2 ^ 4000) : Okf p := ⟨h, Nat.lt_of_le_of_lt (Rep.dvd h r h0).2 h2, Nat.lt_of_le_of_lt (Rep.dvd h r h0).1 h1⟩
theorem ceq_val {p q : Int × Int} (hp : Low p) (hq : Low q) : ceq p q = decide (val p = val q) := by
  unfold ceq
  by_cases h : p = q
  · rw [decide_eq_true h, h]; simp
  · rw [decide_eq_false h]
    have : ¬ val p = val q := fun z => h (val_inj hp hq z)
    simp [this]
/-! ### exceptions with one int -/
def spXc (C : Addr) (fld : Str) : Sp := fun vs H Q _ => ∃ x n, vs = [.ref x, .int n] ∧ H x = some (exo x C none) ∧ ∀ dx, H dx = none → dx ≠ x → Q .non (upd (upd H dx (exd dx [(fld, .int n)])) x (exo x C (some dx)))
/-- what a raise asks of the text -/
structure XcF (P : Program) (w : World) (K : PySem.W.Frag) (mg : Str → Option Value) (base : Heap) (C : Addr) (nm fld : Str) : Prop where
  ox : OexC K C
  init : ∃ fI, PySem.W.findIn K (.ref C) "__init__" = some (some (.ref fI)) ∧ PySem.W.typeIn K (.ref fI) = some (.type "function") ∧ Cal P w K mg base 1 fI ["self", fld] (spXc C fld)
  g : mg nm = some (.ref C)
theorem raise_xc {C : Addr} {fld : Str} {σ : L2.St} {H H1 : Hp} {n : Int} {E : XK} (e : Ext H H1) (hE : ∀ dd H', Ext H H' → H' dd = some (.xd [(fld, .int n)]) → E (.ref C) (some dd) H') :
    tMkO C (spXc C fld) [] (fun _ H Q => Q [.int n] H) σ H1 E := by
  refine ⟨by show 1 ≤ 1000; decide, fun a na => ⟨a, n, rfl, upd_same, fun dx ndx ne => ⟨rfl, dx, _, upd_same, by rw [upd_ne ne]; exact upd_same, ?_, hE dx _ ?_ upd_same⟩⟩⟩
  · rw [upd_ne ne] at ndx
    exact ndx
  · rw [upd_ne ne] at ndx
    intro b u hb
    have hb1 := e _ _ hb
    have n1 : b ≠ a := fun z => by rw [z, na] at hb1; cases hb1
    have n2 : b ≠ dx := fun z => by rw [z, ndx] at hb1; cases hb1
    rw [upd_ne n2, del_ne n1, upd_ne n1, upd_ne n2, upd_ne n1]
    exact hb1
section
variable {P : Program} {w : World} {K : PySem.W.Frag} {mg : Str → Option Value} {base : Heap} {A : Adr}
abbrev sBcI : Stmt := inClass (top 5) 0
theorem scBcI : FnScope ["self", "count"] ["self", "count"] (defScope sBcI) := ⟨rfl, rfl, rfl, by decide +kernel, rfl, by decide +kernel, by decide +kernel⟩
theorem ok_BcI {C : Addr} {f : Addr} {fd : FuncData} (F : Fun K "__init__" "BadCount.__init__" sBcI f fd) (T : OexC K C) (no : PySem.W.findIn K (.ref C) "count" = some none) : FnOk P w K mg base (L2.CX P w) 1 f fd ["self", "count"] (spXc C "count") := by
  refine F.okX scBcI (fun vs H Q E h => ?_) (fun cdv AA outer s H vs Q E hr h => ?_)
  · obtain ⟨x, t, rfl, _⟩ := h
    rfl
  · obtain ⟨x, t, rfl, hx, kk⟩ := h
    refine ⟨_, pss_one (ps_ost (pv 0) (pv 1)), ?_⟩
    exact ⟨_, rfl, _, rfl, x, C, rfl, T, no, .inl ⟨hx, fun dx nd ne => kk dx nd ne⟩⟩
abbrev sNeI : Stmt := inClass (top 6) 0
theorem scNeI : FnScope ["self", "index"] ["self", "index"] (defScope sNeI) := ⟨rfl, rfl, rfl, by decide +kernel, rfl, by decide +kernel, by decide +kernel⟩
theorem ok_NeI {C : Addr} {f : Addr} {fd : FuncData} (F : Fun K "__init__" "NoEcho.__init__" sNeI f fd) (T : OexC K C) (no : PySem.W.findIn K (.ref C) "index" = some none) : FnOk P w K mg base (L2.CX P w) 1 f fd ["self", "index"] (spXc C "index") := by
  refine F.okX scNeI (fun vs H Q E h => ?_) (fun cdv AA outer s H vs Q E hr h => ?_)
  · obtain ⟨x, t, rfl, _⟩ := h
    rfl
  · obtain ⟨x, t, rfl, hx, kk⟩ := h
    refine ⟨_, pss_one (ps_ost (pv 0) (pv 1)), ?_⟩
    exact ⟨_, rfl, _, rfl, x, C, rfl, T, no, .inl ⟨hx, fun dx nd ne => kk dx nd ne⟩⟩
theorem scCc : FnScope ["count", "low", "high"] ["count", "low", "high"] (defScope (top 8)) := ⟨rfl, rfl, rfl, by decide +kernel, rfl, by decide +kernel, by decide +kernel⟩
def spCc (B : Addr) : Sp := fun vs H Q E => ∃ n a b, vs = [.int n, .int a, .int b] ∧ (a ≤ n ∧ n ≤ b → Q .non H) ∧ (¬ (a ≤ n ∧ n ≤ b) → ∀ dd H', Ext H H' → H' dd = some (.xd [("count", .int n)]) → E (.ref B) (some dd) H')
theorem ok_cc {B f : Addr} {fd : FuncData} (F : Fun K "check_count" "check_count" (top 8) f fd) (X : XcF P w K mg base B "BadCount" "count") : FnOk P w K mg base (L2.CX P w) 3 f fd ["count", "low", "high"] (spCc B) := by
  refine F.okX scCc (fun vs H Q E h => ?_) (fun cdv AA outer s H vs Q E hr h => ?_)
  · obtain ⟨n, a, b, rfl, _⟩ := h
    rfl
  · obtain ⟨n, a, b, rfl, k1, k2⟩ := h
    obtain ⟨fI, iC, tI, cI⟩ := X.init
    obtain ⟨fdI, GI, bI⟩ := cI.ex
    refine ⟨_, (pss_one (ps_if (pt_not (pt_chain L2.op_le L2.op_le (pv 1) (pv 0) (pv 2))) (pss_one (ps_raise rfl (takes_of rfl rfl rfl rfl) (pmk_oex X.ox iC tI GI (hr.mono (by decide)) bI .nil passL rfl X.g (pa_cons (pv 0) pa_nil)))) pss_nil)), ?_⟩
    refine ⟨_, rfl, _, rfl, _, _, rfl, rfl, _, rfl, if_D (fun h1 => ⟨_, rfl, _, _, rfl, rfl, _, rfl, if_ND (fun h2 => ?_) (fun h2 => k1 ⟨h1, h2⟩)⟩) (fun h1 => ⟨_, rfl, iteT ?_⟩)⟩
    · exact ⟨_, rfl, raise_xc (σ := []) Ext.rfl' (k2 fun z => h2 z.2)⟩
    · exact ⟨_, rfl, raise_xc (σ := []) Ext.rfl' (k2 fun z => h1 z.1)⟩
theorem scWh : FnScope ["x"] ["x"] (defScope (top 31)) := ⟨rfl, rfl, rfl, by decide +kernel, rfl, by decide +kernel, by decide +kernel⟩
def spWh (A : Adr) : Sp := fun vs H Q _ => (∃ n, vs = [.int n] ∧ Q (.bl true) H) ∨ ∃ a p, vs = [.ref a] ∧ FracAt A.C H a p ∧ Q (.bl false) H
theorem ok_wh {f : Addr} {fd : FuncData} (F : Fun K "_law_whole" "_law_whole" (top 31) f fd) (T : FT K mg A) (bo : mg "bool" = none) : FnOk P w K mg base (L2.CX P w) 1 f fd ["x"] (spWh A) := by
  have isi := T.isi
  have it := T.int0
  refine F.okX scWh (fun vs H Q E h => ?_) (fun cdv AA outer s H vs Q E hr h => ?_)
  · rcases h with ⟨n, rfl, _⟩ | ⟨a, p, rfl, _⟩ <;> rfl
  · refine ⟨_, pss_one (ps_ret (pe_and (pe_callB call_isi (by rfl) isi boot_isi (pa_cons (pv 0) (pa_cons (pe_bltn (v := .ty "int") (by rfl) it boot_int rfl) pa_nil))) (pe_one (pe_not (pe_callB call_isi (by rfl) isi boot_isi (pa_cons (pv 0) (pa_cons (pe_bltn (v := .ty "bool") (by rfl) bo boot_bool rfl) pa_nil))))))), ?_⟩
    rcases h with ⟨n, rfl, k⟩ | ⟨a, p, rfl, hf, k⟩
    · exact ⟨_, rfl, _, _, _, _, true, rfl, .ty "int", tyI _, kit_II, _, rfl, iteT ⟨_, rfl, _, _, _, _, false, rfl, .ty "bool", tyI _, kit_ty (by decide +kernel), _, rfl, k⟩⟩
    · exact ⟨_, rfl, _, _, _, _, false, rfl, .ty "int", T.tyF hf, T.kit_CI, _, rfl, iteF k⟩
theorem scPr : FnScope ["told"] ["told"] (defScope (top 32)) := ⟨rfl, rfl, rfl, by decide +kernel, rfl, by decide +kernel, by decide +kernel⟩
def spPr (A : Adr) : Sp := fun vs H Q _ => ∃ a p, vs = [.ref a] ∧ FracAt A.C H a p ∧ Low p ∧ Bi p.2 ∧ ∀ r H', Ext H H' → TupAt H' r p → Q (.ref r) H'
theorem ok_pr {f : Addr} {fd : FuncData} (F : Fun K "_law_pair" "_law_pair" (top 32) f fd) (T : FT K mg A) (hW : LF P w K mg base "_law_whole" 1 ["x"] (spWh A)) (hG : LF P w K mg base "_law_gcd" 1 ["one", "two"] spGcd) : FnOk P w K mg base (L2.CX P w) 2 f fd ["told"] (spPr A) := by
  refine F.okX scPr (fun vs H Q E h => ?_) (fun cdv AA outer s H vs Q E hr h => ?_)
  · obtain ⟨a, p, rfl, _⟩ := h
    rfl
  · obtain ⟨a, p, rfl, ha, lo, bi, k⟩ := h
    obtain ⟨fW, gW, cW⟩ := hW
    obtain ⟨fdW, GW, bW⟩ := cW.ex
    obtain ⟨fG, gG, cG⟩ := hG
    obtain ⟨fdG, GG, bG⟩ := cG.ex
    obtain ⟨dx, hA⟩ := id ha
    refine ⟨_, (pss_cons (ps_if (PW.pt (pw_or (pt_not (pt_val (pe_callB call_isi (by rfl) T.isi boot_isi (pa_cons (pv 0) (pa_cons (pe_glob (v := .ref A.C) (by rfl) T.mgC rfl) pa_nil))))) (pw_or (pt_not (pt_val (pe_call GW (hr.mono (by decide)) rfl gW cW.kp bW .nil (E := E0) passL (pa_cons (pe_fld (pv 0) rfl) pa_nil)))) (pw_or1 (pt_not (pt_val (pe_call GW (hr.mono (by decide)) rfl gW cW.kp bW .nil (E := E0) passL (pa_cons (pe_fld (pv 0) rfl) pa_nil)))))))) (pss_one (ps_ret pe_non)) pss_nil)
      (pss_cons (ps_if (PW.pt (pw_or (pt_cmpR L2.op_le (pe_fld (pv 0) rfl) pe_int (nomark _)) (pw_or1 (pt_cmpR L2.op_ne (pe_call GG (hr.mono (by decide)) rfl gG cG.kp bG .nil (E := E0) passL (pa_cons (pe_fld (pv 0) rfl) (pa_cons (pe_fld (pv 0) rfl) pa_nil))) pe_int (nomark _))))) (pss_one (ps_ret pe_non)) pss_nil)
      (pss_one (ps_ret (pe_tup (pa_cons (pe_fld (pv 0) rfl) (pa_cons (pe_fld (pv 0) rfl) pa_nil))))))), ?_⟩
    refine ⟨_, rfl, _, _, _, _, true, rfl, .own A.C, T.tyF ha, kit_CC, _, rfl, iteF ?_⟩
    refine ⟨_, rfl, _, _, _, _, _, rfl, hA, T.cl, T.nN, fr_num _, .inl ⟨p.1, rfl, _, rfl, iteF ?_⟩⟩
    refine ⟨_, rfl, _, _, _, _, _, rfl, hA, T.cl, T.nD, fr_den _, .inl ⟨p.2, rfl, _, rfl, iteF ?_⟩⟩
    have c := lo.cop
    have d := lo.pos
    refine ⟨_, rfl, _, _, _, _, _, rfl, hA, T.cl, T.nD, fr_den _, _, _, rfl, rfl, _, rfl, if_D (fun z => absurd z (by omega)) (fun _ => ?_)⟩
    refine ⟨_, rfl, _, _, _, _, _, rfl, hA, T.cl, T.nN, fr_num _, _, rfl, _, _, _, _, _, rfl, hA, T.cl, T.nD, fr_den _, _, _, rfl, bi, rfl, _, rfl, if_ND (fun z => absurd (by rw [c]; rfl) z) (fun _ => ?_)⟩
    exact ⟨_, rfl, _, _, _, _, _, rfl, hA, T.cl, T.nN, fr_num _, _, rfl, _, _, _, _, _, rfl, hA, T.cl, T.nD, fr_den _, (by show 2 ≤ sizeLine; decide), fun r nr => k r _ (ext1 nr) upd_same⟩
theorem scNu : FnScope ["pair", "way"] ["pair", "way"] (defScope (top 34)) := ⟨rfl, rfl, rfl, by decide +kernel, rfl, by decide +kernel, by decide +kernel⟩
def spNu (A : Adr) : Sp := fun vs H Q _ => ∃ a p n, vs = [.ref a, .int n] ∧ TupAt H a p ∧ Low p ∧ Bi p.2 ∧ ∀ v H', Ext H H' → Num A H' v p → Q v H'
theorem ok_nu {f : Addr} {fd : FuncData} (F : Fun K "_law_number" "_law_number" (top 34) f fd) (T : FT K mg A) (M : MkF P w K mg base A) : FnOk P w K mg base (L2.CX P w) 3 f fd ["pair", "way"] (spNu A) := by
  refine F.okX scNu (fun vs H Q E h => ?_) (fun cdv AA outer s H vs Q E hr h => ?_)
  · obtain ⟨a, p, n, rfl, _⟩ := h
    rfl
  · obtain ⟨a, p, n, rfl, ha, lo, bi, k⟩ := h
    refine ⟨_, (pss_cons (ps_if (PW.pt (pw_and (pt_cmpR L2.op_eq (pe_ix ix_tup (pv 0) pe_int (fun _ _ => rfl)) pe_int (nomark _)) (pw_and1 (pt_cmpR L2.op_eq (pv 1) pe_int (nomark _))))) (pss_one (ps_ret (pe_ix ix_tup (pv 0) pe_int (fun _ _ => rfl)))) pss_nil)
      (pss_one (ps_ret (pe_frac2 M T (hr.mono (by decide)) rfl (pa_cons (pe_ix ix_tup (pv 0) pe_int (fun _ _ => rfl)) (pa_cons (pe_ix ix_tup (pv 0) pe_int (fun _ _ => rfl)) pa_nil)))))), ?_⟩
    refine ⟨_, rfl, _, _, _, _, rfl, rfl, SqT.of ha, rfl, rfl, _, rfl, if_D (fun h1 => ?_) (fun h1 => iteF ?_)⟩
    · injection h1 with h1
      refine ⟨_, rfl, rfl, _, rfl, if_D (fun h2 => ?_) (fun h2 => ?_)⟩
      · exact ⟨_, rfl, _, _, _, _, rfl, rfl, SqT.of ha, rfl, k _ H Ext.rfl' (.inr ⟨rfl, h1⟩)⟩
      · refine ⟨_, rfl, _, _, _, _, rfl, rfl, SqT.of ha, rfl, _, rfl, _, _, _, _, rfl, rfl, SqT.of ha, rfl, _, _, rfl, Low.ne lo, bi, fun r H' e hf => k _ H' e (.inl ⟨r, rfl, ?_⟩)⟩
        have e2 := low_self lo
        rw [e2] at hf
        exact hf
    · refine ⟨_, rfl, _, _, _, _, rfl, rfl, SqT.of ha, rfl, _, rfl, _, _, _, _, rfl, rfl, SqT.of ha, rfl, _, _, rfl, Low.ne lo, bi, fun r H' e hf => k _ H' e (.inl ⟨r, rfl, ?_⟩)⟩
      have e2 := low_self lo
      rw [e2] at hf
      exact hf
theorem scIp : FnScope ["number"] ["number"] (defScope (top 17)) := ⟨rfl, rfl, rfl, by decide +kernel, rfl, by decide +kernel, by decide +kernel⟩
def spIp (A : Adr) : Sp := fun vs H Q _ => ∃ a p, vs = [.ref a] ∧ FracAt A.C H a p ∧ Okf p ∧ ∀ H', Ext H H' → Q (.bl (decide (-p.2 < p.1 ∧ p.1 < p.2))) H'
theorem okOne (n : Int) (h : Bd n) : Okf (n, 1) := ⟨lowInt n, h, Bd_one⟩
theorem ok_ip {f : Addr} {fd : FuncData} (F : Fun K "is_pane" "is_pane" (top 17) f fd) (F_ : FA P w K mg base A) : FnOk P w K mg base (L2.CX P w) 5 f fd ["number"] (spIp A) := by
  refine F.okX scIp (fun vs H Q E h => ?_) (fun cdv AA outer s H vs Q E hr h => ?_)
  · obtain ⟨a, p, rfl, _⟩ := h
    rfl
  · obtain ⟨a, p, rfl, ha, op, k⟩ := h
    obtain ⟨fdGt, GGt, bGt⟩ := F_.cGt.ex
    obtain ⟨fdLt, GLt, bLt⟩ := F_.cLt.ex
    refine ⟨_, (pss_one (ps_ret (pe_chain (op_cmpR (op := .Lt) int_lt F_.kGt GGt (hr.mono (by decide)) bGt (E := E0) passL (fun _ _ => rfl)) (op_cmp (op := .Lt) F_.kLt GLt (hr.mono (by decide)) bLt (E := E0) passL (fun _ _ => rfl)) (pe_un L2.un_neg pe_int) (pv 0) pe_int))), ?_⟩
    refine ⟨_, rfl, _, rfl, ⟨_, rfl⟩, ha.ins, a, p, _, (-1, 1), rfl, ha, .inr ⟨rfl, rfl⟩, op, okOne _ (by unfold Bd; exact Nat.one_lt_two_pow (by decide)), fun H1 e1 => ⟨_, rfl, ?_⟩⟩
    have c1 : cgt p (-1, 1) = decide (-p.2 < p.1) := by
      unfold cgt
      rw [show (-1, (1 : Int)).1 * p.2 = -p.2 by show -1 * p.2 = -p.2; omega, show p.1 * (-1, (1 : Int)).2 = p.1 by show p.1 * 1 = p.1; omega]
    have c2 : clt p (1, 1) = decide (p.1 < p.2) := by
      unfold clt
      rw [show ((1 : Int), (1 : Int)).1 * p.2 = p.2 by show 1 * p.2 = p.2; omega, show p.1 * ((1 : Int), (1 : Int)).2 = p.1 by show p.1 * 1 = p.1; omega]
    rw [c1]
    refine if_D (fun h1 => ?_) (fun h1 => ?_)
    · refine ⟨(ha.ext e1).ins, .inr ⟨_, rfl⟩, a, p, _, (1, 1), rfl, ha.ext e1, .inr ⟨rfl, rfl⟩, op, okOne _ Bd_one, fun H2 e2 => ?_⟩
      have := k H2 (e1.trans e2)
      rw [c2]
      have e9 : decide (-p.2 < p.1 ∧ p.1 < p.2) = decide (p.1 < p.2) := by simp [h1]
      rw [e9] at this
      exact this
    · have := k H1 e1
      have e9 : decide (-p.2 < p.1 ∧ p.1 < p.2) = false := by simp [h1]
      rw [e9] at this
      exact this
theorem scEo : FnScope ["pane", "top", "bottom", "count", "index", "k"] ["pane", "top", "bottom", "count", "index"] (defScope (top 23)) := ⟨rfl, rfl, rfl, by decide +kernel, rfl, by decide +kernel, by decide +kernel⟩
def RaiseI (N : Addr) (E : XK) (H : Hp) (i : Int) : Prop := ∀ dd H', Ext H H' → H' dd = some (.xd [("index", .int i)]) → E (.ref N) (some dd) H'
theorem RaiseI.ext {N : Addr} {E : XK} {H H' : Hp} {i : Int} (h : RaiseI N E H i) (e : Ext H H') : RaiseI N E H' i := fun dd H2 e2 hd => h dd H2 (e.trans e2) hd
theorem rep_pm {p q : Int × Int} {D M : Nat} (h : fabs p = (1, 1)) (r : Rep D M (val q)) (hp : Low p) (hq : Low q) : Rep D M (val (fmul p q)) := by
  obtain ⟨N, e1, e2⟩ := r
  have h1 : ((p.1.natAbs : Nat) : Int) = 1 := congrArg Prod.fst h
  have h2 : p.2 = 1 := congrArg Prod.snd h
  refine ⟨p.1 * N, ?_, ?_⟩
  · rw [val_mul hp hq]
    have e3 : val p = (p.1 : Rat) := by
      have := val_int p.1
      rw [← this, ← h2]
    rw [e3]
    push_cast
    rw [← e1]
    grind
  · rw [Int.natAbs_mul, show p.1.natAbs = 1 by omega, Nat.one_mul]
    exact e2
def spEo (A : Adr) (Nx : Addr) : Sp := fun vs H Q E => ∃ a p l1 l2 n1 n2 fA fB c i D M, vs = [.ref a, .ref l1, .ref l2, .int (c : Nat), .int i] ∧ FracAt A.C H a p ∧ Okf p ∧ FL A H l1 n1 fA ∧ FL A H l2 n2 fB ∧ c ≤ n1 ∧ c ≤ n2 ∧ c ≤ 1000 ∧ 0 < D ∧ D < 2 ^ 4000 ∧ M < 2 ^ 4000 ∧ (∀ j, Rep D M (fA j)) ∧ (∀ j, Rep D M (fB j)) ∧
  (fabs p ≠ (1, 1) → RaiseI Nx E H i) ∧ (fabs p = (1, 1) → ∀ k, k < c → (∀ j, j < k → fA j = val p * fB j) → fA k ≠ val p * fB k → RaiseI Nx E H (i + (k : Nat))) ∧
  (fabs p = (1, 1) → (∀ j, j < c → fA j = val p * fB j) → ∀ H', Ext H H' → Q (.int p.1) H')
theorem ok_eo {N f : Addr} {fd : FuncData} (F : Fun K "_end_of" "_end_of" (top 23) f fd) (F_ : FA P w K mg base A) (X : XcF P w K mg base N "NoEcho" "index") (ra : mg "range" = none) : FnOk P w K mg base (L2.CX P w) 6 f fd ["pane", "top", "bottom", "count", "index"] (spEo A N) := by
  have T := F_.T
  have ab := F_.ab
  refine F.okX scEo (fun vs H Q E h => ?_) (fun cdv AA outer s H vs Q E hr h => ?_)
  · obtain ⟨a, p, l1, l2, n1, n2, fA, fB, c, i, D, M, rfl, _⟩ := h
    rfl
  · obtain ⟨a, p, l1, l2, n1, n2, fA, fB, c, i, D, M, rfl, ha, op, h1, h2, c1, c2, c3, d0, d1, d2, rA, rB, k1, k2, k3⟩ := h
    obtain ⟨fI, iC, tI, cI⟩ := X.init
    obtain ⟨fdI, GI, bI⟩ := cI.ex
    obtain ⟨fdA, GA, bA⟩ := F_.cAbs.ex
    obtain ⟨fdEq, GEq, bEq⟩ := F_.cEq.ex
    refine ⟨_, (pss_cons (ps_if (pt_cmpR (o_ne F_.kNe GEq (hr.mono (by decide)) bEq (E := E0) passL) (pe_callB (o_abs F_.uAbs GA (hr.mono (by decide)) bA (E := E0) passL) (by rfl) ab boot_abs' (pa_cons (pv 0) pa_nil)) pe_int (nomark _)) (pss_one (ps_raise rfl (takes_of rfl rfl rfl rfl) (pmk_oex X.ox iC tI GI (hr.mono (by decide)) bI .nil passL rfl X.g (pa_cons (pv 4) pa_nil)))) pss_nil)
      (pss_cons (ps_for (passes_of rfl) rfl (pi_range1 rfl ra (pa_cons (pv 3) pa_nil)) (pg_name (i := 5) scEo.nd rfl (Or.inl rfl)) (pss_one (ps_if (pt_cmpR (o_ne F_.kNe GEq (hr.mono (by decide)) bEq (E := E0) passL) (pe_ix ix_list (pv 1) (pv 5) (fun _ _ => rfl)) (pe_op (op_BF F_.bMul F_.cMul (hr.mono (by decide))) (pv 0) (pe_ix ix_list (pv 2) (pv 5) (fun _ _ => rfl))) (nomark _)) (pss_one (ps_raise rfl (takes_of rfl rfl rfl rfl) (pmk_oex X.ox iC tI GI (hr.mono (by decide)) bI .nil passL rfl X.g (pa_cons (pe_op L2.op_add (pv 4) (pv 5)) pa_nil)))) pss_nil)))
      (pss_one (ps_ret (pe_fld (pv 0) rfl))))), ?_⟩
    refine ⟨_, rfl, _, rfl, ha.ins, a, p, rfl, ha, op, fun r H1 e1 hr1 => ⟨True.intro, ?_⟩⟩
    have oa : Okf (fabs p) := ⟨low_abs op.low, by show ((p.1.natAbs : Int)).natAbs < 2 ^ 4000; rw [Int.natAbs_natCast]; exact op.b1, op.b2⟩
    refine .inl ⟨hr1.ins, .inr ⟨_, rfl⟩, r, fabs p, _, (1, 1), rfl, hr1, .inr ⟨rfl, rfl⟩, oa, okOne _ Bd_one, fun H2 e2 => ⟨_, rfl, _, rfl, ?_⟩⟩
    refine if_ND (fun hn => ?_) (fun hn => ?_)
    · exact ⟨_, rfl, raise_xc (σ := []) (e1.trans e2) (k1 hn)⟩
    have e02 := e1.trans e2
    refine ⟨_, rfl, (c : Int), rfl, by omega, by omega, for_range (lo := 0) (n := c) (fun k σ H3 => Ext H H3 ∧ (∀ j, j < k → fA j = val p * fB j) ∧ ∃ v, σ = [some (.ref a), some (.ref l1), some (.ref l2), some (.int (c : Nat)), some (.int i), v]) ⟨e02, fun j hj => absurd hj (by omega), none, rfl⟩ ?_ ?_⟩
    · rintro k σ H3 hk ⟨e3, hj, v, rfl⟩
      obtain ⟨x, q, xs, s1, s2, s3, s4, s5, s6, s7⟩ := (h1.ext e3).get (K := K) (show k < n1 by omega)
      obtain ⟨y, r2, ys, t1, t2, t3, t4, t5, t6, t7⟩ := (h2.ext e3).get (K := K) (show k < n2 by omega)
      have oq := okf_rep s6 (s7 ▸ rA k) d0 d1 d2
      have oy := okf_rep t6 (t7 ▸ rB k) d0 d1 d2
      have z0 : (0 : Int) + (k : Int) = (k : Int) := by omega
      rw [z0]
      refine ⟨_, rfl, _, rfl, _, _, _, _, rfl, rfl, s1, s4, _, rfl, _, rfl, _, rfl, _, _, _, _, rfl, rfl, t1, t4, a, p, r2, rfl, ha.ext e3, .inl ⟨y, rfl, t5⟩, op, oy, fun m H4 e4 hm => ?_⟩
      have om : Okf (fmul p r2) := okf_rep (low_fmul op.low t6) (rep_pm hn (t7 ▸ rB k) op.low t6) d0 d1 d2
      refine .inl ⟨(s5.ext e4).ins, .inl hm.ins, x, q, _, fmul p r2, rfl, s5.ext e4, .inl ⟨m, rfl, hm⟩, oq, om, fun H5 e5 => ⟨_, rfl, _, rfl, ?_⟩⟩
      rw [ceq_val s6 om.low, s7, val_mul op.low t6, t7]
      refine if_ND (fun hne => ?_) (fun heq => ?_)
      · exact ⟨_, rfl, _, rfl, _, _, rfl, rfl, raise_xc (σ := []) ((e3.trans e4).trans e5) (k2 hn k hk hj hne)⟩
      · refine ⟨(e3.trans e4).trans e5, fun j hj2 => ?_, _, rfl⟩
        rcases Nat.lt_or_eq_of_le (Nat.le_of_lt_succ hj2) with z | z
        · exact hj j z
        · rw [z]; exact heq
    · rintro σ H3 ⟨e3, hj, v, rfl⟩
      obtain ⟨dx, hA⟩ := ha.ext e3
      exact ⟨_, rfl, _, _, _, _, _, rfl, hA, T.cl, T.nN, fr_num _, k3 hn hj _ e3⟩
end
end Fx

set_option Elab.async false
set_option linter.all false
set_option maxRecDepth 100000
set_option maxHeartbeats 4000000
set_option exponentiation.threshold 20000
namespace Fx
open PySem PySem.Spec PyProof.Rows L2 FM KM
/-! ### a comprehension that makes a list, item by item -/
/-- all that is no list stays -/
def ExtL (H H' : Hp) : Prop := ∀ b o, H b = some o → (∀ xs, o ≠ .lst xs) → H' b = some o
theorem Ext.l {H H' : Hp} (e : Ext H H') : ExtL H H' := fun b o h _ => e b o h
def MoL (R : Nat → V → Hp → Prop) : Prop := ∀ i v H H', ExtL H H' → R i v H → R i v H'
def LR (R : Nat → V → Hp → Prop) (H : Hp) (l : Addr) (n : Nat) : Prop := ∃ xs : List V, H l = some (.lst xs) ∧ xs.length = n ∧ ∀ j x, xs[j]? = some x → R j x H
theorem FracAt.l {C : Addr} {H H' : Hp} {a : Addr} {p : Int × Int} (h : FracAt C H a p) (e : ExtL H H') : FracAt C H' a p := let ⟨dx, h⟩ := h; ⟨dx, e _ _ h fun xs z => by cases z⟩
theorem TupAt.l {H H' : Hp} {a : Addr} {p : Int × Int} (h : TupAt H a p) (e : ExtL H H') : TupAt H' a p := e _ _ h fun xs z => by cases z
theorem moFV (A : Adr) (f : Sq) : MoL fun j x H => FV A H x (f j) := fun _ _ _ _ e ⟨a, p, h1, h2, h3, h4⟩ => ⟨a, p, h1, h2.l e, h3, h4⟩
section
variable {J : It} {n : Nat} {G : Hp → Prop} {Y : Nat → Hp → V → Hp → Prop} {g : TG} {te : TE} {vs : List Nat} {σ : L2.St} {H H1 : Hp} {Q : VK} {R : Nat → V → Hp → Prop} {wi : TI}
theorem tlc_R (w : Walk J n G Y) (hw : ∀ R, R J H1 → wi σ H R) (mo : MoL R) (hn : n ≤ sizeLine) (hG : ∀ H, Ext H1 H → G H)
    (step : ∀ i x H H', i < n → Ext H1 H → Y i H x H' → ∀ Qy : VK, (∀ y H4, Ext H H4 → R i y H4 → Qy y H4) → g x (wipe σ vs) H' fun σ2 H2 => wipe σ2 vs = wipe σ vs ∧ te σ2 H2 Qy)
    (gmono : ∀ x σ H (P Q : L2.St → Hp → Prop), (∀ σ H, P σ H → Q σ H) → g x σ H P → g x σ H Q)
    (hd : ∀ D H', Ext H1 H' → LR R H' D n → Q (.ref D) H') : tLc wi g tYes te vs σ H Q := by
  refine hw _ fun D nD => lc_it w (fun i H => ∃ acc : List V, H D = some (.lst acc) ∧ acc.length = i ∧ (∀ j x, acc[j]? = some x → R j x H) ∧ Ext H1 H) ⟨[], upd_same, rfl, fun j x hj => by simp at hj, ext1 nD⟩ (fun i H _ ⟨_, _, _, _, e⟩ => hG H e) ?_ (fun H' ⟨acc, h1, h2, h3, h4⟩ => hd D H' h4 ⟨acc, h1, h2, h3⟩)
  rintro i x H2 H' hi ⟨acc, hD, hl, ha, e⟩ hY
  refine gmono _ _ _ _ _ ?_ (step i x H2 H' hi e hY (fun y H4 => ∃ acc, H4 D = some (.lst acc) ∧ acc.length < sizeLine ∧ ∃ acc' : List V, upd H4 D (.lst (acc ++ [y])) D = some (.lst acc') ∧ acc'.length = i + 1 ∧ (∀ j x, acc'[j]? = some x → R j x (upd H4 D (.lst (acc ++ [y])))) ∧ Ext H1 (upd H4 D (.lst (acc ++ [y])))) ?_)
  · rintro σ2 H3 ⟨e1, e2⟩
    exact ⟨e1, @iteT _ (∃ acc : List V, H3 D = some (.lst acc) ∧ acc.length = i + 1 ∧ (∀ j x, acc[j]? = some x → R j x H3) ∧ Ext H1 H3) e2⟩
  · intro y H4 e4 hy
    refine ⟨acc, e4 _ _ hD, by omega, acc ++ [y], upd_same, by rw [List.length_append, hl]; rfl, ?_, ?_⟩
    · have el : ExtL H4 (upd H4 D (.lst (acc ++ [y]))) := fun b o hb hno => by
        rw [upd_ne]
        · exact hb
        · intro z
          rw [z, e4 _ _ hD] at hb
          exact hno acc (Option.some.inj hb).symm
      intro j x hj
      by_cases hji : j < acc.length
      · rw [List.getElem?_append_left hji] at hj
        exact mo _ _ _ _ (fun b o hb hno => el b o (e4 b o hb) hno) (ha j x hj)
      · rw [List.getElem?_append_right (by omega)] at hj
        have e0 : j - acc.length = 0 := by
          have := (List.getElem?_eq_some_iff.mp hj).1
          simp at this
          omega
        rw [e0] at hj
        have ex : y = x := by simpa using hj
        have ej : j = i := by omega
        rw [← ex, ej]
        exact mo _ _ _ _ el hy
    · intro b o hb
      rw [upd_ne (ne_of_none hb nD)]
      exact e4 _ _ (e _ _ hb)
theorem gmono1 {i : Nat} (x : V) (σ : L2.St) (H : Hp) (P Q : L2.St → Hp → Prop) (h : ∀ σ H, P σ H → Q σ H) (k : gName i x σ H P) : gName i x σ H Q := h _ _ k
theorem gmono2 {K : PySem.W.Frag} {i j : Nat} (x : V) (σ : L2.St) (H : Hp) (P Q : L2.St → Hp → Prop) (h : ∀ σ H, P σ H → Q σ H) (k : gTup K 2 (gCons (gName i) (gCons (gName j) gNil)) x σ H P) : gTup K 2 (gCons (gName i) (gCons (gName j) gNil)) x σ H Q := by
  obtain ⟨a, xs, e1, e2, e3, v, vs, e4, v', vs', e5, e6, q⟩ := k
  exact ⟨a, xs, e1, e2, e3, v, vs, e4, v', vs', e5, e6, h _ _ q⟩
/-- one name for each item -/
theorem tlc_1 {i1 : Nat} (w : Walk J n G Y) (hw : ∀ R, R J H1 → wi σ H R) (mo : MoL R) (hn : n ≤ sizeLine) (hG : ∀ H, Ext H1 H → G H) (hY : ∀ i H x H', Y i H x H' → H' = H) (l1 : i1 < σ.length)
    (step : ∀ i x H (τ : L2.St) (Qy : VK), i < n → Ext H1 H → Y i H x H → τ[i1]? = some (some x) → (∀ k, k ≠ i1 → τ[k]? = σ[k]?) → (∀ y H4, Ext H H4 → R i y H4 → Qy y H4) → te τ H Qy)
    (hd : ∀ D H', Ext H1 H' → LR R H' D n → Q (.ref D) H') : tLc wi (gName i1) tYes te [i1] σ H Q :=
  tlc_R w hw mo hn hG (fun i x H2 H' hi e hy Qy k => by
    have e2 := hY _ _ _ _ hy
    subst e2
    exact ⟨wipe1 σ _, step i x H' _ Qy hi e hy (wipe1_i σ l1 _) (fun k h1 => wipe1_o σ h1 _) k⟩) gmono1 hd
/-- two names for each pair -/
theorem tlc_2 {K : PySem.W.Frag} {i1 i2 : Nat} {f1 f2 : Nat → Option V} (w : Walk J n G (YPair f1 f2)) (hw : ∀ R, R J H1 → wi σ H R) (mo : MoL R) (hn : n ≤ sizeLine) (hG : ∀ H, Ext H1 H → G H) (hi : i1 ≠ i2) (l1 : i1 < σ.length) (l2 : i2 < σ.length)
    (step : ∀ i a b H (τ : L2.St) (Qy : VK), i < n → Ext H1 H → f1 i = some a → f2 i = some b → τ[i1]? = some (some a) → τ[i2]? = some (some b) → (∀ k, k ≠ i1 → k ≠ i2 → τ[k]? = σ[k]?) → (∀ y H4, Ext H H4 → R i y H4 → Qy y H4) → te τ H Qy)
    (hd : ∀ D H', Ext H1 H' → LR R H' D n → Q (.ref D) H') : tLc wi (gTup K 2 (gCons (gName i1) (gCons (gName i2) gNil))) tYes te [i1, i2] σ H Q :=
  tlc_R w hw mo hn hG (fun i x H2 H' hin e hy Qy k => by
    obtain ⟨T, a, b, rfl, nT, rfl, h1, h2⟩ := hy
    have eT : Ext H2 (upd H2 T (.tup [a, b])) := ext1 nT
    exact ⟨T, [a, b], rfl, SqT.of upd_same, rfl, a, [b], rfl, b, [], rfl, rfl, wipe2 σ hi _ _, step i a b _ _ Qy hin (e.trans eT) h1 h2 (wipe2_i σ hi l1 _ _) (wipe2_j σ l2 _ _) (fun k h1 h2 => wipe2_o σ h1 h2 _ _) (fun y H4 e4 r => k y H4 (eT.trans e4) r)⟩) gmono2 hd
end
theorem pi_or {X : Cx} {tg l : Expr} {w1 w2 : TI} (h1 : PI X tg l w1) (h2 : PI X tg l w2) : PI X tg l (fun σ H R => w1 σ H R ∨ w2 σ H R) := ⟨fun pins s σ H R I h => h.elim (h1.run pins s σ H R I) (h2.run pins s σ H R I)⟩
section
variable {P : Program} {w : World} {K : PySem.W.Frag} {mg : Str → Option Value} {base : Heap} {A : Adr}
/-! ### fracs_of -/
def NumsAt (A : Adr) (H : Hp) (ys : List V) (qs : List (Int × Int)) : Prop := ys.length = qs.length ∧ ∀ (i : Nat) (y : V) (q : Int × Int), ys[i]? = some y → qs[i]? = some q → Num A H y q
/-- the numbers of a list, and zeros behind -/
def sq (qs : List (Int × Int)) : Sq := fun j => ((qs[j]?).map val).getD 0
def spFof (K : PySem.W.Frag) (A : Adr) : Sp := fun vs H Q _ => ∃ l ys qs, vs = [.ref l] ∧ (SqL K H l ys ∨ SqT K H l ys) ∧ NumsAt A H ys qs ∧ (∀ q ∈ qs, Low q) ∧ ys.length ≤ 1000 ∧ ∀ r H', Ext H H' → FL A H' r qs.length (sq qs) → Q (.ref r) H'
theorem scFof : FnScope ["numbers", "number"] ["numbers"] (defScope (top 13)) := ⟨rfl, rfl, rfl, by decide +kernel, rfl, by decide +kernel, by decide +kernel⟩
theorem ok_fof {f : Addr} {fd : FuncData} (F : Fun K "fracs_of" "fracs_of" (top 13) f fd) (T : FT K mg A) (S : StF K A) (O : Cal P w K mg base 3 A.of_ ["value"] (spOf A)) : FnOk P w K mg base (L2.CX P w) 4 f fd ["numbers"] (spFof K A) := by
  refine F.okX scFof (fun vs H Q E h => ?_) (fun cdv AA outer s H vs Q E hr h => ?_)
  · obtain ⟨l, ys, qs, rfl, _⟩ := h
    rfl
  · obtain ⟨l, ys, qs, rfl, hl, hN, hlow, hlen, kk⟩ := h
    obtain ⟨fdO, GO, bO⟩ := O.ex
    refine ⟨_, pss_one (ps_ret (pe_lc (own := [("number", 1)]) (g := gName 1) rfl scFof.nd (pi_or (pi_list (pv 0)) (pi_tup (pv 0))) (blkOk_by (own := [("number", 1)]) (N := ["numbers", "number"]) (sc := defScope (top 13)) (by decide +kernel)) (fun _ _ _ _ _ => pg_name (i := 1) scFof.nd rfl (Or.inl rfl)) (fun _ _ _ _ _ => pts_nil)
      (fun _ _ _ _ _ => pe_smeth (pe_glob (v := .ref A.C) (by rfl) T.mgC rfl) S.cr S.sm T.tC GO (hr.mono (by decide)) bO (E := E0) passL (pa_cons (pv 1) pa_nil)))), ?_⟩
    have hs : ys.length ≤ sizeLine := by rw [sizeLine_eq]; omega
    have step : ∀ (i : Nat) (x : V) (H2 : Hp) (τ : L2.St) (Qy : VK), i < ys.length → Ext H H2 → (H2 = H2 ∧ ys[i]? = some x) → τ[1]? = some (some x) → (∀ k, k ≠ 1 → τ[k]? = (L2.start ["numbers", "number"] [V.ref l])[k]?) → (∀ y H4, Ext H2 H4 → FV A H4 y (sq qs i) → Qy y H4) → tSMeth A.C (spOf A) E0 (tC (.ref A.C)) (tCons (tVar 1) tNil) τ H2 Qy := by
      intro i x H2 τ Qy hi e ⟨_, hx⟩ h1 _ k
      have hq : i < qs.length := by rw [← hN.1]; exact hi
      have eq := List.getElem?_eq_getElem hq
      refine ⟨rfl, _, h1, x, qs[i], rfl, (hN.2 i x _ hx eq).ext e, fun r H' e' hf => k _ H' e' ⟨r, qs[i], rfl, hf, hlow _ (List.getElem_mem _), ?_⟩⟩
      unfold sq
      rw [eq]
      rfl
    rcases hl with hl | hl
    · exact tlc_1 (H1 := H) (walk_list (K := K) (a := l) (xs := ys)) (fun R r => .inl ⟨_, rfl, l, rfl, ⟨ys, hl⟩, r⟩) (moFV A (sq qs)) hs (fun H2 e => hl.ext e) (fun _ _ _ _ y => y.1) (show 1 < 2 by decide) step (fun D H' e ⟨xs, a1, a2, a3⟩ => kk D H' e ⟨xs, a1, a2.trans hN.1, a3⟩)
    · exact tlc_1 (H1 := H) (walk_tup (K := K) (a := l) (xs := ys)) (fun R r => .inr ⟨_, rfl, l, rfl, ⟨ys, hl⟩, r⟩) (moFV A (sq qs)) hs (fun H2 e => hl.ext e) (fun _ _ _ _ y => y.1) (show 1 < 2 by decide) step (fun D H' e ⟨xs, a1, a2, a3⟩ => kk D H' e ⟨xs, a1, a2.trans hN.1, a3⟩)
end
end Fx

set_option Elab.async false
set_option linter.all false
set_option maxRecDepth 100000
set_option maxHeartbeats 4000000
set_option exponentiation.threshold 20000
namespace Fx
open PySem PySem.Spec PyProof.Rows L2 FM KM
/-! ### numbers for the loop of panes -/
theorem val_lt {p : Int × Int} (h : Low p) : (val p < 1 ↔ p.1 < p.2) ∧ (-1 < val p ↔ -p.2 < p.1) := by
  have h2 := cast_ne (KM.Low.ne h)
  have hp : (0 : Rat) < (p.2 : Rat) := by exact_mod_cast h.pos
  have e : val p * (p.2 : Rat) = (p.1 : Rat) := by unfold val; grind
  refine ⟨⟨fun z => ?_, fun z => ?_⟩, ⟨fun z => ?_, fun z => ?_⟩⟩
  · have : (p.1 : Rat) < (p.2 : Rat) := by
      have := Rat.mul_lt_mul_of_pos_right z hp
      grind
    exact_mod_cast this
  · have z' : (p.1 : Rat) < (p.2 : Rat) := by exact_mod_cast z
    by_cases q : val p < 1
    · exact q
    · have := Rat.mul_le_mul_of_nonneg_right (Rat.not_lt.mp q) (Rat.le_of_lt hp)
      grind
  · have : ((-p.2 : Int) : Rat) < (p.1 : Rat) := by
      have := Rat.mul_lt_mul_of_pos_right z hp
      push_cast
      grind
    exact_mod_cast this
  · have z' : ((-p.2 : Int) : Rat) < (p.1 : Rat) := by exact_mod_cast z
    push_cast at z'
    by_cases q : -1 < val p
    · exact q
    · have := Rat.mul_le_mul_of_nonneg_right (Rat.not_lt.mp q) (Rat.le_of_lt hp)
      grind
theorem pane_iff {p : Int × Int} (h : Low p) : (-p.2 < p.1 ∧ p.1 < p.2) ↔ (-1 < val p ∧ val p < 1) := by
  rw [(val_lt h).1, (val_lt h).2]
/-- a pane, small enough -/
structure Pn (p : Int × Int) : Prop where
  low : Low p
  lo : -p.2 < p.1
  hi : p.1 < p.2
  sm : p.2 < 2 ^ 26
theorem Pn.le {p : Int × Int} (h : Pn p) : p.1.natAbs ≤ p.2.natAbs := by
  have := h.lo
  have := h.hi
  omega
theorem Pn.val {p : Int × Int} (h : Pn p) : -1 < val p ∧ val p < 1 := (pane_iff h.low).mp ⟨h.lo, h.hi⟩
theorem Pn.okf {p : Int × Int} (h : Pn p) : Okf p := by
  have h1 := h.low.pos
  have h2 := h.lo
  have h3 := h.hi
  have h4 := h.sm
  have e : (2 : Nat) ^ 26 ≤ 2 ^ 4000 := Nat.pow_le_pow_right (by decide) (by decide)
  have e2 : (2 : Int) ^ 26 = ((2 ^ 26 : Nat) : Int) := by norm_cast
  rw [e2] at h4
  exact ⟨h.low, Nat.lt_of_lt_of_le (by omega : p.1.natAbs < 2 ^ 26) e, Nat.lt_of_lt_of_le (by omega : p.2.natAbs < 2 ^ 26) e⟩
/-- how far the lists of the loop may have grown behind i panes -/
structure Gr (i : Nat) (fA fB : Sq) : Prop where
  ex : ∃ D M : Nat, 0 < D ∧ D < 2 ^ (1000 + 28 * i) ∧ M < 2 ^ (1000 + 28 * i) ∧ (∀ j, Rep D M (fA j)) ∧ ∀ j, Rep D M (fB j)
theorem Gr.step {i : Nat} {fA fB : Sq} (h : Gr i fA fB) {c : Int × Int} (hc : Pn c) : Gr (i + 1) (nxA (val c) fA fB) (nxB (val c) fA fB) := by
  obtain ⟨D, M, d0, d1, d2, rA, rB⟩ := h.ex
  have hp := hc.low.pos
  have h4 := hc.sm
  have e2 : (2 : Int) ^ 26 = ((2 ^ 26 : Nat) : Int) := by norm_cast
  rw [e2] at h4
  have q : c.2.natAbs < 2 ^ 26 := by omega
  have e : 1000 + 28 * (i + 1) = (1000 + 28 * i) + 28 := by omega
  refine ⟨D * c.2.natAbs, 2 * c.2.natAbs * M, Nat.mul_pos d0 (by omega), ?_, ?_, fun j => (rA _).step (rB _) hc.low hc.le, fun j => (rB _).step (rA _) hc.low hc.le⟩
  · rw [e, Nat.pow_add]
    exact Nat.mul_lt_mul'' d1 (Nat.lt_of_lt_of_le q (by decide))
  · rw [e, Nat.pow_add, Nat.mul_comm]
    exact Nat.mul_lt_mul'' d2 (Nat.lt_of_lt_of_le (by omega : 2 * c.2.natAbs < 2 ^ 27) (by decide))
theorem Gr.okf {i : Nat} {fA fB : Sq} (h : Gr i fA fB) (hi : i ≤ 30) {p : Int × Int} {j : Nat} (lp : Low p) (hv : val p = fA j ∨ val p = fB j) : Okf p ∧ p.1.natAbs < 2 ^ 1900 ∧ p.2.natAbs < 2 ^ 1900 := by
  obtain ⟨D, M, d0, d1, d2, rA, rB⟩ := h.ex
  have le : (2 : Nat) ^ (1000 + 28 * i) ≤ 2 ^ 1900 := Nat.pow_le_pow_right (by decide) (by omega)
  have l2 : (2 : Nat) ^ 1900 ≤ 2 ^ 4000 := Nat.pow_le_pow_right (by decide) (by decide)
  have r : Rep D M (val p) := by
    rcases hv with z | z <;> rw [z]
    · exact rA j
    · exact rB j
  have := Rep.dvd lp r d0
  have a1 : p.1.natAbs < 2 ^ 1900 := Nat.lt_of_lt_of_le (Nat.lt_of_le_of_lt this.2 d2) le
  have a2 : p.2.natAbs < 2 ^ 1900 := Nat.lt_of_lt_of_le (Nat.lt_of_le_of_lt this.1 d1) le
  exact ⟨⟨lp, Nat.lt_of_lt_of_le a1 l2, Nat.lt_of_lt_of_le a2 l2⟩, a1, a2⟩
/-- the quotient of two such -/
theorem okf_over {p q : Int × Int} (hp : Low p) (hq : Low q) (h0 : q.1 ≠ 0) (p1 : p.1.natAbs < 2 ^ 1900) (p2 : p.2.natAbs < 2 ^ 1900) (q1 : q.1.natAbs < 2 ^ 1900) (q2 : q.2.natAbs < 2 ^ 1900) : Okf (fover p q) := by
  have l2 : (2 : Nat) ^ 1900 * 2 ^ 1900 ≤ 2 ^ 4000 := by rw [← Nat.pow_add]; exact Nat.pow_le_pow_right (by decide) (by decide)
  have nz := Int.mul_ne_zero (KM.Low.ne hp) h0
  refine ⟨low_fover hp h0, ?_, ?_⟩
  · refine Nat.lt_of_le_of_lt (low_le1 nz) ?_
    rw [Int.natAbs_mul]
    exact Nat.lt_of_lt_of_le (Nat.mul_lt_mul'' p1 q2) l2
  · refine Nat.lt_of_le_of_lt (low_le2 nz) ?_
    rw [Int.natAbs_mul]
    exact Nat.lt_of_lt_of_le (Nat.mul_lt_mul'' p2 q1) l2
/-- panes in a list -/
def PL (A : Adr) (H : Hp) (l : Addr) (cs : List (Int × Int)) : Prop := ∃ xs : List V, H l = some (.lst xs) ∧ xs.length = cs.length ∧ ∀ (j : Nat) (x : V) (q : Int × Int), xs[j]? = some x → cs[j]? = some q → ∃ a : Addr, x = V.ref a ∧ FracAt A.C H a q
theorem PL.ext {A : Adr} {H H' : Hp} {l : Addr} {cs : List (Int × Int)} (h : PL A H l cs) (e : Ext H H') : PL A H' l cs := let ⟨xs, h1, h2, h3⟩ := h; ⟨xs, e _ _ h1, h2, fun j x q hx hq => let ⟨a, e1, e2⟩ := h3 j x q hx hq; ⟨a, e1, e2.ext e⟩⟩
theorem flat_rep {α : Type} (k : Nat) (a : α) : (List.replicate k [a]).flatten = List.replicate k a := by
  induction k with
  | zero => rfl
  | succ k ih => rw [List.replicate_succ, List.flatten_cons, ih]; rfl
theorem flat_len {α : Type} (k : Nat) (a : α) : ((List.replicate k [a]).flatten).length = k := by rw [flat_rep, List.length_replicate]
/-- the list 1, 0, 0, .. -/
theorem FL.dl {A : Adr} {Ha Hb H : Hp} {r1 r0 b : Addr} {n k : Nat} (f1 : FracAt A.C Ha r1 (1, 1)) (f0 : FracAt A.C Hb r0 (0, 1)) (hn : n = k + 1) (e1 : Ext Ha H) (e0 : Ext Hb H) (nb : H b = none) : FL A (upd H b (.lst ([V.ref r1] ++ (List.replicate k [V.ref r0]).flatten))) b n KM.dl := by
  refine ⟨_, upd_same, by rw [List.length_append, flat_len, hn]; show 1 + k = k + 1; omega, fun j y hj => ?_⟩
  have eb := ext1 (o := .lst ([V.ref r1] ++ (List.replicate k [V.ref r0]).flatten)) nb
  cases j with
  | zero =>
    have : V.ref r1 = y := by simpa using hj
    exact ⟨r1, (1, 1), this.symm, (f1.ext e1).ext eb, lowInt 1, by rw [val_int]; rfl⟩
  | succ j =>
    rw [flat_rep] at hj
    have h2 : (List.replicate k (V.ref r0))[j]? = some y := by simpa using hj
    have : y = V.ref r0 := List.eq_of_mem_replicate (List.mem_of_getElem? h2)
    exact ⟨r0, (0, 1), this, (f0.ext e0).ext eb, lowInt 0, by rw [val_int]; rfl⟩
theorem fabs_one {v : Int × Int} (h : Low v) : fabs v = (1, 1) ↔ (val v = 1 ∨ val v = -1) := by
  constructor
  · intro z
    have h1 : ((v.1.natAbs : Nat) : Int) = 1 := congrArg Prod.fst z
    have h2 : v.2 = 1 := congrArg Prod.snd z
    have e : v = (v.1, 1) := by rw [← h2]
    rw [e, val_int]
    rcases (show v.1 = 1 ∨ v.1 = -1 by omega) with q | q <;> rw [q]
    · exact .inl rfl
    · exact .inr rfl
  · rintro (z | z)
    · rw [val_inj h (lowInt 1) (by rw [z, val_int]; rfl)]
      rfl
    · rw [val_inj h (lowInt (-1)) (by rw [z, val_int]; rfl)]
      rfl
theorem cut_init (xs : List V) : cutV xs none (some (-1)) = xs.take (xs.length - 1) := by
  unfold cutV HT.sIx
  simp only [List.drop_zero]
  rw [if_pos (by decide)]
  congr 1
  omega
theorem cut_tail (xs : List V) : cutV xs (some 1) none = xs.drop 1 := by
  unfold cutV HT.sIx
  simp only
  rw [if_neg (by decide)]
  cases xs with
  | nil => rfl
  | cons x xs =>
    have e : min (1 : Int).toNat (x :: xs).length = 1 := by simp
    rw [e]
    exact List.take_of_length_le (by simp)
theorem ExtL.upd {H : Hp} {pp : Addr} {ps ps' : List V} (h : H pp = some (.lst ps)) : ExtL H (upd H pp (.lst ps')) := fun b o hb hno => by
  rw [upd_ne]
  · exact hb
  · intro z
    rw [z, h] at hb
    exact hno ps (Option.some.inj hb).symm
theorem FL.upd {A : Adr} {H : Hp} {t pp : Addr} {n : Nat} {f : Sq} {ps ps' : List V} (h : FL A H t n f) (hp : H pp = some (.lst ps)) (ne : t ≠ pp) : FL A (upd H pp (.lst ps')) t n f := by
  obtain ⟨xs, h1, h2, h3⟩ := h
  exact ⟨xs, by rw [upd_ne ne]; exact h1, h2, fun j x hx => moFV A f _ _ _ _ (ExtL.upd hp) (h3 j x hx)⟩
theorem PL.snoc {A : Adr} {H : Hp} {pp r : Addr} {cs : List (Int × Int)} {c0 : Int × Int} {ps : List V} (h : PL A H pp cs) (hp : H pp = some (.lst ps)) (hr : FracAt A.C H r c0) : PL A (upd H pp (.lst (ps ++ [V.ref r]))) pp (cs ++ [c0]) := by
  obtain ⟨xs, h1, h2, h3⟩ := h
  rw [hp] at h1
  injection h1 with h1
  injection h1 with h1
  subst h1
  refine ⟨_, upd_same, by rw [List.length_append, List.length_append, h2]; rfl, fun j x q hx hq => ?_⟩
  by_cases hj : j < ps.length
  · rw [List.getElem?_append_left hj] at hx
    rw [List.getElem?_append_left (by omega)] at hq
    obtain ⟨a, e1, e2⟩ := h3 j x q hx hq
    exact ⟨a, e1, e2.l (ExtL.upd hp)⟩
  · rw [List.getElem?_append_right (by omega)] at hx hq
    have e0 : j - ps.length = 0 := by
      have := (List.getElem?_eq_some_iff.mp hx).1
      simp at this
      omega
    rw [e0] at hx
    rw [← h2, e0] at hq
    have ex : V.ref r = x := by simpa using hx
    have eq : c0 = q := by simpa using hq
    exact ⟨r, ex.symm, eq ▸ hr.l (ExtL.upd hp)⟩
theorem okf_mulp {c0 yp : Int × Int} (p0 : Pn c0) (yl : Low yp) (y1 : yp.1.natAbs < 2 ^ 1900) (y2 : yp.2.natAbs < 2 ^ 1900) : Okf (fmul c0 yp) := by
  have h1 := p0.low.pos
  have h2 := p0.lo
  have h3 := p0.hi
  have h4 := p0.sm
  have e2 : (2 : Int) ^ 26 = ((2 ^ 26 : Nat) : Int) := by norm_cast
  rw [e2] at h4
  have l2 : (2 : Nat) ^ 26 * 2 ^ 1900 ≤ 2 ^ 4000 := by rw [← Nat.pow_add]; exact Nat.pow_le_pow_right (by decide) (by decide)
  have nz := Int.mul_ne_zero (KM.Low.ne p0.low) (KM.Low.ne yl)
  refine ⟨low_fmul p0.low yl, ?_, ?_⟩
  · refine Nat.lt_of_le_of_lt (low_le1 nz) ?_
    rw [Int.natAbs_mul]
    exact Nat.lt_of_lt_of_le (Nat.mul_lt_mul'' (by omega : c0.1.natAbs < 2 ^ 26) y1) l2
  · refine Nat.lt_of_le_of_lt (low_le2 nz) ?_
    rw [Int.natAbs_mul]
    exact Nat.lt_of_lt_of_le (Nat.mul_lt_mul'' (by omega : c0.2.natAbs < 2 ^ 26) y2) l2
theorem tseq_of {t u : TS} {D : Ends} {σ : L2.St} {H : Hp} (h : t { D with nx := u D } σ H) : tSeq t u D σ H := h
theorem tasg_of {te : TE} {g : TG} {D : Ends} {σ : L2.St} {H : Hp} (h : te σ H fun x H1 => g x σ H1 D.nx) : tAsg te g D σ H := h
theorem tsl_of {r : V → Option Int → Option Int → Hp → VK → Prop} {te : TE} {tl th : TO} {σ : L2.St} {H : Hp} {Q : VK} (h : te σ H fun x H1 => tl σ H1 fun l H2 => th σ H2 fun u H3 => r x l u H3 Q) : tSl r te tl th σ H Q := h
/-- what the loop of panes gives -/
def spPd (A : Adr) (N : Addr) : Sp := fun vs H Q E => ∃ (l : Addr) (n : Nat) (x : Sq) (c : Nat) (cs : List (Int × Int)), vs = [.ref l, .int (c : Nat)] ∧ FL A H l n x ∧ 0 < n ∧ c ≤ n ∧ n ≤ 300 ∧ Gr 0 x dl ∧ (∀ p ∈ cs, Pn p) ∧ cs.length ≤ 30 ∧ cs.length ≤ c ∧ Sch (cs.map val) x dl ∧
  ((cs.length = c ∧ ∀ r rp rt rb H', Ext H H' → H' r = some (.tup [.ref rp, .non, .ref rt, .ref rb]) → PL A H' rp cs → FL A H' rt (n - c) (run (cs.map val) x dl).1 → FL A H' rb (n - c) (run (cs.map val) x dl).2 → Q (.ref r) H') ∨
  (∃ e : Int, cs.length < c ∧ (e = 1 ∨ e = -1) ∧ (∀ j, j < c - cs.length → (run (cs.map val) x dl).1 j = (e : Rat) * (run (cs.map val) x dl).2 j) ∧
    ∀ r rp rt rb H', Ext H H' → H' r = some (.tup [.ref rp, .int e, .ref rt, .ref rb]) → PL A H' rp cs → FL A H' rt (n - cs.length) (run (cs.map val) x dl).1 → FL A H' rb (n - cs.length) (run (cs.map val) x dl).2 → Q (.ref r) H') ∨
  (cs.length < c ∧ ((run (cs.map val) x dl).2 0 < (run (cs.map val) x dl).1 0 ∨ (run (cs.map val) x dl).1 0 < -(run (cs.map val) x dl).2 0) ∧ RaiseI N E H (cs.length : Nat)) ∨
  (∃ (e : Int) (k : Nat), cs.length + k < c ∧ 0 < k ∧ (e = 1 ∨ e = -1) ∧ (∀ j, j < k → (run (cs.map val) x dl).1 j = (e : Rat) * (run (cs.map val) x dl).2 j) ∧ (run (cs.map val) x dl).1 k ≠ (e : Rat) * (run (cs.map val) x dl).2 k ∧ RaiseI N E H ((cs.length + k : Nat) : Int)))
section
variable {P : Program} {w : World} {K : PySem.W.Frag} {mg : Str → Option Value} {base : Heap} {A : Adr}
theorem scPd : FnScope ["numbers", "count", "top", "bottom", "panes", "pane", "less", "x", "y"] ["numbers", "count"] (defScope (top 22)) := ⟨rfl, rfl, rfl, by decide +kernel, rfl, by decide +kernel, by decide +kernel⟩
theorem ok_pd {N f : Addr} {fd : FuncData} (F : Fun K "_peeled" "_peeled" (top 22) f fd) (F_ : FA P w K mg base A) (hP : LF P w K mg base "is_pane" 5 ["number"] (spIp A)) (hE : LF P w K mg base "_end_of" 6 ["pane", "top", "bottom", "count", "index"] (spEo A N)) (le : mg "len" = none) (li : mg "list" = none) (zi : mg "zip" = none) :
    FnOk P w K mg base (L2.CX P w) 7 f fd ["numbers", "count"] (spPd A N) := by
  have T := F_.T
  refine F.okX scPd (fun vs H Q E h => ?_) (fun cdv AA outer s H vs Q E hr h => ?_)
  · obtain ⟨l, n, x, c, cs, rfl, _⟩ := h
    rfl
  · obtain ⟨l, n, x, c, cs, rfl, hl, n0, hc, hn, gr, hcs, c30, cc, sch, fin⟩ := h
    obtain ⟨fP, gP, cP⟩ := hP
    obtain ⟨fdP, GP, bP⟩ := cP.ex
    obtain ⟨fE, gE, cE⟩ := hE
    obtain ⟨fdE, GE, bE⟩ := cE.ex
    obtain ⟨fdO, GO, bO⟩ := F_.cOver.ex
    refine ⟨_, (pss_cons (ps_set (i := 2) scPd.nd rfl (Or.inl rfl) (pe_callTy call_list_of (by rfl) li boot_list (pa_cons (pv 0) pa_nil)))
      (pss_cons (ps_set (i := 3) scPd.nd rfl (Or.inl rfl) (pe_op op_cat (pe_lst (pa_cons (pe_frac1 F_.M F_.T (hr.mono (by decide)) rfl (pa_cons pe_int pa_nil)) pa_nil)) (pe_op op_rep (pe_lst (pa_cons (pe_frac1 F_.M F_.T (hr.mono (by decide)) rfl (pa_cons pe_int pa_nil)) pa_nil)) (pe_op L2.op_sub (pe_callB call_len_seq (by rfl) le PySem.boot_len (pa_cons (pv 0) pa_nil)) pe_int))))
      (pss_cons (ps_set (i := 4) scPd.nd rfl (Or.inl rfl) (pe_lst pa_nil))
      (pss_cons (ps_while (passes_of rfl) (pt_cmpR L2.op_lt (pe_callB call_len_seq (by rfl) le PySem.boot_len (pa_cons (pv 4) pa_nil)) (pv 1) (nomark _)) (pss_cons (ps_set (i := 5) scPd.nd rfl (Or.inr rfl) (pe_meth (pe_ix ix_list (pv 2) pe_int (fun _ _ => rfl)) F_.T.cl F_.mOver GO (hr.mono (by decide)) bO .nil (E := E0) passL (pa_cons (pe_ix ix_list (pv 3) pe_int (fun _ _ => rfl)) pa_nil)))
      (pss_cons (ps_if (pt_not (pt_val (pe_call GP (hr.mono (by decide)) rfl gP cP.kp bP .nil (E := E0) passL (pa_cons (pv 5) pa_nil)))) (pss_one (ps_ret (pe_tup (pa_cons (pv 4) (pa_cons (pe_call GE (hr.mono (by decide)) rfl gE cE.kp bE .nil (E := E) (passes_call (takes_of rfl rfl rfl rfl) (fun _ _ _ _ h => h)) (pa_cons (pv 5) (pa_cons (pv 2) (pa_cons (pv 3) (pa_cons (pe_op L2.op_sub (pv 1) (pe_callB call_len_seq (by rfl) le PySem.boot_len (pa_cons (pv 4) pa_nil))) (pa_cons (pe_callB call_len_seq (by rfl) le PySem.boot_len (pa_cons (pv 4) pa_nil)) pa_nil)))))) (pa_cons (pv 2) (pa_cons (pv 3) pa_nil))))))) pss_nil)
      (pss_cons (ps_expr (pe_bm PySem.F.plainAttrs_list PySem.F.slot_list_append PySem.F.type_list_append mt_append (pv 4) (pa_cons (pv 5) pa_nil)))
      (pss_cons (ps_setLc (i := 6) (own := [("x", 7), ("y", 8)]) (g := gTup K 2 (gCons (gName 7) (gCons (gName 8) gNil))) rfl scPd.nd rfl rfl (sw_true rfl rfl rfl rfl) (pi_zip rfl zi (pa_cons (pv 2) (pa_cons (pv 3) pa_nil))) (blkOk_by (own := [("x", 7), ("y", 8)]) (N := ["numbers", "count", "top", "bottom", "panes", "pane", "less", "x", "y"]) (sc := defScope (top 22)) (by decide +kernel)) (fun _ _ _ _ _ => (pg_tup rfl (pgs_cons (pg_name (i := 7) scPd.nd rfl (Or.inl rfl)) (pgs_cons (pg_name (i := 8) scPd.nd rfl (Or.inl rfl)) pgs_nil)))) (fun _ _ _ _ _ => pts_nil) (fun _ _ _ _ _ => (pe_op (op_BF F_.bSub F_.cSub (hr.mono (by decide))) (pv 7) (pe_op (op_BF F_.bMul F_.cMul (hr.mono (by decide))) (pv 5) (pv 8)))))
      (pss_cons (ps_set (i := 3) scPd.nd rfl (Or.inl rfl) (pe_slice sl_list (pe_lc (own := [("x", 7), ("y", 8)]) (g := gTup K 2 (gCons (gName 7) (gCons (gName 8) gNil))) rfl scPd.nd (pi_zip rfl zi (pa_cons (pv 2) (pa_cons (pv 3) pa_nil))) (blkOk_by (own := [("x", 7), ("y", 8)]) (N := ["numbers", "count", "top", "bottom", "panes", "pane", "less", "x", "y"]) (sc := defScope (top 22)) (by decide +kernel)) (fun _ _ _ _ _ => (pg_tup rfl (pgs_cons (pg_name (i := 7) scPd.nd rfl (Or.inl rfl)) (pgs_cons (pg_name (i := 8) scPd.nd rfl (Or.inl rfl)) pgs_nil)))) (fun _ _ _ _ _ => pts_nil) (fun _ _ _ _ _ => (pe_op (op_BF F_.bSub F_.cSub (hr.mono (by decide))) (pv 8) (pe_op (op_BF F_.bMul F_.cMul (hr.mono (by decide))) (pv 5) (pv 7))))) po_none (po_some (pe_un L2.un_neg pe_int))))
      (pss_one (ps_set (i := 2) scPd.nd rfl (Or.inl rfl) (pe_slice sl_list (pv 6) (po_some pe_int) po_none)))))))))
      (pss_one (ps_ret (pe_tup (pa_cons (pv 4) (pa_cons pe_non (pa_cons (pv 2) (pa_cons (pv 3) pa_nil))))))))))), ?_⟩
    obtain ⟨xs, x1, x2, x3⟩ := hl
    refine ⟨_, rfl, l, xs, rfl, .inl (SqL.of x1), fun t nt => ?_⟩
    have e1 : Ext H (upd H t (.lst xs)) := ext1 nt
    refine ⟨1, rfl, fun r1 H2 e2 f1 => ⟨by show 1 ≤ sizeLine; decide, fun q1 nq1 => ?_⟩⟩
    have eq1 : Ext H2 (upd H2 q1 (.lst [V.ref r1])) := ext1 nq1
    refine ⟨0, rfl, fun r0 H3 e3 f0 => ⟨by show 1 ≤ sizeLine; decide, fun q0 nq0 => ?_⟩⟩
    have eq0 : Ext H3 (upd H3 q0 (.lst [V.ref r0])) := ext1 nq0
    have ex3 : Ext H (upd H3 q0 (.lst [V.ref r0])) := (((e1.trans e2).trans eq1).trans e3).trans eq0
    refine ⟨_, rfl, l, xs, rfl, .inl (SqL.of (ex3 _ _ x1)), _, _, rfl, rfl, q0, _, _, rfl, rfl, upd_same, by omega, by omega, ?_, fun p np => ?_⟩
    · rw [sizeLine_eq]
      show 1 * ((xs.length : Int) - 1).toNat ≤ _
      omega
    have ep : Ext (upd H3 q0 (.lst [V.ref r0])) (upd (upd H3 q0 (.lst [V.ref r0])) p (.lst (List.replicate ((xs.length : Int) - 1).toNat [V.ref r0]).flatten)) := ext1 np
    refine ⟨q1, p, _, _, rfl, rfl, ep _ _ (eq0 _ _ (e3 _ _ upd_same)), upd_same, ?_, fun b nb => ?_⟩
    · rw [sizeLine_eq, flat_len]
      show 1 + ((xs.length : Int) - 1).toNat ≤ _
      omega
    have eb := ext1 (o := .lst ([V.ref r1] ++ (List.replicate ((xs.length : Int) - 1).toNat [V.ref r0]).flatten)) nb
    refine ⟨by show 0 ≤ sizeLine; exact Nat.zero_le _, fun pp npp => ?_⟩
    have epp := ext1 (o := .lst []) npp
    have exb := (ex3.trans ep).trans eb
    have ext := exb.trans epp
    have hB := (FL.dl f1 f0 (show n = ((xs.length : Int) - 1).toNat + 1 by omega) (((eq1.trans e3).trans eq0).trans ep) (eq0.trans ep) nb).ext epp
    have hT : FL A _ t n x := FL.ext ⟨xs, upd_same, x2, fun j y hj => (x3 j y hj).ext e1⟩ ((((((e2.trans eq1).trans e3).trans eq0).trans ep).trans eb).trans epp)
    have ntp : t ≠ pp := fun z => by
      rw [z] at nt
      have h9 : (upd H t (.lst xs)) t = some (.lst xs) := upd_same
      have := ((((((e2.trans eq1).trans e3).trans eq0).trans ep).trans eb)) _ _ h9
      rw [z, npp] at this
      cases this
    have nbp : b ≠ pp := fun z => by
      rw [z, upd_same] at npp
      cases npp
    have npp0 : H pp = none := by
      cases hpp : H pp with
      | none => rfl
      | some o => rw [exb _ _ hpp] at npp; cases npp
    refine ⟨fun m σ H' => ∃ (done rest : List (Int × Int)) (fA fB : Sq) (t b pp : Addr) (pv lv : Option V), cs = done ++ rest ∧ m = c - done.length ∧ run (done.map val) x dl = (fA, fB) ∧ Sch (rest.map val) fA fB ∧
      σ = [some (.ref l), some (.int (c : Nat)), some (.ref t), some (.ref b), some (.ref pp), pv, lv, none, none] ∧ Ext H H' ∧ FL A H' t (n - done.length) fA ∧ FL A H' b (n - done.length) fB ∧ PL A H' pp done ∧ Gr done.length fA fB ∧ H pp = none ∧ t ≠ pp ∧ b ≠ pp,
      ⟨_, [], cs, x, dl, t, b, pp, none, none, rfl, rfl, rfl, sch, rfl, ext, hT, hB, ⟨[], upd_same, rfl, fun j x q hj => by simp at hj⟩, gr, npp0, ntp, nbp⟩, ?_⟩
    rintro m σ H' ⟨done, rest, fA, fB, t, b, pp, pv, lv, hcs2, rfl, hrun, hsch, rfl, e', hT, hB, hP, hG, np0, ntp, nbp⟩
    obtain ⟨ps, pp1, pp2, pp3⟩ := id hP
    have lcs : cs.length = done.length + rest.length := by rw [hcs2, List.length_append]
    refine ⟨_, rfl, pp, ps, rfl, .inl (SqL.of pp1), _, rfl, _, _, rfl, rfl, _, rfl, if_D (fun hlt => ?_) (fun hge => ?_)⟩
    · have hd : done.length < c := by omega
      have h0 : 0 < n - done.length := by omega
      have i30 : done.length ≤ 30 := by omega
      obtain ⟨ta, p, tx, u1, u2, u3, u4, u5, u6, u7⟩ := hT.get (K := K) h0
      obtain ⟨ba, q, bx, w1, w2, w3, w4, w5, w6, w7⟩ := hB.get (K := K) h0
      obtain ⟨op, op1, op2⟩ := hG.okf i30 u6 (.inl u7)
      obtain ⟨oq, oq1, oq2⟩ := hG.okf i30 w6 (.inr w7)
      have sch1 : Sch (done.map val) x dl := by
        rw [hcs2, List.map_append] at sch
        exact (sch_app.mp sch).1
      have Bpos : 0 < fB 0 := by
        have a1 := run_B0 sch1
        rw [hrun] at a1
        have a2 : fB 0 = rch (done.map val) * 1 := a1
        rw [a2]
        have a3 : 0 < rch (done.map val) := rch_pos fun z hz => by
          obtain ⟨y, hy, rfl⟩ := List.mem_map.mp hz
          exact (hcs y (by rw [hcs2]; exact List.mem_append_left _ hy)).val
        grind
      have q0 : q.1 ≠ 0 := fun z => by
        have := (val_zero w6).mpr z
        rw [w7] at this
        rw [this] at Bpos
        exact absurd Bpos (by decide)
      have oF := okf_over u6 w6 q0 op1 op2 oq1 oq2
      have hv : val (fover p q) = fA 0 / fB 0 := by rw [val_over u6 w6 q0, u7, w7]
      have hv2 : ∀ z : Rat, fA 0 = z * fB 0 → val (fover p q) = z := fun z hz => by rw [hv, hz]; grind
      refine ⟨_, fun _ _ h => h, ?_⟩
      refine ⟨_, rfl, _, _, _, _, rfl, rfl, u1, u4, ta, u5.choose, fr p, rfl, u5.choose_spec, fr_no _ (by decide +kernel) (by decide +kernel), _, rfl, _, _, _, _, rfl, rfl, w1, w4, ta, p, .ref ba, q, rfl, u5, .inl ⟨ba, rfl, w5⟩, op, oq, fun z => absurd z q0, fun _ r H5 e5 hr5 => ?_⟩
      refine ⟨_, rfl, r, fover p q, rfl, hr5, oF, fun H6 e6 => ⟨_, rfl, if_ND (fun hnp => ?_) (fun hp => ?_)⟩⟩
      · -- no pane
        have e56 := e5.trans e6
        have rnil : rest = [] := by
          cases rest with
          | nil => rfl
          | cons c0 rest =>
            have p0 := hcs c0 (by rw [hcs2]; simp)
            have := val_inj oF.low p0.low (hv2 _ hsch.1)
            rw [this] at hnp
            exact absurd ⟨p0.lo, p0.hi⟩ hnp
        subst rnil
        rw [List.append_nil] at hcs2
        subst hcs2
        rw [hrun] at fin
        obtain ⟨D, M, d0, d1, d2, rA, rB⟩ := hG.ex
        have b4 : (2 : Nat) ^ (1000 + 28 * cs.length) ≤ 2 ^ 4000 := Nat.pow_le_pow_right (by decide) (by omega)
        have eP := (hP.ext e56)
        obtain ⟨ps', pp1', _, _⟩ := id eP
        have lps : ps'.length = cs.length := by
          have h9 := e56 _ _ pp1
          rw [pp1'] at h9
          have h8 : ps' = ps := by
            injection h9 with h9
            injection h9
          rw [h8, pp2]
        refine ⟨_, rfl, _, rfl, _, rfl, _, rfl, _, rfl, _, rfl, pp, ps', rfl, .inl (SqL.of pp1'), _, _, rfl, rfl, _, rfl, pp, ps', rfl, .inl (SqL.of pp1'), ?_⟩
        refine ⟨r, fover p q, t, b, n - cs.length, n - cs.length, fA, fB, c - cs.length, (cs.length : Nat), D, M, by rw [lps, show ((c - cs.length : Nat) : Int) = (c : Int) - (cs.length : Int) by omega]; rfl, hr5.ext e6, oF, hT.ext e56, hB.ext e56, by omega, by omega, by omega, d0, Nat.lt_of_lt_of_le d1 b4, Nat.lt_of_lt_of_le d2 b4, rA, rB, ?_⟩
        have ret : ∀ v : V, (∀ rr rp rt rb H', Ext H H' → H' rr = some (.tup [.ref rp, v, .ref rt, .ref rb]) → PL A H' rp cs → FL A H' rt (n - cs.length) fA → FL A H' rb (n - cs.length) fB → Q (.ref rr) H') → ∀ H7, Ext H6 H7 → ∀ rr, H7 rr = none → Q (.ref rr) (upd H7 rr (.tup [.ref pp, v, .ref t, .ref b])) := fun v k H7 e7 rr nr => by
          have er := ext1 (o := .tup [.ref pp, v, .ref t, .ref b]) nr
          exact k rr pp t b _ (((e'.trans e56).trans e7).trans er) upd_same (((hP.ext e56).ext e7).ext er) (((hT.ext e56).ext e7).ext er) (((hB.ext e56).ext e7).ext er)
        rcases fin with ⟨h9, _⟩ | ⟨e, _, he, hA, k⟩ | ⟨_, hA, k⟩ | ⟨e, k0, hk, k00, he, hA, hne, k⟩
        · omega
        · have z0 := hv2 _ (hA 0 (by omega))
          refine ⟨fun hx => absurd ((fabs_one oF.low).mpr (he.imp (fun z => by rw [z0, z]; rfl) (fun z => by rw [z0, z]; rfl))) hx, fun _ k1 hk1 _ hne => absurd (by rw [z0]; exact hA k1 hk1) hne, fun _ _ H7 e7 => ?_⟩
          have e1 : (fover p q).1 = e := by
            have : fover p q = (e, 1) := val_inj oF.low (lowInt e) (by rw [z0, val_int])
            rw [this]
          rw [e1]
          exact ⟨_, rfl, _, rfl, by show 4 ≤ sizeLine; decide, fun rr nr => ret (.int e) k H7 e7 rr nr⟩
        · have hx : ¬ (fabs (fover p q) = (1, 1)) := fun z => by
            have := (fabs_one oF.low).mp z
            rw [hv] at this
            have bn : fB 0 ≠ 0 := fun z => by rw [z] at Bpos; exact absurd Bpos (by decide)
            have m3 : fA 0 / fB 0 * fB 0 = fA 0 := by grind
            rcases this with g | g
            · rw [g] at m3
              rcases hA with h | h <;> grind
            · rw [g] at m3
              rcases hA with h | h <;> grind
          exact ⟨fun _ => k.ext (e'.trans e56), fun z => absurd z hx, fun z => absurd z hx⟩
        · have z0 := hv2 _ (hA 0 k00)
          refine ⟨fun hx => absurd ((fabs_one oF.low).mpr (he.imp (fun z => by rw [z0, z]; rfl) (fun z => by rw [z0, z]; rfl))) hx, fun _ k1 hk1 hj1 hne1 => ?_, fun _ hall => absurd (by rw [← z0]; exact hall k0 (by omega)) hne⟩
          have : k1 = k0 := by
            rcases Nat.lt_trichotomy k1 k0 with z | z | z
            · exact absurd (by rw [z0]; exact hA k1 z) hne1
            · exact z
            · exact absurd (by rw [← z0]; exact hj1 k0 z) hne
          rw [this, show ((cs.length : Nat) : Int) + ((k0 : Nat) : Int) = ((cs.length + k0 : Nat) : Int) by omega]
          exact k.ext (e'.trans e56)
      · have e56 := e5.trans e6
        have hpv := (pane_iff oF.low).mp hp
        obtain ⟨c0, rest', rfl⟩ : ∃ c0 r', rest = c0 :: r' := by
          cases rest with
          | cons c0 r' => exact ⟨c0, r', rfl⟩
          | nil =>
            exfalso
            rw [List.append_nil] at hcs2
            subst hcs2
            rw [hrun] at fin
            have pm : ∀ e : Int, (e = 1 ∨ e = -1) → fA 0 = (e : Rat) * fB 0 → False := fun e he hA => by
              have z0 := hv2 _ hA
              rw [z0] at hpv
              rcases he with rfl | rfl
              · exact absurd hpv.2 (by decide)
              · exact absurd hpv.1 (by decide)
            rcases fin with ⟨h9, _⟩ | ⟨e, _, he, hA, _⟩ | ⟨_, hA, _⟩ | ⟨e, k0, hk, k00, he, hA, _, _⟩
            · omega
            · exact pm e he (hA 0 (by omega))
            · rw [hv] at hpv
              have m1 := Rat.mul_lt_mul_of_pos_right hpv.1 Bpos
              have m2 := Rat.mul_lt_mul_of_pos_right hpv.2 Bpos
              have m3 : fA 0 / fB 0 * fB 0 = fA 0 := by grind
              rw [m3] at m1 m2
              rcases hA with h | h <;> grind
            · exact pm e he (hA 0 k00)
        have p0 := hcs c0 (by rw [hcs2]; simp)
        obtain ⟨hs0, hsch2⟩ := hsch
        have ec : fover p q = c0 := val_inj oF.low p0.low (hv2 _ hs0)
        rw [ec] at hr5
        have hpp6 := e56 _ _ pp1
        have lps : ps.length < 300 := by omega
        refine ⟨_, rfl, .inl ⟨rfl, _, SqL.of hpp6⟩, _, rfl, pp, ps, _, rfl, rfl, hpp6, by rw [sizeLine_eq]; omega, ?_⟩
        have exl : ExtL H6 (upd H6 pp (.lst (ps ++ [V.ref r]))) := ExtL.upd hpp6
        have ex7 : Ext H (upd H6 pp (.lst (ps ++ [V.ref r]))) := fun bb o hb => by
          rw [upd_ne (ne_of_none hb np0)]
          exact (e'.trans e56) _ _ hb
        have hT7 := (hT.ext e56).upd hpp6 ntp (ps' := ps ++ [V.ref r])
        have hB7 := (hB.ext e56).upd hpp6 nbp (ps' := ps ++ [V.ref r])
        have hr7 : FracAt A.C (upd H6 pp (.lst (ps ++ [V.ref r]))) r c0 := (hr5.ext e6).l exl
        have hP7 : PL A (upd H6 pp (.lst (ps ++ [V.ref r]))) pp (done ++ [c0]) := PL.snoc (hP.ext e56) hpp6 (hr5.ext e6)
        have hpp7 : (upd H6 pp (.lst (ps ++ [V.ref r]))) pp = some (.lst (ps ++ [V.ref r])) := upd_same
        revert ex7 hT7 hB7 hr7 hP7 hpp7
        generalize upd H6 pp (.lst (ps ++ [V.ref r])) = H7
        intro ex7 hT7 hB7 hr7 hP7 hpp7
        obtain ⟨txs, tt1, tt2, tt3⟩ := id hT7
        obtain ⟨bxs, bb1, bb2, bb3⟩ := id hB7
        have okm : ∀ {yp : Int × Int}, Low yp → yp.1.natAbs < 2 ^ 1900 → yp.2.natAbs < 2 ^ 1900 → Okf (fmul c0 yp) := fun yl y1 y2 => okf_mulp p0 yl y1 y2
        dsimp only
        refine tseq_of (t := tAsg (tLc _ _ _ _ _) (gName 6)) ?_
        refine tasg_of ?_
        refine tlc_2 (K := K) (H1 := H7) (R := fun j x H => FV A H x (fA j - val c0 * fB j)) (walk_zip (K := K) (a := t) (b := b) (xs := txs) (ys := bxs) (n := n - done.length) (by omega)) (fun R r => ⟨_, rfl, _, rfl, t, b, txs, bxs, rfl, SqL.of tt1, SqL.of bb1, r⟩) (moFV A _) (by rw [sizeLine_eq]; omega) (fun H2 e => ⟨(SqL.of tt1).ext e, (SqL.of bb1).ext e⟩) (by decide) (show 7 < 9 by decide) (show 8 < 9 by decide) ?_ ?_
        · intro i a2 b2 H2 τ Qy hi e ha hb h7 h8 ho k
          obtain ⟨xa, xp, rfl, xf, xl, xv⟩ := tt3 i a2 ha
          obtain ⟨ya, yp, rfl, yf, yl, yv⟩ := bb3 i b2 hb
          have h5 : τ[5]? = some (some (V.ref r)) := ho 5 (by decide) (by decide)
          obtain ⟨ox, _, _⟩ := hG.okf i30 xl (.inl xv)
          obtain ⟨oy, y1, y2⟩ := hG.okf i30 yl (.inr yv)
          refine ⟨_, h7, _, h5, _, h8, r, c0, yp, rfl, hr7.ext e, .inl ⟨ya, rfl, yf.ext e⟩, p0.okf, oy, fun m H9 e9 hm => ?_⟩
          exact ⟨xa, xp, _, rfl, (xf.ext e).ext e9, .inl ⟨m, rfl, hm⟩, ox, okm yl y1 y2, fun s9 H10 e10 hs => k _ H10 (e9.trans e10) ⟨s9, _, rfl, hs, low_fsub xl (low_fmul p0.low yl), by rw [val_sub xl (low_fmul p0.low yl), val_mul p0.low yl, xv, yv]⟩⟩
        intro D1 H8 e8 hless
        obtain ⟨l1, m1, m2, m3⟩ := hless
        dsimp only [gName]
        refine tseq_of (t := tAsg (tSl _ (tLc _ _ _ _ _) _ _) (gName 3)) ?_
        refine tasg_of ?_
        refine tsl_of ?_
        refine tlc_2 (K := K) (H1 := H8) (R := fun j x H => FV A H x (fB j - val c0 * fA j)) (walk_zip (K := K) (a := t) (b := b) (xs := txs) (ys := bxs) (n := n - done.length) (by omega)) (fun R r => ⟨_, rfl, _, rfl, t, b, txs, bxs, rfl, (SqL.of tt1).ext e8, (SqL.of bb1).ext e8, r⟩) (moFV A _) (by rw [sizeLine_eq]; omega) (fun H2 e => ⟨(SqL.of tt1).ext (e8.trans e), (SqL.of bb1).ext (e8.trans e)⟩) (by decide) (show 7 < 9 by decide) (show 8 < 9 by decide) ?_ ?_
        · intro i a2 b2 H2 τ Qy hi e ha hb h7 h8 ho k
          obtain ⟨xa, xp, rfl, xf, xl, xv⟩ := tt3 i a2 ha
          obtain ⟨ya, yp, rfl, yf, yl, yv⟩ := bb3 i b2 hb
          have h5 : τ[5]? = some (some (V.ref r)) := ho 5 (by decide) (by decide)
          obtain ⟨oy, _, _⟩ := hG.okf i30 yl (.inr yv)
          obtain ⟨ox, y1, y2⟩ := hG.okf i30 xl (.inl xv)
          have e8e := e8.trans e
          refine ⟨_, h8, _, h5, _, h7, r, c0, xp, rfl, hr7.ext e8e, .inl ⟨xa, rfl, xf.ext e8e⟩, p0.okf, ox, fun m H9 e9 hm => ?_⟩
          exact ⟨ya, yp, _, rfl, (yf.ext e8e).ext e9, .inl ⟨m, rfl, hm⟩, oy, okm xl y1 y2, fun s9 H10 e10 hs => k _ H10 (e9.trans e10) ⟨s9, _, rfl, hs, low_fsub yl (low_fmul p0.low xl), by rw [val_sub yl (low_fmul p0.low xl), val_mul p0.low xl, xv, yv]⟩⟩
        intro D2 H9 e9 hbot
        obtain ⟨l2, k1, k2, k3⟩ := hbot
        refine ⟨1, rfl, _, rfl, D2, l2, rfl, SqL.of k1, fun b' nb' => ?_⟩
        rw [cut_init]
        have eb' := ext1 (o := .lst (l2.take (l2.length - 1))) nb'
        refine ⟨_, rfl, 1, rfl, D1, l1, rfl, (SqL.of m1).ext (e9.trans eb'), fun t' nt' => ?_⟩
        rw [cut_tail]
        have et' := ext1 (o := .lst (l1.drop 1)) nt'
        have eAll := ((e8.trans e9).trans eb').trans et'
        have lg : (done ++ [c0]).length = done.length + 1 := by rw [List.length_append]; rfl
        refine ⟨c - (done ++ [c0]).length, by rw [lg]; omega, done ++ [c0], rest', nxA (val c0) fA fB, nxB (val c0) fA fB, t', b', pp, _, _, by rw [hcs2, List.append_assoc]; rfl, rfl, ?_, hsch2, rfl, ex7.trans eAll, ?_, ?_, hP7.ext eAll, ?_, np0, ?_, ?_⟩
        · rw [List.map_append, run_app, hrun]
          rfl
        · refine ⟨_, upd_same, by rw [List.length_drop, m2, lg]; omega, fun j y hj => ?_⟩
          rw [List.getElem?_drop] at hj
          have := (m3 (1 + j) y hj).ext ((e9.trans eb').trans et')
          rw [Nat.add_comm] at this
          exact this
        · refine FL.ext ⟨_, upd_same, by rw [List.length_take, k2, lg]; omega, fun j y hj => ?_⟩ et'
          rw [List.getElem?_take] at hj
          split at hj
          · exact (k3 j y hj).ext eb'
          · cases hj
        · rw [lg]
          exact hG.step p0
        · exact (ne_of_none (((e8.trans e9).trans eb') _ _ hpp7) nt').symm
        · exact (ne_of_none ((e8.trans e9) _ _ hpp7) nb').symm
    · have r0 : rest.length = 0 := by omega
      have rnil := List.eq_nil_of_length_eq_zero r0
      subst rnil
      rw [List.append_nil] at hcs2
      subst hcs2
      have lc : cs.length = c := by omega
      refine ⟨_, rfl, _, rfl, _, rfl, by show 4 ≤ sizeLine; decide, fun r nr => ?_⟩
      have er := ext1 (o := .tup [.ref pp, .non, .ref t, .ref b]) nr
      rcases fin with ⟨_, k⟩ | ⟨_, h9, _⟩ | ⟨h9, _⟩ | ⟨_, _, h9, _⟩
      · refine k r pp t b _ (e'.trans er) upd_same (hP.ext er) ?_ ?_
        · rw [hrun, ← lc]; exact hT.ext er
        · rw [hrun, ← lc]; exact hB.ext er
      · omega
      · omega
      · omega
end
end Fx

set_option Elab.async false
set_option linter.all false
set_option maxRecDepth 100000
set_option maxHeartbeats 4000000
set_option exponentiation.threshold 20000
namespace Fx
open PySem PySem.Spec PyProof.Rows L2 FM KM
/-- the loop's value, and the index of its error -/
def OutP (x : Sq) (c : Nat) (cs : List (Int × Int)) (v : V) : Prop := (cs.length = c ∧ v = .non) ∨ ∃ e : Int, v = .int e ∧ cs.length < c ∧ (e = 1 ∨ e = -1) ∧ ∀ j, j < c - cs.length → (run (cs.map val) x dl).1 j = (e : Rat) * (run (cs.map val) x dl).2 j
def OutE (x : Sq) (c : Nat) (cs : List (Int × Int)) (i : Nat) : Prop := (i = cs.length ∧ cs.length < c ∧ ((run (cs.map val) x dl).2 0 < (run (cs.map val) x dl).1 0 ∨ (run (cs.map val) x dl).1 0 < -(run (cs.map val) x dl).2 0)) ∨
  ∃ (e : Int) (k : Nat), i = cs.length + k ∧ cs.length + k < c ∧ 0 < k ∧ (e = 1 ∨ e = -1) ∧ (∀ j, j < k → (run (cs.map val) x dl).1 j = (e : Rat) * (run (cs.map val) x dl).2 j) ∧ (run (cs.map val) x dl).1 k ≠ (e : Rat) * (run (cs.map val) x dl).2 k
/-- what a list of first echoes must be -/
structure In (x : Sq) (c : Nat) (cs : List (Int × Int)) : Prop where
  gr : Gr 0 x dl
  pn : ∀ p ∈ cs, Pn p
  l30 : cs.length ≤ 30
  lc : cs.length ≤ c
  sch : Sch (cs.map val) x dl
theorem pd_of {A : Adr} {N l : Addr} {n c : Nat} {x : Sq} {cs : List (Int × Int)} {H : Hp} {Q : VK} {E : XK} (hl : FL A H l n x) (n0 : 0 < n) (cn : c ≤ n) (hn : n ≤ 300) (I : In x c cs)
    (h : (∃ v, OutP x c cs v ∧ ∀ r rp rt rb H', Ext H H' → H' r = some (.tup [.ref rp, v, .ref rt, .ref rb]) → PL A H' rp cs → FL A H' rt (n - cs.length) (run (cs.map val) x dl).1 → FL A H' rb (n - cs.length) (run (cs.map val) x dl).2 → Q (.ref r) H') ∨
      ∃ i, OutE x c cs i ∧ RaiseI N E H (i : Nat)) : spPd A N [.ref l, .int (c : Nat)] H Q E := by
  refine ⟨l, n, x, c, cs, rfl, hl, n0, cn, hn, I.gr, I.pn, I.l30, I.lc, I.sch, ?_⟩
  rcases h with ⟨v, (⟨h1, rfl⟩ | ⟨e, rfl, h1, h2, h3⟩), k⟩ | ⟨i, (⟨rfl, h1, h2⟩ | ⟨e, k0, rfl, h1, h2, h3, h4, h5⟩), k⟩
  · exact .inl ⟨h1, fun r rp rt rb H' e a b c d => k r rp rt rb H' e a b (h1 ▸ c) (h1 ▸ d)⟩
  · exact .inr (.inl ⟨e, h1, h2, h3, k⟩)
  · exact .inr (.inr (.inl ⟨h1, h2, k⟩))
  · exact .inr (.inr (.inr ⟨e, k0, h1, h2, h3, h4, h5, k⟩))
/-- panes in a tuple -/
def PT (A : Adr) (H : Hp) (l : Addr) (cs : List (Int × Int)) : Prop := ∃ xs : List V, H l = some (.tup xs) ∧ xs.length = cs.length ∧ ∀ (j : Nat) (x : V) (q : Int × Int), xs[j]? = some x → cs[j]? = some q → ∃ a : Addr, x = V.ref a ∧ FracAt A.C H a q
def RaiseC (B : Addr) (E : XK) (H : Hp) (i : Int) : Prop := ∀ dd H', Ext H H' → H' dd = some (.xd [("count", .int i)]) → E (.ref B) (some dd) H'
/-- a list or a tuple of numbers -/
structure Nums (K : PySem.W.Frag) (A : Adr) (H : Hp) (l : Addr) (qs : List (Int × Int)) : Prop where
  ex : ∃ ys, (SqL K H l ys ∨ SqT K H l ys) ∧ NumsAt A H ys qs
  low : ∀ q ∈ qs, Low q
theorem NumsAt.ext {A : Adr} {H H' : Hp} {ys : List V} {qs : List (Int × Int)} (h : NumsAt A H ys qs) (e : Ext H H') : NumsAt A H' ys qs := ⟨h.1, fun i y q a b => (h.2 i y q a b).ext e⟩
theorem Nums.ext {K : PySem.W.Frag} {A : Adr} {H H' : Hp} {l : Addr} {qs : List (Int × Int)} (h : Nums K A H l qs) (e : Ext H H') : Nums K A H' l qs := by
  obtain ⟨ys, h1, h2⟩ := h.ex
  exact ⟨⟨ys, h1.imp (fun z => z.ext e) (fun z => z.ext e), h2.ext e⟩, h.low⟩
def spPl (K : PySem.W.Frag) (A : Adr) (B N : Addr) : Sp := fun vs H Q E => ∃ l qs, vs = [.ref l] ∧ Nums K A H l qs ∧ qs.length ≤ 200 ∧
  ((100 < qs.length ∧ RaiseC B E H (qs.length : Nat)) ∨ (0 < qs.length ∧ qs.length ≤ 100 ∧ ∃ cs, In (sq qs) qs.length cs ∧
    ((∃ v, OutP (sq qs) qs.length cs v ∧ ∀ r pt H', Ext H H' → H' r = some (.tup [.ref pt, v]) → PT A H' pt cs → Q (.ref r) H') ∨ ∃ i, OutE (sq qs) qs.length cs i ∧ RaiseI N E H (i : Nat))))
/-- a tuple of two fractions -/
def T2 (A : Adr) (H : Hp) (r : Addr) (u v : Rat) : Prop := ∃ a b p q, H r = some (.tup [.ref a, .ref b]) ∧ FracAt A.C H a p ∧ FracAt A.C H b q ∧ Low p ∧ Low q ∧ val p = u ∧ val q = v
/-- the stretch -/
def stU (x : Sq) (c : Nat) (cs : List (Int × Int)) : V → Rat
  | .int e => (e : Rat) * (run (cs.map val) x dl).2 (c - cs.length) - (run (cs.map val) x dl).1 (c - cs.length)
  | _ => -(run (cs.map val) x dl).2 0 - (run (cs.map val) x dl).1 0
def stV (x : Sq) (c : Nat) (cs : List (Int × Int)) : V → Rat
  | .int e => (e : Rat) * (run (cs.map val) x dl).2 (c - cs.length) - (run (cs.map val) x dl).1 (c - cs.length)
  | _ => (run (cs.map val) x dl).2 0 - (run (cs.map val) x dl).1 0
def spNs (K : PySem.W.Frag) (A : Adr) (B N : Addr) : Sp := fun vs H Q E => ∃ l qs, vs = [.ref l] ∧ Nums K A H l qs ∧ qs.length ≤ 200 ∧
  ((100 < qs.length ∧ RaiseC B E H (qs.length : Nat)) ∨ (qs.length ≤ 100 ∧ ∃ cs, In (sq qs) qs.length cs ∧
    ((∃ v, OutP (sq qs) qs.length cs v ∧ ∀ r H', Ext H H' → T2 A H' r (stU (sq qs) qs.length cs v) (stV (sq qs) qs.length cs v) → Q (.ref r) H') ∨ ∃ i, OutE (sq qs) qs.length cs i ∧ RaiseI N E H (i : Nat))))
theorem Gr.run {cs : List (Int × Int)} {i : Nat} {fA fB : Sq} (h : Gr i fA fB) (hc : ∀ p ∈ cs, Pn p) : Gr (i + cs.length) (KM.run (cs.map val) fA fB).1 (KM.run (cs.map val) fA fB).2 := by
  induction cs generalizing i fA fB with
  | nil => exact h
  | cons c cs ih =>
    have := ih (h.step (hc c (List.mem_cons_self ..))) fun p hp => hc p (List.mem_cons_of_mem _ hp)
    rw [show i + (c :: cs).length = i + 1 + cs.length by simp; omega]
    exact this
theorem fl_snoc0 {A : Adr} {Ha H : Hp} {l b r0 : Addr} {xs : List V} {qs : List (Int × Int)} (h : Ha l = some (.lst xs) ∧ xs.length = qs.length ∧ ∀ j x, xs[j]? = some x → FV A Ha x (sq qs j)) (e : Ext Ha H) (f0 : FracAt A.C H r0 (0, 1)) (nb : H b = none) :
    FL A (upd H b (.lst (xs ++ [V.ref r0]))) b (qs.length + 1) (sq qs) := by
  obtain ⟨_, x2, x3⟩ := h
  have eb := ext1 (o := .lst (xs ++ [V.ref r0])) nb
  refine ⟨_, upd_same, by rw [List.length_append, x2]; rfl, fun j x hj => ?_⟩
  by_cases hji : j < xs.length
  · rw [List.getElem?_append_left hji] at hj
    exact ((x3 j x hj).ext e).ext eb
  · rw [List.getElem?_append_right (by omega)] at hj
    have e0 : j - xs.length = 0 := by
      have := (List.getElem?_eq_some_iff.mp hj).1
      simp at this
      omega
    rw [e0] at hj
    have ex : V.ref r0 = x := by simpa using hj
    refine ⟨r0, (0, 1), ex.symm, f0.ext eb, lowInt 0, ?_⟩
    unfold sq
    rw [List.getElem?_eq_none (by omega), val_int]
    rfl
theorem atI_neg1 {xs : List V} (h : 0 < xs.length) : atI xs (-1) = xs[xs.length - 1]? := by
  unfold atI ixN
  rw [if_neg (by decide), if_pos (by omega), show ((-1 : Int) + (xs.length : Int)).toNat = xs.length - 1 by omega]
  rfl
theorem val_neg (q : Int × Int) : val (-q.1, q.2) = -val q := by
  unfold val
  push_cast
  grind
theorem okf_pm {e : Int} {q : Int × Int} (he : e.natAbs = 1) (lq : Low q) (q1 : q.1.natAbs < 2 ^ 1900) (q2 : q.2.natAbs < 2 ^ 1900) : Okf (fmul (e, 1) q) := by
  have l2 : (2 : Nat) ^ 1900 ≤ 2 ^ 4000 := Nat.pow_le_pow_right (by decide) (by decide)
  have nz : (1 : Int) * q.2 ≠ 0 := Int.mul_ne_zero (by decide) (KM.Low.ne lq)
  refine ⟨low_fmul (lowInt e) lq, ?_, ?_⟩
  · refine Nat.lt_of_le_of_lt (low_le1 nz) ?_
    rw [Int.natAbs_mul, he, Nat.one_mul]
    exact Nat.lt_of_lt_of_le q1 l2
  · refine Nat.lt_of_le_of_lt (low_le2 nz) ?_
    rw [Int.one_mul]
    exact Nat.lt_of_lt_of_le q2 l2
section
variable {P : Program} {w : World} {K : PySem.W.Frag} {mg : Str → Option Value} {base : Heap} {A : Adr}
theorem scPl : FnScope ["numbers", "panes", "end", "_"] ["numbers"] (defScope (top 20)) := ⟨rfl, rfl, rfl, by decide +kernel, rfl, by decide +kernel, by decide +kernel⟩
theorem ok_pl {B N f : Addr} {fd : FuncData} (F : Fun K "peel" "peel" (top 20) f fd) (hC : LF P w K mg base "check_count" 3 ["count", "low", "high"] (spCc B)) (hF : LF P w K mg base "fracs_of" 4 ["numbers"] (spFof K A)) (hP : LF P w K mg base "_peeled" 7 ["numbers", "count"] (spPd A N)) (le : mg "len" = none) (tu : mg "tuple" = none) (mN : ∃ t, mg "MOST_NUMBERS" = some (.int 100 t)) : FnOk P w K mg base (L2.CX P w) 8 f fd ["numbers"] (spPl K A B N) := by
  refine F.okX scPl (fun vs H Q E h => ?_) (fun cdv AA outer s H vs Q E hr h => ?_)
  · obtain ⟨l, qs, rfl, _⟩ := h
    rfl
  · obtain ⟨l, qs, rfl, hl, l200, h⟩ := h
    obtain ⟨tk, mN⟩ := mN
    obtain ⟨fC, gC, cC⟩ := hC
    obtain ⟨fdC, GC, bC⟩ := cC.ex
    obtain ⟨fF, gF, cF⟩ := hF
    obtain ⟨fdF, GF, bF⟩ := cF.ex
    obtain ⟨fP, gP, cP⟩ := hP
    obtain ⟨fdP, GP, bP⟩ := cP.ex
    refine ⟨_, (pss_cons (ps_expr (pe_call GC (hr.mono (by decide)) rfl gC cC.kp bC .nil (E := E) (passes_call (takes_of rfl rfl rfl rfl) (fun _ _ _ _ h => h)) (pa_cons (pe_callB call_len_seq (by rfl) le PySem.boot_len (pa_cons (pv 0) pa_nil)) (pa_cons pe_int (pa_cons (pe_glob (v := .int 100) (by rfl) mN ⟨_, rfl⟩) pa_nil)))))
      (pss_cons (ps_asg (pe_call GP (hr.mono (by decide)) rfl gP cP.kp bP .nil (E := E) (passes_call (takes_of rfl rfl rfl rfl) (fun _ _ _ _ h => h)) (pa_cons (pe_call GF (hr.mono (by decide)) rfl gF cF.kp bF .nil (E := E0) passL (pa_cons (pv 0) pa_nil)) (pa_cons (pe_callB call_len_seq (by rfl) le PySem.boot_len (pa_cons (pv 0) pa_nil)) pa_nil))) (pg_tup rfl (pgs_cons (pg_name (i := 1) scPl.nd rfl (Or.inl rfl)) (pgs_cons (pg_name (i := 2) scPl.nd rfl (Or.inl rfl)) (pgs_cons (pg_name (i := 3) scPl.nd rfl (Or.inl rfl)) (pgs_cons (pg_name (i := 3) scPl.nd rfl (Or.inl rfl)) pgs_nil))))))
      (pss_one (ps_ret (pe_tup (pa_cons (pe_callTy call_tuple_of (by rfl) tu boot_tuple (pa_cons (pv 1) pa_nil)) (pa_cons (pv 2) pa_nil))))))), ?_⟩
    obtain ⟨ys, hs, hN⟩ := hl.ex
    have ln : (ys.length : Int) = (qs.length : Nat) := by rw [hN.1]
    refine ⟨_, rfl, l, ys, rfl, hs, _, _, _, rfl, fun hb => ?_, fun hb => ?_⟩
    · rcases h with ⟨h1, _⟩ | ⟨h0, h1, cs, I, h⟩
      · omega
      refine ⟨_, rfl, l, ys, qs, rfl, hs, hN, hl.low, by omega, fun r1 H1 e1 f1 => ?_⟩
      refine ⟨_, rfl, l, ys, rfl, hs.imp (fun z => z.ext e1) (fun z => z.ext e1), ?_⟩
      dsimp only [tNil]
      rw [hN.1]
      refine pd_of f1 h0 (Nat.le_refl _) (by omega) I ?_
      rcases h with ⟨v, hv, k⟩ | ⟨i, hi, k⟩
      · refine .inl ⟨v, hv, fun r rp rt rb H2 e2 hr hp _ _ => ?_⟩
        obtain ⟨xs, x1, x2, x3⟩ := hp
        refine ⟨r, _, rfl, SqT.of hr, rfl, _, _, rfl, _, _, rfl, _, _, rfl, _, _, rfl, rfl, ?_⟩
        refine ⟨_, rfl, rp, xs, rfl, .inl ⟨SqL.of x1, fun pt npt => ?_⟩⟩
        have ep := ext1 (o := .tup xs) npt
        refine ⟨_, rfl, by show 2 ≤ sizeLine; decide, fun rr nrr => ?_⟩
        have er := ext1 (o := .tup [.ref pt, v]) nrr
        exact k rr pt _ (((e1.trans e2).trans ep).trans er) upd_same ⟨xs, er _ _ upd_same, x2, fun j x q hx hq => let ⟨a, a1, a2⟩ := x3 j x q hx hq; ⟨a, a1, (a2.ext ep).ext er⟩⟩
      · exact .inr ⟨i, hi, k.ext e1⟩
    · rcases h with ⟨h1, k⟩ | ⟨h0, h1, _⟩
      · rw [ln]
        exact k
      · exact absurd ⟨by omega, by omega⟩ hb
theorem scNs : FnScope ["numbers", "panes", "end", "top", "bottom", "last"] ["numbers"] (defScope (top 21)) := ⟨rfl, rfl, rfl, by decide +kernel, rfl, by decide +kernel, by decide +kernel⟩
theorem ok_ns {B N f : Addr} {fd : FuncData} (F : Fun K "next_stretch" "next_stretch" (top 21) f fd) (F_ : FA P w K mg base A) (hC : LF P w K mg base "check_count" 3 ["count", "low", "high"] (spCc B)) (hF : LF P w K mg base "fracs_of" 4 ["numbers"] (spFof K A)) (hP : LF P w K mg base "_peeled" 7 ["numbers", "count"] (spPd A N)) (le : mg "len" = none) (tu : mg "tuple" = none) (mN : ∃ t, mg "MOST_NUMBERS" = some (.int 100 t)) : FnOk P w K mg base (L2.CX P w) 8 f fd ["numbers"] (spNs K A B N) := by
  refine F.okX scNs (fun vs H Q E h => ?_) (fun cdv AA outer s H vs Q E hr h => ?_)
  · obtain ⟨l, qs, rfl, _⟩ := h
    rfl
  · obtain ⟨l, qs, rfl, hl, l200, h⟩ := h
    obtain ⟨tk, mN⟩ := mN
    obtain ⟨fC, gC, cC⟩ := hC
    obtain ⟨fdC, GC, bC⟩ := cC.ex
    obtain ⟨fF, gF, cF⟩ := hF
    obtain ⟨fdF, GF, bF⟩ := cF.ex
    obtain ⟨fP, gP, cP⟩ := hP
    obtain ⟨fdP, GP, bP⟩ := cP.ex
    obtain ⟨fdNg, GNg, bNg⟩ := F_.cNeg.ex
    refine ⟨_, (pss_cons (ps_expr (pe_call GC (hr.mono (by decide)) rfl gC cC.kp bC .nil (E := E) (passes_call (takes_of rfl rfl rfl rfl) (fun _ _ _ _ h => h)) (pa_cons (pe_callB call_len_seq (by rfl) le PySem.boot_len (pa_cons (pv 0) pa_nil)) (pa_cons pe_int (pa_cons (pe_glob (v := .int 100) (by rfl) mN ⟨_, rfl⟩) pa_nil)))))
      (pss_cons (ps_asg (pe_call GP (hr.mono (by decide)) rfl gP cP.kp bP .nil (E := E) (passes_call (takes_of rfl rfl rfl rfl) (fun _ _ _ _ h => h)) (pa_cons (pe_op op_cat (pe_call GF (hr.mono (by decide)) rfl gF cF.kp bF .nil (E := E0) passL (pa_cons (pv 0) pa_nil)) (pe_lst (pa_cons (pe_frac1 F_.M F_.T (hr.mono (by decide)) rfl (pa_cons pe_int pa_nil)) pa_nil))) (pa_cons (pe_callB call_len_seq (by rfl) le PySem.boot_len (pa_cons (pv 0) pa_nil)) pa_nil))) (pg_tup rfl (pgs_cons (pg_name (i := 1) scNs.nd rfl (Or.inl rfl)) (pgs_cons (pg_name (i := 2) scNs.nd rfl (Or.inl rfl)) (pgs_cons (pg_name (i := 3) scNs.nd rfl (Or.inl rfl)) (pgs_cons (pg_name (i := 4) scNs.nd rfl (Or.inl rfl)) pgs_nil))))))
      (pss_cons (ps_if (pt_cmpR L2.op_isN (pv 2) pe_non (nomark _)) (pss_one (ps_ret (pe_tup (pa_cons (pe_op (op_BF F_.bSub F_.cSub (hr.mono (by decide))) (pe_un (o_neg F_.uNeg GNg (hr.mono (by decide)) bNg (E := E0) passL) (pe_ix ix_list (pv 4) pe_int (fun _ _ => rfl))) (pe_ix ix_list (pv 3) pe_int (fun _ _ => rfl))) (pa_cons (pe_op (op_BF F_.bSub F_.cSub (hr.mono (by decide))) (pe_ix ix_list (pv 4) pe_int (fun _ _ => rfl)) (pe_ix ix_list (pv 3) pe_int (fun _ _ => rfl))) pa_nil))))) pss_nil)
      (pss_cons (ps_set (i := 5) scNs.nd rfl (Or.inl rfl) (pe_op (op_BF F_.bSub F_.cSub (hr.mono (by decide))) (pe_op (op_BR (idl := "int.__mul__") int_mul F_.rMul F_.cRmul (hr.mono (by decide))) (pv 2) (pe_ix ix_list (pv 4) (pe_un L2.un_neg pe_int) (fun _ _ => rfl))) (pe_ix ix_list (pv 3) (pe_un L2.un_neg pe_int) (fun _ _ => rfl))))
      (pss_one (ps_ret (pe_tup (pa_cons (pv 5) (pa_cons (pv 5) pa_nil))))))))), ?_⟩
    obtain ⟨ys, hs, hN⟩ := hl.ex
    have ln : (ys.length : Int) = (qs.length : Nat) := by rw [hN.1]
    refine ⟨_, rfl, l, ys, rfl, hs, _, _, _, rfl, fun hb => ?_, fun hb => ?_⟩
    · rcases h with ⟨h1, _⟩ | ⟨h1, cs, I, h⟩
      · omega
      refine ⟨_, rfl, l, ys, qs, rfl, hs, hN, hl.low, by omega, fun r1 H1 e1 f1 => ?_⟩
      refine ⟨0, rfl, fun r0 H2 e2 f0 => ⟨by show 1 ≤ sizeLine; decide, fun q0 nq0 => ?_⟩⟩
      have eq0 := ext1 (o := .lst [V.ref r0]) nq0
      obtain ⟨xs, x1, x2, x3⟩ := f1
      refine ⟨r1, q0, xs, _, rfl, rfl, eq0 _ _ (e2 _ _ x1), upd_same, ?_, fun b nb => ?_⟩
      · rw [x2, sizeLine_eq]
        show qs.length + 1 ≤ _
        omega
      have eb := ext1 (o := .lst (xs ++ [V.ref r0])) nb
      have f2 := fl_snoc0 (A := A) (l := r1) ⟨x1, x2, x3⟩ (e2.trans eq0) (f0.ext eq0) nb
      have eA := ((e1.trans e2).trans eq0).trans eb
      refine ⟨_, rfl, l, ys, rfl, hs.imp (fun z => z.ext eA) (fun z => z.ext eA), ?_⟩
      dsimp only [tNil]
      rw [hN.1]
      have gr := Gr.run I.gr I.pn
      rw [Nat.zero_add] at gr
      refine pd_of f2 (by omega) (by omega) (by omega) I ?_
      rcases h with ⟨v, hv, k⟩ | ⟨i, hi, k⟩
      · refine .inl ⟨v, hv, fun r rp rt rb H3 e3 hr hp ht hb2 => ?_⟩
        refine ⟨r, _, rfl, SqT.of hr, rfl, _, _, rfl, _, _, rfl, _, _, rfl, _, _, rfl, rfl, ?_⟩
        have eA3 := eA.trans e3
        rcases hv with ⟨hc, rfl⟩ | ⟨e, rfl, hc, he, _⟩
        · refine ⟨_, rfl, rfl, _, rfl, iteT ?_⟩
          obtain ⟨ta, p, tx, u1, u2, u3, u4, u5, u6, u7⟩ := ht.get (K := K) (show 0 < qs.length + 1 - cs.length by omega)
          obtain ⟨ba, q, bx, w1, w2, w3, w4, w5, w6, w7⟩ := hb2.get (K := K) (show 0 < qs.length + 1 - cs.length by omega)
          obtain ⟨op, op1, op2⟩ := gr.okf I.l30 u6 (.inl u7)
          obtain ⟨oq, oq1, oq2⟩ := gr.okf I.l30 w6 (.inr w7)
          refine ⟨_, rfl, _, _, _, _, rfl, rfl, w1, w4, w5.ins, ba, q, rfl, w5, oq, fun m H4 e4 hm => ?_⟩
          refine ⟨_, rfl, _, _, _, _, rfl, rfl, u1.ext e4, u4, m, fneg q, p, rfl, hm, .inl ⟨ta, rfl, u5.ext e4⟩, oq.neg, op, fun s1 H5 e5 hs1 => ?_⟩
          have e45 := e4.trans e5
          refine ⟨_, rfl, _, _, _, _, rfl, rfl, w1.ext e45, w4, _, rfl, _, _, _, _, rfl, rfl, u1.ext e45, u4, ba, q, p, rfl, w5.ext e45, .inl ⟨ta, rfl, u5.ext e45⟩, oq, op, fun s2 H6 e6 hs2 => ⟨by show 2 ≤ sizeLine; decide, fun rr nrr => ?_⟩⟩
          have er := ext1 (o := .tup [.ref s1, .ref s2]) nrr
          refine k rr _ ((((eA3.trans e45).trans e6).trans er)) ⟨s1, s2, fsub (fneg q) p, fsub q p, upd_same, (hs1.ext e6).ext er, hs2.ext er, low_fsub (low_neg w6) u6, low_fsub w6 u6, ?_, ?_⟩
          · have ln9 : Low (fneg q) := low_neg w6
            rw [val_sub ln9 u6, u7, show val (fneg q) = -val q from val_neg q, w7]
            rfl
          · rw [val_sub w6 u6, u7, w7]
            rfl
        · refine ⟨_, rfl, rfl, _, rfl, iteF ?_⟩
          have eb1 : e.natAbs = 1 := by omega
          have oe : Bd e := by unfold Bd; rw [eb1]; exact Nat.one_lt_two_pow (by decide)
          have hj : qs.length - cs.length < qs.length + 1 - cs.length := by omega
          obtain ⟨ta, p, tx, u1, u2, u3, u4, u5, u6, u7⟩ := ht.get (K := K) hj
          obtain ⟨ba, q, bx, w1, w2, w3, w4, w5, w6, w7⟩ := hb2.get (K := K) hj
          obtain ⟨op, op1, op2⟩ := gr.okf I.l30 u6 (.inl u7)
          obtain ⟨oq, oq1, oq2⟩ := gr.okf I.l30 w6 (.inr w7)
          have ix : ∀ (xs : List V) (a : Addr), xs.length = qs.length + 1 - cs.length → xs[qs.length - cs.length]? = some (.ref a) → atI xs (-1) = some (V.ref a) := fun xs a hx h9 => by
            rw [atI_neg1 (by omega), hx, show qs.length + 1 - cs.length - 1 = qs.length - cs.length by omega]
            exact h9
          refine ⟨_, rfl, _, rfl, 1, rfl, _, _, _, _, rfl, rfl, w1, ix _ _ w2 w3, e, ba, q, rfl, rfl, w5, oe, oq, fun m H4 e4 hm => ?_⟩
          have om := okf_pm eb1 w6 oq1 oq2
          refine ⟨_, rfl, 1, rfl, _, _, _, _, rfl, rfl, u1.ext e4, ix _ _ u2 u3, m, fmul (e, 1) q, p, rfl, hm, .inl ⟨ta, rfl, u5.ext e4⟩, om, op, fun s1 H5 e5 hs1 => ?_⟩
          refine ⟨_, rfl, _, rfl, by show 2 ≤ sizeLine; decide, fun rr nrr => ?_⟩
          have er := ext1 (o := .tup [.ref s1, .ref s1]) nrr
          have v1 : val (fsub (fmul (e, 1) q) p) = stU (sq qs) qs.length cs (.int e) := by
            rw [val_sub om.low u6, val_mul (lowInt e) w6, val_int, u7, w7]
            rfl
          exact k rr _ (((eA3.trans e4).trans e5).trans er) ⟨s1, s1, _, _, upd_same, hs1.ext er, hs1.ext er, low_fsub om.low u6, low_fsub om.low u6, v1, v1⟩
      · exact .inr ⟨i, hi, k.ext eA⟩
    · rcases h with ⟨h1, k⟩ | ⟨h1, _⟩
      · rw [ln]
        exact k
      · exact absurd ⟨by omega, by omega⟩ hb
end
end Fx

set_option Elab.async false
set_option linter.all false
set_option maxRecDepth 100000
set_option maxHeartbeats 4000000
set_option exponentiation.threshold 20000
namespace Fx
open PySem PySem.Spec PyProof.Rows L2 FM KM
/-! ### the pool of draws -/
/-- a pool: its list of numbers, how many are taken, what is left of the last one, how many draws it gave -/
def PoolAt (H : Hp) (r c : Addr) : Prop := ∃ (cs : List Int) (i : Nat) (cur m : Int), H r = some (.lst [.ref c, .int i, .int cur, .int m]) ∧ H c = some (.lst (cs.map V.int)) ∧ (∀ x ∈ cs, 0 ≤ x) ∧ i ≤ cs.length ∧ 0 ≤ cur ∧ c ≠ r
/-- all but the pool stands -/
def Kp (r : Addr) (H H' : Hp) : Prop := ∀ b o, H b = some o → b ≠ r → H' b = some o
theorem Kp.refl {r : Addr} {H : Hp} : Kp r H H := fun _ _ h _ => h
theorem Kp.trans {r : Addr} {H H1 H2 : Hp} (a : Kp r H H1) (b : Kp r H1 H2) : Kp r H H2 := fun c o h n => b c o (a c o h n) n
theorem Kp.upd {r : Addr} {H H1 : Hp} {o : HO} (a : Kp r H H1) : Kp r H (upd H1 r o) := fun c u h n => by rw [upd_ne n]; exact a c u h n
theorem Kp.ext {r : Addr} {H H1 H2 : Hp} (a : Kp r H H1) (b : Ext H1 H2) : Kp r H H2 := fun c o h n => b c o (a c o h n)
theorem Kp.of {r : Addr} {H H1 : Hp} (e : Ext H H1) : Kp r H H1 := fun c o h _ => e c o h
theorem PoolAt.ext {H H' : Hp} {r c : Addr} (h : PoolAt H r c) (e : Ext H H') : PoolAt H' r c := let ⟨cs, i, cur, m, h1, h2, h3⟩ := h; ⟨cs, i, cur, m, e _ _ h1, e _ _ h2, h3⟩
theorem ints_of {p : Int → Prop} : ∀ xs : List V, (∀ (j : Nat) (x : V), xs[j]? = some x → ∃ z, x = .int z ∧ p z) → ∃ cs : List Int, xs = cs.map V.int ∧ ∀ x ∈ cs, p x
  | [], _ => ⟨[], rfl, by simp⟩
  | x :: xs, h => by
    obtain ⟨z, rfl, hz⟩ := h 0 x rfl
    obtain ⟨cs, e, hp⟩ := ints_of xs fun j y hy => h (j + 1) y (by simpa using hy)
    refine ⟨z :: cs, by rw [e]; rfl, fun y hy => ?_⟩
    rcases List.mem_cons.mp hy with q | q
    · rw [q]; exact hz
    · exact hp y q
section
variable {P : Program} {w : World} {K : PySem.W.Frag} {mg : Str → Option Value} {base : Heap} {A : Adr}
theorem tlc_cps {wi : TI} {g : TG} {te : TE} {vs : List Nat} {σ : L2.St} {H : Hp} {Q : VK} {P : It → Hp → Prop} (hw : ∀ R : It → Hp → Prop, (∀ J H1, P J H1 → R J H1) → wi σ H R) (h : ∀ J H1, P J H1 → tLc (fun _ H R => R J H) g tYes te vs σ H1 Q) : tLc wi g tYes te vs σ H Q := hw _ fun J H1 p => h J H1 p
theorem tret_of {te : TE} {D : Ends} {σ : L2.St} {H : Hp} (h : te σ H D.rt) : tRet te D σ H := h
theorem tlst_of {t : TA} {σ : L2.St} {H : Hp} {Q : VK} (h : t σ H fun xs H1 => xs.length ≤ sizeLine ∧ ∀ p, H1 p = none → Q (.ref p) (L2.upd H1 p (.lst xs))) : tLst t σ H Q := h
theorem tcons_of {ta : TE} {tr : TA} {σ : L2.St} {H : Hp} {Q : List V → Hp → Prop} (h : ta σ H fun x H1 => tr σ H1 fun xs H2 => Q (x :: xs) H2) : tCons ta tr σ H Q := h
def spPool (K : PySem.W.Frag) : Sp := fun vs H Q _ => ∃ (a : Addr) (ns : List Int), vs = [.ref a] ∧ SqL K H a (ns.map V.int) ∧ ns.length ≤ 63 ∧ ∀ r c H', Ext H H' → H r = none → PoolAt H' r c → Q (.ref r) H'
theorem scPool : FnScope ["script", "cells", "x"] ["script"] (defScope (top 25)) := ⟨rfl, rfl, rfl, by decide +kernel, rfl, by decide +kernel, by decide +kernel⟩
theorem ok_pool {f : Addr} {fd : FuncData} (F : Fun K "_law_pool" "_law_pool" (top 25) f fd) (it : mg "int" = none) : FnOk P w K mg base (L2.CX P w) 1 f fd ["script"] (spPool K) := by
  refine F.okX scPool (fun vs H Q E h => ?_) (fun cdv AA outer s H vs Q E hr h => ?_)
  · obtain ⟨a, ns, rfl, _⟩ := h
    rfl
  · obtain ⟨a, ns, rfl, hS, hl, k⟩ := h
    refine ⟨_, (pss_cons (ps_setLc (i := 1) (own := [("x", 2)]) (g := gName 2) rfl scPool.nd rfl rfl (sw_true rfl rfl rfl rfl) (pi_list (pe_slice sl_list (pv 0) po_none (po_some pe_int))) (blkOk_by (own := [("x", 2)]) (N := ["script", "cells", "x"]) (sc := defScope (top 25)) (by decide +kernel)) (fun _ _ _ _ _ => (pg_name (i := 2) scPool.nd rfl (Or.inl rfl))) (fun _ _ _ _ _ => pts_nil) (fun _ _ _ _ _ => (pe_callTy call_int1 (by rfl) it boot_int (pa_cons (pv 2) pa_nil))))
      (pss_one (ps_ret (pe_lst (pa_cons (pe_lc (own := [("x", 2)]) (g := gName 2) rfl scPool.nd (pi_list (pv 1)) (blkOk_by (own := [("x", 2)]) (N := ["script", "cells", "x"]) (sc := defScope (top 25)) (by decide +kernel)) (fun _ _ _ _ _ => (pg_name (i := 2) scPool.nd rfl (Or.inl rfl))) (fun _ _ _ _ _ => pts_nil) (fun _ _ _ _ _ => (pe_ifExp (pt_cmpR L2.op_ge (pv 2) pe_int (nomark _)) (pv 2) (pe_op L2.op_sub pe_int (pe_op L2.op_mul pe_int (pv 2)))))) (pa_cons pe_int (pa_cons pe_int (pa_cons pe_int pa_nil)))))))), ?_⟩
    refine tseq_of (t := tAsg (tLc _ _ _ _ _) (gName 1)) ?_
    refine tasg_of ?_
    have hcut : ∀ (i : Nat) (y : V), (cutV (ns.map V.int) none (some 63))[i]? = some y → ∃ z, y = V.int z := fun i y e => by
      have m := List.mem_of_getElem? e
      unfold cutV at m
      have m2 := List.mem_of_mem_drop (List.mem_of_mem_take m)
      obtain ⟨z, _, rfl⟩ := List.mem_map.mp m2
      exact ⟨z, rfl⟩
    have ncl : (cutV (ns.map V.int) none (some 63)).length ≤ 63 := by
      have := cutV_length (ns.map V.int) none (some 63)
      rw [List.length_map] at this
      omega
    refine tlc_cps (P := fun J H1 => ∃ b, J = Itl K b ∧ H1 b = some (.lst (cutV (ns.map V.int) none (some 63))) ∧ Ext H H1) (fun R r => ⟨_, rfl, 63, rfl, a, _, rfl, hS, fun b nb => ⟨b, rfl, ⟨_, SqL.of upd_same⟩, r _ _ ⟨b, rfl, upd_same, ext1 nb⟩⟩⟩) ?_
    rintro J H1 ⟨b, rfl, hb, e1⟩
    refine tlc_1 (n := (cutV (ns.map V.int) none (some 63)).length) (H1 := H1) (R := fun _ x _ => ∃ z : Int, x = .int z ∧ True) (walk_list (K := K) (a := b) (xs := cutV (ns.map V.int) none (some 63))) (fun R r => r) (fun _ _ _ _ _ h => h) (by rw [sizeLine_eq]; omega) (fun H2 e => (SqL.of hb).ext e) (fun _ _ _ _ y => y.1) (show 2 < 3 by decide) ?_ ?_
    · rintro i x H2 τ Qy hi e ⟨_, hx⟩ h2 _ k
      obtain ⟨z, rfl⟩ := hcut i x hx
      exact ⟨_, h2, .inl ⟨z, rfl, k _ H2 Ext.rfl' ⟨z, rfl, trivial⟩⟩⟩
    intro D H1' e2 hD
    obtain ⟨xs, d1, d2, d3⟩ := hD
    dsimp only [gName]
    refine tret_of (tlst_of (tcons_of ?_))
    refine tlc_1 (n := xs.length) (H1 := H1') (R := fun _ x _ => ∃ z : Int, x = .int z ∧ 0 ≤ z) (walk_list (K := K) (a := D) (xs := xs)) (fun R r => ⟨_, rfl, D, rfl, ⟨xs, SqL.of d1⟩, r⟩) (fun _ _ _ _ _ h => h) (by rw [sizeLine_eq]; omega) (fun H2 e => (SqL.of d1).ext e) (fun _ _ _ _ y => y.1) (show 2 < 3 by decide) ?_ ?_
    · rintro i x H2 τ Qy hi e ⟨_, hx⟩ h2 _ k
      obtain ⟨z, rfl, _⟩ := d3 i x hx
      refine ⟨_, h2, _, _, rfl, rfl, _, rfl, if_D (fun hz => ⟨_, h2, k _ H2 Ext.rfl' ⟨z, rfl, hz⟩⟩) (fun hz => ?_)⟩
      exact ⟨_, h2, _, _, rfl, rfl, .inl ⟨by decide, by decide⟩, _, _, rfl, rfl, k _ H2 Ext.rfl' ⟨_, rfl, by omega⟩⟩
    intro D2 H2 e3 hD2
    obtain ⟨ys, f1, f2, f3⟩ := hD2
    obtain ⟨cs, rfl, hcs⟩ := ints_of ys f3
    refine ⟨by show 4 ≤ sizeLine; decide, fun r nr => ?_⟩
    have e13 := (e1.trans e2).trans e3
    have er := ext1 (o := .lst [.ref D2, .int 0, .int 0, .int 0]) nr
    refine k r D2 _ (e13.trans er) ?_ ⟨cs, 0, 0, 0, upd_same, er _ _ f1, hcs, Nat.zero_le _, Int.le_refl _, ne_of_none f1 nr⟩
    cases hr9 : H r with
    | none => rfl
    | some o => rw [e13 _ _ hr9] at nr; cases nr
theorem scDraw : FnScope ["pool", "base", "digit"] ["pool", "base"] (defScope (top 26)) := ⟨rfl, rfl, rfl, by decide +kernel, rfl, by decide +kernel, by decide +kernel⟩
def spDraw : Sp := fun vs H Q _ => ∃ (r c : Addr) (many : Int), vs = [.ref r, .int many] ∧ PoolAt H r c ∧ 0 < many ∧ many.natAbs.log2 < 9000 ∧ ∀ d H', 0 ≤ d → d < many → PoolAt H' r c → Kp r H H' → Q (.int d) H'
theorem ok_draw {f : Addr} {fd : FuncData} (F : Fun K "_law_draw" "_law_draw" (top 26) f fd) (le : mg "len" = none) (it : mg "int" = none) : FnOk P w K mg base (L2.CX P w) 1 f fd ["pool", "base"] spDraw := by
  refine F.okX scDraw (fun vs H Q E h => ?_) (fun cdv AA outer s H vs Q E hr h => ?_)
  · obtain ⟨r, c, many, rfl, _⟩ := h
    rfl
  · obtain ⟨r, c, many, rfl, ⟨cs, i, cur, m, hp, hc, pos, hi, h0, cr⟩, m0, m9, k⟩ := h
    refine ⟨_, (C8.pss_cut (ps_if (PW.pt (pw_or (pt_cmpR L2.op_eq (pe_ix ix_list (pv 0) pe_int (fun _ _ => rfl)) pe_int (nomark _)) (pw_or1 (pt_cmpR L2.op_eq (pe_ix ix_list (pv 0) pe_int (fun _ _ => rfl)) pe_int (nomark _))))) (pss_cons (ps_asg pe_int (pg_sub (pv 0) pe_int set_list))
      (pss_cons (ps_asg pe_int (pg_sub (pv 0) pe_int set_list))
      (pss_one (ps_if (pt_cmpR L2.op_lt (pe_ix ix_list (pv 0) pe_int (fun _ _ => rfl)) (pe_callB call_len_seq (by rfl) le PySem.boot_len (pa_cons (pe_ix ix_list (pv 0) pe_int (fun _ _ => rfl)) pa_nil)) (nomark _)) (pss_cons (ps_asg (pe_ix ix_list (pe_ix ix_list (pv 0) pe_int (fun _ _ => rfl)) (pe_ix ix_list (pv 0) pe_int (fun _ _ => rfl)) (fun _ _ => rfl)) (pg_sub (pv 0) pe_int set_list))
      (pss_one (ps_asg (pe_op L2.op_add (pe_ix ix_list (pv 0) pe_int (fun _ _ => rfl)) pe_int) (pg_sub (pv 0) pe_int set_list)))) pss_nil)))) pss_nil)
      (pss_cons (ps_set (i := 2) scDraw.nd rfl (Or.inl rfl) (pe_op op_modN (pe_callTy call_int1 (by rfl) it boot_int (pa_cons (pe_ix ix_list (pv 0) pe_int (fun _ _ => rfl)) pa_nil)) (pv 1)))
      (pss_cons (ps_asg (pe_op op_fdivZ (pe_ix ix_list (pv 0) pe_int (fun _ _ => rfl)) (pv 1)) (pg_sub (pv 0) pe_int set_list))
      (pss_cons (ps_asg (pe_op L2.op_add (pe_ix ix_list (pv 0) pe_int (fun _ _ => rfl)) pe_int) (pg_sub (pv 0) pe_int set_list))
      (pss_one (ps_ret (pv 2))))))), ?_⟩
    refine ⟨fun σ H1 => σ = [some (.ref r), some (.int many), none] ∧ ∃ (i : Nat) (cur m : Int), H1 r = some (.lst [.ref c, .int i, .int cur, .int m]) ∧ H1 c = some (.lst (cs.map V.int)) ∧ i ≤ cs.length ∧ 0 ≤ cur ∧ Kp r H H1, ?_, ?_⟩
    · refine ⟨_, rfl, _, _, _, _, rfl, rfl, SqL.of hp, rfl, rfl, _, rfl, ?_⟩
      refine if_D (fun hz => iteT ?_) (fun hz => ?_)
      · refine ⟨_, rfl, r, _, 2, 2, rfl, rfl, hp, rfl, _, rfl, r, _, 3, 3, rfl, rfl, upd_same, rfl, ?_⟩
        have hc2 : (upd (upd H r (.lst [.ref c, .int i, .int 0, .int m])) r (.lst [.ref c, .int i, .int 0, .int 0])) c = some (.lst (cs.map V.int)) := by
          rw [upd_ne cr, upd_ne cr]
          exact hc
        refine ⟨_, rfl, _, _, _, _, rfl, rfl, SqL.of upd_same, rfl, _, rfl, _, _, _, _, rfl, rfl, SqL.of upd_same, rfl, c, _, rfl, .inl (SqL.of hc2), _, _, rfl, rfl, _, rfl, if_D (fun hlt => ?_) (fun hge => ?_)⟩
        · have hl2 : i < cs.length := by
            rw [List.length_map] at hlt
            omega
          refine ⟨_, rfl, _, _, _, _, rfl, rfl, SqL.of upd_same, rfl, _, rfl, _, _, _, _, rfl, rfl, SqL.of upd_same, rfl, _, _, _, _, rfl, rfl, SqL.of hc2, atI_nat (j := i) (v := V.int cs[i]) (by rw [List.getElem?_map, List.getElem?_eq_getElem hl2]; rfl), _, rfl, r, _, 2, 2, rfl, rfl, upd_same, rfl, ?_⟩
          refine ⟨_, rfl, _, _, _, _, rfl, rfl, SqL.of upd_same, rfl, _, _, rfl, rfl, _, rfl, r, _, 1, 1, rfl, rfl, upd_same, rfl, ?_⟩
          refine ⟨rfl, i + 1, cs[i], 0, ?_, ?_, hl2, pos _ (List.getElem_mem _), Kp.refl.upd.upd.upd.upd⟩
          · rw [upd_same]
            rfl
          · rw [upd_ne cr, upd_ne cr]
            exact hc2
        · exact ⟨rfl, i, 0, 0, upd_same, hc2, hi, Int.le_refl _, Kp.refl.upd.upd⟩
      · refine ⟨_, rfl, _, _, _, _, rfl, rfl, SqL.of hp, rfl, rfl, _, rfl, if_D (fun hz => ?_) (fun hz => ?_)⟩
        · refine ⟨_, rfl, r, _, 2, 2, rfl, rfl, hp, rfl, _, rfl, r, _, 3, 3, rfl, rfl, upd_same, rfl, ?_⟩
          have hc2 : (upd (upd H r (.lst [.ref c, .int i, .int 0, .int m])) r (.lst [.ref c, .int i, .int 0, .int 0])) c = some (.lst (cs.map V.int)) := by
            rw [upd_ne cr, upd_ne cr]
            exact hc
          refine ⟨_, rfl, _, _, _, _, rfl, rfl, SqL.of upd_same, rfl, _, rfl, _, _, _, _, rfl, rfl, SqL.of upd_same, rfl, c, _, rfl, .inl (SqL.of hc2), _, _, rfl, rfl, _, rfl, if_D (fun hlt => ?_) (fun hge => ?_)⟩
          · have hl2 : i < cs.length := by
              rw [List.length_map] at hlt
              omega
            refine ⟨_, rfl, _, _, _, _, rfl, rfl, SqL.of upd_same, rfl, _, rfl, _, _, _, _, rfl, rfl, SqL.of upd_same, rfl, _, _, _, _, rfl, rfl, SqL.of hc2, atI_nat (j := i) (v := V.int cs[i]) (by rw [List.getElem?_map, List.getElem?_eq_getElem hl2]; rfl), _, rfl, r, _, 2, 2, rfl, rfl, upd_same, rfl, ?_⟩
            refine ⟨_, rfl, _, _, _, _, rfl, rfl, SqL.of upd_same, rfl, _, _, rfl, rfl, _, rfl, r, _, 1, 1, rfl, rfl, upd_same, rfl, ?_⟩
            refine ⟨rfl, i + 1, cs[i], 0, ?_, ?_, hl2, pos _ (List.getElem_mem _), Kp.refl.upd.upd.upd.upd⟩
            · rw [upd_same]
              rfl
            · rw [upd_ne cr, upd_ne cr]
              exact hc2
          · exact ⟨rfl, i, 0, 0, upd_same, hc2, hi, Int.le_refl _, Kp.refl.upd.upd⟩
        · exact ⟨rfl, i, cur, m, hp, hc, hi, h0, Kp.refl⟩
    · rintro σ H1 ⟨rfl, i, cur, m, hp, hc, hi, h0, kp⟩
      have mz : many ≠ 0 := by omega
      have f1 : cur.fmod many = cur % many := Int.fmod_eq_emod_of_nonneg cur (Int.le_of_lt m0)
      have f2 : 0 ≤ cur.fdiv many := by
        rw [Int.fdiv_eq_ediv_of_nonneg _ (Int.le_of_lt m0)]
        exact Int.ediv_nonneg h0 (Int.le_of_lt m0)
      refine ⟨_, rfl, _, _, _, _, rfl, rfl, SqL.of hp, rfl, .inl ⟨_, rfl, _, rfl, _, _, rfl, rfl, mz, ?_⟩⟩
      refine ⟨_, rfl, _, _, _, _, rfl, rfl, SqL.of hp, rfl, _, rfl, _, _, rfl, rfl, ⟨mz, m9⟩, _, rfl, r, _, 2, 2, rfl, rfl, hp, rfl, ?_⟩
      refine ⟨_, rfl, _, _, _, _, rfl, rfl, SqL.of upd_same, rfl, _, _, rfl, rfl, _, rfl, r, _, 3, 3, rfl, rfl, upd_same, rfl, ?_⟩
      refine ⟨_, rfl, k _ _ (by rw [f1]; exact Int.emod_nonneg _ mz) (by rw [f1]; exact Int.emod_lt_of_pos _ m0) ⟨cs, i, cur.fdiv many, m + 1, ?_, ?_, pos, hi, f2, cr⟩ kp.upd.upd⟩
      · rw [upd_same]
        rfl
      · rw [upd_ne cr, upd_ne cr]
        exact hc
end
end Fx

set_option Elab.async false
set_option linter.all false
set_option maxRecDepth 100000
set_option maxHeartbeats 4000000
set_option exponentiation.threshold 20000
namespace Fx
open PySem PySem.Spec PyProof.Rows L2 FM KM
/-! ### lists of pairs, lists of ints -/
def TL (H : Hp) (l : Addr) (ps : List (Int × Int)) : Prop := ∃ xs : List V, H l = some (.lst xs) ∧ xs.length = ps.length ∧ ∀ (j : Nat) (x : V) (q : Int × Int), xs[j]? = some x → ps[j]? = some q → ∃ a : Addr, x = V.ref a ∧ TupAt H a q
theorem TL.ext {H H' : Hp} {l : Addr} {ps : List (Int × Int)} (h : TL H l ps) (e : Ext H H') : TL H' l ps := let ⟨xs, h1, h2, h3⟩ := h; ⟨xs, e _ _ h1, h2, fun j x q hx hq => let ⟨a, e1, e2⟩ := h3 j x q hx hq; ⟨a, e1, e _ _ e2⟩⟩
/-- what is kept while draws are made -/
theorem TupAt.kp {H H' : Hp} {r a : Addr} {q : Int × Int} (h : TupAt H a q) (kp : Kp r H H') {c : Addr} (hr : PoolAt H r c) : TupAt H' a q := by
  refine kp a _ h ?_
  rintro rfl
  obtain ⟨cs, i, cur, m, e, _⟩ := hr
  rw [show H a = _ from h] at e
  cases e
theorem TL.kp {H H' : Hp} {r l : Addr} {ps : List (Int × Int)} (h : TL H l ps) (kp : Kp r H H') {c : Addr} (hr : PoolAt H r c) (ne : l ≠ r) : TL H' l ps := let ⟨xs, h1, h2, h3⟩ := h; ⟨xs, kp _ _ h1 ne, h2, fun j x q hx hq => let ⟨a, e1, e2⟩ := h3 j x q hx hq; ⟨a, e1, e2.kp kp hr⟩⟩
theorem TL.snoc {H : Hp} {l r : Addr} {ps : List (Int × Int)} {p : Int × Int} {xs : List V} (h : TL H l ps) (hl : H l = some (.lst xs)) (hr : TupAt H r p) : TL (upd H l (.lst (xs ++ [V.ref r]))) l (ps ++ [p]) := by
  obtain ⟨ys, h1, h2, h3⟩ := h
  rw [hl] at h1
  injection h1 with h1
  injection h1 with h1
  subst h1
  refine ⟨_, upd_same, by rw [List.length_append, List.length_append, h2]; rfl, fun j x q hx hq => ?_⟩
  by_cases hj : j < xs.length
  · rw [List.getElem?_append_left hj] at hx
    rw [List.getElem?_append_left (by omega)] at hq
    obtain ⟨a, e1, e2⟩ := h3 j x q hx hq
    exact ⟨a, e1, e2.l (ExtL.upd hl)⟩
  · rw [List.getElem?_append_right (by omega)] at hx hq
    have e0 : j - xs.length = 0 := by
      have := (List.getElem?_eq_some_iff.mp hx).1
      simp at this
      omega
    rw [e0] at hx
    rw [← h2, e0] at hq
    have ex : V.ref r = x := by simpa using hx
    have eq : p = q := by simpa using hq
    exact ⟨r, ex.symm, eq ▸ hr.l (ExtL.upd hl)⟩
def IL (H : Hp) (l : Addr) (n : Nat) (f : Nat → Int) : Prop := ∃ xs : List V, H l = some (.lst xs) ∧ xs.length = n ∧ ∀ (j : Nat) (x : V), xs[j]? = some x → x = V.int (f j)
theorem IL.ext {H H' : Hp} {l : Addr} {n : Nat} {f : Nat → Int} (h : IL H l n f) (e : Ext H H') : IL H' l n f := let ⟨xs, h1, h2, h3⟩ := h; ⟨xs, e _ _ h1, h2, h3⟩
theorem IL.get {K : PySem.W.Frag} {H : Hp} {l : Addr} {n : Nat} {f : Nat → Int} (h : IL H l n f) {j : Nat} (hj : j < n) : ∃ xs, SqL K H l xs ∧ xs.length = n ∧ atI xs (j : Int) = some (V.int (f j)) := by
  obtain ⟨xs, h1, h2, h3⟩ := h
  have hj' : j < xs.length := by omega
  refine ⟨xs, SqL.of h1, h2, atI_nat ?_⟩
  rw [List.getElem?_eq_getElem hj', h3 j _ (List.getElem?_eq_getElem hj')]
theorem bi27 {n : Int} (h : n.natAbs < 2 ^ 27) : Bi n := Nat.lt_of_lt_of_le h (Nat.pow_le_pow_right (by decide) (by decide))
theorem wt_snoc (ps : List (Int × Int)) (p : Int × Int) : KM.wt (ps ++ [p]) = KM.wt ps * (p.1.natAbs + p.2.natAbs) := by
  induction ps with
  | nil => show (p.1.natAbs + p.2.natAbs) * 1 = 1 * _; omega
  | cons c cs ih =>
    show (c.1.natAbs + c.2.natAbs) * KM.wt (cs ++ [p]) = (c.1.natAbs + c.2.natAbs) * KM.wt cs * _
    rw [ih, Nat.mul_assoc]
/-- panes as drawn -/
structure PnL (ps : List (Int × Int)) : Prop where
  pn : ∀ p ∈ ps, Pn p
  wt : wt ps ≤ 2 ^ 26
  len : ps.length ≤ 5
theorem pn_low {t b : Int} (hb : 0 < b) (h1 : -b < t) (h2 : t < b) (h3 : b < 2 ^ 26) : Pn (low t b) ∧ (low t b).1.natAbs ≤ t.natAbs ∧ (low t b).2.natAbs ≤ b.natAbs := by
  have bz : b ≠ 0 := by omega
  have lo := low_low (a := t) bz
  have l1 := low_le1 (a := t) bz
  have l2 := low_le2 (a := t) bz
  have hp := lo.pos
  have hbR : (0 : Rat) < (b : Rat) := by exact_mod_cast hb
  have hv := val_low (a := t) bz
  have e : (t : Rat) / (b : Rat) * (b : Rat) = (t : Rat) := by grind
  have t1 : (t : Rat) < (b : Rat) := by exact_mod_cast h2
  have t2 : ((-b : Int) : Rat) < (t : Rat) := by exact_mod_cast h1
  push_cast at t2
  have q : -1 < val (low t b) ∧ val (low t b) < 1 := by
    rw [hv]
    constructor
    · by_cases z : -1 < (t : Rat) / (b : Rat)
      · exact z
      · have := Rat.mul_le_mul_of_nonneg_right (Rat.not_lt.mp z) (Rat.le_of_lt hbR)
        grind
    · by_cases z : (t : Rat) / (b : Rat) < 1
      · exact z
      · have := Rat.mul_le_mul_of_nonneg_right (Rat.not_lt.mp z) (Rat.le_of_lt hbR)
        grind
  have r := (pane_iff lo).mpr q
  exact ⟨⟨lo, r.1, r.2, by omega⟩, l1, l2⟩
section
variable {P : Program} {w : World} {K : PySem.W.Frag} {mg : Str → Option Value} {base : Heap} {A : Adr}
def spDrawn : Sp := fun vs H Q _ => ∃ r c, vs = [.ref r] ∧ PoolAt H r c ∧ ∀ l ps H', PoolAt H' r c → Kp r H H' → TL H' l ps → PnL ps → l ≠ r → l ≠ c → Q (.ref l) H'
theorem scDrawn : FnScope ["pool", "way", "base", "panes", "k"] ["pool"] (defScope (top 39)) := ⟨rfl, rfl, rfl, by decide +kernel, rfl, by decide +kernel, by decide +kernel⟩
theorem ok_drawn {f : Addr} {fd : FuncData} (F : Fun K "_law_drawn" "_law_drawn" (top 39) f fd) (hD : LF P w K mg base "_law_draw" 1 ["pool", "base"] spDraw) (hL : LF P w K mg base "_law_low" 2 ["top", "bottom"] spLowK) (it : mg "int" = none) (ra : mg "range" = none) : FnOk P w K mg base (L2.CX P w) 3 f fd ["pool"] spDrawn := by
  refine F.okX scDrawn (fun vs H Q E h => ?_) (fun cdv AA outer s H vs Q E hr h => ?_)
  · obtain ⟨r, c, rfl, _⟩ := h
    rfl
  · obtain ⟨r, c, rfl, hp, k⟩ := h
    obtain ⟨fD, gD, cD⟩ := hD
    obtain ⟨fdD, GD, bD⟩ := cD.ex
    obtain ⟨fL, gL, cL⟩ := hL
    obtain ⟨fdL, GL, bL⟩ := cL.ex
    refine ⟨_, (pss_cons (ps_set (i := 1) scDrawn.nd rfl (Or.inl rfl) (pe_call GD (hr.mono (by decide)) rfl gD cD.kp bD .nil (E := E0) passL (pa_cons (pv 0) (pa_cons pe_int pa_nil))))
      (pss_cons (ps_if (pt_cmpR L2.op_eq (pv 1) pe_int (nomark _)) (pss_cons (ps_set (i := 2) scDrawn.nd rfl (Or.inl rfl) (pe_op L2.op_add pe_int (pe_call GD (hr.mono (by decide)) rfl gD cD.kp bD .nil (E := E0) passL (pa_cons (pv 0) (pa_cons pe_int pa_nil)))))
      (pss_one (ps_ret (pe_lst (pa_cons (pe_call GL (hr.mono (by decide)) rfl gL cL.kp bL .nil (E := E0) passL (pa_cons (pe_op L2.op_add (pe_op L2.op_sub (pe_call GD (hr.mono (by decide)) rfl gD cD.kp bD .nil (E := E0) passL (pa_cons (pv 0) (pa_cons (pe_op L2.op_sub (pe_op L2.op_mul pe_int (pv 2)) pe_int) pa_nil))) (pv 2)) pe_int) (pa_cons (pv 2) pa_nil))) pa_nil))))) pss_nil)
      (pss_cons (ps_set (i := 3) scDrawn.nd rfl (Or.inl rfl) (pe_lst pa_nil))
      (pss_cons (ps_for (passes_of rfl) rfl (pi_range1 rfl ra (pa_cons (pe_op op_modN (pe_callTy call_int1 (by rfl) it boot_int (pa_cons (pe_op L2.op_add (pe_call GD (hr.mono (by decide)) rfl gD cD.kp bD .nil (E := E0) passL (pa_cons (pv 0) (pa_cons pe_int pa_nil))) pe_int) pa_nil)) pe_int) pa_nil)) (pg_name (i := 4) scDrawn.nd rfl (Or.inl rfl)) (pss_cons (ps_set (i := 2) scDrawn.nd rfl (Or.inl rfl) (pe_op L2.op_add pe_int (pe_op op_modN (pe_callTy call_int1 (by rfl) it boot_int (pa_cons (pe_op L2.op_add (pe_call GD (hr.mono (by decide)) rfl gD cD.kp bD .nil (E := E0) passL (pa_cons (pv 0) (pa_cons pe_int pa_nil))) (pv 4)) pa_nil)) pe_int)))
      (pss_one (ps_expr (pe_bm PySem.F.plainAttrs_list PySem.F.slot_list_append PySem.F.type_list_append mt_append (pv 3) (pa_cons (pe_call GL (hr.mono (by decide)) rfl gL cL.kp bL .nil (E := E0) passL (pa_cons (pe_op L2.op_add (pe_op L2.op_sub (pe_call GD (hr.mono (by decide)) rfl gD cD.kp bD .nil (E := E0) passL (pa_cons (pv 0) (pa_cons (pe_op L2.op_sub (pe_op L2.op_mul pe_int (pv 2)) pe_int) pa_nil))) (pv 2)) pe_int) (pa_cons (pv 2) pa_nil))) pa_nil))))))
      (pss_one (ps_ret (pv 3))))))), ?_⟩
    have lg : ∀ n : Nat, n < 2 ^ 27 → (n : Int).natAbs.log2 < 9000 := fun n h => Nat.lt_of_lt_of_le (log2_lt (n := (n : Int)) (k := 27) (by omega) (by decide)) (by decide)
    refine ⟨_, rfl, r, c, 16, rfl, hp, by decide, lg 16 (by decide), fun way H1 a0 a1 hp1 kp1 => ?_⟩
    refine ⟨_, rfl, rfl, _, rfl, if_D (fun hw => ?_) (fun hw => ?_)⟩
    · refine ⟨_, rfl, r, c, 9999999, rfl, hp1, by decide, lg 9999999 (by decide), fun d H2 d0 d1 hp2 kp2 => ⟨_, _, rfl, rfl, ?_⟩⟩
      obtain ⟨bn, hbn⟩ : ∃ n : Nat, 2 + d = (n : Int) := ⟨(2 + d).toNat, by omega⟩
      refine ⟨_, rfl, _, rfl, _, _, rfl, rfl, .inl ⟨by decide, by decide⟩, _, _, rfl, rfl, r, c, _, rfl, hp2, by omega, ?_, fun e H3 e0 e1 hp3 kp3 => ?_⟩
      · rw [show 2 * (2 + d) - 1 = ((2 * (2 + d) - 1).toNat : Int) by omega]
        exact lg _ (by omega)
      obtain ⟨pn, w1, w2⟩ := pn_low (t := e - (2 + d) + 1) (b := 2 + d) (by omega) (by omega) (by omega) (by omega)
      refine ⟨_, rfl, _, _, rfl, rfl, _, _, rfl, rfl, _, rfl, _, _, rfl, by omega, bi27 (by omega), fun t H4 e4 ht => ⟨by show 1 ≤ sizeLine; decide, fun l nl => ?_⟩⟩
      have el := ext1 (o := .lst [V.ref t]) nl
      refine k l [low (e - (2 + d) + 1) (2 + d)] _ ((hp3.ext e4).ext el) ((((kp1.trans kp2).trans kp3).ext e4).ext el) ⟨_, upd_same, rfl, fun j x q hx hq => ?_⟩ ⟨fun p hm => ?_, ?_, by show 1 ≤ 5; decide⟩ ?_ ?_
      · cases j with
        | zero =>
          have ex : V.ref t = x := by simpa using hx
          have eq : low (e - (2 + d) + 1) (2 + d) = q := by simpa using hq
          exact ⟨t, ex.symm, eq ▸ el _ _ ht⟩
        | succ j => simp at hx
      · rw [List.mem_singleton.mp hm]
        exact pn
      · show ((low (e - (2 + d) + 1) (2 + d)).1.natAbs + (low (e - (2 + d) + 1) (2 + d)).2.natAbs) * 1 ≤ 2 ^ 26
        have : (2 : Nat) ^ 26 = 67108864 := by decide
        omega
      · rintro rfl
        obtain ⟨cs, i, cur, m, e9, _⟩ := hp3
        rw [e4 _ _ e9] at nl
        cases nl
      · rintro rfl
        obtain ⟨cs, i, cur, m, _, e9, _⟩ := hp3
        rw [e4 _ _ e9] at nl
        cases nl
    · refine ⟨by show 0 ≤ sizeLine; decide, fun pl npl => ?_⟩
      have npl0 : H pl = none := by
        cases h9 : H pl with
        | none => rfl
        | some o =>
          by_cases z : pl = r
          · rw [z] at npl
            obtain ⟨cs, i, cur, m, e9, _⟩ := hp1
            rw [e9] at npl
            cases npl
          · rw [kp1 _ _ h9 z] at npl
            cases npl
      have plr : pl ≠ r := by
        rintro rfl
        obtain ⟨cs, i, cur, m, e9, _⟩ := hp1
        rw [e9] at npl
        cases npl
      have plc : pl ≠ c := by
        rintro rfl
        obtain ⟨cs, i, cur, m, _, e9, _⟩ := hp1
        rw [e9] at npl
        cases npl
      have el := ext1 (o := .lst ([] : List V)) npl
      refine ⟨_, rfl, r, c, 5, rfl, hp1.ext el, by decide, lg 5 (by decide), fun d H2 d0 d1 hp2 kp2 => ⟨_, _, rfl, rfl, .inl ⟨_, rfl, _, _, rfl, rfl, (show (5 : Int) ≠ 0 by decide), (d + 2).fmod 5, rfl, ?_⟩⟩⟩
      have f5 : (d + 2).fmod 5 = (d + 2) % 5 := Int.fmod_eq_emod_of_nonneg _ (by decide)
      rw [f5]
      have kp02 : Kp r H H2 := (kp1.ext el).trans kp2
      refine ⟨by omega, by omega, for_range (lo := 0) (n := ((d + 2) % 5).toNat) (fun i σ H3 => ∃ (ps : List (Int × Int)) (v2 v4 : Option V), σ = [some (.ref r), some (.int way), v2, some (.ref pl), v4] ∧ PoolAt H3 r c ∧ Kp r H H3 ∧ TL H3 pl ps ∧ (∀ p ∈ ps, Pn p) ∧ wt ps ≤ 18 ^ i ∧ ps.length = i)
        ⟨[], none, none, rfl, hp2, kp02, TL.kp ⟨[], upd_same, rfl, fun j x q hx => by simp at hx⟩ kp2 (hp1.ext el) plr, by simp, by decide, rfl⟩ ?_ ?_⟩
      · rintro i σ H3 hi ⟨ps, v2, v4, rfl, hp3, kp3, tl3, pn3, wt3, ln3⟩
        have i5 : i < 5 := by omega
        refine ⟨_, rfl, r, c, 8, rfl, hp3, by decide, lg 8 (by decide), fun d2 H4 d20 d21 hp4 kp4 => ⟨_, rfl, _, _, rfl, rfl, .inl ⟨_, rfl, _, _, rfl, rfl, (show (8 : Int) ≠ 0 by decide), _, _, rfl, rfl, ?_⟩⟩⟩
        have f8 : (d2 + (0 + (i : Int))).fmod 8 = (d2 + (0 + (i : Int))) % 8 := Int.fmod_eq_emod_of_nonneg _ (by decide)
        rw [f8]
        dsimp only
        obtain ⟨b, hb, b2, b9⟩ : ∃ b : Int, 2 + (d2 + (0 + (i : Int))) % 8 = b ∧ 2 ≤ b ∧ b ≤ 9 := ⟨_, rfl, by omega, by omega⟩
        rw [hb]
        have tl4 := tl3.kp kp4 hp3 plr
        obtain ⟨xs, x1, x2, x3⟩ := id tl4
        refine ⟨_, rfl, .inl ⟨rfl, _, SqL.of x1⟩, _, rfl, _, rfl, _, _, rfl, rfl, .inl ⟨by decide, by decide⟩, _, _, rfl, rfl, r, c, _, rfl, hp4, by omega, ?_, fun e H5 e0 e1 hp5 kp5 => ?_⟩
        · rw [show 2 * b - 1 = ((2 * b - 1).toNat : Int) by omega]
          exact lg _ (by omega)
        obtain ⟨pn, w1, w2⟩ := pn_low (t := e - b + 1) (b := b) (by omega) (by omega) (by omega) (by omega)
        refine ⟨_, rfl, _, _, rfl, rfl, _, _, rfl, rfl, _, rfl, _, _, rfl, by omega, bi27 (by omega), fun t H6 e6 ht => ?_⟩
        have tl6 := (tl4.kp kp5 hp4 plr).ext e6
        have x6 : H6 pl = some (.lst xs) := e6 _ _ (kp5 _ _ x1 plr)
        refine ⟨pl, xs, _, rfl, rfl, x6, small1000 (by omega), ?_⟩
        refine ⟨ps ++ [low (e - b + 1) b], _, _, rfl, ?_, ?_, tl6.snoc x6 ht, ?_, ?_, by rw [List.length_append, ln3]; rfl⟩
        · obtain ⟨cs, j, cur, m, q1, q2, q3, q4, q5, q6⟩ := hp5.ext e6
          exact ⟨cs, j, cur, m, by rw [upd_ne plr.symm]; exact q1, by rw [upd_ne plc.symm]; exact q2, q3, q4, q5, q6⟩
        · intro b2 o hb2 hne
          rw [upd_ne (ne_of_none hb2 npl0)]
          exact e6 _ _ ((kp3.trans (kp4.trans kp5)) _ _ hb2 hne)
        · intro p hm
          rcases List.mem_append.mp hm with z | z
          · exact pn3 p z
          · rw [List.mem_singleton.mp z]
            exact pn
        · rw [wt_snoc, Nat.pow_succ]
          exact Nat.mul_le_mul wt3 (by omega)
      · rintro σ H3 ⟨ps, v2, v4, rfl, hp3, kp3, tl3, pn3, wt3, ln3⟩
        exact ⟨_, rfl, k pl ps H3 hp3 kp3 tl3 ⟨pn3, Nat.le_trans wt3 (Nat.le_trans (Nat.pow_le_pow_right (by decide) (show ((d + 2) % 5).toNat ≤ 4 by omega)) (by decide)), by omega⟩ plr plc⟩
end
end Fx

set_option Elab.async false
set_option linter.all false
set_option maxRecDepth 100000
set_option maxHeartbeats 4000000
set_option exponentiation.threshold 20000
namespace Fx
open PySem PySem.Spec PyProof.Rows L2 FM KM
theorem bd26 {n : Int} (h : n.natAbs ≤ 2 ^ 26) : Bd n := Nat.lt_of_le_of_lt h (Nat.pow_lt_pow_right (by decide) (by decide))
theorem IL.cons0 {H : Hp} {l m : Addr} {xs : List V} {n : Nat} {f : Nat → Int} (h : IL H l n f) (hl : H l = some (.lst xs)) (nm : H m = none) : IL (upd H m (.lst ([V.int 0] ++ xs))) m (n + 1) (tmI f) := by
  obtain ⟨ys, h1, h2, h3⟩ := h
  rw [hl] at h1
  injection h1 with h1
  injection h1 with h1
  subst h1
  refine ⟨_, upd_same, by rw [List.length_append, h2]; show 1 + n = n + 1; omega, fun j x hx => ?_⟩
  cases j with
  | zero =>
    have : V.int 0 = x := by simpa using hx
    exact this.symm
  | succ j =>
    have : xs[j]? = some x := by simpa using hx
    exact h3 j x this
theorem IL.snoc0 {H : Hp} {l m : Addr} {xs : List V} {n : Nat} {f : Nat → Int} (h : IL H l n f) (hl : H l = some (.lst xs)) (nm : H m = none) (hz : f n = 0) : IL (upd H m (.lst (xs ++ [V.int 0]))) m (n + 1) f := by
  obtain ⟨ys, h1, h2, h3⟩ := h
  rw [hl] at h1
  injection h1 with h1
  injection h1 with h1
  subst h1
  refine ⟨_, upd_same, by rw [List.length_append, h2]; rfl, fun j x hx => ?_⟩
  by_cases hj : j < xs.length
  · rw [List.getElem?_append_left hj] at hx
    exact h3 j x hx
  · rw [List.getElem?_append_right (by omega)] at hx
    have e0 : j - xs.length = 0 := by
      have := (List.getElem?_eq_some_iff.mp hx).1
      simp at this
      omega
    rw [e0] at hx
    have ex : V.int 0 = x := by simpa using hx
    have ej : j = n := by omega
    rw [← ex, ej, hz]
theorem wt_drop {ps : List (Int × Int)} (h : ∀ p ∈ ps, Pn p) (k : Nat) : wt (ps.drop k) ≤ wt ps := by
  induction ps generalizing k with
  | nil => rw [List.drop_nil]; exact Nat.le_refl _
  | cons c cs ih =>
    cases k with
    | zero => exact Nat.le_refl _
    | succ k =>
      have a := ih (fun p hp => h p (List.mem_cons_of_mem _ hp)) k
      have b := (h c (List.mem_cons_self ..)).low.pos
      refine Nat.le_trans a ?_
      show wt cs ≤ (c.1.natAbs + c.2.natAbs) * wt cs
      exact Nat.le_mul_of_pos_left _ (by omega)
theorem ttup_of {t : TA} {σ : L2.St} {H : Hp} {Q : VK} (h : t σ H fun xs H1 => xs.length ≤ sizeLine ∧ ∀ p, H1 p = none → Q (.ref p) (L2.upd H1 p (.tup xs))) : tTup t σ H Q := h
def spQuo : Sp := fun vs H Q _ => ∃ l e ps, vs = [.ref l, .int e] ∧ TL H l ps ∧ (∀ p ∈ ps, Pn p) ∧ wt ps ≤ 2 ^ 26 ∧ ps.length ≤ 6 ∧ (e = 1 ∨ e = -1) ∧
  ∀ r rh rl hf lf H', Ext H H' → H' r = some (.tup [.ref rh, .ref rl]) → IL H' rh (ps.length + 1) hf → IL H' rl (ps.length + 1) lf → QuoP (ps.map val) (e : Rat) (ps.length + 1) hf lf → Q (.ref r) H'
section
variable {P : Program} {w : World} {K : PySem.W.Frag} {mg : Str → Option Value} {base : Heap} {A : Adr}
theorem scQuo : FnScope ["panes", "last", "high", "low", "p", "q", "more", "full", "many", "i", "part", "x"] ["panes", "last"] (defScope (top 37)) := ⟨rfl, rfl, rfl, by decide +kernel, rfl, by decide +kernel, by decide +kernel⟩
theorem ok_quo {f : Addr} {fd : FuncData} (F : Fun K "_law_quotient" "_law_quotient" (top 37) f fd) (hG : LF P w K mg base "_law_gcd" 1 ["one", "two"] spGcd) (le : mg "len" = none) (ra : mg "range" = none) : FnOk P w K mg base (L2.CX P w) 2 f fd ["panes", "last"] spQuo := by
  refine F.okX scQuo (fun vs H Q E h => ?_) (fun cdv AA outer s H vs Q E hr h => ?_)
  · obtain ⟨l, e, ps, rfl, _⟩ := h
    rfl
  · obtain ⟨l, e, ps, rfl, hl, pn, hw, l6, he, k⟩ := h
    obtain ⟨fG, gG, cG⟩ := hG
    obtain ⟨fdG, GG, bG⟩ := cG.ex
    refine ⟨_, (pss_cons (ps_set (i := 2) scQuo.nd rfl (Or.inl rfl) (pe_lst (pa_cons (pv 1) pa_nil)))
      (pss_cons (ps_set (i := 3) scQuo.nd rfl (Or.inl rfl) (pe_lst (pa_cons pe_int pa_nil)))
      (pss_cons (ps_for (passes_of rfl) rfl (pi_list (pe_revL (pv 0))) (pg_tup rfl (pgs_cons (pg_name (i := 4) scQuo.nd rfl (Or.inr rfl)) (pgs_cons (pg_name (i := 5) scQuo.nd rfl (Or.inr rfl)) pgs_nil))) (pss_cons (ps_set (i := 6) scQuo.nd rfl (Or.inr rfl) (pe_op op_cat (pe_lst (pa_cons pe_int pa_nil)) (pv 2)))
      (pss_cons (ps_set (i := 7) scQuo.nd rfl (Or.inr rfl) (pe_op op_cat (pv 3) (pe_lst (pa_cons pe_int pa_nil))))
      (pss_cons (ps_set (i := 8) scQuo.nd rfl (Or.inl rfl) (pe_callB call_len_seq (by rfl) le PySem.boot_len (pa_cons (pv 7) pa_nil)))
      (pss_cons (ps_setLc (i := 2) (own := [("i", 9)]) (g := gName 9) rfl scQuo.nd rfl rfl (sw_true rfl rfl rfl rfl) (pi_range1 rfl ra (pa_cons (pv 8) pa_nil)) (blkOk_by (own := [("i", 9)]) (N := ["panes", "last", "high", "low", "p", "q", "more", "full", "many", "i", "part", "x"]) (sc := defScope (top 37)) (by decide +kernel)) (fun _ _ _ _ _ => (pg_name (i := 9) scQuo.nd rfl (Or.inl rfl))) (fun _ _ _ _ _ => pts_nil) (fun _ _ _ _ _ => (pe_op L2.op_add (pe_op op_mulW (pv 4) (pe_ix (r := rIxL K) ix_list (pv 7) (pv 9) (fun _ _ => rfl))) (pe_op op_mulW (pv 5) (pe_ix (r := rIxL K) ix_list (pv 6) (pv 9) (fun _ _ => rfl))))))
      (pss_one (ps_setLc (i := 3) (own := [("i", 9)]) (g := gName 9) rfl scQuo.nd rfl rfl (sw_true rfl rfl rfl rfl) (pi_range1 rfl ra (pa_cons (pv 8) pa_nil)) (blkOk_by (own := [("i", 9)]) (N := ["panes", "last", "high", "low", "p", "q", "more", "full", "many", "i", "part", "x"]) (sc := defScope (top 37)) (by decide +kernel)) (fun _ _ _ _ _ => (pg_name (i := 9) scQuo.nd rfl (Or.inl rfl))) (fun _ _ _ _ _ => pts_nil) (fun _ _ _ _ _ => (pe_op L2.op_add (pe_op op_mulW (pv 5) (pe_ix (r := rIxL K) ix_list (pv 7) (pv 9) (fun _ _ => rfl))) (pe_op op_mulW (pv 4) (pe_ix (r := rIxL K) ix_list (pv 6) (pv 9) (fun _ _ => rfl))))))))))))
      (pss_cons (ps_set (i := 10) scQuo.nd rfl (Or.inr rfl) pe_int)
      (pss_cons (ps_for (passes_of rfl) rfl (pi_list (pe_op op_cat (pv 2) (pv 3))) (pg_name (i := 11) scQuo.nd rfl (Or.inl rfl)) (pss_one (ps_set (i := 10) scQuo.nd rfl (Or.inr rfl) (pe_call GG (hr.mono (by decide)) rfl gG cG.kp bG .nil (E := E0) passL (pa_cons (pv 10) (pa_cons (pv 11) pa_nil))))))
      (pss_one (ps_ret (pe_tup (pa_cons (pe_lc (own := [("x", 11)]) (g := gName 11) rfl scQuo.nd (pi_list (pv 2)) (blkOk_by (own := [("x", 11)]) (N := ["panes", "last", "high", "low", "p", "q", "more", "full", "many", "i", "part", "x"]) (sc := defScope (top 37)) (by decide +kernel)) (fun _ _ _ _ _ => (pg_name (i := 11) scQuo.nd rfl (Or.inl rfl))) (fun _ _ _ _ _ => pts_nil) (fun _ _ _ _ _ => (pe_op op_fdivZ (pv 11) (pv 10)))) (pa_cons (pe_lc (own := [("x", 11)]) (g := gName 11) rfl scQuo.nd (pi_list (pv 3)) (blkOk_by (own := [("x", 11)]) (N := ["panes", "last", "high", "low", "p", "q", "more", "full", "many", "i", "part", "x"]) (sc := defScope (top 37)) (by decide +kernel)) (fun _ _ _ _ _ => (pg_name (i := 11) scQuo.nd rfl (Or.inl rfl))) (fun _ _ _ _ _ => pts_nil) (fun _ _ _ _ _ => (pe_op op_fdivZ (pv 11) (pv 10)))) pa_nil)))))))))), ?_⟩
    obtain ⟨xs, x1, x2, x3⟩ := hl
    refine ⟨_, rfl, by show 1 ≤ sizeLine; decide, fun th nth => ?_⟩
    have e1 := ext1 (o := .lst [V.int e]) nth
    refine ⟨by show 1 ≤ sizeLine; decide, fun tl ntl => ?_⟩
    have e2 := ext1 (o := .lst [V.int 1]) ntl
    refine ⟨_, rfl, l, xs, rfl, SqL.of (e2 _ _ (e1 _ _ x1)), fun rv nrv => ?_⟩
    have e3 := ext1 (o := .lst xs.reverse) nrv
    have e03 := (e1.trans e2).trans e3
    refine ⟨rv, rfl, ⟨_, SqL.of upd_same⟩, for_list (K := K) (a := rv) (xs := xs.reverse) (fun i σ H2 => ∃ (hf lf : Nat → Int) (th tl : Addr) (v4 v5 v6 v7 v8 : Option V), σ = [some (.ref l), some (.int e), some (.ref th), some (.ref tl), v4, v5, v6, v7, v8, none, none, none] ∧ QI (ps.drop (ps.length - i)) e hf lf (wt (ps.drop (ps.length - i))) ∧ IL H2 th (i + 1) hf ∧ IL H2 tl (i + 1) lf ∧ Ext H H2 ∧ H2 rv = some (.lst xs.reverse))
      ⟨_, _, th, tl, none, none, none, none, none, rfl, by rw [Nat.sub_zero, List.drop_length]; exact qi_nil he, ⟨_, e3 _ _ (e2 _ _ upd_same), rfl, fun j x hx => ?_⟩, ⟨_, e3 _ _ upd_same, rfl, fun j x hx => ?_⟩, e03, upd_same⟩ (fun i σ H2 _ ⟨_, _, _, _, _, _, _, _, _, _, _, _, _, _, h9⟩ => SqL.of h9) ?_ ?_⟩
    · cases j with
      | zero =>
        have : V.int e = x := by simpa using hx
        exact this.symm
      | succ j => simp at hx
    · cases j with
      | zero =>
        have : V.int 1 = x := by simpa using hx
        exact this.symm
      | succ j => simp at hx
    · rintro i y σ H2 hi ⟨hf, lf, th, tl, v4, v5, v6, v7, v8, rfl, qi, ih, il, eH, hrv⟩
      have hil : i < ps.length := by
        have := (List.getElem?_eq_some_iff.mp hi).1
        rw [List.length_reverse] at this
        omega
      have hi2 : xs[ps.length - 1 - i]? = some y := by
        rw [List.getElem?_reverse (by omega), x2] at hi
        exact hi
      have hp2 : ps[ps.length - 1 - i]? = some (ps[ps.length - 1 - i]'(by omega)) := List.getElem?_eq_getElem (by omega)
      obtain ⟨a, rfl, ha⟩ := x3 _ y _ hi2 hp2
      have ed : ps.drop (ps.length - (i + 1)) = ps[ps.length - 1 - i]'(by omega) :: ps.drop (ps.length - i) := by
        rw [show ps.length - (i + 1) = ps.length - 1 - i by omega, List.drop_eq_getElem_cons (by omega)]
        congr 2
        omega
      have pnc := pn _ (List.getElem_mem (show ps.length - 1 - i < ps.length by omega))
      generalize ps[ps.length - 1 - i]'(by omega) = c at ha ed pnc
      refine ⟨a, _, rfl, SqT.of (eH _ _ ha), rfl, _, _, rfl, _, _, rfl, rfl, ?_⟩
      obtain ⟨hs, m1, m2, m3⟩ := id ih
      obtain ⟨ls, k1, k2, k3⟩ := id il
      have hW : wt (ps.drop (ps.length - i)) ≤ 2 ^ 26 := Nat.le_trans (wt_drop pn _) hw
      have bh : ∀ j, Bd (hf j) := fun j => bd26 (Nat.le_trans (qi.bh j) hW)
      have bl : ∀ j, Bd (lf j) := fun j => bd26 (Nat.le_trans (qi.bl j) hW)
      have bt : ∀ j, Bd (tmI hf j) := fun j => by
        cases j with
        | zero => unfold tmI Bd; exact Nat.two_pow_pos _
        | succ j => exact bh j
      have bc1 : Bd c.1 := pnc.okf.b1
      have bc2 : Bd c.2 := pnc.okf.b2
      refine ⟨by show 1 ≤ sizeLine; decide, fun q1 nq1 => ?_⟩
      have f1 := ext1 (o := .lst [V.int 0]) nq1
      refine ⟨_, rfl, q1, th, _, hs, rfl, rfl, upd_same, f1 _ _ m1, by rw [sizeLine_eq]; show 1 + hs.length ≤ _; omega, fun mr nmr => ?_⟩
      have fm := ext1 (o := .lst ([V.int 0] ++ hs)) nmr
      have hM := (ih.ext f1).cons0 (f1 _ _ m1) nmr
      refine ⟨_, rfl, by show 1 ≤ sizeLine; decide, fun q2 nq2 => ?_⟩
      have f2 := ext1 (o := .lst [V.int 0]) nq2
      have k1' := f2 _ _ (fm _ _ (f1 _ _ k1))
      refine ⟨tl, q2, ls, _, rfl, rfl, k1', upd_same, by rw [sizeLine_eq]; show ls.length + 1 ≤ _; omega, fun fr nfr => ?_⟩
      have ff := ext1 (o := .lst (ls ++ [V.int 0])) nfr
      have hz : lf (i + 1) = 0 := qi.zl _ (by rw [List.length_drop]; omega)
      have hF := (((il.ext f1).ext fm).ext f2).snoc0 k1' nfr hz
      have hM2 := (hM.ext f2).ext ff
      have eH2 := (((eH.trans f1).trans fm).trans f2).trans ff
      have hrv2 := ff _ _ (f2 _ _ (fm _ _ (f1 _ _ hrv)))
      obtain ⟨fs, n1, n2, n3⟩ := id hF
      have hN : ((ls ++ [V.int 0]).length : Int).toNat = i + 2 := by rw [List.length_append, k2]; show (((i + 1 + 1 : Nat)) : Int).toNat = _; omega
      refine ⟨_, rfl, fr, _, rfl, .inl (SqL.of upd_same), ?_⟩
      revert hM2 hF eH2 hrv2
      generalize upd _ fr (HO.lst (ls ++ [V.int 0])) = H5
      intro hF hM2 eH2 hrv2
      dsimp only [gName]
      refine tseq_of (t := tAsg (tLc _ _ _ _ _) (gName 2)) ?_
      refine tasg_of ?_
      refine tlc_1 (n := i + 2) (H1 := H5) (R := fun j x _ => x = .int (c.1 * lf j + c.2 * tmI hf j)) (walk_range (lo := 0) (n := i + 2)) (fun R r => ⟨_, rfl, _, rfl, by rw [List.length_append, k2]; show -(2 ^ 62 : Int) ≤ ((i + 1 + 1 : Nat) : Int); omega, by rw [List.length_append, k2]; show ((i + 1 + 1 : Nat) : Int) < 2 ^ 62; omega, by rw [hN]; exact r⟩) (fun _ _ _ _ _ h => h) (by rw [sizeLine_eq]; omega) (fun _ _ => trivial) (fun _ _ _ _ y => y.1) (show 9 < 12 by decide) ?_ ?_
      · rintro i2 x H6 τ Qy hi2 e6 ⟨_, rfl⟩ h9 ho k9
        have h4 : τ[4]? = some (some (V.int c.1)) := ho 4 (by decide)
        have h5 : τ[5]? = some (some (V.int c.2)) := ho 5 (by decide)
        have h6 : τ[6]? = some (some (V.ref mr)) := ho 6 (by decide)
        have h7 : τ[7]? = some (some (V.ref fr)) := ho 7 (by decide)
        obtain ⟨z1, a1, a2, a3⟩ := (hF.ext e6).get (K := K) hi2
        obtain ⟨z2, b1, b2, b3⟩ := (hM2.ext e6).get (K := K) hi2
        have z0 : (0 : Int) + (i2 : Int) = (i2 : Int) := by omega
        dsimp only at h9
        rw [z0] at h9
        exact ⟨_, h4, _, h7, _, h9, _, _, _, _, rfl, rfl, a1, a3, _, _, rfl, rfl, bc1.cm (bl i2), _, h5, _, h6, _, h9, _, _, _, _, rfl, rfl, b1, b3, _, _, rfl, rfl, bc2.cm (bt i2), _, _, rfl, rfl, k9 _ _ Ext.rfl' rfl⟩
      intro nh H7 e7 hnh
      dsimp only [gName]
      refine tasg_of ?_
      refine tlc_1 (n := i + 2) (H1 := H7) (R := fun j x _ => x = .int (c.2 * lf j + c.1 * tmI hf j)) (walk_range (lo := 0) (n := i + 2)) (fun R r => ⟨_, rfl, _, rfl, by rw [List.length_append, k2]; show -(2 ^ 62 : Int) ≤ ((i + 1 + 1 : Nat) : Int); omega, by rw [List.length_append, k2]; show ((i + 1 + 1 : Nat) : Int) < 2 ^ 62; omega, by rw [hN]; exact r⟩) (fun _ _ _ _ _ h => h) (by rw [sizeLine_eq]; omega) (fun _ _ => trivial) (fun _ _ _ _ y => y.1) (show 9 < 12 by decide) ?_ ?_
      · rintro i2 x H6 τ Qy hi2 e6 ⟨_, rfl⟩ h9 ho k9
        have h4 : τ[4]? = some (some (V.int c.1)) := ho 4 (by decide)
        have h5 : τ[5]? = some (some (V.int c.2)) := ho 5 (by decide)
        have h6 : τ[6]? = some (some (V.ref mr)) := ho 6 (by decide)
        have h7 : τ[7]? = some (some (V.ref fr)) := ho 7 (by decide)
        obtain ⟨z1, a1, a2, a3⟩ := ((hF.ext e7).ext e6).get (K := K) hi2
        obtain ⟨z2, b1, b2, b3⟩ := ((hM2.ext e7).ext e6).get (K := K) hi2
        have z0 : (0 : Int) + (i2 : Int) = (i2 : Int) := by omega
        dsimp only at h9
        rw [z0] at h9
        exact ⟨_, h5, _, h7, _, h9, _, _, _, _, rfl, rfl, a1, a3, _, _, rfl, rfl, bc2.cm (bl i2), _, h4, _, h6, _, h9, _, _, _, _, rfl, rfl, b1, b3, _, _, rfl, rfl, bc1.cm (bt i2), _, _, rfl, rfl, k9 _ _ Ext.rfl' rfl⟩
      intro nl H8 e8 hnl
      dsimp only [gName]
      refine ⟨_, _, nh, nl, _, _, _, _, _, rfl, by rw [ed]; exact qi_cons qi (KM.Low.ne pnc.low), ?_, ?_, (eH2.trans e7).trans e8, e8 _ _ (e7 _ _ hrv2)⟩
      · obtain ⟨ws, w1, w2, w3⟩ := hnh
        exact ⟨ws, e8 _ _ w1, w2, w3⟩
      · obtain ⟨ws, w1, w2, w3⟩ := hnl
        exact ⟨ws, w1, w2, w3⟩
    · rintro σ H2 ⟨hf, lf, th, tl, v4, v5, v6, v7, v8, rfl, qi, ih, il, eH, _⟩
      rw [List.length_reverse, x2] at ih il
      rw [List.length_reverse, x2, Nat.sub_self, List.drop_zero] at qi
      obtain ⟨hs, m1, m2, m3⟩ := id ih
      obtain ⟨ls, k1, k2, k3⟩ := id il
      have bI : ∀ z : Int, z.natAbs ≤ wt ps → Bi z := fun z hz => bi27 (Nat.lt_of_le_of_lt (Nat.le_trans hz hw) (by decide))
      have cf : ∃ cf : Nat → Int, (∀ (j : Nat) (x : V), (hs ++ ls)[j]? = some x → x = .int (cf j)) ∧ (∀ j, (cf j).natAbs ≤ wt ps) ∧ (∀ j, j < ps.length + 1 → cf j = hf j) ∧ ∀ j, cf (ps.length + 1 + j) = lf j := by
        refine ⟨fun j => if j < ps.length + 1 then hf j else lf (j - (ps.length + 1)), fun j x hx => ?_, fun j => ?_, fun j hj => if_pos hj, fun j => ?_⟩
        · dsimp only
          by_cases hj : j < ps.length + 1
          · rw [if_pos hj]
            rw [List.getElem?_append_left (by omega)] at hx
            exact m3 j x hx
          · rw [if_neg hj]
            rw [List.getElem?_append_right (by omega), m2] at hx
            exact k3 _ x hx
        · dsimp only
          split
          · exact qi.bh j
          · exact qi.bl _
        · dsimp only
          rw [if_neg (by omega), show ps.length + 1 + j - (ps.length + 1) = j by omega]
      obtain ⟨cf, c1, c2, c3, c4⟩ := cf
      refine ⟨_, rfl, _, rfl, th, tl, hs, ls, rfl, rfl, m1, k1, by rw [sizeLine_eq]; omega, fun cr ncr => ?_⟩
      have ec := ext1 (o := .lst (hs ++ ls)) ncr
      refine ⟨cr, rfl, ⟨_, SqL.of upd_same⟩, for_list (K := K) (a := cr) (xs := hs ++ ls) (fun i σ H3 => ∃ (g : Nat) (v11 : Option V), σ = [some (.ref l), some (.int e), some (.ref th), some (.ref tl), v4, v5, v6, v7, v8, none, some (.int (g : Int)), v11] ∧ Ext (upd H2 cr (.lst (hs ++ ls))) H3 ∧ ∀ j, j < i → (g : Int) ∣ cf j)
        ⟨0, none, rfl, Ext.rfl', fun j hj => absurd hj (by omega)⟩ (fun i σ H3 _ ⟨_, _, _, h9, _⟩ => SqL.of (h9 _ _ upd_same)) ?_ ?_⟩
      · rintro i y σ H3 hi ⟨g, v11, rfl, e3, hd⟩
        have hy := c1 i y hi
        subst hy
        refine ⟨_, rfl, _, rfl, (g : Int), cf i, rfl, bI _ (c2 i), Nat.gcd g (cf i).natAbs, some (V.int (cf i)), rfl, e3, fun j hj => ?_⟩
        · rcases Nat.lt_or_eq_of_le (Nat.le_of_lt_succ hj) with z | z
          · exact Int.dvd_trans (Int.ofNat_dvd.mpr (Nat.gcd_dvd_left _ _)) (hd j z)
          · rw [z]
            exact Int.dvd_trans (Int.ofNat_dvd.mpr (Nat.gcd_dvd_right _ _)) (Int.natAbs_dvd.mpr (Int.dvd_refl _))
      · rintro σ H3 ⟨g, v11, rfl, e3, hd⟩
        rw [List.length_append, m2, k2] at hd
        have l0 : lf 0 ≠ 0 := by
          obtain ⟨k, k0, _, h2⟩ := qi.ex
          have := h2 0
          rw [HL_L0] at this
          intro z
          rw [z] at this
          apply k0
          have e : ((0 : Int) : Rat) = 0 := rfl
          rw [e] at this
          grind
        have d0 : (g : Int) ∣ lf 0 := by
          have := hd (ps.length + 1 + 0) (by omega)
          rw [c4] at this
          exact this
        have g0 : (g : Int) ≠ 0 := fun z => by
          rw [z] at d0
          exact l0 (Int.zero_dvd.mp d0)
        have gl : (g : Int).natAbs.log2 < 9000 := (bI (g : Int) (by
          have := Nat.le_of_dvd (by omega) (Int.natAbs_dvd_natAbs.mpr d0)
          exact Nat.le_trans this (qi.bl 0))).log
        have ih3 := (ih.ext ec).ext e3
        have il3 := (il.ext ec).ext e3
        have eH3 := (eH.trans ec).trans e3
        have dh : ∀ j, (g : Int) ∣ hf j := fun j => by
          by_cases hj : j < ps.length + 1
          · rw [← c3 j hj]
            exact hd j (by omega)
          · rw [qi.zh j (by omega)]
            exact Int.dvd_zero _
        have dv : ∀ j, (g : Int) ∣ lf j := fun j => by
          by_cases hj : j < ps.length + 1
          · rw [← c4 j]
            exact hd _ (by omega)
          · rw [qi.zl j (by omega)]
            exact Int.dvd_zero _
        have hq := qi.quo hw g0 dh dv
        obtain ⟨hs', m1', m2', m3'⟩ := id ih3
        obtain ⟨ls', k1', k2', k3'⟩ := id il3
        dsimp only
        refine tret_of ?_
        refine ttup_of (tcons_of ?_)
        refine tlc_1 (n := hs'.length) (H1 := H3) (R := fun j x _ => x = .int ((hf j).fdiv (g : Int))) (walk_list (K := K) (a := th) (xs := hs')) (fun R r => ⟨_, rfl, th, rfl, ⟨hs', SqL.of m1'⟩, r⟩) (fun _ _ _ _ _ h => h) (by rw [sizeLine_eq]; omega) (fun H4 e4 => SqL.of (e4 _ _ m1')) (fun _ _ _ _ y => y.1) (show 11 < 12 by decide) ?_ ?_
        · rintro i2 x H6 τ Qy hi2 e6 ⟨_, hx⟩ h11 ho k9
          have h10 : τ[10]? = some (some (V.int (g : Int))) := ho 10 (by decide)
          have hx2 := m3' i2 x hx
          subst hx2
          exact ⟨_, h11, _, h10, _, _, rfl, rfl, ⟨g0, gl⟩, k9 _ _ Ext.rfl' rfl⟩
        intro nh H7 e7 hnh
        refine tcons_of ?_
        refine tlc_1 (n := ls'.length) (H1 := H7) (R := fun j x _ => x = .int ((lf j).fdiv (g : Int))) (walk_list (K := K) (a := tl) (xs := ls')) (fun R r => ⟨_, rfl, tl, rfl, ⟨ls', SqL.of (e7 _ _ k1')⟩, r⟩) (fun _ _ _ _ _ h => h) (by rw [sizeLine_eq]; omega) (fun H4 e4 => SqL.of (e4 _ _ (e7 _ _ k1'))) (fun _ _ _ _ y => y.1) (show 11 < 12 by decide) ?_ ?_
        · rintro i2 x H6 τ Qy hi2 e6 ⟨_, hx⟩ h11 ho k9
          have h10 : τ[10]? = some (some (V.int (g : Int))) := ho 10 (by decide)
          have hx2 := k3' i2 x hx
          subst hx2
          exact ⟨_, h11, _, h10, _, _, rfl, rfl, ⟨g0, gl⟩, k9 _ _ Ext.rfl' rfl⟩
        intro nl H8 e8 hnl
        refine ⟨by show 2 ≤ sizeLine; decide, fun r nr => ?_⟩
        have er := ext1 (o := .tup [.ref nh, .ref nl]) nr
        obtain ⟨ws, w1, w2, w3⟩ := hnh
        obtain ⟨us, u1, u2, u3⟩ := hnl
        exact k r nh nl _ _ _ (((eH3.trans e7).trans e8).trans er) upd_same ⟨ws, er _ _ (e8 _ _ w1), by rw [w2, m2'], w3⟩ ⟨us, er _ _ u1, by rw [u2, k2'], u3⟩ hq
end
end Fx

set_option Elab.async false
set_option linter.all false
set_option maxRecDepth 100000
set_option maxHeartbeats 4000000
set_option exponentiation.threshold 20000
namespace Fx
open PySem PySem.Spec PyProof.Rows L2 FM KM
theorem IL.upd {H : Hp} {l p : Addr} {n : Nat} {f : Nat → Int} {o : HO} (h : IL H l n f) (ne : l ≠ p) : IL (upd H p o) l n f := let ⟨xs, h1, h2, h3⟩ := h; ⟨xs, by rw [upd_ne ne]; exact h1, h2, h3⟩
theorem TL.upd {H : Hp} {l p : Addr} {ps : List (Int × Int)} {xs ys : List V} (h : TL H l ps) (hp : H p = some (.lst xs)) (ne : l ≠ p) : TL (upd H p (.lst ys)) l ps := let ⟨zs, h1, h2, h3⟩ := h; ⟨zs, by rw [upd_ne ne]; exact h1, h2, fun j x q hx hq => let ⟨a, e1, e2⟩ := h3 j x q hx hq; ⟨a, e1, e2.l (ExtL.upd hp)⟩⟩
theorem IL.app {H : Hp} {l : Addr} {n : Nat} {f : Nat → Int} {xs : List V} {v : Int} (h : IL H l n f) (hl : H l = some (.lst xs)) (hv : v = f n) : IL (L2.upd H l (.lst (xs ++ [V.int v]))) l (n + 1) f := by
  obtain ⟨ys, h1, h2, h3⟩ := h
  rw [hl] at h1
  injection h1 with h1
  injection h1 with h1
  subst h1
  refine ⟨_, upd_same, by rw [List.length_append, h2]; rfl, fun j x hx => ?_⟩
  by_cases hj : j < xs.length
  · rw [List.getElem?_append_left hj] at hx
    exact h3 j x hx
  · rw [List.getElem?_append_right (by omega)] at hx
    have e0 : j - xs.length = 0 := by
      have := (List.getElem?_eq_some_iff.mp hx).1
      simp at this
      omega
    rw [e0] at hx
    have ex : V.int v = x := by simpa using hx
    have ej : j = n := by omega
    rw [← ex, ej, hv]
theorem IL.cong {H : Hp} {l : Addr} {n : Nat} {f g : Nat → Int} (h : IL H l n f) (e : ∀ j, j < n → f j = g j) : IL H l n g := let ⟨xs, h1, h2, h3⟩ := h; ⟨xs, h1, h2, fun j x hx => by
  rw [h3 j x hx, e j]
  have := (List.getElem?_eq_some_iff.mp hx).1
  omega⟩
theorem ext_up {H H' : Hp} {p : Addr} {o : HO} (e : Ext H H') (hp : H p = none) : Ext H (L2.upd H' p o) := fun b u hb => by
  rw [upd_ne (ne_of_none hb hp)]
  exact e _ _ hb
theorem pow_nz {a : Int} (h : a ≠ 0) (k : Nat) : a ^ k ≠ 0 := by
  induction k with
  | zero => rw [Int.pow_zero]; decide
  | succ k ih => rw [Int.pow_succ]; exact Int.mul_ne_zero ih h
/-- the numbers of a series as they are told -/
structure Told (s : Sq) (qs : List (Int × Int)) : Prop where
  t : ∀ (j : Nat) (q : Int × Int), qs[j]? = some q → Low q ∧ val q = s j ∧ q.1.natAbs ≤ 2 ^ (64 * (j + 1)) ∧ q.2.natAbs ≤ 2 ^ (26 * (j + 1))
structure GL (a b : Nat) (qs : List (Int × Int)) : Prop where
  ex : ∃ D M : Nat, 0 < D ∧ D ≤ 2 ^ a ∧ M ≤ 2 ^ b ∧ ∀ q ∈ qs, Rep D M (val q)
theorem rep_pow {us : Int} {x : Rat} {l : Int} {j c : Nat} (hj : j < c) (hl : l.natAbs ≤ 2 ^ 26) (hu : (us : Rat) = x * ((l ^ (j + 1) : Int) : Rat)) (hb : us.natAbs ≤ 2 ^ (64 * (j + 1))) : Rep (l ^ c).natAbs (2 ^ (64 * c)) x := by
  have e : l ^ c = l ^ (j + 1) * l ^ (c - (j + 1)) := by
    rw [← Int.pow_add]
    congr 1
    omega
  have bd : (us * l ^ (c - (j + 1))).natAbs ≤ 2 ^ (64 * c) := by
    rw [Int.natAbs_mul]
    refine Nat.le_trans (Nat.mul_le_mul hb (pow_le hl _)) ?_
    rw [← Nat.pow_add]
    exact Nat.pow_le_pow_right (by decide) (by omega)
  have v : x * ((l ^ c : Int) : Rat) = ((us * l ^ (c - (j + 1)) : Int) : Rat) := by
    rw [e]
    push_cast at hu ⊢
    rw [hu]
    grind
  have k : ∀ g : Int, ((g.natAbs : Nat) : Int) = g ∨ ((g.natAbs : Nat) : Int) = -g := fun g => by omega
  rcases k (l ^ c) with z | z
  · refine ⟨us * l ^ (c - (j + 1)), ?_, bd⟩
    have z' : (((l ^ c).natAbs : Nat) : Rat) = ((l ^ c : Int) : Rat) := by exact_mod_cast congrArg (fun y : Int => (y : Rat)) z
    rw [z', v]
  · refine ⟨-(us * l ^ (c - (j + 1))), ?_, by rw [Int.natAbs_neg]; exact bd⟩
    have z' : (((l ^ c).natAbs : Nat) : Rat) = ((-(l ^ c) : Int) : Rat) := by exact_mod_cast congrArg (fun y : Int => (y : Rat)) z
    rw [z', Rat.intCast_neg, Rat.intCast_neg, ← v]
    grind
theorem gl_of {qs : List (Int × Int)} {s : Sq} {us : Nat → Int} {l : Int} {c : Nat} (l0 : l ≠ 0) (hl : l.natAbs ≤ 2 ^ 26) (lq : qs.length = c) (td : ∀ (j : Nat) (q : Int × Int), qs[j]? = some q → val q = s j) (hu : ∀ j, j < c → (us j : Rat) = s j * ((l ^ (j + 1) : Int) : Rat) ∧ (us j).natAbs ≤ 2 ^ (64 * (j + 1))) : GL (26 * c) (64 * c) qs := by
  refine ⟨(l ^ c).natAbs, 2 ^ (64 * c), Nat.pos_of_ne_zero (Int.natAbs_ne_zero.mpr (pow_nz l0 c)), pow_le hl c, Nat.le_refl _, fun q hq => ?_⟩
  obtain ⟨j, hj⟩ := List.getElem?_of_mem hq
  have jc : j < c := by
    have := (List.getElem?_eq_some_iff.mp hj).1
    omega
  rw [td j q hj]
  exact rep_pow jc hl (hu j jc).1 (hu j jc).2
def spSer : Sp := fun vs H Q _ => ∃ rh rl c n hf lf cs e, vs = [.ref rh, .ref rl, .int (c : Nat)] ∧ IL H rh n hf ∧ IL H rl n lf ∧ QuoP cs e n hf lf ∧ 0 < n ∧ n ≤ 7 ∧ c ≤ 10 ∧ ∀ l qs s H', Ext H H' → TL H' l qs → qs.length = c → Ec cs e s → Told s qs → GL (26 * c) (64 * c) qs → Q (.ref l) H'
section
variable {P : Program} {w : World} {K : PySem.W.Frag} {mg : Str → Option Value} {base : Heap} {A : Adr}
theorem scSer : FnScope ["high", "low", "count", "powers", "ups", "told", "k", "total", "j", "part"] ["high", "low", "count"] (defScope (top 38)) := ⟨rfl, rfl, rfl, by decide +kernel, rfl, by decide +kernel, by decide +kernel⟩
theorem ok_ser {f : Addr} {fd : FuncData} (F : Fun K "_law_series" "_law_series" (top 38) f fd) (hL : LF P w K mg base "_law_low" 2 ["top", "bottom"] spLowK) (le : mg "len" = none) (ra : mg "range" = none) : FnOk P w K mg base (L2.CX P w) 3 f fd ["high", "low", "count"] spSer := by
  refine F.okX scSer (fun vs H Q E h => ?_) (fun cdv AA outer s H vs Q E hr h => ?_)
  · obtain ⟨rh, rl, c, n, hf, lf, cs, e, rfl, _⟩ := h
    rfl
  · obtain ⟨rh, rl, c, n, hf, lf, cs, e, rfl, ih, il, qp, n0, n7, c10, kk⟩ := h
    obtain ⟨fL, gL, cL⟩ := hL
    obtain ⟨fdL, GL, bL⟩ := cL.ex
    refine ⟨_, (pss_cons (ps_set (i := 3) scSer.nd rfl (Or.inl rfl) (pe_lst (pa_cons pe_int pa_nil)))
      (pss_cons (ps_set (i := 4) scSer.nd rfl (Or.inl rfl) (pe_lst pa_nil))
      (pss_cons (ps_set (i := 5) scSer.nd rfl (Or.inl rfl) (pe_lst pa_nil))
      (pss_cons (ps_for (passes_of rfl) rfl (pi_range1 rfl ra (pa_cons (pv 2) pa_nil)) (pg_name (i := 6) scSer.nd rfl (Or.inl rfl)) (pss_cons (ps_expr (pe_bm PySem.F.plainAttrs_list PySem.F.slot_list_append PySem.F.type_list_append mt_append (pv 3) (pa_cons (pe_op op_mulW (pe_ix ix_list (pv 3) (pv 6) (fun _ _ => rfl)) (pe_ix ix_list (pv 1) pe_int (fun _ _ => rfl))) pa_nil)))
      (pss_cons (ps_set (i := 7) scSer.nd rfl (Or.inl rfl) pe_int)
      (C8.pss_cut (ps_if (pt_cmpR L2.op_lt (pv 6) (pe_callB call_len_seq (by rfl) le PySem.boot_len (pa_cons (pv 0) pa_nil)) (nomark _)) (pss_one (ps_set (i := 7) scSer.nd rfl (Or.inl rfl) (pe_op op_mulW (pe_ix ix_list (pv 0) (pv 6) (fun _ _ => rfl)) (pe_ix ix_list (pv 3) (pv 6) (fun _ _ => rfl))))) pss_nil)
      (pss_cons (ps_for (passes_of rfl) rfl (pi_range2 rfl ra (pa_cons pe_int (pa_cons (pe_callB call_len_seq (by rfl) le PySem.boot_len (pa_cons (pv 1) pa_nil)) pa_nil))) (pg_name (i := 8) scSer.nd rfl (Or.inl rfl)) (pss_one (ps_if (PW.pt (pw_and (pt_cmpR L2.op_le (pv 8) (pv 6) (nomark _)) (pw_and1 (pt_cmpR L2.op_ne (pe_ix ix_list (pv 1) (pv 8) (fun _ _ => rfl)) pe_int (nomark _))))) (pss_cons (ps_set (i := 9) scSer.nd rfl (Or.inl rfl) (pe_op op_mulW (pe_ix ix_list (pv 1) (pv 8) (fun _ _ => rfl)) (pe_ix ix_list (pv 3) (pe_op L2.op_sub (pv 8) pe_int) (fun _ _ => rfl))))
      (pss_one (ps_set (i := 7) scSer.nd rfl (Or.inl rfl) (pe_op L2.op_sub (pv 7) (pe_op op_mulW (pv 9) (pe_ix ix_list (pv 4) (pe_op L2.op_sub (pv 6) (pv 8)) (fun _ _ => rfl))))))) pss_nil)))
      (pss_cons (ps_expr (pe_bm PySem.F.plainAttrs_list PySem.F.slot_list_append PySem.F.type_list_append mt_append (pv 4) (pa_cons (pv 7) pa_nil)))
      (pss_one (ps_expr (pe_bm PySem.F.plainAttrs_list PySem.F.slot_list_append PySem.F.type_list_append mt_append (pv 5) (pa_cons (pe_call GL (hr.mono (by decide)) rfl gL cL.kp bL .nil (E := E0) passL (pa_cons (pv 7) (pa_cons (pe_ix ix_list (pv 3) (pe_op L2.op_add (pv 6) pe_int) (fun _ _ => rfl)) pa_nil))) pa_nil))))))))))
      (pss_one (ps_ret (pv 5))))))), ?_⟩
    have l0 := qp.l0
    have l0R : ((lf 0 : Int) : Rat) ≠ 0 := cast_ne l0
    obtain ⟨sr, hsr⟩ := ser_ex (f := fun j => (lf j : Rat)) (h := fun j => (hf j : Rat)) l0R
    have ec := qp.ec hsr
    refine ⟨by show 1 ≤ sizeLine; decide, fun rp nrp => ⟨by show 0 ≤ sizeLine; decide, fun ru nru => ⟨by show 0 ≤ sizeLine; decide, fun rt nrt => ?_⟩⟩⟩
    have e1 := ext1 (o := .lst [V.int 1]) nrp
    have e2 := ext1 (o := .lst ([] : List V)) nru
    have e3 := ext1 (o := .lst ([] : List V)) nrt
    have n_ru : H ru = none := by
      cases h9 : H ru with
      | none => rfl
      | some o => rw [e1 _ _ h9] at nru; cases nru
    have n_rt : H rt = none := by
      cases h9 : H rt with
      | none => rfl
      | some o => rw [e2 _ _ (e1 _ _ h9)] at nrt; cases nrt
    have dpu : rp ≠ ru := ne_of_none upd_same nru
    have dpt : rp ≠ rt := ne_of_none (e2 _ _ upd_same) nrt
    have dut : ru ≠ rt := ne_of_none upd_same nrt
    have z0 : ∀ i : Nat, (0 : Int) + (i : Int) = (i : Int) := fun i => by omega
    refine ⟨_, rfl, c, rfl, by omega, by omega, for_range (lo := 0) (n := c) (fun k σ H2 => ∃ (us : Nat → Int) (qs : List (Int × Int)) (v6 v7 v8 v9 : Option V), σ = [some (.ref rh), some (.ref rl), some (.int (c : Nat)), some (.ref rp), some (.ref ru), some (.ref rt), v6, v7, v8, v9] ∧ Ext H H2 ∧ IL H2 rp (k + 1) (fun i => lf 0 ^ i) ∧ IL H2 ru k us ∧ TL H2 rt qs ∧ qs.length = k ∧ Told sr qs ∧
        ∀ j, j < k → (us j : Rat) = sr j * ((lf 0 ^ (j + 1) : Int) : Rat) ∧ (us j).natAbs ≤ 2 ^ (64 * (j + 1)))
      ⟨fun _ => 0, [], none, none, none, none, rfl, (e1.trans e2).trans e3, ⟨_, e3 _ _ (e2 _ _ upd_same), rfl, fun j x hx => ?_⟩, ⟨_, e3 _ _ upd_same, rfl, fun j x hx => by simp at hx⟩, ⟨_, upd_same, rfl, fun j x q hx => by simp at hx⟩, rfl, ⟨fun j q hq => by simp at hq⟩, fun j hj => absurd hj (by omega)⟩ ?_ ?_⟩
    · cases j with
      | zero =>
        have : V.int 1 = x := by simpa using hx
        rw [← this]
        show V.int 1 = V.int (lf 0 ^ 0)
        rw [Int.pow_zero]
      | succ j => simp at hx
    · rintro k σ H2 hk ⟨us, qs, v6, v7, v8, v9, rfl, eH, ip, iu, tt, lq, td, hu⟩
      rw [z0]
      have ih2 := ih.ext eH
      have il2 := il.ext eH
      obtain ⟨xp, xp1, xp2, xp3⟩ := id ip
      obtain ⟨zp, p1, p2, p3⟩ := ip.get (K := K) (show k < k + 1 by omega)
      obtain ⟨zl, q1, q2, q3⟩ := il2.get (K := K) n0
      have bp : ∀ i, i ≤ 11 → Bd (lf 0 ^ i) := fun i hi => Nat.lt_of_le_of_lt (pow_le (qp.bl 0) i) (Nat.pow_lt_pow_right (by decide) (by omega))
      refine ⟨_, rfl, .inl ⟨rfl, _, SqL.of xp1⟩, _, rfl, _, rfl, _, _, _, _, rfl, rfl, p1, p3, _, rfl, _, _, _, _, rfl, rfl, q1, q3, _, _, rfl, rfl, (bp k (by omega)).cm (bd26 (qp.bl 0)), rp, xp, _, rfl, rfl, xp1, small1000 (by omega), ?_⟩
      have ip3 := ip.app xp1 (show lf 0 ^ k * lf 0 = lf 0 ^ (k + 1) from (Int.pow_succ (lf 0) k).symm)
      have iu3 : IL (upd H2 rp (.lst (xp ++ [V.int (lf 0 ^ k * lf 0)]))) ru k us := iu.upd dpu.symm
      have tt3 : TL (upd H2 rp (.lst (xp ++ [V.int (lf 0 ^ k * lf 0)]))) rt qs := tt.upd xp1 dpt.symm
      have eH3 : Ext H (upd H2 rp (.lst (xp ++ [V.int (lf 0 ^ k * lf 0)]))) := ext_up eH nrp
      revert ip3 iu3 tt3 eH3
      generalize upd H2 rp (.lst (xp ++ [V.int (lf 0 ^ k * lf 0)])) = H3
      intro ip3 iu3 tt3 eH3
      have ih3 := ih.ext eH3
      have il3 := il.ext eH3
      obtain ⟨hs, h1, h2, h3⟩ := id ih3
      obtain ⟨ls, l1, l2, l3⟩ := id il3
      refine ⟨fun σ H4 => H4 = H3 ∧ σ = [some (.ref rh), some (.ref rl), some (.int (c : Nat)), some (.ref rp), some (.ref ru), some (.ref rt), some (.int (k : Int)), some (.int (hf k * lf 0 ^ k)), v8, v9], ?_, ?_⟩
      · refine ⟨_, rfl, _, rfl, rh, hs, rfl, .inl (SqL.of h1), _, _, rfl, rfl, _, rfl, if_D (fun hlt => ?_) (fun hge => ?_)⟩
        · have kn : k < n := by omega
          obtain ⟨a0, a1, a2, a3⟩ := ih3.get (K := K) kn
          obtain ⟨b0, b1, b2, b3⟩ := ip3.get (K := K) (show k < k + 1 + 1 by omega)
          exact ⟨_, rfl, _, rfl, _, _, _, _, rfl, rfl, a1, a3, _, rfl, _, rfl, _, _, _, _, rfl, rfl, b1, b3, _, _, rfl, rfl, (bd26 (qp.bh k)).cm (bp k (by omega)), rfl, rfl⟩
        · have kn : n ≤ k := by omega
          refine ⟨rfl, ?_⟩
          rw [qp.zh k kn, Int.zero_mul]
          rfl
      rintro σ H4 ⟨rfl, rfl⟩
      have tt0 : tms (fun j => (lf j : Rat)) sr k 0 = 0 := by
        unfold tms
        rw [if_neg (by omega)]
      have b64 : ∀ i, i < 7 → (i + 1) * 2 ^ (64 * k + 26) ≤ 2 ^ (64 * (k + 1)) := fun i hi => by
        rw [show 64 * (k + 1) = (64 * k + 26) + 38 by omega, Nat.pow_add (m := 64 * k + 26), Nat.mul_comm]
        exact Nat.mul_le_mul_left _ (Nat.le_trans (by omega : i + 1 ≤ 8) (by decide))
      have hk2 : k ≤ 9 := by omega
      have bd64 : ∀ {z : Int} {m : Nat}, z.natAbs ≤ 2 ^ m → m ≤ 1000 → Bd z := fun h hm => Nat.lt_of_le_of_lt h (Nat.pow_lt_pow_right (by decide) (by omega))
      refine ⟨_, rfl, rl, ls, rfl, .inl (SqL.of l1), 1, (ls.length : Nat), rfl, by omega, for_range (lo := 1) (n := ((ls.length : Int) - 1).toNat) (fun i σ H5 => H5 = H4 ∧ ∃ (tot : Int) (v8 v9 : Option V), σ = [some (.ref rh), some (.ref rl), some (.int (c : Nat)), some (.ref rp), some (.ref ru), some (.ref rt), some (.int (k : Int)), some (.int tot), v8, v9] ∧
          tot.natAbs ≤ (i + 1) * 2 ^ (64 * k + 26) ∧ (tot : Rat) = (hf k : Rat) * ((lf 0 ^ k : Int) : Rat) - ((lf 0 ^ k : Int) : Rat) * sumR (i + 1) (tms (fun j => (lf j : Rat)) sr k))
        ⟨rfl, hf k * lf 0 ^ k, v8, v9, rfl, ?_, ?_⟩ ?_ ?_⟩
      · rw [Int.natAbs_mul, Nat.zero_add, Nat.one_mul, show 64 * k + 26 = 26 + 64 * k by omega, Nat.pow_add]
        exact Nat.mul_le_mul (qp.bh k) (Nat.le_trans (pow_le (qp.bl 0) k) (Nat.pow_le_pow_right (by decide) (by omega)))
      · show ((hf k * lf 0 ^ k : Int) : Rat) = _ - _ * (tms _ sr k 0 + 0)
        rw [tt0]
        push_cast
        grind
      · rintro i σ H5 hi ⟨rfl, tot, v8, v9, rfl, hb, hv⟩
        have i7 : i < 6 := by omega
        have hin : 1 + i < n := by omega
        have z1 : (1 : Int) + (i : Int) = ((1 + i : Nat) : Int) := by omega
        rw [z1]
        have grow : ∀ {z : Int}, z.natAbs ≤ (i + 1) * 2 ^ (64 * k + 26) → z.natAbs ≤ (i + 1 + 1) * 2 ^ (64 * k + 26) := fun h => Nat.le_trans h (Nat.mul_le_mul_right _ (by omega))
        have ss : sumR (i + 1 + 1) (tms (fun j => (lf j : Rat)) sr k) = sumR (i + 1) (tms (fun j => (lf j : Rat)) sr k) + tms (fun j => (lf j : Rat)) sr k (i + 1) := sumR_last _ _
        refine ⟨_, rfl, _, rfl, _, _, rfl, rfl, _, rfl, if_D (fun hjk => ?_) (fun hjk => iteF ?_)⟩
        · have jk : 1 + i ≤ k := by omega
          have tj : tms (fun j => (lf j : Rat)) sr k (i + 1) = (lf (1 + i) : Rat) * sr (k - (1 + i)) := by
            unfold tms
            rw [if_pos (by omega), Nat.add_comm i 1]
          obtain ⟨a0, a1, a2, a3⟩ := il3.get (K := K) hin
          refine ⟨_, rfl, _, rfl, _, _, _, _, rfl, rfl, a1, a3, rfl, _, rfl, if_ND (fun hz => ?_) (fun hz => ?_)⟩
          · obtain ⟨b0, b1, b2, b3⟩ := ip3.get (K := K) (show i < k + 1 + 1 by omega)
            obtain ⟨c0, c1, c2, c3⟩ := iu3.get (K := K) (show k - (1 + i) < k by omega)
            obtain ⟨u1, u2⟩ := hu (k - (1 + i)) (by omega)
            have b3' : atI b0 (((1 + i : Nat) : Int) - 1) = some (V.int (lf 0 ^ i)) := by
              rw [show ((1 + i : Nat) : Int) - 1 = (i : Int) by omega]
              exact b3
            have c3' : atI c0 ((k : Int) - ((1 + i : Nat) : Int)) = some (V.int (us (k - (1 + i)))) := by
              rw [show (k : Int) - ((1 + i : Nat) : Int) = ((k - (1 + i) : Nat) : Int) by omega]
              exact c3
            have m1 : (lf (1 + i) * lf 0 ^ i).natAbs ≤ 2 ^ (26 + 26 * i) := by
              rw [Int.natAbs_mul, Nat.pow_add]
              exact Nat.mul_le_mul (qp.bl _) (pow_le (qp.bl 0) i)
            have tl : (lf (1 + i) * lf 0 ^ i * us (k - (1 + i))).natAbs ≤ 2 ^ (64 * k + 26) := term_le (j := 1 + i) (qp.bl _) (by rw [show 1 + i - 1 = i by omega]; exact pow_le (qp.bl 0) i) u2 (by omega) jk
            refine ⟨_, rfl, _, rfl, _, _, _, _, rfl, rfl, a1, a3, _, rfl, _, rfl, _, _, rfl, rfl, _, _, _, _, rfl, rfl, b1, b3', _, _, rfl, rfl, (bd26 (qp.bl _)).cm (bp i (by omega)), ?_⟩
            refine ⟨_, rfl, _, rfl, _, rfl, _, rfl, _, rfl, _, _, rfl, rfl, _, _, _, _, rfl, rfl, c1, c3', _, _, rfl, rfl, (bd64 m1 (by omega)).cm (bd64 u2 (by omega)), _, _, rfl, rfl, ?_⟩
            refine ⟨rfl, _, _, _, rfl, ?_, ?_⟩
            · have := Nat.add_le_add hb tl
              rw [show (i + 1 + 1) * 2 ^ (64 * k + 26) = (i + 1) * 2 ^ (64 * k + 26) + 2 ^ (64 * k + 26) by rw [Nat.add_mul (i + 1) 1, Nat.one_mul]]
              omega
            · rw [ss, tj]
              have pe : ((lf 0 ^ k : Int) : Rat) = ((lf 0 ^ i : Int) : Rat) * ((lf 0 ^ (k - (1 + i) + 1) : Int) : Rat) := by
                have : lf 0 ^ k = lf 0 ^ i * lf 0 ^ (k - (1 + i) + 1) := by
                  rw [← Int.pow_add]
                  congr 1
                  omega
                rw [this]
                push_cast
                rfl
              push_cast at hv ⊢
              push_cast at u1 pe
              rw [hv, u1]
              grind
          · injection hz with hz
            refine ⟨rfl, tot, _, _, rfl, grow hb, ?_⟩
            rw [ss, tj, hz, hv]
            have e : ((0 : Int) : Rat) = 0 := rfl
            rw [e]
            grind
        · refine ⟨rfl, tot, _, _, rfl, grow hb, ?_⟩
          have tj : tms (fun j => (lf j : Rat)) sr k (i + 1) = 0 := by
            unfold tms
            rw [if_neg (by omega)]
          rw [ss, tj, hv]
          grind
      · rintro σ H5 ⟨rfl, tot, v8, v9, rfl, hb, hv⟩
        have hn1 : ((ls.length : Int) - 1).toNat + 1 = n := by omega
        rw [hn1] at hb hv
        have tb : tot.natAbs ≤ 2 ^ (64 * (k + 1)) := by
          have := b64 (n - 1) (by omega)
          rw [show n - 1 + 1 = n by omega] at this
          exact Nat.le_trans hb this
        have hs2 : (tot : Rat) = sr k * ((lf 0 ^ (k + 1) : Int) : Rat) := by
          have cv := hsr k
          rw [conv_tms (m := n) (fun j hj => by show ((lf j : Int) : Rat) = 0; rw [qp.zl j hj]; rfl)] at cv
          rw [hv, ← cv, pow_rat]
          grind
        have pnz : lf 0 ^ (k + 1) ≠ 0 := pow_nz l0 _
        obtain ⟨xu, xu1, xu2, xu3⟩ := id iu3
        refine ⟨_, rfl, .inl ⟨rfl, _, SqL.of xu1⟩, _, rfl, ru, xu, _, rfl, rfl, xu1, small1000 (by omega), ?_⟩
        have iu6 := (iu3.cong (g := fun j => if j = k then tot else us j) (fun j hj => (if_neg (by omega)).symm)).app (v := tot) xu1 (if_pos rfl).symm
        have ip6 : IL (upd H5 ru (.lst (xu ++ [V.int tot]))) rp (k + 1 + 1) (fun i => lf 0 ^ i) := ip3.upd dpu
        have tt6 : TL (upd H5 ru (.lst (xu ++ [V.int tot]))) rt qs := tt3.upd xu1 dut.symm
        have eH6 : Ext H (upd H5 ru (.lst (xu ++ [V.int tot]))) := ext_up eH3 n_ru
        revert iu6 ip6 tt6 eH6
        generalize upd H5 ru (.lst (xu ++ [V.int tot])) = H6
        intro iu6 ip6 tt6 eH6
        obtain ⟨xt, xt1, xt2, xt3⟩ := id tt6
        obtain ⟨b0, b1, b2, b3⟩ := ip6.get (K := K) (show k + 1 < k + 1 + 1 by omega)
        have b3' : atI b0 ((k : Int) + 1) = some (V.int (lf 0 ^ (k + 1))) := b3
        refine ⟨_, rfl, .inl ⟨rfl, _, SqL.of xt1⟩, _, rfl, _, rfl, _, rfl, _, _, rfl, rfl, _, _, _, _, rfl, rfl, b1, b3', tot, _, rfl, pnz, ?_, fun t H7 e7 ht => ?_⟩
        · exact Nat.lt_of_le_of_lt (pow_le (qp.bl 0) _) (Nat.pow_lt_pow_right (by decide) (by omega))
        refine ⟨rt, xt, _, rfl, rfl, e7 _ _ xt1, small1000 (by omega), ?_⟩
        refine ⟨_, qs ++ [low tot (lf 0 ^ (k + 1))], _, _, _, _, rfl, ext_up (eH6.trans e7) n_rt, (ip6.ext e7).upd dpt, (iu6.ext e7).upd dut, (tt6.ext e7).snoc (e7 _ _ xt1) ht, by rw [List.length_append, lq]; rfl, ⟨fun j q hq => ?_⟩, fun j hj => ?_⟩
        · by_cases hj : j < qs.length
          · rw [List.getElem?_append_left hj] at hq
            exact td.t j q hq
          · rw [List.getElem?_append_right (by omega)] at hq
            have e0 : j - qs.length = 0 := by
              have := (List.getElem?_eq_some_iff.mp hq).1
              simp at this
              omega
            rw [e0] at hq
            have eq : low tot (lf 0 ^ (k + 1)) = q := by simpa using hq
            have ej : j = k := by omega
            subst eq ej
            refine ⟨low_low pnz, ?_, Nat.le_trans (low_le1 pnz) tb, Nat.le_trans (low_le2 pnz) (pow_le (qp.bl 0) _)⟩
            have := cast_ne pnz
            rw [val_low pnz, hs2]
            grind
        · by_cases e : j = k
          · rw [if_pos e, e]
            exact ⟨hs2, tb⟩
          · rw [if_neg e]
            exact hu j (by omega)
    · rintro σ H2 ⟨us, qs, v6, v7, v8, v9, rfl, eH, ip, iu, tt, lq, td, hu⟩
      exact ⟨_, rfl, kk rt qs sr H2 eH tt lq ec td (gl_of l0 (qp.bl 0) lq (fun j q hj => (td.t j q hj).2.1) hu)⟩
end
end Fx

set_option Elab.async false
set_option linter.all false
set_option maxRecDepth 100000
set_option maxHeartbeats 4000000
set_option exponentiation.threshold 20000
namespace Fx
open PySem PySem.Spec PyProof.Rows L2 FM KM
def spEcho : Sp := fun vs H Q _ => ∃ l e ps m, vs = [.ref l, .int e, .int (m : Nat)] ∧ TL H l ps ∧ (∀ p ∈ ps, Pn p) ∧ wt ps ≤ 2 ^ 26 ∧ ps.length ≤ 6 ∧ (e = 1 ∨ e = -1) ∧ m ≤ 9 ∧
  ∀ r q s H', Ext H H' → TupAt H' r q → Ec (ps.map val) (e : Rat) s → Low q → val q = s m → q.1.natAbs ≤ 2 ^ (64 * (m + 1)) → q.2.natAbs ≤ 2 ^ (26 * (m + 1)) → Q (.ref r) H'
theorem TL.get {K : PySem.W.Frag} {H : Hp} {l : Addr} {ps : List (Int × Int)} (h : TL H l ps) {j : Nat} {q : Int × Int} (hq : ps[j]? = some q) : ∃ xs a, SqL K H l xs ∧ xs.length = ps.length ∧ atI xs (j : Int) = some (V.ref a) ∧ TupAt H a q := by
  obtain ⟨xs, h1, h2, h3⟩ := h
  have hj : j < xs.length := by
    have := (List.getElem?_eq_some_iff.mp hq).1
    omega
  have e5 : xs[j]? = some xs[j] := List.getElem?_eq_getElem hj
  obtain ⟨a, e1, e2⟩ := h3 j _ q e5 hq
  exact ⟨xs, a, SqL.of h1, h2, atI_nat (by rw [e5, e1]), e2⟩
theorem PT.get {K : PySem.W.Frag} {A : Adr} {H : Hp} {l : Addr} {ps : List (Int × Int)} (h : PT A H l ps) {j : Nat} {q : Int × Int} (hq : ps[j]? = some q) : ∃ xs a, SqT K H l xs ∧ xs.length = ps.length ∧ atI xs (j : Int) = some (V.ref a) ∧ FracAt A.C H a q := by
  obtain ⟨xs, h1, h2, h3⟩ := h
  have hj : j < xs.length := by
    have := (List.getElem?_eq_some_iff.mp hq).1
    omega
  have e5 : xs[j]? = some xs[j] := List.getElem?_eq_getElem hj
  obtain ⟨a, e1, e2⟩ := h3 j _ q e5 hq
  exact ⟨xs, a, SqT.of h1, h2, atI_nat (by rw [e5, e1]), e2⟩
theorem PT.ext {A : Adr} {H H' : Hp} {l : Addr} {ps : List (Int × Int)} (h : PT A H l ps) (e : Ext H H') : PT A H' l ps := let ⟨xs, h1, h2, h3⟩ := h; ⟨xs, e _ _ h1, h2, fun j x q hx hq => let ⟨a, e1, e2⟩ := h3 j x q hx hq; ⟨a, e1, e2.ext e⟩⟩
/-- a list of numbers -/
def LN (A : Adr) (H : Hp) (l : Addr) (qs : List (Int × Int)) : Prop := ∃ ys : List V, H l = some (.lst ys) ∧ NumsAt A H ys qs
theorem LN.ext {A : Adr} {H H' : Hp} {l : Addr} {qs : List (Int × Int)} (h : LN A H l qs) (e : Ext H H') : LN A H' l qs := let ⟨ys, h1, h2⟩ := h; ⟨ys, e _ _ h1, h2.ext e⟩
theorem eqv_tt (a b : Int) : PyData.eqv (.tuple [.int a, .int b]) (.tuple [.int a, .int b]) = true := by simp [PyData.eqv, PyData.eqvAll]
theorem dp_tup {K : PySem.W.Frag} {H : Hp} {a : Addr} {q : Int × Int} (h : TupAt H a q) : Dp K H (.ref a) (.tuple [.int q.1, .int q.2]) := .tup (SqT.of h) (.cons (.int _) (.cons (.int _) .nil))
section
variable {J : It} {n : Nat} {G : Hp → Prop} {Y : Nat → Hp → V → Hp → Prop} {g : TG} {te : TE} {vs : List Nat} {σ : L2.St} {H H1 : Hp} {Q : VK} {R : Nat → V → Hp → Prop} {wi : TI}
theorem tlc_f {i1 : Nat} (w : Walk J n G Y) (hw : ∀ R, R J H1 → wi σ H R) (mo : MoL R) (hn : n ≤ sizeLine) (hG : ∀ H, Ext H1 H → G H) (hY : ∀ i H x H', Y i H x H' → H' = H) (l1 : i1 < σ.length)
    (step : ∀ i x H (τ : L2.St) (Qy : VK), i < n → Ext H1 H → Y i H x H → τ[i1]? = some (some x) → (∀ k, k ≠ i1 → τ[k]? = σ[k]?) → (∀ y H4, Ext H H4 → R i y H4 → Qy y H4) → te τ H Qy)
    (hd : ∀ D H', H1 D = none → Ext H1 H' → LR R H' D n → Q (.ref D) H') : tLc wi (gName i1) tYes te [i1] σ H Q := by
  refine hw _ fun D nD => ?_
  obtain ⟨W, h1, h2⟩ := tlc_1 (wi := fun _ H R => H = H1 → R J H) (Q := fun v H' => v = .ref D → Q v H') w (fun R r _ => r) mo hn hG hY l1 step (fun D' H' e l z => by injection z with z; subst z; exact hd D' H' nD e l) rfl D nD
  exact ⟨W, h1, fun i m H hw => (h2 i m H hw).imp (fun ⟨a, b⟩ => ⟨a, b rfl⟩) id⟩
end
def spRow (A : Adr) : Sp := fun vs H Q _ => ∃ t d qs, vs = [.ref t, .ref d, .bl true] ∧ PT A H t qs ∧ TL H d qs ∧ (∀ q ∈ qs, Low q ∧ Bi q.2) ∧ qs.length ≤ 60 ∧ ∀ H', Ext H H' → Q (.bl true) H'
def spStay (A : Adr) : Sp := fun vs H Q _ => ∃ l d qs, vs = [.ref l, .ref d] ∧ LN A H l qs ∧ TL H d qs ∧ (∀ q ∈ qs, Low q ∧ Bi q.2) ∧ qs.length ≤ 60 ∧ ∀ H', Ext H H' → Q (.bl true) H'
def spNbs (A : Adr) : Sp := fun vs H Q _ => ∃ l qs n, vs = [.ref l, .int n] ∧ TL H l qs ∧ (∀ q ∈ qs, Low q ∧ Bi q.2) ∧ qs.length ≤ 60 ∧ ∀ r H', Ext H H' → H r = none → LN A H' r qs → Q (.ref r) H'
theorem num_l {A : Adr} {H H' : Hp} {v : V} {q : Int × Int} (h : Num A H v q) (e : ExtL H H') : Num A H' v q := h.elim (fun ⟨b, e1, f⟩ => .inl ⟨b, e1, f.l e⟩) .inr
section
variable {P : Program} {w : World} {K : PySem.W.Frag} {mg : Str → Option Value} {base : Heap} {A : Adr}
theorem scEcho : FnScope ["panes", "last", "at", "high", "low"] ["panes", "last", "at"] (defScope (top 40)) := ⟨rfl, rfl, rfl, by decide +kernel, rfl, by decide +kernel, by decide +kernel⟩
theorem ok_echo {f : Addr} {fd : FuncData} (F : Fun K "_law_echo" "_law_echo" (top 40) f fd) (hQ : LF P w K mg base "_law_quotient" 2 ["panes", "last"] spQuo) (hS : LF P w K mg base "_law_series" 3 ["high", "low", "count"] spSer) : FnOk P w K mg base (L2.CX P w) 4 f fd ["panes", "last", "at"] spEcho := by
  refine F.okX scEcho (fun vs H Q E h => ?_) (fun cdv AA outer s H vs Q E hr h => ?_)
  · obtain ⟨l, e, ps, m, rfl, _⟩ := h
    rfl
  · obtain ⟨l, e, ps, m, rfl, hl, pn, hw, l6, he, m9, k⟩ := h
    obtain ⟨fQ, gQ, cQ⟩ := hQ
    obtain ⟨fdQ, GQ, bQ⟩ := cQ.ex
    obtain ⟨fS, gS, cS⟩ := hS
    obtain ⟨fdS, GS, bS⟩ := cS.ex
    refine ⟨_, (pss_cons (ps_asg (pe_call GQ (hr.mono (by decide)) rfl gQ cQ.kp bQ .nil (E := E0) passL (pa_cons (pv 0) (pa_cons (pv 1) pa_nil))) (pg_tup rfl (pgs_cons (pg_name (i := 3) scEcho.nd rfl (Or.inl rfl)) (pgs_cons (pg_name (i := 4) scEcho.nd rfl (Or.inl rfl)) pgs_nil))))
      (pss_one (ps_ret (pe_ix ix_list (pe_call GS (hr.mono (by decide)) rfl gS cS.kp bS .nil (E := E0) passL (pa_cons (pv 3) (pa_cons (pv 4) (pa_cons (pe_op L2.op_add (pv 2) pe_int) pa_nil)))) (pv 2) (fun _ _ => rfl))))), ?_⟩
    refine ⟨_, rfl, _, rfl, l, e, ps, rfl, hl, pn, hw, l6, he, fun r rh rl hf lf H1 e1 hr1 ih il qp => ?_⟩
    refine ⟨r, _, rfl, SqT.of hr1, rfl, _, _, rfl, _, _, rfl, rfl, ?_⟩
    have mm : (m : Int) + 1 = ((m + 1 : Nat) : Int) := by omega
    refine ⟨_, rfl, _, rfl, _, rfl, _, _, rfl, rfl, ?_⟩
    dsimp only [tNil]
    rw [mm]
    refine ⟨rh, rl, m + 1, _, hf, lf, _, _, rfl, ih, il, qp, by omega, by omega, by omega, fun l2 qs s2 H2 e2 ht hq ec td _ => ?_⟩
    have hm : qs[m]? = some (qs[m]'(by omega)) := List.getElem?_eq_getElem (by omega)
    obtain ⟨xs, a, t1, t2, t3, t4⟩ := ht.get (K := K) hm
    obtain ⟨d1, d2, d3, d4⟩ := td.t m _ hm
    exact ⟨_, rfl, _, _, _, _, rfl, rfl, t1, t3, k a _ s2 H2 (e1.trans e2) t4 ec d1 d2 d3 d4⟩
theorem scRow : FnScope ["told", "due", "tied", "k"] ["told", "due", "tied"] (defScope (top 33)) := ⟨rfl, rfl, rfl, by decide +kernel, rfl, by decide +kernel, by decide +kernel⟩
theorem ok_row {f : Addr} {fd : FuncData} (F : Fun K "_law_row" "_law_row" (top 33) f fd) (hP : LF P w K mg base "_law_pair" 2 ["told"] (spPr A)) (isi : mg "isinstance" = none) (tu : mg "tuple" = none) (li : mg "list" = none) (le : mg "len" = none) (ra : mg "range" = none) : FnOk P w K mg base (L2.CX P w) 3 f fd ["told", "due", "tied"] (spRow A) := by
  refine F.okX scRow (fun vs H Q E h => ?_) (fun cdv AA outer s H vs Q E hr h => ?_)
  · obtain ⟨t, d, qs, rfl, _⟩ := h
    rfl
  · obtain ⟨t, d, qs, rfl, ht, hd, lo, l60, k⟩ := h
    obtain ⟨fP, gP, cP⟩ := hP
    obtain ⟨fdP, GP, bP⟩ := cP.ex
    refine ⟨_, (pss_cons (ps_if (PW.pt (pw_or (PW.pt (pw_and (pt_val (pv 2)) (pw_and1 (pt_not (pt_val (pe_callB call_isi (by rfl) isi boot_isi (pa_cons (pv 0) (pa_cons (pe_bltn (v := .ty "tuple") (by rfl) tu boot_tuple rfl) pa_nil)))))))) (pw_or1 (PW.pt (pw_and (pt_not (pt_val (pv 2))) (pw_and1 (pt_not (pt_val (pe_callB call_isi (by rfl) isi boot_isi (pa_cons (pv 0) (pa_cons (pe_bltn (v := .ty "list") (by rfl) li boot_list rfl) pa_nil))))))))))) (pss_one (ps_ret pe_bl)) pss_nil)
      (pss_cons (ps_if (pt_cmpR L2.op_ne (pe_callB call_len_seq (by rfl) le PySem.boot_len (pa_cons (pv 0) pa_nil)) (pe_callB call_len_seq (by rfl) le PySem.boot_len (pa_cons (pv 1) pa_nil)) (nomark _)) (pss_one (ps_ret pe_bl)) pss_nil)
      (pss_cons (ps_for (passes_of rfl) rfl (pi_range1 rfl ra (pa_cons (pe_callB call_len_seq (by rfl) le PySem.boot_len (pa_cons (pv 1) pa_nil)) pa_nil)) (pg_name (i := 3) scRow.nd rfl (Or.inl rfl)) (pss_one (ps_if (pt_cmpR (op_neD hr.units) (pe_call GP (hr.mono (by decide)) rfl gP cP.kp bP .nil (E := E0) passL (pa_cons (pe_ix ix_tup (pv 0) (pv 3) (fun _ _ => rfl)) pa_nil)) (pe_ix ix_list (pv 1) (pv 3) (fun _ _ => rfl)) (nomark _)) (pss_one (ps_ret pe_bl)) pss_nil)))
      (pss_one (ps_ret pe_bl))))), ?_⟩
    obtain ⟨xs, x1, x2, x3⟩ := id ht
    obtain ⟨ys, y1, y2, y3⟩ := id hd
    refine ⟨_, rfl, _, rfl, iteT ⟨_, rfl, _, _, _, _, true, rfl, .ty "tuple", .base (.tup x1), kit_ty (by decide +kernel), _, rfl, iteF ⟨_, rfl, _, rfl, iteF (iteF ?_)⟩⟩⟩
    refine ⟨_, rfl, t, xs, rfl, .inr (SqT.of x1), _, rfl, d, ys, rfl, .inl (SqL.of y1), rfl, _, rfl, if_ND (fun h9 => absurd (by rw [x2, y2]) h9) (fun _ => ?_)⟩
    refine ⟨_, rfl, d, ys, rfl, .inl (SqL.of y1), (ys.length : Nat), rfl, by omega, by omega, for_range (lo := 0) (n := ((ys.length : Nat) : Int).toNat) (fun i σ H2 => Ext H H2 ∧ ∃ v, σ = [some (.ref t), some (.ref d), some (.bl true), v]) ⟨Ext.rfl', none, rfl⟩ ?_ ?_⟩
    · rintro i σ H2 hi ⟨e2, v, rfl⟩
      have hil : i < qs.length := by omega
      have hq : qs[i]? = some qs[i] := List.getElem?_eq_getElem hil
      obtain ⟨zs, a, t1, t2, t3, t4⟩ := (ht.ext e2).get (K := K) hq
      have z0 : (0 : Int) + (i : Int) = (i : Int) := by omega
      rw [z0]
      obtain ⟨l1, l2⟩ := lo _ (List.getElem_mem hil)
      refine ⟨_, rfl, _, rfl, _, _, _, _, rfl, rfl, t1, t3, a, qs[i], rfl, t4, l1, l2, fun r H3 e3 hr3 => ?_⟩
      obtain ⟨us, b, u1, u2, u3, u4⟩ := ((hd.ext e2).ext e3).get (K := K) hq
      refine ⟨_, rfl, _, rfl, _, _, _, _, rfl, rfl, u1, u3, _, _, dp_tup hr3, dp_tup u4, rfl, rfl, _, rfl, ?_⟩
      rw [eqv_tt]
      exact iteF ⟨e2.trans e3, _, rfl⟩
    · rintro σ H2 ⟨e2, v, rfl⟩
      exact k H2 e2
theorem scStay : FnScope ["passed", "pairs", "k"] ["passed", "pairs"] (defScope (top 35)) := ⟨rfl, rfl, rfl, by decide +kernel, rfl, by decide +kernel, by decide +kernel⟩
theorem ok_stay {f : Addr} {fd : FuncData} (F : Fun K "_law_stayed" "_law_stayed" (top 35) f fd) (hP : LF P w K mg base "_law_pair" 2 ["told"] (spPr A)) (hW : LF P w K mg base "_law_whole" 1 ["x"] (spWh A)) (le : mg "len" = none) (ra : mg "range" = none) : FnOk P w K mg base (L2.CX P w) 3 f fd ["passed", "pairs"] (spStay A) := by
  refine F.okX scStay (fun vs H Q E h => ?_) (fun cdv AA outer s H vs Q E hr h => ?_)
  · obtain ⟨l, d, qs, rfl, _⟩ := h
    rfl
  · obtain ⟨l, d, qs, rfl, hl, hd, lo, l60, k⟩ := h
    obtain ⟨fP, gP, cP⟩ := hP
    obtain ⟨fdP, GP, bP⟩ := cP.ex
    obtain ⟨fW, gW, cW⟩ := hW
    obtain ⟨fdW, GW, bW⟩ := cW.ex
    refine ⟨_, (pss_cons (ps_if (pt_cmpR L2.op_ne (pe_callB call_len_seq (by rfl) le PySem.boot_len (pa_cons (pv 0) pa_nil)) (pe_callB call_len_seq (by rfl) le PySem.boot_len (pa_cons (pv 1) pa_nil)) (nomark _)) (pss_one (ps_ret pe_bl)) pss_nil)
      (pss_cons (ps_for (passes_of rfl) rfl (pi_range1 rfl ra (pa_cons (pe_callB call_len_seq (by rfl) le PySem.boot_len (pa_cons (pv 1) pa_nil)) pa_nil)) (pg_name (i := 2) scStay.nd rfl (Or.inl rfl)) (pss_one (ps_if (pt_val (pe_call GW (hr.mono (by decide)) rfl gW cW.kp bW .nil (E := E0) passL (pa_cons (pe_ix ix_list (pv 0) (pv 2) (fun _ _ => rfl)) pa_nil))) (pss_one (ps_if (pt_cmpR (op_neD hr.units) (pe_tup (pa_cons (pe_ix ix_list (pv 0) (pv 2) (fun _ _ => rfl)) (pa_cons pe_int pa_nil))) (pe_ix ix_list (pv 1) (pv 2) (fun _ _ => rfl)) (nomark _)) (pss_one (ps_ret pe_bl)) pss_nil)) (pss_one (ps_if (pt_cmpR (op_neD hr.units) (pe_call GP (hr.mono (by decide)) rfl gP cP.kp bP .nil (E := E0) passL (pa_cons (pe_ix ix_list (pv 0) (pv 2) (fun _ _ => rfl)) pa_nil)) (pe_ix ix_list (pv 1) (pv 2) (fun _ _ => rfl)) (nomark _)) (pss_one (ps_ret pe_bl)) pss_nil)))))
      (pss_one (ps_ret pe_bl)))), ?_⟩
    obtain ⟨xs, x1, x2⟩ := id hl
    obtain ⟨ys, y1, y2, y3⟩ := id hd
    refine ⟨_, rfl, l, xs, rfl, .inl (SqL.of x1), _, rfl, d, ys, rfl, .inl (SqL.of y1), rfl, _, rfl, if_ND (fun h9 => absurd (by rw [x2.1, y2]) h9) (fun _ => ?_)⟩
    refine ⟨_, rfl, d, ys, rfl, .inl (SqL.of y1), (ys.length : Nat), rfl, by omega, by omega, for_range (lo := 0) (n := ((ys.length : Nat) : Int).toNat) (fun i σ H2 => Ext H H2 ∧ ∃ v, σ = [some (.ref l), some (.ref d), v]) ⟨Ext.rfl', none, rfl⟩ ?_ ?_⟩
    · rintro i σ H2 hi ⟨e2, v, rfl⟩
      have hil : i < qs.length := by omega
      have hq : qs[i]? = some qs[i] := List.getElem?_eq_getElem hil
      have z0 : (0 : Int) + (i : Int) = (i : Int) := by omega
      rw [z0]
      obtain ⟨l1, l2⟩ := lo _ (List.getElem_mem hil)
      have hx : i < xs.length := by rw [x2.1]; exact hil
      have hx2 : xs[i]? = some xs[i] := List.getElem?_eq_getElem hx
      have hn := (x2.2 i _ _ hx2 hq).ext e2
      have sx : SqL K H2 l xs := SqL.of (e2 _ _ x1)
      have ax : atI xs (i : Int) = some xs[i] := atI_nat hx2
      generalize xs[i] = xv at hn ax
      rcases hn with ⟨a, rfl, hf⟩ | ⟨rfl, h1⟩
      · refine ⟨_, rfl, _, rfl, _, _, _, _, rfl, rfl, sx, ax, .inr ⟨a, _, rfl, hf, _, rfl, iteF ?_⟩⟩
        refine ⟨_, rfl, _, rfl, _, _, _, _, rfl, rfl, sx, ax, a, qs[i], rfl, hf, l1, l2, fun r H3 e3 hr3 => ?_⟩
        obtain ⟨us, b, u1, u2, u3, u4⟩ := ((hd.ext e2).ext e3).get (K := K) hq
        refine ⟨_, rfl, _, rfl, _, _, _, _, rfl, rfl, u1, u3, _, _, dp_tup hr3, dp_tup u4, rfl, rfl, _, rfl, ?_⟩
        rw [eqv_tt]
        exact iteF ⟨e2.trans e3, _, rfl⟩
      · refine ⟨_, rfl, _, rfl, _, _, _, _, rfl, rfl, sx, ax, .inl ⟨_, rfl, _, rfl, iteT ?_⟩⟩
        refine ⟨_, rfl, _, rfl, _, _, _, _, rfl, rfl, sx, ax, by show 2 ≤ sizeLine; decide, fun r nr => ?_⟩
        have e3 := ext1 (o := .tup [.int qs[i].1, .int 1]) nr
        obtain ⟨us, b, u1, u2, u3, u4⟩ := ((hd.ext e2).ext e3).get (K := K) hq
        have hr3 : TupAt (upd H2 r (.tup [.int qs[i].1, .int 1])) r qs[i] := by
          show _ = some (HO.tup [.int qs[i].1, .int qs[i].2])
          rw [h1]
          exact upd_same
        refine ⟨_, rfl, _, rfl, _, _, _, _, rfl, rfl, u1, u3, _, _, dp_tup hr3, dp_tup u4, rfl, rfl, _, rfl, ?_⟩
        rw [eqv_tt]
        exact iteF ⟨e2.trans e3, _, rfl⟩
    · rintro σ H2 ⟨e2, v, rfl⟩
      exact k H2 e2
theorem scNbs : FnScope ["pairs", "way", "pair"] ["pairs", "way"] (defScope (top 36)) := ⟨rfl, rfl, rfl, by decide +kernel, rfl, by decide +kernel, by decide +kernel⟩
theorem ok_nbs {f : Addr} {fd : FuncData} (F : Fun K "_law_numbers" "_law_numbers" (top 36) f fd) (hN : LF P w K mg base "_law_number" 3 ["pair", "way"] (spNu A)) : FnOk P w K mg base (L2.CX P w) 4 f fd ["pairs", "way"] (spNbs A) := by
  refine F.okX scNbs (fun vs H Q E h => ?_) (fun cdv AA outer s H vs Q E hr h => ?_)
  · obtain ⟨l, qs, n, rfl, _⟩ := h
    rfl
  · obtain ⟨l, qs, n, rfl, hl, lo, l60, k⟩ := h
    obtain ⟨fN, gN, cN⟩ := hN
    obtain ⟨fdN, GN, bN⟩ := cN.ex
    refine ⟨_, (pss_one (ps_ret (pe_lc (own := [("pair", 2)]) (g := gName 2) rfl scNbs.nd (pi_list (pv 0)) (blkOk_by (own := [("pair", 2)]) (N := ["pairs", "way", "pair"]) (sc := defScope (top 36)) (by decide +kernel)) (fun _ _ _ _ _ => (pg_name (i := 2) scNbs.nd rfl (Or.inl rfl))) (fun _ _ _ _ _ => pts_nil) (fun _ _ _ _ _ => (pe_call GN (hr.mono (by decide)) rfl gN cN.kp bN .nil (E := E0) passL (pa_cons (pv 2) (pa_cons (pv 1) pa_nil))))))), ?_⟩
    obtain ⟨xs, x1, x2, x3⟩ := hl
    refine tret_of ?_
    refine tlc_f (n := xs.length) (H1 := H) (R := fun j x H => ∀ q, qs[j]? = some q → Num A H x q) (walk_list (K := K) (a := l) (xs := xs)) (fun R r => ⟨_, rfl, l, rfl, ⟨xs, SqL.of x1⟩, r⟩) (fun _ _ _ _ e h q hq => num_l (h q hq) e) (by rw [sizeLine_eq]; omega) (fun H4 e4 => SqL.of (e4 _ _ x1)) (fun _ _ _ _ y => y.1) (show 2 < 3 by decide) ?_ ?_
    · rintro i x H6 τ Qy hi e6 ⟨_, hx⟩ h2 ho k9
      have hq : qs[i]? = some (qs[i]'(by omega)) := List.getElem?_eq_getElem (by omega)
      obtain ⟨a, rfl, ha⟩ := x3 i x _ hx hq
      have h1 : τ[1]? = some (some (V.int n)) := ho 1 (by decide)
      obtain ⟨l1, l2⟩ := lo _ (List.getElem_mem (show i < qs.length by omega))
      exact ⟨_, h2, _, h1, a, _, n, rfl, e6 _ _ ha, l1, l2, fun v H7 e7 hn => k9 v H7 e7 fun q hq' => by rw [hq] at hq'; injection hq' with hq'; rw [← hq']; exact hn⟩
    intro D H2 nD e2 hD
    obtain ⟨ys, y1, y2, y3⟩ := hD
    exact k D H2 e2 nD ⟨ys, y1, y2.trans x2, fun i y q hy hq => y3 i y hy q hq⟩
end
end Fx

set_option Elab.async false
set_option linter.all false
set_option maxRecDepth 100000
set_option maxHeartbeats 4000000
set_option exponentiation.threshold 20000
namespace Fx
open PySem PySem.Spec PyProof.Rows L2 FM KM LamX
/-- the classes of the errors that may come -/
structure ER (K : PySem.W.Frag) (mg : Str → Option Value) (N B Wb : Addr) : Prop where
  gN : mg "NoEcho" = some (.ref N)
  gB : mg "BadCount" = some (.ref B)
  gW : mg "WebError" = some (.ref Wb)
  ve : mg "ValueError" = none
  eN : ExcC K N
  eB : ExcC K B
  nB : PySem.W.kitOne K (.ref N) (.ref B) = some false
  nW : PySem.W.kitOne K (.ref N) (.ref Wb) = some true
  nV : PySem.W.kitOne K (.ref N) (.type "ValueError") = some true
  bN : PySem.W.kitOne K (.ref B) (.ref N) = some false
  bW : PySem.W.kitOne K (.ref B) (.ref Wb) = some true
  bV : PySem.W.kitOne K (.ref B) (.type "ValueError") = some true
  xN : PySem.W.exmOne K (.ref N) (.ref N) = some true
  xBN : PySem.W.exmOne K (.ref B) (.ref N) = some false
  xB : PySem.W.exmOne K (.ref B) (.ref B) = some true
  fN : XfC K N
  fB : XfC K B
  iN : PySem.W.findIn K (.ref N) "index" = some none
  iB : PySem.W.findIn K (.ref B) "count" = some none
/-- a def that is called while an exception is handled, with its promise -/
structure CalZ (P : Program) (w : World) (K : PySem.W.Frag) (mg : Str → Option Value) (base : Heap) (k : Nat) (f : Addr) (ps : List Str) (sp : Addr → Value → Option Addr → Sp) : Prop where
  ex : ∃ fd, FnZ P w K mg base k f fd ps sp ∧ Binds K fd ps []
  kp : PySem.W.keepIn K (.ref f) = true
theorem roomH_mark {k : Nat} {A : Around} {v : Option Value} (r : Room k A) : L2H.RoomH k (A.mark v) := ⟨r.dp, r.un⟩
theorem boot_VE : bootBuiltins "ValueError" = some (.type "ValueError") := by decide +kernel
theorem takes_len {X : Cx} {W : WX} (tk : Takes X W) : Takes X (fun cls d σ H => σ.length = X.N.length → W cls d σ H) := fun u s' ⟨a, B, sI, pins, σ, H, cls, d, e, I, nb, up, sky, na, os, ag, w⟩ =>
  tk u s' ⟨a, B, sI, pins, σ, H, cls, d, e, I, nb, up, sky, na, os, ag, w I.len⟩
def EW (n : Nat) (W : WX) : XK := fun cls d H => ∀ σ : L2.St, σ.length = n → W cls d σ H
/-- what a clause's suite tells: the word and the error's number -/
def tsWord (C : Addr) (fld word : Str) : Addr → Value → Option Addr → TS := fun a cls d D σ H => cls = .ref C ∧ ∃ dd i, d = some dd ∧ H dd = some (.xd [(fld, .int i)]) ∧ σ[2]? = some (some (.ref a)) ∧ ∀ r, H r = none → D.rt (.ref r) (upd H r (.tup [.str word, .int i]))
theorem pss_at {X : Cx} {b : List Stmt} {t' : TS} (h : ∀ D σ H, t' D σ H → ∃ t, PSs X b t ∧ t D σ H) : PSs X b t' := ⟨fun pins s σ H D I q => let ⟨_, h1, h2⟩ := h D σ H q; h1.run pins s σ H D I h2⟩
/-- told by _law_refused: the value, or the word of the error -/
def TTref (N B : Addr) : (XK → Hp → VK → Prop) → Hp → VK → Prop := fun tl H Q => ∀ (Ech : XK) (Qr : VK),
  (∀ dd H' i, H' dd = some (.xd [("index", .int i)]) → (∀ r, H' r = none → Q (.ref r) (upd H' r (.tup [.str "echo", .int i]))) → Ech (.ref N) (some dd) H') →
  (∀ dd H' i, H' dd = some (.xd [("count", .int i)]) → (∀ r, H' r = none → Q (.ref r) (upd H' r (.tup [.str "count", .int i]))) → Ech (.ref B) (some dd) H') →
  (∀ v H', (∀ r, H' r = none → Q (.ref r) (upd H' r (.tup [.str "let", v]))) → Qr v H') → tl Ech H Qr
section
variable {P : Program} {w : World} {K : PySem.W.Frag} {mg : Str → Option Value} {base : Heap} {A : Adr}
theorem ok_whZ {f : Addr} {fd : FuncData} (F : Fun K "_law_whole" "_law_whole" (top 31) f fd) (isi : mg "isinstance" = none) (it : mg "int" = none) (bo : mg "bool" = none) : FnZ P w K mg base 1 f fd ["x"] (fun _ _ _ vs H Q _ => ∃ n, vs = [.int n] ∧ Q (.bl true) H) := by
  obtain ⟨oc, od, kV, doc, pm, an, cdv, ct, osl, rfl, lk, hcd⟩ := F.ex
  refine fn_ofZ lk hcd scWh (fun a cls d vs H Q E h => ?_) (fun AA outer s H vs Q p cls d hz hf hr h => ?_)
  · obtain ⟨n, rfl, _⟩ := h
    rfl
  · obtain ⟨n, rfl, k⟩ := h
    refine ⟨_, pss_one (ps_ret (pe_and (pe_callB call_isi (by rfl) isi boot_isi (pa_cons (pv 0) (pa_cons (pe_bltn (v := .ty "int") (by rfl) it boot_int rfl) pa_nil))) (pe_one (pe_not (pe_callB call_isi (by rfl) isi boot_isi (pa_cons (pv 0) (pa_cons (pe_bltn (v := .ty "bool") (by rfl) bo boot_bool rfl) pa_nil))))))), ?_⟩
    exact ⟨_, rfl, _, _, _, _, true, rfl, .ty "int", tyI _, kit_II, _, rfl, iteT ⟨_, rfl, _, _, _, _, false, rfl, .ty "bool", tyI _, kit_ty (by decide +kernel), _, rfl, k⟩⟩
theorem scRef : FnScope ["deed", "told", "e"] ["deed"] (defScope (top 41)) := ⟨rfl, rfl, rfl, by decide +kernel, rfl, by decide +kernel, by decide +kernel⟩
theorem ref_gives {X : Cx} {N B Wb g : Addr} {cdg : Value} {q : Str} {k : Nat} (R : ER X.K X.mg N B Wb) (isi : X.mg "isinstance" = none) (hW : ∃ f, X.mg "_law_whole" = some (.ref f) ∧ CalZ X.prog X.w X.K X.mg X.base 1 f ["x"] (fun _ _ _ vs H Q _ => ∃ n, vs = [.int n] ∧ Q (.bl true) H)) (hr : Room (k + 3) X.A) :
    GivesTo X ["deed", "told", "e"] "_law_refused" (defScope (top 41)) g cdg (defBody (top 41)) "deed" q (TTref N B) := by
  intro f c' s H Q tl act hc h
  obtain ⟨fW, gW, cW⟩ := hW
  obtain ⟨fdW, GW, bW⟩ := cW.ex
  refine ⟨_, pss_cons (ps_try_named (X := (cxOf C8.CX0 X.prog X.w X.K X.mg X.base ["deed", "told", "e"] "_law_refused" (defScope (top 41)) g cdg X.A X.stack s H C8.E0).nox) (l := [(.ref N, 2, tsWord N "index" "echo"), (.ref B, 2, tsWord B "count" "count")]) (Wout := fun _ _ _ _ => False)
      (tb := fun W D σ H => σ[0]? = some (some (.ref f)) ∧ H c' = some (CodeO c' q) ∧ tl (EW 3 W) H (fun v H' => D.nx (σ.set 1 (some v)) H'))
      rfl rfl scRef.nd L2.takes0
      (fun W pn xe tk po => pss_one (ps_set (i := 1) scRef.nd rfl (Or.inl rfl) (act (fun cls d σ H => σ.length = 3 → W cls d σ H) pn xe (EW 3 W) _ _ (takes_len tk) (fun cls d σ' H' h hl => h σ' hl))))
      (Clauses.cons (i := 2) rfl rfl ⟨rfl, by decide, .inl R.gN⟩ (fun a oe cls d pn hz hf => pss_at fun D σ H' h' => by
          obtain ⟨rfl, dd, i, rfl, hdd, h2, k⟩ := h'
          refine ⟨_, (pss_cons (ps_if (PW.pt (pw_or (pt_val (pe_callB (call_isX R.eN List.mem_cons_self hz hf) (by rfl) isi boot_isi (pa_cons (pv 2) (pa_cons (pe_glob (v := .ref B) (by rfl) R.gB rfl) pa_nil)))) (pw_or (pt_not (pt_val (pe_callB (call_isX R.eN List.mem_cons_self hz hf) (by rfl) isi boot_isi (pa_cons (pv 2) (pa_cons (pe_glob (v := .ref Wb) (by rfl) R.gW rfl) pa_nil))))) (pw_or1 (pt_not (pt_val (pe_callB (call_isX R.eN List.mem_cons_self hz hf) (by rfl) isi boot_isi (pa_cons (pv 2) (pa_cons (pe_bltn (v := .ty "ValueError") (by rfl) R.ve boot_VE rfl) pa_nil))))))))) (pss_one (ps_ret (pe_tup (pa_cons pe_str pa_nil)))) pss_nil)
          (pss_one (ps_ret (pe_ifExp (pt_val (pe_callZ GW (L2H.RoomH.mono (roomH_mark (hr.deeper _)) (by omega)) List.mem_cons_self hz hf (by rfl) gW cW.kp bW (pa_cons (pe_xf R.fN R.iN hz hf (pv 2)) pa_nil))) (pe_tup (pa_cons pe_str (pa_cons (pe_xf R.fN R.iN hz hf (pv 2)) pa_nil))) (pe_tup (pa_cons pe_str pa_nil)))))), ?_⟩
          have dk : Dk H' (some dd) := .inr ⟨dd, _, rfl, hdd⟩
          refine ⟨_, h2, _, _, _, rfl, fun u z => z, R.nB, dk, _, rfl, iteF ?_⟩
          refine ⟨_, h2, _, _, _, rfl, fun u z => z, R.nW, dk, _, rfl, iteF ?_⟩
          refine ⟨_, h2, _, _, _, rfl, fun u z => z, R.nV, dk, _, rfl, iteF ?_⟩
          refine ⟨_, h2, rfl, rfl, dd, _, .int i, rfl, hdd, by simp [List.lookup], i, rfl, _, rfl, iteT ?_⟩
          exact ⟨_, h2, rfl, rfl, dd, _, .int i, rfl, hdd, by simp [List.lookup], by show 2 ≤ sizeLine; decide, k⟩)
      (Clauses.cons (i := 2) rfl rfl ⟨rfl, by decide, .inl R.gB⟩ (fun a oe cls d pn hz hf => pss_at fun D σ H' h' => by
          obtain ⟨rfl, dd, i, rfl, hdd, h2, k⟩ := h'
          refine ⟨_, (pss_cons (ps_if (PW.pt (pw_or (pt_val (pe_callB (call_isX R.eB List.mem_cons_self hz hf) (by rfl) isi boot_isi (pa_cons (pv 2) (pa_cons (pe_glob (v := .ref N) (by rfl) R.gN rfl) pa_nil)))) (pw_or (pt_not (pt_val (pe_callB (call_isX R.eB List.mem_cons_self hz hf) (by rfl) isi boot_isi (pa_cons (pv 2) (pa_cons (pe_glob (v := .ref Wb) (by rfl) R.gW rfl) pa_nil))))) (pw_or1 (pt_not (pt_val (pe_callB (call_isX R.eB List.mem_cons_self hz hf) (by rfl) isi boot_isi (pa_cons (pv 2) (pa_cons (pe_bltn (v := .ty "ValueError") (by rfl) R.ve boot_VE rfl) pa_nil))))))))) (pss_one (ps_ret (pe_tup (pa_cons pe_str pa_nil)))) pss_nil)
          (pss_one (ps_ret (pe_ifExp (pt_val (pe_callZ GW (L2H.RoomH.mono (roomH_mark (hr.deeper _)) (by omega)) List.mem_cons_self hz hf (by rfl) gW cW.kp bW (pa_cons (pe_xf R.fB R.iB hz hf (pv 2)) pa_nil))) (pe_tup (pa_cons pe_str (pa_cons (pe_xf R.fB R.iB hz hf (pv 2)) pa_nil))) (pe_tup (pa_cons pe_str pa_nil)))))), ?_⟩
          have dk : Dk H' (some dd) := .inr ⟨dd, _, rfl, hdd⟩
          refine ⟨_, h2, _, _, _, rfl, fun u z => z, R.bN, dk, _, rfl, iteF ?_⟩
          refine ⟨_, h2, _, _, _, rfl, fun u z => z, R.bW, dk, _, rfl, iteF ?_⟩
          refine ⟨_, h2, _, _, _, rfl, fun u z => z, R.bV, dk, _, rfl, iteF ?_⟩
          refine ⟨_, h2, rfl, rfl, dd, _, .int i, rfl, hdd, by simp [List.lookup], i, rfl, _, rfl, iteT ?_⟩
          exact ⟨_, h2, rfl, rfl, dd, _, .int i, rfl, hdd, by simp [List.lookup], by show 2 ≤ sizeLine; decide, k⟩) .nil)))
    (pss_one (ps_ret (pe_tup (pa_cons pe_str (pa_cons (pv 1) pa_nil))))), ?_⟩
  refine ⟨rfl, hc, ?_⟩
  refine h _ _ (fun dd H' i hdd kk σ hl => ?_) (fun dd H' i hdd kk σ hl => ?_) (fun v H' hk => ⟨_, rfl, by show 2 ≤ sizeLine; decide, hk⟩)
  · exact ⟨true, R.xN, fun _ a na => ⟨rfl, dd, i, rfl, hdd, List.getElem?_set_self (by omega), kk⟩, fun z => nomatch z⟩
  · exact ⟨false, R.xBN, (fun z => nomatch z), fun _ => ⟨true, R.xB, fun _ a na => ⟨rfl, dd, i, rfl, hdd, List.getElem?_set_self (by omega), kk⟩, fun z => nomatch z⟩⟩
end
end Fx

set_option Elab.async false
set_option linter.all false
set_option maxRecDepth 100000
set_option maxHeartbeats 4000000
set_option exponentiation.threshold 20000
namespace Fx
open PySem PySem.Spec PyProof.Rows L2 FM KM LamX
/-- a def whose code object is told -/
structure FunC (K : PySem.W.Frag) (x qual : Str) (st : Stmt) (f : Addr) (fd : FuncData) (c : Addr) : Prop where
  ex : ∃ (oc : Value) (od : Option Addr) (kV doc pm : Value) (an : Option Addr) (ct : Value) (osl : Array (Option Value)),
    fd = PySem.W.fnOf x qual (defArgs st) (defBody st) (defScope st) .none kV doc pm an (.ref c) ct ∧ K.lookup f = some ⟨oc, od, .func fd, osl⟩ ∧ PySem.W.codeIn K (.ref c) qual = true
  kp : PySem.W.keepIn K (.ref f) = true
/-! ### what stays but for the tables -/
theorem TupAt.n {H H' : Hp} {a : Addr} {p : Int × Int} (h : TupAt H a p) (e : ExtN H H') : TupAt H' a p := e _ _ h fun ps z => by cases z
theorem FracAt.n {C : Addr} {H H' : Hp} {a : Addr} {p : Int × Int} (h : FracAt C H a p) (e : ExtN H H') : FracAt C H' a p := let ⟨dx, h⟩ := h; ⟨dx, e _ _ h fun ps z => by cases z⟩
theorem TL.n {H H' : Hp} {l : Addr} {ps : List (Int × Int)} (h : TL H l ps) (e : ExtN H H') : TL H' l ps := let ⟨xs, h1, h2, h3⟩ := h; ⟨xs, e _ _ h1 (fun ps z => by cases z), h2, fun j x q hx hq => let ⟨a, e1, e2⟩ := h3 j x q hx hq; ⟨a, e1, e2.n e⟩⟩
theorem Num.n {A : Adr} {H H' : Hp} {v : V} {q : Int × Int} (h : Num A H v q) (e : ExtN H H') : Num A H' v q := h.elim (fun ⟨b, e1, f⟩ => .inl ⟨b, e1, f.n e⟩) .inr
theorem NumsAt.n {A : Adr} {H H' : Hp} {ys : List V} {qs : List (Int × Int)} (h : NumsAt A H ys qs) (e : ExtN H H') : NumsAt A H' ys qs := ⟨h.1, fun i y q a b => (h.2 i y q a b).n e⟩
theorem LN.n {A : Adr} {H H' : Hp} {l : Addr} {qs : List (Int × Int)} (h : LN A H l qs) (e : ExtN H H') : LN A H' l qs := let ⟨ys, h1, h2⟩ := h; ⟨ys, e _ _ h1 (fun ps z => by cases z), h2.n e⟩
theorem PoolAt.n {H H' : Hp} {r c : Addr} (h : PoolAt H r c) (e : ExtN H H') : PoolAt H' r c := let ⟨cs, i, cur, m, h1, h2, h3⟩ := h; ⟨cs, i, cur, m, e _ _ h1 (fun ps z => by cases z), e _ _ h2 (fun ps z => by cases z), h3⟩
def ns (A : Adr) (H : Hp) (l : Addr) (qs : List (Int × Int)) : Prop := ∃ ys : List V, (H l = some (.lst ys) ∨ H l = some (.tup ys)) ∧ NumsAt A H ys qs ∧ ∀ q ∈ qs, Low q
theorem ns.n {A : Adr} {H H' : Hp} {l : Addr} {qs : List (Int × Int)} (h : ns A H l qs) (e : ExtN H H') : ns A H' l qs := let ⟨ys, h1, h2, h3⟩ := h; ⟨ys, h1.imp (fun z => e _ _ z fun ps z => by cases z) (fun z => e _ _ z fun ps z => by cases z), h2.n e, h3⟩
theorem ns.nums {K : PySem.W.Frag} {A : Adr} {H : Hp} {l : Addr} {qs : List (Int × Int)} (h : ns A H l qs) : Nums K A H l qs := let ⟨ys, h1, h2, h3⟩ := h; ⟨⟨ys, h1.imp (fun z => SqL.of z) (fun z => SqT.of z), h2⟩, h3⟩
theorem ns.ext {A : Adr} {H H' : Hp} {l : Addr} {qs : List (Int × Int)} (h : ns A H l qs) (e : Ext H H') : ns A H' l qs := h.n (ExtN.of e)
/-- what the making of a def's lambdas asks -/
structure LamF (base : Heap) (mg : Str → Option Value) (T : List (Addr × Str)) (x : Str) (st : Stmt) (c : Addr) : Prop where
  ex : ∃ P, TabB base mg c P ∧ (∀ a f, (P, (envOfC x (defScope st) a f (.ref c)).qual ++ "<lambda>") ∈ T) ∧ ∀ a f, ∀ p ∈ T, p.1 = P → p.2 = (envOfC x (defScope st) a f (.ref c)).qual ++ "<lambda>"
section
variable {P : Program} {w : World} {K : PySem.W.Frag} {mg : Str → Option Value} {base : Heap} {A : Adr}
theorem FunC.okX {x qual : Str} {st : Stmt} {f c : Addr} {fd : FuncData} {N ps : List Str} {k : Nat} {sp : Sp} (F : FunC K x qual st f fd c) (S : FnScope N ps (defScope st)) (len : ∀ vs H Q E, sp vs H Q E → vs.length = ps.length)
    (hbody : ∀ (A : Around) (outer : List Env) (s : Shared) (H : Hp) (vs : List V) (Q : VK) (E : XK), Room k (A.deeper (envOfC qual (defScope st) s.heap.objs.size f (.ref c))) → sp vs H Q E →
      ∃ t, PSs (cxOf (L2.CX P w) P w K mg base N qual (defScope st) f (.ref c) A outer s H E) (defBody st) t ∧ t { nx := fun _ H' => Q .non H', rt := Q } (start N vs) H) : FnOk P w K mg base (L2.CX P w) (k + 1) f fd ps sp := by
  obtain ⟨oc, od, kV, doc, pm, an, ct, osl, rfl, lk, hcd⟩ := F.ex
  exact fn_of lk hcd S len fun A outer s H vs Q E hr hsp => hbody A outer s H vs Q E hr hsp
/-- _law_refused, as it is called with a lambda -/
structure RfD (P : Program) (w : World) (K : PySem.W.Frag) (mg : Str → Option Value) (base : Heap) (N B Wb : Addr) : Prop where
  R : ER K mg N B Wb
  isi : mg "isinstance" = none
  hW : ∃ f, mg "_law_whole" = some (.ref f) ∧ CalZ P w K mg base 1 f ["x"] (fun _ _ _ vs H Q _ => ∃ n, vs = [.int n] ∧ Q (.bl true) H)
  F : ∃ g fd, mg "_law_refused" = some (.ref g) ∧ Fun K "_law_refused" "_law_refused" (top 41) g fd ∧ Binds K fd ["deed"] []
def spPls (T : List (Addr × Str)) (A : Adr) : Sp := fun vs H Q _ => ∃ l d qs ps lv, vs = [.ref l, .ref d, lv] ∧ Tabs T H ∧ ns A H l qs ∧ TL H d ps ∧ 0 < qs.length ∧ qs.length ≤ 100 ∧ In (sq qs) qs.length ps ∧ OutP (sq qs) qs.length ps lv ∧ ∀ H', ExtN H H' → Tabs T H' → Q (.bl true) H'
theorem scPls : FnScope ["numbers", "panes", "last", "told"] ["numbers", "panes", "last"] (defScope (top 42)) := ⟨rfl, rfl, rfl, by decide +kernel, rfl, by decide +kernel, by decide +kernel⟩
theorem ok_pls {T : List (Addr × Str)} {N B Wb f c : Addr} {fd : FuncData} (F : FunC K "_law_peels" "_law_peels" (top 42) f fd c) (LF_ : LamF base mg T "_law_peels" (top 42) c) (X_ : RfD P w K mg base N B Wb) (hP : LF P w K mg base "peel" 8 ["numbers"] (spPl K A B N)) (hO : LF P w K mg base "_law_row" 3 ["told", "due", "tied"] (spRow A)) (hW : LF P w K mg base "_law_whole" 1 ["x"] (spWh A)) (tu : mg "tuple" = none) (le : mg "len" = none) : FnOk P w K mg base (L2.CX P w) 14 f fd ["numbers", "panes", "last"] (spPls T A) := by
  have isi := X_.isi
  refine F.okX scPls (fun vs H Q E h => ?_) (fun AA outer s H vs Q E hr h => ?_)
  · obtain ⟨l, d, qs, ps, lv, rfl, _⟩ := h
    rfl
  · obtain ⟨l, d, qs, ps, lv, rfl, hT, hl, hd, q0, q1, I, hv, k⟩ := h
    obtain ⟨gR_, fdR, gR, RF, bR⟩ := X_.F
    obtain ⟨ocR, odR, kVR, docR, pmR, anR, cdvR, ctR, oslR, rfl, lkR, hcR⟩ := RF.ex
    obtain ⟨Pt, TB, hmT, hu⟩ := LF_.ex
    obtain ⟨fP, gP, cP⟩ := hP
    obtain ⟨fdP, GP, bP⟩ := cP.ex
    obtain ⟨fO, gO, cO⟩ := hO
    obtain ⟨fdO, GO, bO⟩ := cO.ex
    obtain ⟨fW, gW, cW⟩ := hW
    obtain ⟨fdW, GW, bW⟩ := cW.ex
    refine ⟨_, (pss_cons (ps_set (i := 3) scPls.nd rfl (Or.inl rfl) (pe_lamcall (T := T) (TT := TTref N B) (a := "deed") (k := 9) (Ng := ["deed", "told", "e"]) rfl gR RF.kp lkR hcR bR scRef rfl (.inl rfl) (ref_gives (k := 9) X_.R X_.isi X_.hW (hr.mono (by decide))) TB rfl (hmT _ _) (hu _ _) (hr.mono (by decide)) (lamS_by (by show lamSB (defScope (top 42)) _ = true; decide +kernel)) rfl (fun _ _ _ _ _ => rfl) (fun A outer s H E f c' hr2 => pe_call GP (hr2.mono (by decide)) rfl gP cP.kp bP .nil (E := E) (passes_call (takes_of rfl rfl rfl rfl) (fun _ _ _ _ h => h)) (pa_cons (pv 0) pa_nil))))
      (pss_cons (ps_if (PW.pt (pw_or (pt_cmpR L2.op_ne (pe_ix ix_tup (pv 3) pe_int (fun _ _ => rfl)) pe_str (nomark _)) (pw_or (pt_not (pt_val (pe_callB call_isi (by rfl) isi boot_isi (pa_cons (pe_ix ix_tup (pv 3) pe_int (fun _ _ => rfl)) (pa_cons (pe_bltn (v := .ty "tuple") (by rfl) tu boot_tuple rfl) pa_nil))))) (pw_or1 (pt_cmpR L2.op_ne (pe_callB call_len_seq (by rfl) le PySem.boot_len (pa_cons (pe_ix ix_tup (pv 3) pe_int (fun _ _ => rfl)) pa_nil)) pe_int (nomark _)))))) (pss_one (ps_ret pe_bl)) pss_nil)
      (pss_cons (ps_if (pt_not (pt_val (pe_call GO (hr.mono (by decide)) rfl gO cO.kp bO .nil (E := E0) passL (pa_cons (pe_ix ix_tup (pe_ix ix_tup (pv 3) pe_int (fun _ _ => rfl)) pe_int (fun _ _ => rfl)) (pa_cons (pv 1) (pa_cons pe_bl pa_nil)))))) (pss_one (ps_ret pe_bl)) pss_nil)
      (pss_cons (ps_if (pt_cmpR L2.op_isN (pv 2) pe_non (nomark _)) (pss_one (ps_ret (pe_cmpR L2.op_isN (pe_ix ix_tup (pe_ix ix_tup (pv 3) pe_int (fun _ _ => rfl)) pe_int (fun _ _ => rfl)) pe_non (nomark _)))) pss_nil)
      (pss_one (ps_ret (pe_and (pe_call GW (hr.mono (by decide)) rfl gW cW.kp bW .nil (E := E0) passL (pa_cons (pe_ix ix_tup (pe_ix ix_tup (pv 3) pe_int (fun _ _ => rfl)) pe_int (fun _ _ => rfl)) pa_nil)) (pe_one (pe_cmpR L2.op_eq (pe_ix ix_tup (pe_ix ix_tup (pv 3) pe_int (fun _ _ => rfl)) pe_int (fun _ _ => rfl)) (pv 2) (nomark _)))))))))), ?_⟩
    refine ⟨hT, fun H1 en t1 Ech Qr hN hB hk => ?_⟩
    refine ⟨_, rfl, l, qs, rfl, (hl.n en).nums, by omega, .inr ⟨q0, q1, ps, I, .inl ⟨lv, hv, fun r pt H2 e2 hr2 hp2 => hk _ _ (fun rr nr => ?_)⟩⟩⟩
    have er := ext1 (o := .tup [.str "let", .ref r]) nr
    have en3 := (en.trans (ExtN.of e2)).trans (ExtN.of er)
    have t3 := (t1.ext e2).ext er
    have hr3 := er _ _ hr2
    have hp3 := hp2.ext er
    have hrr : (upd H2 rr (.tup [.str "let", .ref r])) rr = some (.tup [.str "let", .ref r]) := upd_same
    revert en3 t3 hr3 hp3 hrr
    generalize upd H2 rr (.tup [.str "let", .ref r]) = H3
    intro en3 t3 hr3 hp3 hrr
    have lo : ∀ q ∈ ps, Low q ∧ Bi q.2 := fun q hq => ⟨(I.pn q hq).low, (I.pn q hq).okf.b2.bi⟩
    have l30 := I.l30
    refine ⟨_, rfl, _, _, _, _, rfl, rfl, SqT.of hrr, rfl, rfl, _, rfl, if_ND (fun h => absurd rfl h) (fun _ => ?_)⟩
    refine ⟨_, rfl, _, _, _, _, rfl, rfl, SqT.of hrr, rfl, _, _, _, _, true, rfl, .ty "tuple", .base (.tup hr3), kit_ty (by decide +kernel), _, rfl, iteF ?_⟩
    refine ⟨_, rfl, _, _, _, _, rfl, rfl, SqT.of hrr, rfl, r, _, rfl, .inr (SqT.of hr3), rfl, _, rfl, if_ND (fun h => absurd rfl h) (fun _ => ?_)⟩
    refine ⟨_, rfl, _, _, _, _, rfl, rfl, SqT.of hrr, rfl, _, _, _, _, rfl, rfl, SqT.of hr3, rfl, _, rfl, pt, d, ps, rfl, hp3, hd.n en3, lo, by omega, fun H4 e4 => ⟨_, rfl, iteF ?_⟩⟩
    have fin : Q (.bl true) H4 := k H4 (en3.trans (ExtN.of e4)) (t3.ext e4)
    have hrr4 := e4 _ _ hrr
    have hr4 := e4 _ _ hr3
    rcases hv with ⟨_, rfl⟩ | ⟨e, rfl, _⟩
    · refine ⟨_, rfl, rfl, _, rfl, if_D (fun _ => ?_) (fun h => absurd rfl h)⟩
      refine ⟨_, rfl, _, _, _, _, rfl, rfl, SqT.of hrr4, rfl, _, _, _, _, rfl, rfl, SqT.of hr4, rfl, rfl, ?_⟩
      rw [decide_eq_true rfl]
      exact fin
    · refine ⟨_, rfl, rfl, _, rfl, if_D (fun h => by cases h) (fun _ => ?_)⟩
      refine ⟨_, rfl, _, _, _, _, rfl, rfl, SqT.of hrr4, rfl, _, _, _, _, rfl, rfl, SqT.of hr4, rfl, .inl ⟨e, rfl, _, rfl, iteT ?_⟩⟩
      refine ⟨_, rfl, _, _, _, _, rfl, rfl, SqT.of hrr4, rfl, _, _, _, _, rfl, rfl, SqT.of hr4, rfl, _, rfl, rfl, ?_⟩
      rw [decide_eq_true rfl]
      exact fin
end
end Fx

set_option Elab.async false
set_option linter.all false
set_option maxRecDepth 100000
set_option maxHeartbeats 4000000
set_option exponentiation.threshold 20000
namespace Fx
open PySem PySem.Spec PyProof.Rows L2 FM KM LamX
theorem eqv_si (s : Str) (a : Int) : PyData.eqv (.tuple [.str s, .int a]) (.tuple [.str s, .int a]) = true := by simp [PyData.eqv, PyData.eqvAll]
theorem dp_si {K : PySem.W.Frag} {H : Hp} {a : Addr} {s : Str} {i : Int} (h : H a = some (.tup [.str s, .int i])) : Dp K H (.ref a) (.tuple [.str s, .int i]) := .tup (SqT.of h) (.cons (.str _) (.cons (.int _) .nil))
theorem shp_si {s : Str} {i : Int} (hs : PyData.strOk s = true) : SeqAt.shaped (.tuple [.str s, .int i]) = true := by
  simp [SeqAt.shaped, PyData.canLay0, PyData.depth, PyData.canLayAll0, PyData.depthAll, hs]
theorem okE : PyData.strOk "echo" = true := by decide +kernel
theorem okC : PyData.strOk "count" = true := by decide +kernel
theorem numsAt_app {A : Adr} {H : Hp} {ys zs : List V} {qs rs : List (Int × Int)} (h1 : NumsAt A H ys qs) (h2 : NumsAt A H zs rs) : NumsAt A H (ys ++ zs) (qs ++ rs) := by
  refine ⟨by rw [List.length_append, List.length_append, h1.1, h2.1], fun i y q hy hq => ?_⟩
  by_cases hi : i < ys.length
  · rw [List.getElem?_append_left hi] at hy
    rw [List.getElem?_append_left (by rw [← h1.1]; exact hi)] at hq
    exact h1.2 i y q hy hq
  · rw [List.getElem?_append_right (by omega)] at hy
    rw [List.getElem?_append_right (by rw [← h1.1]; omega), ← h1.1] at hq
    exact h2.2 _ y q hy hq
theorem numsAt_one {A : Adr} {H : Hp} {v : V} {q : Int × Int} (h : Num A H v q) : NumsAt A H [v] [q] := ⟨rfl, fun i y q' hy hq => by
  cases i with
  | zero =>
    have e1 : v = y := by simpa using hy
    have e2 : q = q' := by simpa using hq
    rw [← e1, ← e2]
    exact h
  | succ i => simp at hy⟩
theorem numsAt_two {A : Adr} {H : Hp} {u v : V} {p q : Int × Int} (h1 : Num A H u p) (h2 : Num A H v q) : NumsAt A H [u, v] [p, q] := numsAt_app (numsAt_one h1) (numsAt_one h2)
theorem lowHalf : Low ((1, 2) : Int × Int) := ⟨by decide, by decide⟩
def rTupK (K : PySem.W.Frag) : List V → Hp → VK → Prop := fun vs Hx Qx => ∃ (a : Addr) (its : List V), vs = [.ref a] ∧ ((SqL K Hx a its ∧ ∀ t : Addr, Hx t = none → Qx (.ref t) (upd Hx t (.tup its))) ∨ (SqT K Hx a its ∧ Qx (.ref a) Hx))
theorem call_tupK {X : Cx} {K : PySem.W.Frag} (hK : X.K = K) : CallR X (.type "tuple") (rTupK K) := by
  subst hK
  exact call_tuple_of
def spBar (T : List (Addr × Str)) (A : Adr) : Sp := fun vs H Q _ => ∃ l d n qs y cs, vs = [.ref l, .ref d, .int n] ∧ Tabs T H ∧ LN A H l qs ∧ (∀ q ∈ qs, Low q) ∧ TupAt H d y ∧ Low y ∧ Bi y.2 ∧ qs.length ≤ 90 ∧
  In (sq (qs ++ [y])) (qs.length + 1) cs ∧ OutE (sq (qs ++ [y])) (qs.length + 1) cs qs.length ∧ In (sq (qs ++ [y] ++ [(0, 1), (1, 2)])) (qs.length + 3) cs ∧ OutE (sq (qs ++ [y] ++ [(0, 1), (1, 2)])) (qs.length + 3) cs qs.length ∧ ∀ H', ExtN H H' → Tabs T H' → Q (.bl true) H'
section
variable {P : Program} {w : World} {K : PySem.W.Frag} {mg : Str → Option Value} {base : Heap} {A : Adr}
theorem scBar : FnScope ["passed", "number", "way", "row", "due"] ["passed", "number", "way"] (defScope (top 43)) := ⟨rfl, rfl, rfl, by decide +kernel, rfl, by decide +kernel, by decide +kernel⟩
theorem ok_bar {T : List (Addr × Str)} {N B Wb f c : Addr} {fd : FuncData} (F : FunC K "_law_barred" "_law_barred" (top 43) f fd c) (LF_ : LamF base mg T "_law_barred" (top 43) c) (X_ : RfD P w K mg base N B Wb) (F_ : FA P w K mg base A) (hP : LF P w K mg base "peel" 8 ["numbers"] (spPl K A B N)) (hS : LF P w K mg base "next_stretch" 8 ["numbers"] (spNs K A B N)) (hN : LF P w K mg base "_law_number" 3 ["pair", "way"] (spNu A)) (tu : mg "tuple" = none) (le : mg "len" = none) : FnOk P w K mg base (L2.CX P w) 14 f fd ["passed", "number", "way"] (spBar T A) := by
  refine F.okX scBar (fun vs H Q E h => ?_) (fun AA outer s H vs Q E hr h => ?_)
  · obtain ⟨l, d, n, qs, y, cs, rfl, _⟩ := h
    rfl
  · obtain ⟨l, d, n, qs, y, cs, rfl, hT, hl, lo, hd, ly, by_, q90, I1, O1, I2, O2, k⟩ := h
    obtain ⟨gR_, fdR, gR, RF, bR⟩ := X_.F
    obtain ⟨ocR, odR, kVR, docR, pmR, anR, cdvR, ctR, oslR, rfl, lkR, hcR⟩ := RF.ex
    obtain ⟨Pt, TB, hmT, hu⟩ := LF_.ex
    obtain ⟨fP, gP, cP⟩ := hP
    obtain ⟨fdP, GP, bP⟩ := cP.ex
    obtain ⟨fS, gS, cS⟩ := hS
    obtain ⟨fdS, GS, bS⟩ := cS.ex
    obtain ⟨fN, gN, cN⟩ := hN
    obtain ⟨fdN, GN, bN⟩ := cN.ex
    refine ⟨_, (pss_cons (ps_set (i := 3) scBar.nd rfl (Or.inr rfl) (pe_op op_cat (pv 0) (pe_lst (pa_cons (pe_call GN (hr.mono (by decide)) rfl gN cN.kp bN .nil (E := E0) passL (pa_cons (pv 1) (pa_cons (pv 2) pa_nil))) pa_nil))))
      (pss_cons (ps_set (i := 4) scBar.nd rfl (Or.inl rfl) (pe_tup (pa_cons pe_str (pa_cons (pe_callB call_len_seq (by rfl) le PySem.boot_len (pa_cons (pv 0) pa_nil)) pa_nil))))
      (pss_cons (ps_if (pt_cmpR (op_neD hr.units) (pe_lamcall (T := T) (TT := TTref N B) (a := "deed") (k := 9) (Ng := ["deed", "told", "e"]) rfl gR RF.kp lkR hcR bR scRef rfl (.inl rfl) (ref_gives (k := 9) X_.R X_.isi X_.hW (hr.mono (by decide))) TB rfl (hmT _ _) (hu _ _) (hr.mono (by decide)) (lamS_by (by show lamSB (defScope (top 43)) _ = true; decide +kernel)) rfl (fun _ _ _ _ _ => rfl) (fun A outer s H E f c' hr2 => pe_call GP (hr2.mono (by decide)) rfl gP cP.kp bP .nil (E := E) (passes_call (takes_of rfl rfl rfl rfl) (fun _ _ _ _ h => h)) (pa_cons (pv 3) pa_nil))) (pv 4) (nomark _)) (pss_one (ps_ret pe_bl)) pss_nil)
      (pss_cons (ps_if (pt_cmpR (op_neD hr.units) (pe_lamcall (T := T) (TT := TTref N B) (a := "deed") (k := 9) (Ng := ["deed", "told", "e"]) rfl gR RF.kp lkR hcR bR scRef rfl (.inl rfl) (ref_gives (k := 9) X_.R X_.isi X_.hW (hr.mono (by decide))) TB rfl (hmT _ _) (hu _ _) (hr.mono (by decide)) (lamS_by (by show lamSB (defScope (top 43)) _ = true; decide +kernel)) rfl (fun _ _ _ _ _ => rfl) (fun A outer s H E f c' hr2 => pe_call GS (hr2.mono (by decide)) rfl gS cS.kp bS .nil (E := E) (passes_call (takes_of rfl rfl rfl rfl) (fun _ _ _ _ h => h)) (pa_cons (pe_callTy (call_tupK (K := K) rfl) (by rfl) tu boot_tuple (pa_cons (pv 3) pa_nil)) pa_nil))) (pv 4) (nomark _)) (pss_one (ps_ret pe_bl)) pss_nil)
      (pss_one (ps_ret (pe_cmpR (op_eqD hr.units) (pe_lamcall (T := T) (TT := TTref N B) (a := "deed") (k := 9) (Ng := ["deed", "told", "e"]) rfl gR RF.kp lkR hcR bR scRef rfl (.inl rfl) (ref_gives (k := 9) X_.R X_.isi X_.hW (hr.mono (by decide))) TB rfl (hmT _ _) (hu _ _) (hr.mono (by decide)) (lamS_by (by show lamSB (defScope (top 43)) _ = true; decide +kernel)) rfl (fun _ _ _ _ _ => rfl) (fun A outer s H E f c' hr2 => pe_call GS (hr2.mono (by decide)) rfl gS cS.kp bS .nil (E := E) (passes_call (takes_of rfl rfl rfl rfl) (fun _ _ _ _ h => h)) (pa_cons (pe_op op_cat (pv 3) (pe_lst (pa_cons pe_int (pa_cons (pe_frac2 F_.M F_.T (hr2.mono (by decide)) rfl (pa_cons pe_int (pa_cons pe_int pa_nil))) pa_nil)))) pa_nil))) (pv 4) (nomark _)))))))), ?_⟩
    obtain ⟨ys, y1, y2⟩ := hl
    refine ⟨_, rfl, _, rfl, _, rfl, d, y, n, rfl, hd, ly, by_, fun v H1 e1 hv => ⟨by show 1 ≤ sizeLine; decide, fun q1 nq1 => ?_⟩⟩
    have f1 := ext1 (o := .lst [v]) nq1
    refine ⟨l, q1, ys, _, rfl, rfl, f1 _ _ (e1 _ _ y1), upd_same, by rw [sizeLine_eq, y2.1]; show qs.length + 1 ≤ _; omega, fun r nr => ?_⟩
    have f2 := ext1 (o := .lst (ys ++ [v])) nr
    have hrow : NumsAt A (upd (upd H1 q1 (.lst [v])) r (.lst (ys ++ [v]))) (ys ++ [v]) (qs ++ [y]) := (numsAt_app (y2.ext e1) (numsAt_one hv)).ext (f1.trans f2)
    have lrow : ∀ q ∈ qs ++ [y], Low q := fun q hq => by
      rcases List.mem_append.mp hq with z | z
      · exact lo q z
      · rw [List.mem_singleton.mp z]; exact ly
    have hR : (upd (upd H1 q1 (.lst [v])) r (.lst (ys ++ [v]))) r = some (.lst (ys ++ [v])) := upd_same
    have e2 := (e1.trans f1).trans f2
    have y1' := e2 _ _ y1
    revert hrow hR e2 y1'
    generalize upd (upd H1 q1 (.lst [v])) r (.lst (ys ++ [v])) = H2
    intro hrow hR e2 y1'
    refine ⟨_, rfl, l, ys, rfl, .inl (SqL.of y1'), by show 2 ≤ sizeLine; decide, fun du ndu => ?_⟩
    have f3 := ext1 (o := .tup [.str "echo", .int (ys.length : Nat)]) ndu
    have hdu : (upd H2 du (.tup [.str "echo", .int (ys.length : Nat)])) du = some (.tup [.str "echo", .int (qs.length : Nat)]) := by rw [upd_same, y2.1]
    have e3 := e2.trans f3
    have hR3 := f3 _ _ hR
    have hrow3 := hrow.ext f3
    revert hdu e3 hR3 hrow3
    generalize upd H2 du (.tup [.str "echo", .int (ys.length : Nat)]) = H3
    intro hdu e3 hR3 hrow3
    have len1 : (qs ++ [y]).length = qs.length + 1 := by rw [List.length_append]; rfl
    -- a refusal by the number of passed
    have cmp : ∀ {H4 H5 : Hp} {rr : Addr}, ExtN H3 H4 → H5 = upd H4 rr (.tup [.str "echo", .int ((qs.length : Nat) : Int)]) → H4 rr = none → Tabs T H4 → ExtN H3 H5 ∧ Tabs T H5 ∧ H5 rr = some (.tup [.str "echo", .int ((qs.length : Nat) : Int)]) ∧ H5 du = some (.tup [.str "echo", .int ((qs.length : Nat) : Int)]) := fun en eq nr t4 => by
      subst eq
      have er := ext1 (o := .tup [.str "echo", .int ((qs.length : Nat) : Int)]) nr
      exact ⟨en.trans (ExtN.of er), t4.ext er, upd_same, er _ _ (en _ _ hdu fun ps z => by cases z)⟩
    have nl : ∀ {H4 : Hp}, ExtN H3 H4 → ns A H4 r (qs ++ [y]) := fun en => ⟨_, .inl (en _ _ hR3 fun ps z => by cases z), hrow3.n en, lrow⟩
    refine ⟨hT.ext e3, fun H4 en4 t4 Ech Qr hN hB hk => ⟨_, rfl, r, _, rfl, (nl en4).nums, by omega, .inr ⟨by omega, by omega, cs, by rw [len1]; exact I1, .inr ⟨qs.length, by rw [len1]; exact O1, fun dd H5 e5 hdd => hN dd H5 _ hdd fun rr nr => ?_⟩⟩⟩⟩
    obtain ⟨en5, t5, g1, g2⟩ := cmp (en4.trans (ExtN.of e5)) rfl nr (t4.ext e5)
    refine ⟨_, rfl, _, _, dp_si g1, dp_si g2, shp_si okE, shp_si okE, _, rfl, ?_⟩
    rw [eqv_si]
    refine iteF ?_
    revert en5 t5
    generalize upd H5 rr (.tup [.str "echo", .int ((qs.length : Nat) : Int)]) = H6
    intro en6 t6
    refine ⟨t6, fun H7 en7 t7 Ech Qr hN hB hk => ⟨_, rfl, r, _, rfl, .inl ⟨SqL.of (en7 _ _ (en6 _ _ hR3 fun ps z => by cases z) fun ps z => by cases z), fun tt ntt => ?_⟩⟩⟩
    have ft := ext1 (o := .tup (ys ++ [v])) ntt
    have en67 := en6.trans en7
    have nt : ns A (upd H7 tt (.tup (ys ++ [v]))) tt (qs ++ [y]) := ⟨_, .inr upd_same, (hrow3.n en67).ext ft, lrow⟩
    refine ⟨tt, _, rfl, nt.nums, by omega, .inr ⟨by omega, cs, by rw [len1]; exact I1, .inr ⟨qs.length, by rw [len1]; exact O1, fun dd H8 e8 hdd => hN dd H8 _ hdd fun rr nr => ?_⟩⟩⟩
    obtain ⟨en9, t9, g1, g2⟩ := cmp ((en67.trans (ExtN.of ft)).trans (ExtN.of e8)) rfl nr ((t7.ext ft).ext e8)
    refine ⟨_, rfl, _, _, dp_si g1, dp_si g2, shp_si okE, shp_si okE, _, rfl, ?_⟩
    rw [eqv_si]
    refine iteF ?_
    revert en9 t9
    generalize upd H8 rr (.tup [.str "echo", .int ((qs.length : Nat) : Int)]) = H9
    intro en9 t9
    refine ⟨t9, fun Ha ena ta Ech Qr hN hB hk => ?_⟩
    have enA := en9.trans ena
    refine ⟨_, rfl, 1, 2, rfl, by decide, by unfold Bi; exact Nat.lt_of_lt_of_le (by decide : (2 : Int).natAbs < 2 ^ 2) (Nat.pow_le_pow_right (by decide) (by decide)), fun hf Hb eb fh => ⟨by show 2 ≤ sizeLine; decide, fun q2 nq2 => ?_⟩⟩
    have fq := ext1 (o := .lst [.int 0, .ref hf]) nq2
    have enB := (enA.trans (ExtN.of eb)).trans (ExtN.of fq)
    have hRB := enB _ _ hR3 fun ps z => by cases z
    refine ⟨r, q2, _, _, rfl, rfl, hRB, upd_same, by rw [sizeLine_eq, List.length_append, y2.1]; show qs.length + 1 + 2 ≤ _; omega, fun rc nrc => ?_⟩
    have frc := ext1 (o := .lst (ys ++ [v] ++ [.int 0, .ref hf])) nrc
    have fh2 : FracAt A.C (upd Hb q2 (.lst [.int 0, .ref hf])) hf (1, 2) := by
      have : low 1 2 = (1, 2) := low_self lowHalf
      rw [this] at fh
      exact fh.ext fq
    have nc : ns A (upd (upd Hb q2 (.lst [.int 0, .ref hf])) rc (.lst (ys ++ [v] ++ [.int 0, .ref hf]))) rc (qs ++ [y] ++ [(0, 1), (1, 2)]) := ⟨_, .inl upd_same, (numsAt_app (hrow3.n enB) (numsAt_two (p := (0, 1)) (q := (1, 2)) (.inr ⟨rfl, rfl⟩) (.inl ⟨hf, rfl, fh2⟩))).ext frc, fun q hq => by
      rcases List.mem_append.mp hq with z | z
      · exact lrow q z
      · rcases List.mem_cons.mp z with z | z
        · rw [z]; exact lowInt 0
        · rw [List.mem_singleton.mp z]; exact lowHalf⟩
    have len3 : (qs ++ [y] ++ [((0 : Int), (1 : Int)), (1, 2)]).length = qs.length + 3 := by rw [List.length_append, len1]; rfl
    refine ⟨rc, _, rfl, nc.nums, by omega, .inr ⟨by omega, cs, by rw [len3]; exact I2, .inr ⟨qs.length, by rw [len3]; exact O2, fun dd Hc ec hdd => hN dd Hc _ hdd fun rr nr => ?_⟩⟩⟩
    obtain ⟨enD, tD, g1, g2⟩ := cmp ((enB.trans (ExtN.of frc)).trans (ExtN.of ec)) rfl nr ((((ta.ext eb).ext fq).ext frc).ext ec)
    refine ⟨_, rfl, _, _, dp_si g1, dp_si g2, shp_si okE, shp_si okE, ?_⟩
    rw [eqv_si]
    exact k _ ((ExtN.of e3).trans enD) tD
end
end Fx

set_option Elab.async false
set_option linter.all false
set_option maxRecDepth 100000
set_option maxHeartbeats 4000000
set_option exponentiation.threshold 20000
/-! What the numbers of a pile do in the loop of panes, and how great they are. -/
namespace Fx
open PySem PySem.Spec PyProof.Rows L2 FM KM LamX
theorem ec_ex (cs : List Rat) (e : Rat) : ∃ s, Ec cs e s := by
  obtain ⟨s, hs⟩ := ser_ex (f := (HL cs e).2) (h := (HL cs e).1) (by rw [HL_L0]; decide)
  exact ⟨s, ec_of hs⟩
section
variable {x s : Sq} {c m : Nat} {ps : List (Int × Int)} {e : Rat}
theorem sch_agr {ds : List Rat} (h : Ec (ps.map val ++ ds) e s) (ag : ∀ j, j < c → x j = s j) (hc : ps.length ≤ c) : Sch (ps.map val) x dl := by
  obtain ⟨_, _, _, b4⟩ := run_pert (cs := ps.map val) (A := x) (A' := s) (B := dl) (B' := dl) (m := c) (by rw [List.length_map]; exact hc) ag (fun _ _ => rfl)
  exact b4 (full_app.mp h.full).1
/-- all panes are told, and the end -/
theorem out_end {e : Int} (h : Ec (ps.map val) (e : Rat) s) (he : e = 1 ∨ e = -1) (ag : ∀ j, j < c → x j = s j) (hc : ps.length < c) (gr : Gr 0 x dl) (pn : ∀ p ∈ ps, Pn p) (l30 : ps.length ≤ 30) : In x c ps ∧ OutP x c ps (.int e) := by
  have lm : (ps.map val).length = ps.length := List.length_map _
  obtain ⟨b1, b2, _, b4⟩ := run_pert (cs := ps.map val) (A := x) (A' := s) (B := dl) (B' := dl) (m := c) (by omega) ag (fun _ _ => rfl)
  obtain ⟨f1, f2⟩ := full_sch h.full
  refine ⟨⟨gr, pn, l30, by omega, b4 f1⟩, .inr ⟨e, rfl, hc, he, fun j hj => ?_⟩⟩
  rw [b1 j (by omega), b2 j (by omega)]
  exact f2 j
/-- so many panes are told, no end -/
theorem out_non {ds : List Rat} (h : Ec (ps.map val ++ ds) e s) (ag : ∀ j, j < ps.length → x j = s j) (gr : Gr 0 x dl) (pn : ∀ p ∈ ps, Pn p) (l30 : ps.length ≤ 30) : In x ps.length ps ∧ OutP x ps.length ps .non :=
  ⟨⟨gr, pn, l30, Nat.le_refl _, sch_agr h ag (Nat.le_refl _)⟩, .inl ⟨rfl, rfl⟩⟩
/-- behind all panes: what is left of the bottom, and of the top -/
theorem left_run {ds : List Rat} (h : Ec (ps.map val ++ ds) e s) (ag : ∀ j, j < ps.length → x j = s j) : (run (ps.map val) x dl).2 0 = rch (ps.map val) ∧ (run (ps.map val) x dl).1 0 = hd ds e * rch (ps.map val) + (x ps.length - s ps.length) := by
  have lm : (ps.map val).length = ps.length := List.length_map _
  obtain ⟨b1, b2, b3, b4⟩ := run_pert (cs := ps.map val) (A := x) (A' := s) (B := dl) (B' := dl) (m := ps.length) (by omega) ag (fun _ _ => rfl)
  obtain ⟨f1, f2⟩ := full_app.mp h.full
  rw [lm, Nat.sub_self] at b3
  have e2 := full_hd f2
  have e3 := run_B0 f1
  have e4 := run_B0 (b4 f1)
  have d0 : dl 0 = 1 := rfl
  rw [d0] at e3 e4
  rw [e3] at e2
  rw [e2] at b3
  refine ⟨by rw [e4]; grind, by grind⟩
/-- a number too far away -/
theorem out_far {ds : List Rat} (h : Ec (ps.map val ++ (0 :: ds)) e s) (ag : ∀ j, j < ps.length → x j = s j) (hc : ps.length < c) (gr : Gr 0 x dl) (pn : ∀ p ∈ ps, Pn p) (l30 : ps.length ≤ 30)
    (far : rch (ps.map val) < x ps.length - s ps.length ∨ x ps.length - s ps.length < -rch (ps.map val)) : In x c ps ∧ OutE x c ps ps.length := by
  obtain ⟨a, b⟩ := left_run h ag
  have b' : (run (ps.map val) x dl).1 0 = x ps.length - s ps.length := by
    rw [b]
    show (0 : Rat) * _ + _ = _
    grind
  exact ⟨⟨gr, pn, l30, by omega, sch_agr h ag (Nat.le_refl _)⟩, .inl ⟨rfl, hc, by rw [a, b']; exact far⟩⟩
/-- a number that is not the one that must follow -/
theorem out_off {e : Int} (h : Ec (ps.map val) (e : Rat) s) (he : e = 1 ∨ e = -1) (ag : ∀ j, j < m → x j = s j) (hm : ps.length < m) (hc : m < c) (gr : Gr 0 x dl) (pn : ∀ p ∈ ps, Pn p) (l30 : ps.length ≤ 30) (ne : x m ≠ s m) : In x c ps ∧ OutE x c ps m := by
  have lm : (ps.map val).length = ps.length := List.length_map _
  obtain ⟨b1, b2, b3, b4⟩ := run_pert (cs := ps.map val) (A := x) (A' := s) (B := dl) (B' := dl) (m := m) (by omega) ag (fun _ _ => rfl)
  obtain ⟨f1, f2⟩ := full_sch h.full
  rw [lm] at b3
  refine ⟨⟨gr, pn, l30, by omega, b4 f1⟩, .inr ⟨e, m - ps.length, by omega, by omega, by omega, he, fun j hj => ?_, fun z => ne ?_⟩⟩
  · rw [b1 j (by omega), b2 j (by omega)]
    exact f2 j
  · have e1 := b2 (m - ps.length) (by omega)
    have e2 := f2 (m - ps.length)
    rw [z, e2, e1] at b3
    grind
/-- the stretch behind numbers that do not reach the end; x has 0 behind them -/
theorem st_non {ds : List Rat} (h : Ec (ps.map val ++ (0 :: ds)) e s) (ag : ∀ j, j < ps.length → x j = s j) (x0 : x ps.length = 0) : stU x ps.length ps .non = s ps.length - rch (ps.map val) ∧ stV x ps.length ps .non = s ps.length + rch (ps.map val) := by
  obtain ⟨a, b⟩ := left_run h ag
  have b' : (run (ps.map val) x dl).1 0 = -s ps.length := by
    rw [b, x0]
    show (0 : Rat) * _ + _ = _
    grind
  unfold stU stV
  rw [a, b']
  exact ⟨by grind, by grind⟩
/-- the one that must follow -/
theorem st_end {e : Int} (h : Ec (ps.map val) (e : Rat) s) (ag : ∀ j, j < m → x j = s j) (hm : ps.length < m) (x0 : x m = 0) : stU x m ps (.int e) = s m ∧ stV x m ps (.int e) = s m := by
  have lm : (ps.map val).length = ps.length := List.length_map _
  obtain ⟨b1, b2, b3, b4⟩ := run_pert (cs := ps.map val) (A := x) (A' := s) (B := dl) (B' := dl) (m := m) (by omega) ag (fun _ _ => rfl)
  obtain ⟨f1, f2⟩ := full_sch h.full
  rw [lm, x0] at b3
  have e1 := b2 (m - ps.length) (by omega)
  have e2 := f2 (m - ps.length)
  have : (e : Rat) * (run (ps.map val) x dl).2 (m - ps.length) - (run (ps.map val) x dl).1 (m - ps.length) = s m := by
    rw [e1]
    rw [e2] at b3
    grind
  exact ⟨this, this⟩
/-- the next echo of a pile with another pane there -/
theorem ec_next {ds : List Rat} {s' : Sq} {d : Rat} {e' : Rat} {es : List Rat} (h : Ec (ps.map val ++ (0 :: ds)) e s) (h' : Ec (ps.map val ++ es) e' s') (hd' : hd es e' = d) : (∀ j, j < ps.length → s' j = s j) ∧ s' ps.length = s ps.length + d * rch (ps.map val) := by
  have lm : (ps.map val).length = ps.length := List.length_map _
  have ag := ec_agree h' h
  have df := ec_diff h' h ag
  rw [lm] at ag df
  rw [hd'] at df
  have z : hd (0 :: ds) e = 0 := rfl
  rw [z] at df
  exact ⟨ag, by grind⟩
end
/-! ### sizes -/
theorem Rep.zero (D M : Nat) : Rep D M 0 := ⟨0, by have e : ((0 : Int) : Rat) = 0 := rfl; rw [e]; grind, Nat.zero_le _⟩
theorem GL.gr {a b : Nat} {qs : List (Int × Int)} (h : GL a b qs) (ha : a < 1000) (hb : b < 1000) : Gr 0 (sq qs) dl := by
  obtain ⟨D, M, d0, d1, d2, r⟩ := h.ex
  have p1 : (2 : Nat) ^ a < 2 ^ (1000 + 28 * 0) := Nat.pow_lt_pow_right (by decide) (by omega)
  have p2 : (2 : Nat) ^ b < 2 ^ (1000 + 28 * 0) := Nat.pow_lt_pow_right (by decide) (by omega)
  refine ⟨D, max M D, d0, by omega, by omega, fun j => ?_, fun j => ?_⟩
  · unfold sq
    cases hq : qs[j]? with
    | none => exact Rep.zero _ _
    | some q => exact (r q (List.mem_of_getElem? hq)).le (by omega)
  · unfold KM.dl
    split
    · exact ⟨(D : Int), by push_cast; grind, by omega⟩
    · exact Rep.zero _ _
/-- one more number -/
theorem GL.app {a b c d : Nat} {qs : List (Int × Int)} {y : Int × Int} (h : GL a b qs) (ly : Low y) (h1 : y.1.natAbs ≤ 2 ^ c) (h2 : y.2.natAbs ≤ 2 ^ d) : GL (a + d) (max (b + d) (a + c)) (qs ++ [y]) := by
  obtain ⟨D, M, d0, d1, d2, r⟩ := h.ex
  have py := ly.pos
  refine ⟨D * y.2.natAbs, max (M * y.2.natAbs) (D * y.1.natAbs), Nat.mul_pos d0 (by omega), by rw [Nat.pow_add]; exact Nat.mul_le_mul d1 h2, ?_, fun q hq => ?_⟩
  · have e1 : M * y.2.natAbs ≤ 2 ^ (b + d) := by rw [Nat.pow_add]; exact Nat.mul_le_mul d2 h2
    have e2 : D * y.1.natAbs ≤ 2 ^ (a + c) := by rw [Nat.pow_add]; exact Nat.mul_le_mul d1 h1
    have e3 : (2 : Nat) ^ (b + d) ≤ 2 ^ (max (b + d) (a + c)) := Nat.pow_le_pow_right (by decide) (by omega)
    have e4 : (2 : Nat) ^ (a + c) ≤ 2 ^ (max (b + d) (a + c)) := Nat.pow_le_pow_right (by decide) (by omega)
    omega
  · rcases List.mem_append.mp hq with z | z
    · exact ((r q z).mul y.2.natAbs).le (by omega)
    · rw [List.mem_singleton.mp z]
      refine ⟨(D : Int) * y.1, ?_, ?_⟩
      · have h2' := cast_ne (KM.Low.ne ly)
        have e : ((y.2.natAbs : Nat) : Rat) = (y.2 : Rat) := by
          have e : ((y.2.natAbs : Nat) : Int) = y.2 := by omega
          exact_mod_cast congrArg (fun z : Int => (z : Rat)) e
        push_cast
        rw [e]
        unfold val
        grind
      · rw [Int.natAbs_mul]
        show D * y.1.natAbs ≤ _
        omega
theorem GL.mono {a b a' b' : Nat} {qs : List (Int × Int)} (h : GL a b qs) (ha : a ≤ a') (hb : b ≤ b') : GL a' b' qs := let ⟨D, M, d0, d1, d2, r⟩ := h.ex; ⟨D, M, d0, Nat.le_trans d1 (Nat.pow_le_pow_right (by decide) ha), Nat.le_trans d2 (Nat.pow_le_pow_right (by decide) hb), r⟩
/-- a number's parts by what it is the sum of -/
theorem parts_sub {p q y : Int × Int} {a b c d : Nat} (hy : Low y) (hp : Low p) (hq : Low q) (e : val y = val p - val q ∨ val y = val p + val q) (h1 : p.1.natAbs ≤ 2 ^ a) (h2 : p.2.natAbs ≤ 2 ^ b) (h3 : q.1.natAbs ≤ 2 ^ c) (h4 : q.2.natAbs ≤ 2 ^ d) :
    y.2.natAbs ≤ 2 ^ (b + d) ∧ y.1.natAbs ≤ 2 ^ (a + d) + 2 ^ (b + c) := by
  have nz := Int.mul_ne_zero (KM.Low.ne hp) (KM.Low.ne hq)
  have m1 : (p.1 * q.2).natAbs ≤ 2 ^ (a + d) := by rw [Int.natAbs_mul, Nat.pow_add]; exact Nat.mul_le_mul h1 h4
  have m2 : (q.1 * p.2).natAbs ≤ 2 ^ (b + c) := by rw [Int.natAbs_mul, Nat.pow_add, Nat.mul_comm]; exact Nat.mul_le_mul h2 h3
  have m3 : (p.2 * q.2).natAbs ≤ 2 ^ (b + d) := by rw [Int.natAbs_mul, Nat.pow_add]; exact Nat.mul_le_mul h2 h4
  rcases e with e | e
  · have : y = fsub p q := val_inj hy (low_fsub hp hq) (by rw [e, val_sub hp hq])
    rw [this]
    exact ⟨Nat.le_trans (low_le2 nz) m3, Nat.le_trans (low_le1 nz) (by omega)⟩
  · have : y = fadd p q := val_inj hy (low_fadd hp hq) (by rw [e, val_add hp hq])
    rw [this]
    exact ⟨Nat.le_trans (low_le2 nz) m3, Nat.le_trans (low_le1 nz) (by omega)⟩
theorem sq_app {qs : List (Int × Int)} {y : Int × Int} {rs : List (Int × Int)} : (∀ j, j < qs.length → sq (qs ++ y :: rs) j = sq qs j) ∧ sq (qs ++ y :: rs) qs.length = val y := by
  refine ⟨fun j hj => ?_, ?_⟩
  · unfold sq
    rw [List.getElem?_append_left hj]
  · unfold sq
    rw [List.getElem?_append_right (Nat.le_refl _), Nat.sub_self]
    rfl
theorem sq_len (qs : List (Int × Int)) : sq qs qs.length = 0 := by
  unfold sq
  rw [List.getElem?_eq_none (Nat.le_refl _)]
  rfl
end Fx

set_option Elab.async false
set_option linter.all false
set_option maxRecDepth 100000
set_option maxHeartbeats 4000000
set_option exponentiation.threshold 20000
/-! The numbers behind so many panes: what each next one does. -/
namespace Fx
open PySem PySem.Spec PyProof.Rows L2 FM KM LamX
theorem GL.grc {a b : Nat} {qs : List (Int × Int)} {y : Int × Int} (h : GL a b qs) (ly : Low y) (h1 : y.1.natAbs ≤ 2 ^ 480) (h2 : y.2.natAbs ≤ 2 ^ 240) (ha : a ≤ 156) (hb : b ≤ 384) : GL 396 636 (qs ++ [y]) := (h.app ly h1 h2).mono (by omega) (by omega)
/-- a few numbers, told by panes and an end -/
structure Sit (qs ps : List (Int × Int)) (s : Sq) : Prop where
  low : ∀ q ∈ qs, Low q
  gl : GL 156 384 qs
  pn : ∀ p ∈ ps, Pn p
  l6 : ps.length ≤ 6
  lc : ps.length ≤ qs.length
  c6 : qs.length ≤ 6
  ag : ∀ j, j < qs.length → sq qs j = s j
theorem sq_ag {qs : List (Int × Int)} {s : Sq} {y : Int × Int} (h : ∀ j, j < qs.length → sq qs j = s j) (hv : val y = s qs.length) : ∀ j, j < qs.length + 1 → sq (qs ++ [y]) j = s j := fun j hj => by
  by_cases z : j < qs.length
  · rw [(sq_app (y := y) (rs := [])).1 j z, h j z]
  · have : j = qs.length := by omega
    subst this
    rw [(sq_app (y := y) (rs := [])).2, hv]
theorem len1 (qs : List (Int × Int)) (y : Int × Int) : (qs ++ [y]).length = qs.length + 1 := by rw [List.length_append]; rfl
/-- one more number, the one that the end e brings -/
theorem Sit.fin {qs ps : List (Int × Int)} {s : Sq} {e : Int} {y : Int × Int} (S : Sit qs ps s) (h : Ec (ps.map val) (e : Rat) s) (he : e = 1 ∨ e = -1) (ly : Low y) (h1 : y.1.natAbs ≤ 2 ^ 480) (h2 : y.2.natAbs ≤ 2 ^ 240) (hv : val y = s qs.length) :
    In (sq (qs ++ [y])) (qs ++ [y]).length ps ∧ OutP (sq (qs ++ [y])) (qs ++ [y]).length ps (.int e) ∧ stU (sq (qs ++ [y])) (qs ++ [y]).length ps (.int e) = s (qs.length + 1) ∧ stV (sq (qs ++ [y])) (qs ++ [y]).length ps (.int e) = s (qs.length + 1) := by
  have ag := sq_ag S.ag hv
  have gr := (S.gl.grc ly h1 h2 (Nat.le_refl _) (Nat.le_refl _)).gr (by decide) (by decide)
  have l := S.lc
  have l6 := S.l6
  rw [len1]
  obtain ⟨a, b⟩ := out_end (c := qs.length + 1) h he ag (by omega) gr S.pn (by omega)
  obtain ⟨c, d⟩ := st_end (m := qs.length + 1) h ag (by omega) (by have := sq_len (qs ++ [y]); rw [len1] at this; exact this)
  exact ⟨a, b, c, d⟩
/-- the end is among the numbers already -/
theorem Sit.end_ {qs ps : List (Int × Int)} {s : Sq} {e : Int} (S : Sit qs ps s) (h : Ec (ps.map val) (e : Rat) s) (he : e = 1 ∨ e = -1) (lt : ps.length < qs.length) :
    In (sq qs) qs.length ps ∧ OutP (sq qs) qs.length ps (.int e) ∧ stU (sq qs) qs.length ps (.int e) = s qs.length ∧ stV (sq qs) qs.length ps (.int e) = s qs.length := by
  have gr := S.gl.gr (by decide) (by decide)
  have l6 := S.l6
  obtain ⟨a, b⟩ := out_end h he S.ag lt gr S.pn (by omega)
  obtain ⟨c, d⟩ := st_end h S.ag lt (sq_len qs)
  exact ⟨a, b, c, d⟩
/-- all numbers are of panes -/
theorem Sit.non {qs ps : List (Int × Int)} {s : Sq} {e : Rat} {es : List Rat} (S : Sit qs ps s) (h : Ec (ps.map val ++ (0 :: es)) e s) (eq : ps.length = qs.length) :
    In (sq qs) qs.length ps ∧ OutP (sq qs) qs.length ps .non ∧ stU (sq qs) qs.length ps .non = s qs.length - rch (ps.map val) ∧ stV (sq qs) qs.length ps .non = s qs.length + rch (ps.map val) := by
  have gr := S.gl.gr (by decide) (by decide)
  have l6 := S.l6
  have ag := S.ag
  have x0 := sq_len qs
  rw [← eq] at ag x0
  rw [← eq]
  obtain ⟨a, b⟩ := out_non h ag gr S.pn (by omega)
  obtain ⟨c, d⟩ := st_non h ag x0
  exact ⟨a, b, c, d⟩
/-- one more number, inside -/
theorem Sit.mid {qs ps : List (Int × Int)} {s : Sq} {e : Rat} {es : List Rat} {y z : Int × Int} (S : Sit qs ps s) (h : Ec (ps.map val ++ (0 :: es)) e s) (eq : ps.length = qs.length) (pz : Pn z) (ly : Low y) (h1 : y.1.natAbs ≤ 2 ^ 480) (h2 : y.2.natAbs ≤ 2 ^ 240)
    (hv : val y = s qs.length + val z * rch (ps.map val)) : In (sq (qs ++ [y])) (qs ++ [y]).length (ps ++ [z]) ∧ OutP (sq (qs ++ [y])) (qs ++ [y]).length (ps ++ [z]) .non := by
  obtain ⟨s', h'⟩ := ec_ex ((ps ++ [z]).map val) 1
  have h'' := h'
  rw [List.map_append] at h''
  obtain ⟨a, b⟩ := ec_next h h'' (rfl : hd ((([z] : List (Int × Int)).map val)) 1 = val z)
  have ag : ∀ j, j < qs.length + 1 → sq (qs ++ [y]) j = s' j := sq_ag (fun j hj => by rw [S.ag j hj, a j (by omega)]) (by rw [hv, ← eq, b]; rfl)
  have gr := (S.gl.grc ly h1 h2 (Nat.le_refl _) (Nat.le_refl _)).gr (by decide) (by decide)
  have l6 := S.l6
  have lz : (ps ++ [z]).length = qs.length + 1 := by rw [len1]; omega
  have r := out_non (ps := ps ++ [z]) (ds := []) (e := 1) (s := s') (x := sq (qs ++ [y])) (by rw [List.append_nil]; exact h') (fun j hj => ag j (by omega)) gr (fun p hp => by
    rcases List.mem_append.mp hp with q | q
    · exact S.pn p q
    · rw [List.mem_singleton.mp q]; exact pz) (by rw [lz]; have := S.c6; omega)
  rw [lz] at r
  rw [len1]
  exact r
/-- the echo for the one end or the other from here on -/
theorem Sit.to {qs ps : List (Int × Int)} {s : Sq} {e : Rat} {es : List Rat} (S : Sit qs ps s) (h : Ec (ps.map val ++ (0 :: es)) e s) (eq : ps.length = qs.length) {e' : Rat} {s' : Sq} (h' : Ec (ps.map val) e' s') :
    Sit qs ps s' ∧ s' qs.length = s qs.length + e' * rch (ps.map val) := by
  obtain ⟨a, b⟩ := ec_next h (es := []) (by rw [List.append_nil]; exact h') (rfl : hd [] e' = e')
  exact ⟨⟨S.low, S.gl, S.pn, S.l6, S.lc, S.c6, fun j hj => by rw [S.ag j hj, a j (by omega)]⟩, by rw [← eq]; exact b⟩
/-- one more number, too far away; others behind it -/
theorem Sit.far {qs ps : List (Int × Int)} {s : Sq} {e : Rat} {es : List Rat} {y : Int × Int} (S : Sit qs ps s) (h : Ec (ps.map val ++ (0 :: es)) e s) (eq : ps.length = qs.length) (ly : Low y) (h1 : y.1.natAbs ≤ 2 ^ 480) (h2 : y.2.natAbs ≤ 2 ^ 240) (rs : List (Int × Int)) (gl : GL 700 700 (qs ++ y :: rs))
    (far : s qs.length + rch (ps.map val) < val y ∨ val y < s qs.length - rch (ps.map val)) : In (sq (qs ++ y :: rs)) (qs ++ y :: rs).length ps ∧ OutE (sq (qs ++ y :: rs)) (qs ++ y :: rs).length ps qs.length := by
  have gr := gl.gr (by decide) (by decide)
  have l6 := S.l6
  have ll : (qs ++ y :: rs).length = qs.length + (rs.length + 1) := by rw [List.length_append]; rfl
  obtain ⟨a1, a2⟩ := sq_app (qs := qs) (y := y) (rs := rs)
  have r := out_far (c := (qs ++ y :: rs).length) h (fun j hj => by rw [a1 j (by omega), S.ag j (by omega)]) (by omega) gr S.pn (by omega) (by rw [eq, a2]; grind)
  rw [eq] at r
  exact r
/-- one more number that is not the one due; others behind it -/
theorem Sit.off {qs ps : List (Int × Int)} {s : Sq} {e : Int} {y : Int × Int} (S : Sit qs ps s) (h : Ec (ps.map val) (e : Rat) s) (he : e = 1 ∨ e = -1) (lt : ps.length < qs.length) (rs : List (Int × Int)) (gl : GL 700 700 (qs ++ y :: rs)) (ne : val y ≠ s qs.length) :
    In (sq (qs ++ y :: rs)) (qs ++ y :: rs).length ps ∧ OutE (sq (qs ++ y :: rs)) (qs ++ y :: rs).length ps qs.length := by
  have gr := gl.gr (by decide) (by decide)
  have l6 := S.l6
  have ll : (qs ++ y :: rs).length = qs.length + (rs.length + 1) := by rw [List.length_append]; rfl
  obtain ⟨a1, a2⟩ := sq_app (qs := qs) (y := y) (rs := rs)
  exact out_off (c := (qs ++ y :: rs).length) h he (fun j hj => by rw [a1 j hj, S.ag j hj]) lt (by omega) gr S.pn (by omega) (by rw [a2]; exact ne)
/-! ### all but the pool and the tables stands -/
def Kx (r : Addr) (H H' : Hp) : Prop := ∀ b o, H b = some o → b ≠ r → (∀ ps, o ≠ .tbl ps) → H' b = some o
theorem Kx.of {r : Addr} {H H' : Hp} (e : Ext H H') : Kx r H H' := fun b o h _ _ => e b o h
theorem Kx.n {r : Addr} {H H' : Hp} (e : ExtN H H') : Kx r H H' := fun b o h _ n => e b o h n
theorem Kx.k {r : Addr} {H H' : Hp} (e : Kp r H H') : Kx r H H' := fun b o h n _ => e b o h n
theorem Kx.trans {r : Addr} {H H1 H2 : Hp} (a : Kx r H H1) (b : Kx r H1 H2) : Kx r H H2 := fun c o h n m => b c o (a c o h n m) n m
theorem TupAt.x {H H' : Hp} {r a : Addr} {q : Int × Int} (h : TupAt H a q) (k : Kx r H H') {c : Addr} (hr : PoolAt H r c) : TupAt H' a q := by
  refine k a _ h ?_ fun ps z => by cases z
  rintro rfl
  obtain ⟨cs, i, cur, m, e, _⟩ := hr
  rw [show H a = _ from h] at e
  cases e
theorem FracAt.x {C : Addr} {H H' : Hp} {r a : Addr} {q : Int × Int} (h : FracAt C H a q) (k : Kx r H H') {c : Addr} (hr : PoolAt H r c) : FracAt C H' a q := by
  obtain ⟨dx, h⟩ := h
  refine ⟨dx, k a _ h ?_ fun ps z => by cases z⟩
  rintro rfl
  obtain ⟨cs, i, cur, m, e, _⟩ := hr
  rw [h] at e
  cases e
theorem TL.x {H H' : Hp} {r l : Addr} {ps : List (Int × Int)} (h : TL H l ps) (k : Kx r H H') {c : Addr} (hr : PoolAt H r c) (ne : l ≠ r) : TL H' l ps := let ⟨xs, h1, h2, h3⟩ := h; ⟨xs, k _ _ h1 ne (fun ps z => by cases z), h2, fun j x q hx hq => let ⟨a, e1, e2⟩ := h3 j x q hx hq; ⟨a, e1, e2.x k hr⟩⟩
theorem Num.x {A : Adr} {H H' : Hp} {r : Addr} {v : V} {q : Int × Int} (h : Num A H v q) (k : Kx r H H') {c : Addr} (hr : PoolAt H r c) : Num A H' v q := h.elim (fun ⟨b, e1, f⟩ => .inl ⟨b, e1, f.x k hr⟩) .inr
theorem NumsAt.x {A : Adr} {H H' : Hp} {r : Addr} {ys : List V} {qs : List (Int × Int)} (h : NumsAt A H ys qs) (k : Kx r H H') {c : Addr} (hr : PoolAt H r c) : NumsAt A H' ys qs := ⟨h.1, fun i y q a b => (h.2 i y q a b).x k hr⟩
theorem LN.x {A : Adr} {H H' : Hp} {r l : Addr} {qs : List (Int × Int)} (h : LN A H l qs) (k : Kx r H H') {c : Addr} (hr : PoolAt H r c) (ne : l ≠ r) : LN A H' l qs := let ⟨ys, h1, h2⟩ := h; ⟨ys, k _ _ h1 ne (fun ps z => by cases z), h2.x k hr⟩
theorem T2.x {A : Adr} {H H' : Hp} {r t : Addr} {u v : Rat} (h : T2 A H t u v) (k : Kx r H H') {c : Addr} (hr : PoolAt H r c) : T2 A H' t u v := by
  obtain ⟨a, b, p, q, h1, h2, h3, h4⟩ := h
  refine ⟨a, b, p, q, k t _ h1 ?_ (fun ps z => by cases z), h2.x k hr, h3.x k hr, h4⟩
  rintro rfl
  obtain ⟨cs, i, cur, m, e, _⟩ := hr
  rw [h1] at e
  cases e
theorem Tabs.kp {T : List (Addr × Str)} {H H' : Hp} {r c : Addr} (t : Tabs T H) (k : Kp r H H') (hr : PoolAt H r c) : Tabs T H' := fun p hp => by
  obtain ⟨ps, h1, h2, h3⟩ := t p hp
  obtain ⟨cs, i, cur, m, e, _⟩ := hr
  refine ⟨ps, k _ _ h1 ?_, h2, fun pos cv hc => ?_⟩
  · intro z
    rw [z, e] at h1
    cases h1
  · obtain ⟨b, e1, e2⟩ := h3 pos cv hc
    refine ⟨b, e1, k _ _ e2 ?_⟩
    rintro rfl
    rw [e] at e2
    cases e2
theorem T2.ext {A : Adr} {H H' : Hp} {t : Addr} {u v : Rat} (h : T2 A H t u v) (e : Ext H H') : T2 A H' t u v := let ⟨a, b, p, q, h1, h2, h3, h4⟩ := h; ⟨a, b, p, q, e _ _ h1, h2.ext e, h3.ext e, h4⟩
theorem T2.n {A : Adr} {H H' : Hp} {t : Addr} {u v : Rat} (h : T2 A H t u v) (e : ExtN H H') : T2 A H' t u v := let ⟨a, b, p, q, h1, h2, h3, h4⟩ := h; ⟨a, b, p, q, e _ _ h1 (fun ps z => by cases z), h2.n e, h3.n e, h4⟩
/-- the two fractions as a row -/
theorem T2.pt {A : Adr} {H : Hp} {t : Addr} {u v : Rat} {p q : Int × Int} (h : T2 A H t u v) (lp : Low p) (lq : Low q) (hp : val p = u) (hq : val q = v) : PT A H t [p, q] := by
  obtain ⟨a, b, p', q', h1, h2, h3, h4, h5, h6, h7⟩ := h
  have ep : p' = p := val_inj h4 lp (by rw [h6, hp])
  have eq : q' = q := val_inj h5 lq (by rw [h7, hq])
  subst ep eq
  refine ⟨_, h1, rfl, fun j x r hx hr => ?_⟩
  match j with
  | 0 =>
    have e1 : V.ref a = x := by simpa using hx
    have e2 : p' = r := by simpa using hr
    exact ⟨a, e1.symm, e2 ▸ h2⟩
  | 1 =>
    have e1 : V.ref b = x := by simpa using hx
    have e2 : q' = r := by simpa using hr
    exact ⟨b, e1.symm, e2 ▸ h3⟩
  | j + 2 => simp at hx
theorem tl2 {H : Hp} {l a b : Addr} {p q : Int × Int} (h : H l = some (.lst [.ref a, .ref b])) (h1 : TupAt H a p) (h2 : TupAt H b q) : TL H l [p, q] := by
  refine ⟨_, h, rfl, fun j x r hx hr => ?_⟩
  match j with
  | 0 =>
    have e1 : V.ref a = x := by simpa using hx
    have e2 : p = r := by simpa using hr
    exact ⟨a, e1.symm, e2 ▸ h1⟩
  | 1 =>
    have e1 : V.ref b = x := by simpa using hx
    have e2 : q = r := by simpa using hr
    exact ⟨b, e1.symm, e2 ▸ h2⟩
  | j + 2 => simp at hx
theorem tl1 {H : Hp} {l a : Addr} {p : Int × Int} (h : H l = some (.lst [.ref a])) (h1 : TupAt H a p) : TL H l [p] := by
  refine ⟨_, h, rfl, fun j x r hx hr => ?_⟩
  cases j with
  | zero =>
    have e1 : V.ref a = x := by simpa using hx
    have e2 : p = r := by simpa using hr
    exact ⟨a, e1.symm, e2 ▸ h1⟩
  | succ j => simp at hx
theorem TL.app {H : Hp} {l r : Addr} {ps : List (Int × Int)} {p : Int × Int} {xs : List V} (h : TL H l ps) (hl : H l = some (.lst xs)) (hp : TupAt H r p) {m : Addr} (hm : H m = some (.lst (xs ++ [V.ref r]))) : TL H m (ps ++ [p]) := by
  obtain ⟨ys, h1, h2, h3⟩ := h
  rw [hl] at h1
  injection h1 with h1
  injection h1 with h1
  subst h1
  refine ⟨_, hm, by rw [List.length_append, List.length_append, h2]; rfl, fun j x q hx hq => ?_⟩
  by_cases hj : j < xs.length
  · rw [List.getElem?_append_left hj] at hx
    rw [List.getElem?_append_left (by omega)] at hq
    exact h3 j x q hx hq
  · rw [List.getElem?_append_right (by omega)] at hx hq
    have e0 : j - xs.length = 0 := by
      have := (List.getElem?_eq_some_iff.mp hx).1
      simp at this
      omega
    rw [e0] at hx
    rw [← h2, e0] at hq
    have ex : V.ref r = x := by simpa using hx
    have eq : p = q := by simpa using hq
    exact ⟨r, ex.symm, eq ▸ hp⟩
end Fx

set_option Elab.async false
set_option linter.all false
set_option maxRecDepth 100000
set_option maxHeartbeats 4000000
set_option exponentiation.threshold 20000
namespace Fx
open PySem PySem.Spec PyProof.Rows L2 FM KM LamX
theorem bdk {n : Int} {k : Nat} (h : n.natAbs ≤ 2 ^ k) (hk : k < 4000) : Bd n := Nat.lt_of_le_of_lt h (Nat.pow_lt_pow_right (by decide) hk)
theorem bik {n : Int} {k : Nat} (h : n.natAbs ≤ 2 ^ k) (hk : k < 8900) : Bi n := Nat.lt_of_le_of_lt h (Nat.pow_lt_pow_right (by decide) hk)
theorem pw_le {a b : Nat} (h : a ≤ b) : (2 : Nat) ^ a ≤ 2 ^ b := Nat.pow_le_pow_right (by decide) h
theorem pw_sum {a b c : Nat} (h1 : a < c) (h2 : b < c) : (2 : Nat) ^ a + 2 ^ b ≤ 2 ^ c := by
  have e : (2 : Nat) ^ c = 2 ^ (c - 1) + 2 ^ (c - 1) := by
    rw [show c = (c - 1) + 1 by omega, Nat.pow_succ, show c - 1 + 1 - 1 = c - 1 by omega]
    omega
  rw [e]
  exact Nat.add_le_add (pw_le (by omega)) (pw_le (by omega))
/-- what stands while the numbers behind the panes are tried -/
structure OS (T : List (Addr × Str)) (A : Adr) (rp cp l d t m rr : Addr) (qs ps : List (Int × Int)) (u v : Rat) (pm pr : Int × Int) (H0 H : Hp) : Prop where
  T : Tabs T H
  P : PoolAt H rp cp
  l : LN A H l qs
  d : TL H d ps
  t : T2 A H t u v
  m : TupAt H m pm
  r : TupAt H rr pr
  k : Kx rp H0 H
section
variable {T : List (Addr × Str)} {A : Adr} {rp cp l d t m rr : Addr} {qs ps : List (Int × Int)} {u v : Rat} {pm pr : Int × Int} {H0 H H' : Hp}
theorem OS.n (o : OS T A rp cp l d t m rr qs ps u v pm pr H0 H) (e : ExtN H H') (t' : Tabs T H') : OS T A rp cp l d t m rr qs ps u v pm pr H0 H' := ⟨t', o.P.n e, o.l.n e, o.d.n e, o.t.n e, o.m.n e, o.r.n e, o.k.trans (Kx.n e)⟩
theorem OS.ext (o : OS T A rp cp l d t m rr qs ps u v pm pr H0 H) (e : Ext H H') : OS T A rp cp l d t m rr qs ps u v pm pr H0 H' := o.n (ExtN.of e) (o.T.ext e)
theorem OS.kp (o : OS T A rp cp l d t m rr qs ps u v pm pr H0 H) (n1 : l ≠ rp) (n2 : d ≠ rp) (e : Kp rp H H') (p : PoolAt H' rp cp) : OS T A rp cp l d t m rr qs ps u v pm pr H0 H' := ⟨Tabs.kp o.T e o.P, p, o.l.x (Kx.k e) o.P n1, o.d.x (Kx.k e) o.P n2, o.t.x (Kx.k e) o.P, o.m.x (Kx.k e) o.P, o.r.x (Kx.k e) o.P, o.k.trans (Kx.k e)⟩
end
def spOpn (T : List (Addr × Str)) (A : Adr) : Sp := fun vs H Q _ => ∃ (rp cp l d t m rr : Addr) (n : Int) (qs ps : List (Int × Int)) (s : Sq) (pm pr : Int × Int), vs = [.ref rp, .ref l, .ref d, .ref t, .ref m, .ref rr, .int n] ∧
  OS T A rp cp l d t m rr qs ps (s qs.length - rch (ps.map val)) (s qs.length + rch (ps.map val)) pm pr H H ∧ l ≠ rp ∧ d ≠ rp ∧ Sit qs ps s ∧ wt ps ≤ 2 ^ 26 ∧ ps.length ≤ 5 ∧ ps.length = qs.length ∧ Ec (ps.map val ++ (0 :: [])) 1 s ∧
  Low pm ∧ val pm = s qs.length ∧ pm.1.natAbs ≤ 2 ^ 384 ∧ pm.2.natAbs ≤ 2 ^ 156 ∧ Low pr ∧ val pr = rch (ps.map val) ∧ pr.1.natAbs ≤ 2 ^ 60 ∧ pr.2.natAbs ≤ 2 ^ 60 ∧ ∀ H', Tabs T H' → PoolAt H' rp cp → Kx rp H H' → Q (.bl true) H'
theorem pn01 : Pn ((0, 1) : Int × Int) := ⟨lowInt 0, by decide, by decide, by decide⟩
theorem val01 : val ((0, 1) : Int × Int) = 0 := by rw [val_int]; rfl
/-- the list with one number more -/
theorem ns_app {A : Adr} {H : Hp} {ys : List V} {qs : List (Int × Int)} {r : Addr} {v : V} {y : Int × Int} (h : H r = some (.lst (ys ++ [v]))) (hn : NumsAt A H ys qs) (hv : Num A H v y) (lo : ∀ q ∈ qs, Low q) (ly : Low y) : ns A H r (qs ++ [y]) := ⟨_, .inl h, numsAt_app hn (numsAt_one hv), fun q hq => by
  rcases List.mem_append.mp hq with z | z
  · exact lo q z
  · rw [List.mem_singleton.mp z]; exact ly⟩
section
variable {P : Program} {w : World} {K : PySem.W.Frag} {mg : Str → Option Value} {base : Heap} {A : Adr}
theorem scOpn : FnScope ["pool", "passed", "panes", "told", "middle", "reach", "way", "base", "pane", "between", "k", "after"] ["pool", "passed", "panes", "told", "middle", "reach", "way"] (defScope (top 44)) := ⟨rfl, rfl, rfl, by decide +kernel, rfl, by decide +kernel, by decide +kernel⟩
theorem ok_opn {T : List (Addr × Str)} {N B f : Addr} {fd : FuncData} (F : Fun K "_law_open" "_law_open" (top 44) f fd) (hL : LF P w K mg base "_law_peels" 14 ["numbers", "panes", "last"] (spPls T A)) (hD : LF P w K mg base "_law_draw" 1 ["pool", "base"] spDraw) (hW : LF P w K mg base "_law_low" 2 ["top", "bottom"] spLowK) (hN : LF P w K mg base "_law_number" 3 ["pair", "way"] (spNu A)) (hA : LF P w K mg base "_law_add" 3 ["x", "y"] spAddK) (hM : LF P w K mg base "_law_mul" 3 ["x", "y"] spMulK) (hE : LF P w K mg base "_law_echo" 4 ["panes", "last", "at"] spEcho) (hO : LF P w K mg base "_law_row" 3 ["told", "due", "tied"] (spRow A)) (hS : LF P w K mg base "next_stretch" 8 ["numbers"] (spNs K A B N)) (tu : mg "tuple" = none) (le : mg "len" = none) (ra : mg "range" = none) : FnOk P w K mg base (L2.CX P w) 15 f fd ["pool", "passed", "panes", "told", "middle", "reach", "way"] (spOpn T A) := by
  refine F.okX scOpn (fun vs H Q E h => ?_) (fun cdv AA outer s H vs Q E hr h => ?_)
  · obtain ⟨rp, cp, l, d, t, m, rr, n, qs, ps, s, pm, pr, rfl, _⟩ := h
    rfl
  · obtain ⟨rp, cp, l, d, t, m, rr, n, qs, ps, s, pm, pr, rfl, os, nl, nd, S, hw, p5, eq, ec, lpm, vm, pm1, pm2, lpr, vr, pr1, pr2, k⟩ := h
    obtain ⟨fL, gL, cL⟩ := hL
    obtain ⟨fdL, GL, bL⟩ := cL.ex
    obtain ⟨fD, gD, cD⟩ := hD
    obtain ⟨fdD, GD, bD⟩ := cD.ex
    obtain ⟨fW, gW, cW⟩ := hW
    obtain ⟨fdW, GW, bW⟩ := cW.ex
    obtain ⟨fN, gN, cN⟩ := hN
    obtain ⟨fdN, GN, bN⟩ := cN.ex
    obtain ⟨fA, gA, cA⟩ := hA
    obtain ⟨fdA, GA, bA⟩ := cA.ex
    obtain ⟨fM, gM, cM⟩ := hM
    obtain ⟨fdM, GM, bM⟩ := cM.ex
    obtain ⟨fE, gE, cE⟩ := hE
    obtain ⟨fdE, GE, bE⟩ := cE.ex
    obtain ⟨fO, gO, cO⟩ := hO
    obtain ⟨fdO, GO, bO⟩ := cO.ex
    obtain ⟨fS, gS, cS⟩ := hS
    obtain ⟨fdS, GS, bS⟩ := cS.ex
    refine ⟨_, (pss_cons (ps_if (pt_not (pt_val (pe_call GL (hr.mono (by decide)) rfl gL cL.kp bL .nil (E := E0) passL (pa_cons (pe_op op_cat (pv 1) (pe_lst (pa_cons (pe_ix ix_tup (pv 3) pe_int (fun _ _ => rfl)) pa_nil))) (pa_cons (pv 2) (pa_cons (pe_un L2.un_neg pe_int) pa_nil)))))) (pss_one (ps_ret pe_bl)) pss_nil)
      (pss_cons (ps_if (pt_not (pt_val (pe_call GL (hr.mono (by decide)) rfl gL cL.kp bL .nil (E := E0) passL (pa_cons (pe_op op_cat (pv 1) (pe_lst (pa_cons (pe_ix ix_tup (pv 3) pe_int (fun _ _ => rfl)) pa_nil))) (pa_cons (pv 2) (pa_cons pe_int pa_nil)))))) (pss_one (ps_ret pe_bl)) pss_nil)
      (pss_cons (ps_set (i := 7) scOpn.nd rfl (Or.inl rfl) (pe_op L2.op_add pe_int (pe_call GD (hr.mono (by decide)) rfl gD cD.kp bD .nil (E := E0) passL (pa_cons (pv 0) (pa_cons pe_int pa_nil)))))
      (pss_cons (ps_set (i := 8) scOpn.nd rfl (Or.inl rfl) (pe_call GW (hr.mono (by decide)) rfl gW cW.kp bW .nil (E := E0) passL (pa_cons (pe_op L2.op_add (pe_op L2.op_sub (pe_call GD (hr.mono (by decide)) rfl gD cD.kp bD .nil (E := E0) passL (pa_cons (pv 0) (pa_cons (pe_op L2.op_sub (pe_op L2.op_mul pe_int (pv 7)) pe_int) pa_nil))) (pv 7)) pe_int) (pa_cons (pv 7) pa_nil))))
      (pss_cons (ps_set (i := 9) scOpn.nd rfl (Or.inl rfl) (pe_call GN (hr.mono (by decide)) rfl gN cN.kp bN .nil (E := E0) passL (pa_cons (pe_call GA (hr.mono (by decide)) rfl gA cA.kp bA .nil (E := E0) passL (pa_cons (pv 4) (pa_cons (pe_call GM (hr.mono (by decide)) rfl gM cM.kp bM .nil (E := E0) passL (pa_cons (pv 8) (pa_cons (pv 5) pa_nil))) pa_nil))) (pa_cons (pv 6) pa_nil))))
      (pss_cons (ps_if (pt_not (pt_val (pe_call GL (hr.mono (by decide)) rfl gL cL.kp bL .nil (E := E0) passL (pa_cons (pe_op op_cat (pv 1) (pe_lst (pa_cons (pe_call GN (hr.mono (by decide)) rfl gN cN.kp bN .nil (E := E0) passL (pa_cons (pv 4) (pa_cons (pv 6) pa_nil))) pa_nil))) (pa_cons (pe_op op_cat (pv 2) (pe_lst (pa_cons (pe_tup (pa_cons pe_int (pa_cons pe_int pa_nil))) pa_nil))) (pa_cons pe_non pa_nil)))))) (pss_one (ps_ret pe_bl)) pss_nil)
      (pss_cons (ps_if (pt_not (pt_val (pe_call GL (hr.mono (by decide)) rfl gL cL.kp bL .nil (E := E0) passL (pa_cons (pe_callTy call_tuple_of (by rfl) tu boot_tuple (pa_cons (pe_op op_cat (pv 1) (pe_lst (pa_cons (pv 9) pa_nil))) pa_nil)) (pa_cons (pe_op op_cat (pv 2) (pe_lst (pa_cons (pv 8) pa_nil))) (pa_cons pe_non pa_nil)))))) (pss_one (ps_ret pe_bl)) pss_nil)
      (pss_cons (ps_for (passes_of rfl) rfl (pi_range1 rfl ra (pa_cons pe_int pa_nil)) (pg_name (i := 10) scOpn.nd rfl (Or.inl rfl)) (pss_cons (ps_set (i := 11) scOpn.nd rfl (Or.inl rfl) (pe_call GE (hr.mono (by decide)) rfl gE cE.kp bE .nil (E := E0) passL (pa_cons (pv 2) (pa_cons (pe_op L2.op_sub (pe_op L2.op_mul pe_int (pv 10)) pe_int) (pa_cons (pe_op L2.op_add (pe_callB call_len_seq (by rfl) le PySem.boot_len (pa_cons (pv 1) pa_nil)) pe_int) pa_nil)))))
      (pss_one (ps_if (pt_not (pt_val (pe_call GO (hr.mono (by decide)) rfl gO cO.kp bO .nil (E := E0) passL (pa_cons (pe_call GS (hr.mono (by decide)) rfl gS cS.kp bS .nil (E := E0) passL (pa_cons (pe_op op_cat (pv 1) (pe_lst (pa_cons (pe_ix ix_tup (pv 3) (pv 10) (fun _ _ => rfl)) pa_nil))) pa_nil)) (pa_cons (pe_lst (pa_cons (pv 11) (pa_cons (pv 11) pa_nil))) (pa_cons pe_bl pa_nil)))))) (pss_one (ps_ret pe_bl)) pss_nil))))
      (pss_one (ps_ret pe_bl)))))))))), ?_⟩
    have c6 := S.c6
    have bd : ∀ {y : Int × Int}, Low y → (val y = val pm - val pr ∨ val y = val pm + val pr) → y.1.natAbs ≤ 2 ^ 480 ∧ y.2.natAbs ≤ 2 ^ 240 := fun ly e => by
      obtain ⟨b1, b2⟩ := parts_sub ly lpm lpr e pm1 pm2 pr1 pr2
      exact ⟨Nat.le_trans b2 (pw_sum (by omega) (by omega)), Nat.le_trans b1 (pw_le (by omega))⟩
    obtain ⟨sm, hsm⟩ := ec_ex (ps.map val) ((-1 : Int) : Rat)
    obtain ⟨sp, hsp⟩ := ec_ex (ps.map val) ((1 : Int) : Rat)
    obtain ⟨Sm, vsm⟩ := S.to ec eq hsm
    obtain ⟨Sp, vsp⟩ := S.to ec eq hsp
    have im1 : ((-1 : Int) : Rat) = -1 := rfl
    have ip1 : ((1 : Int) : Rat) = 1 := rfl
    rw [im1] at vsm
    rw [ip1] at vsp
    -- the end -1
    obtain ⟨ys, y1, y2⟩ := id os.l
    obtain ⟨fa, fb, pa, pb, t1, t2, t3, t4, t5, t6, t7⟩ := id os.t
    refine ⟨_, rfl, _, rfl, _, _, _, _, rfl, rfl, SqT.of t1, rfl, by show 1 ≤ sizeLine; decide, fun q1 nq1 => ?_⟩
    have f1 := ext1 (o := .lst [.ref fa]) nq1
    refine ⟨l, q1, ys, _, rfl, rfl, f1 _ _ y1, upd_same, by rw [sizeLine_eq, y2.1]; show qs.length + 1 ≤ _; omega, fun r nr => ?_⟩
    have f2 := ext1 (o := .lst (ys ++ [.ref fa])) nr
    have na : ns A (upd (upd H q1 (.lst [.ref fa])) r (.lst (ys ++ [.ref fa]))) r (qs ++ [pa]) := ns_app upd_same ((y2.ext f1).ext f2) (.inl ⟨fa, rfl, (t2.ext f1).ext f2⟩) S.low t4
    have os1 := (os.ext f1).ext f2
    revert na os1
    generalize upd (upd H q1 (.lst [.ref fa])) r (.lst (ys ++ [.ref fa])) = H1
    intro na os1
    obtain ⟨ba1, ba2⟩ := bd t4 (.inl (by rw [t6, vm, vr]))
    obtain ⟨I1, O1, I1a, I1b⟩ := Sm.fin hsm (.inr rfl) t4 ba1 ba2 (by rw [t6, vsm]; grind)
    refine ⟨_, rfl, _, rfl, r, d, _, _, _, rfl, os1.T, na, os1.d, by rw [len1]; omega, by rw [len1]; omega, I1, O1, fun H2 e2 tt2 => ⟨_, rfl, iteF ?_⟩⟩
    have os2 := os1.n e2 tt2
    clear I1 O1 na os1 e2 tt2
    -- the end 1
    obtain ⟨ys, y1, y2⟩ := id os2.l
    obtain ⟨fa2, fb2, pa2, pb2, t1, t2, t3, t4, t5, t6, t7⟩ := id os2.t
    refine ⟨_, rfl, _, rfl, _, _, _, _, rfl, rfl, SqT.of t1, rfl, by show 1 ≤ sizeLine; decide, fun q1 nq1 => ?_⟩
    have f1 := ext1 (o := .lst [.ref fb2]) nq1
    refine ⟨l, q1, ys, _, rfl, rfl, f1 _ _ y1, upd_same, by rw [sizeLine_eq, y2.1]; show qs.length + 1 ≤ _; omega, fun r nr => ?_⟩
    have f2 := ext1 (o := .lst (ys ++ [.ref fb2])) nr
    have na : ns A (upd (upd H2 q1 (.lst [.ref fb2])) r (.lst (ys ++ [.ref fb2]))) r (qs ++ [pb2]) := ns_app upd_same ((y2.ext f1).ext f2) (.inl ⟨fb2, rfl, (t3.ext f1).ext f2⟩) S.low t5
    have os1 := (os2.ext f1).ext f2
    revert na os1
    generalize upd (upd H2 q1 (.lst [.ref fb2])) r (.lst (ys ++ [.ref fb2])) = H3
    intro na os1
    obtain ⟨ba1, ba2⟩ := bd t5 (.inr (by rw [t7, vm, vr]))
    obtain ⟨I1, O1, I1a, I1b⟩ := Sp.fin hsp (.inl rfl) t5 ba1 ba2 (by rw [t7, vsp]; grind)
    refine ⟨_, rfl, r, d, _, _, _, rfl, os1.T, na, os1.d, by rw [len1]; omega, by rw [len1]; omega, I1, O1, fun H4 e4 tt4 => ⟨_, rfl, iteF ?_⟩⟩
    have os4 := os1.n e4 tt4
    clear I1 O1 na os1 e4 tt4
    -- two draws
    have lg : ∀ n : Nat, n < 2 ^ 27 → (n : Int).natAbs.log2 < 9000 := fun n h => Nat.lt_of_lt_of_le (log2_lt (n := (n : Int)) (k := 27) (by omega) (by decide)) (by decide)
    refine ⟨_, rfl, rp, cp, 8, rfl, os4.P, by decide, lg 8 (by decide), fun dd H5 d0 d1 hp5 kp5 => ⟨_, _, rfl, rfl, ?_⟩⟩
    have os5 := os4.kp nl nd kp5 hp5
    refine ⟨_, rfl, _, rfl, _, _, rfl, rfl, .inl ⟨by decide, by decide⟩, _, _, rfl, rfl, rp, cp, _, rfl, os5.P, by omega, ?_, fun e H6 e0 e1 hp6 kp6 => ?_⟩
    · rw [show 2 * (2 + dd) - 1 = ((2 * (2 + dd) - 1).toNat : Int) by omega]
      exact lg _ (by omega)
    have os6 := os5.kp nl nd kp6 hp6
    obtain ⟨pn, w1, w2⟩ := pn_low (t := e - (2 + dd) + 1) (b := 2 + dd) (by omega) (by omega) (by omega) (by omega)
    refine ⟨_, rfl, _, _, rfl, rfl, _, _, rfl, rfl, _, rfl, _, _, rfl, by omega, bi27 (by omega), fun pz H7 e7 hz => ?_⟩
    have os7 := os6.ext e7
    have z1 : (low (e - (2 + dd) + 1) (2 + dd)).1.natAbs ≤ 2 ^ 4 := Nat.le_trans w1 (by have q : (2 : Nat) ^ 4 = 16 := (by decide); omega)
    have z2 : (low (e - (2 + dd) + 1) (2 + dd)).2.natAbs ≤ 2 ^ 4 := Nat.le_trans w2 (by have q : (2 : Nat) ^ 4 = 16 := (by decide); omega)
    revert pn z1 z2 hz
    generalize low (e - (2 + dd) + 1) (2 + dd) = z
    intro pn hz z1 z2
    have lz := pn.low
    have mz := Int.mul_ne_zero (KM.Low.ne lz) (KM.Low.ne lpr)
    have fm1 : (fmul z pr).1.natAbs ≤ 2 ^ 64 := Nat.le_trans (low_le1 mz) (by rw [Int.natAbs_mul, show (64 : Nat) = 4 + 60 by rfl, Nat.pow_add]; exact Nat.mul_le_mul z1 pr1)
    have fm2 : (fmul z pr).2.natAbs ≤ 2 ^ 64 := Nat.le_trans (low_le2 mz) (by rw [Int.natAbs_mul, show (64 : Nat) = 4 + 60 by rfl, Nat.pow_add]; exact Nat.mul_le_mul z2 pr2)
    have lfm := low_fmul lz lpr
    have vfm : val (fmul z pr) = val z * rch (ps.map val) := by rw [val_mul lz lpr, vr]
    have lbt := low_fadd lpm lfm
    have vbt : val (fadd pm (fmul z pr)) = s qs.length + val z * rch (ps.map val) := by rw [val_add lpm lfm, vm, vfm]
    obtain ⟨bt2, bt1⟩ := parts_sub lbt lpm lfm (.inr (val_add lpm lfm)) pm1 pm2 fm1 fm2
    have oz : Prt z := ⟨bdk z1 (by decide), bdk z2 (by decide), KM.Low.ne lz⟩
    have opr : Prt pr := ⟨bdk pr1 (by decide), bdk pr2 (by decide), KM.Low.ne lpr⟩
    have opm : Prt pm := ⟨bdk pm1 (by decide), bdk pm2 (by decide), KM.Low.ne lpm⟩
    have ofm : Prt (fmul z pr) := ⟨bdk fm1 (by decide), bdk fm2 (by decide), KM.Low.ne lfm⟩
    refine ⟨_, rfl, _, rfl, _, rfl, pz, z, rr, pr, rfl, hz, os7.r, oz, opr, fun r8 H8 e8 h8 => ⟨m, pm, r8, _, rfl, (os7.ext e8).m, h8, opm, ofm, fun r9 H9 e9 h9 => ⟨_, rfl, r9, _, n, rfl, h9, lbt, bik bt2 (by decide), fun vb H10 e10 hvb => ?_⟩⟩⟩
    have os10 := ((os7.ext e8).ext e9).ext e10
    have hz10 : TupAt H10 pz z := e10 _ _ (e9 _ _ (e8 _ _ hz))
    revert hvb os10 hz10 lbt vbt bt1 bt2
    generalize fadd pm (fmul z pr) = yb
    intro lbt vbt bt2 bt1 hvb os10 hz10
    clear os7 e7 os6 os5 os4
    -- the middle
    obtain ⟨ys, y1, y2⟩ := id os10.l
    refine ⟨_, rfl, _, rfl, _, rfl, m, pm, n, rfl, os10.m, lpm, bik pm2 (by decide), fun vm' H11 e11 hvm => ⟨by show 1 ≤ sizeLine; decide, fun q1 nq1 => ?_⟩⟩
    have f1 := ext1 (o := .lst [vm']) nq1
    refine ⟨l, q1, ys, _, rfl, rfl, f1 _ _ (e11 _ _ y1), upd_same, by rw [sizeLine_eq, y2.1]; show qs.length + 1 ≤ _; omega, fun r nr => ?_⟩
    have f2 := ext1 (o := .lst (ys ++ [vm'])) nr
    have na : ns A (upd (upd H11 q1 (.lst [vm'])) r (.lst (ys ++ [vm']))) r (qs ++ [pm]) := ns_app upd_same (((y2.ext e11).ext f1).ext f2) ((hvm.ext f1).ext f2) S.low lpm
    have os11 := ((os10.ext e11).ext f1).ext f2
    have hz11 := ((e11.trans f1).trans f2) _ _ hz10
    have hvb11 := ((hvb.ext e11).ext f1).ext f2
    revert na os11 hz11 hvb11
    generalize upd (upd H11 q1 (.lst [vm'])) r (.lst (ys ++ [vm'])) = H12
    intro na os12 hz12 hvb12
    clear e11 hvm nq1 f1 nr f2 y1 y2 os10 hz10 hvb
    obtain ⟨ds, d1', d2', d3'⟩ := id os12.d
    refine ⟨_, rfl, by show 2 ≤ sizeLine; decide, fun tz ntz => ⟨by show 1 ≤ sizeLine; decide, fun q2 nq2 => ?_⟩⟩
    have g1 := ext1 (o := .tup [.int 0, .int 1]) ntz
    have g2 := ext1 (o := .lst [V.ref tz]) nq2
    refine ⟨d, q2, ds, _, rfl, rfl, g2 _ _ (g1 _ _ d1'), upd_same, by rw [sizeLine_eq, d2']; show ps.length + 1 ≤ _; omega, fun dn ndn => ?_⟩
    have g3 := ext1 (o := .lst (ds ++ [V.ref tz])) ndn
    have gg := (g1.trans g2).trans g3
    have tln : TL (upd (upd (upd H12 tz (.tup [.int 0, .int 1])) q2 (.lst [V.ref tz])) dn (.lst (ds ++ [V.ref tz]))) dn (ps ++ [(0, 1)]) := (os12.d.ext gg).app (gg _ _ d1') (g3 _ _ (g2 _ _ upd_same)) upd_same
    have os13 := os12.ext gg
    have na13 := na.ext gg
    have hz13 := gg _ _ hz12
    have hvb13 := hvb12.ext gg
    revert tln os13 na13 hz13 hvb13
    generalize upd (upd (upd H12 tz (.tup [.int 0, .int 1])) q2 (.lst [V.ref tz])) dn (.lst (ds ++ [V.ref tz])) = H13
    intro tln os13 na13 hz13 hvb13
    clear na os12 hz12 hvb12 g1 g2 g3 gg ntz nq2 ndn d1' d2' d3'
    obtain ⟨I1, O1⟩ := S.mid ec eq pn01 lpm (Nat.le_trans pm1 (pw_le (by decide))) (Nat.le_trans pm2 (pw_le (by decide))) (by rw [vm, val01]; grind)
    refine ⟨r, dn, _, _, _, rfl, os13.T, na13, tln, by rw [len1]; omega, by rw [len1]; omega, I1, O1, fun H14 e14 tt14 => ⟨_, rfl, iteF ?_⟩⟩
    have os14 := os13.n e14 tt14
    have hz14 : TupAt H14 pz z := TupAt.n (show TupAt H13 pz z from hz13) e14
    have hvb14 := hvb13.n e14
    clear I1 O1 na13 tln os13 hz13 hvb13 e14 tt14
    -- inside
    obtain ⟨ys, y1, y2⟩ := id os14.l
    refine ⟨_, rfl, _, rfl, by show 1 ≤ sizeLine; decide, fun q1 nq1 => ?_⟩
    have f1 := ext1 (o := .lst [vb]) nq1
    refine ⟨l, q1, ys, _, rfl, rfl, f1 _ _ y1, upd_same, by rw [sizeLine_eq, y2.1]; show qs.length + 1 ≤ _; omega, fun r nr => ⟨r, _, rfl, .inl ⟨SqL.of upd_same, fun tt ntt => ?_⟩⟩⟩
    have f2 := ext1 (o := .lst (ys ++ [vb])) nr
    have f3 := ext1 (o := .tup (ys ++ [vb])) ntt
    have ff := (f1.trans f2).trans f3
    have na : ns A (upd (upd (upd H14 q1 (.lst [vb])) r (.lst (ys ++ [vb]))) tt (.tup (ys ++ [vb]))) tt (qs ++ [yb]) := ⟨_, .inr upd_same, numsAt_app (y2.ext ff) (numsAt_one (hvb14.ext ff)), fun q hq => by
      rcases List.mem_append.mp hq with z | z
      · exact S.low q z
      · rw [List.mem_singleton.mp z]; exact lbt⟩
    have os15 := os14.ext ff
    have hz15 := ff _ _ hz14
    revert na os15 hz15
    generalize upd (upd (upd H14 q1 (.lst [vb])) r (.lst (ys ++ [vb]))) tt (.tup (ys ++ [vb])) = H15
    intro na os15 hz15
    clear os14 hz14 hvb14 nq1 f1 nr f2 f3 ff ntt y1 y2
    obtain ⟨ds, d1', d2', d3'⟩ := id os15.d
    refine ⟨_, rfl, _, rfl, by show 1 ≤ sizeLine; decide, fun q2 nq2 => ?_⟩
    have g2 := ext1 (o := .lst [V.ref pz]) nq2
    refine ⟨d, q2, ds, _, rfl, rfl, g2 _ _ d1', upd_same, by rw [sizeLine_eq, d2']; show ps.length + 1 ≤ _; omega, fun dn ndn => ?_⟩
    have g3 := ext1 (o := .lst (ds ++ [V.ref pz])) ndn
    have gg := g2.trans g3
    have tln : TL (upd (upd H15 q2 (.lst [V.ref pz])) dn (.lst (ds ++ [V.ref pz]))) dn (ps ++ [z]) := (os15.d.ext gg).app (gg _ _ d1') (gg _ _ hz15) upd_same
    have os16 := os15.ext gg
    have na16 := na.ext gg
    revert tln os16 na16
    generalize upd (upd H15 q2 (.lst [V.ref pz])) dn (.lst (ds ++ [V.ref pz])) = H16
    intro tln os16 na16
    clear na os15 hz15 g2 g3 gg nq2 ndn d1' d2' d3'
    obtain ⟨I1, O1⟩ := S.mid ec eq pn lbt (Nat.le_trans bt1 (pw_sum (by decide) (by decide))) (Nat.le_trans bt2 (pw_le (by decide))) vbt
    refine ⟨tt, dn, _, _, _, rfl, os16.T, na16, tln, by rw [len1]; omega, by rw [len1]; omega, I1, O1, fun H17 e17 tt17 => ⟨_, rfl, iteF ?_⟩⟩
    have os17 := os16.n e17 tt17
    clear I1 O1 na16 tln os16 e17 tt17
    -- what follows the ends
    refine ⟨2, rfl, by decide, by decide, for_range (lo := 0) (n := 2) (fun i σ H2 => OS T A rp cp l d t m rr qs ps (s qs.length - rch (ps.map val)) (s qs.length + rch (ps.map val)) pm pr H H2 ∧ ∃ v10 v11 : Option V, σ = [some (.ref rp), some (.ref l), some (.ref d), some (.ref t), some (.ref m), some (.ref rr), some (.int n), some (.int (2 + dd)), some (.ref pz), some vb, v10, v11])
      ⟨os17, none, none, rfl⟩ ?_ ?_⟩
    · rintro i σ H18 hi ⟨os18, v10, v11, rfl⟩
      obtain ⟨ys, y1, y2⟩ := id os18.l
      obtain ⟨fa, fb, pa, pb, t1, t2, t3, t4, t5, t6, t7⟩ := id os18.t
      have sel : ∃ (e : Int) (fi : Addr) (yi : Int × Int), 2 * (0 + (i : Int)) - 1 = e ∧ (e = 1 ∨ e = -1) ∧ atI [V.ref fa, V.ref fb] (0 + (i : Int)) = some (.ref fi) ∧ FracAt A.C H18 fi yi ∧ Low yi ∧ val yi = s qs.length + (e : Rat) * rch (ps.map val) ∧ (val yi = val pm - val pr ∨ val yi = val pm + val pr) := by
        match i with
        | 0 => exact ⟨-1, fa, pa, rfl, .inr rfl, rfl, t2, t4, by rw [t6, im1]; grind, .inl (by rw [t6, vm, vr])⟩
        | 1 => exact ⟨1, fb, pb, rfl, .inl rfl, rfl, t3, t5, by rw [t7, ip1]; grind, .inr (by rw [t7, vm, vr])⟩
        | i + 2 => omega
      obtain ⟨e, fi, yi, he, he1, hat, hfi, lyi, vyi, cyi⟩ := sel
      refine ⟨_, rfl, _, rfl, _, _, rfl, rfl, .inl ⟨by decide, by decide⟩, _, _, rfl, rfl, ?_⟩
      dsimp only
      rw [he]
      have cc : (ys.length : Int) + 1 = ((qs.length + 1 : Nat) : Int) := by rw [y2.1]; rfl
      refine ⟨_, rfl, l, ys, rfl, .inl (SqL.of y1), _, _, rfl, rfl, ?_⟩
      dsimp only [tNil]
      rw [cc]
      refine ⟨d, e, ps, qs.length + 1, rfl, os18.d, S.pn, hw, by omega, he1, by omega, fun ra_ qa s' H19 e19 ha hec la va b1 b2 => ?_⟩
      obtain ⟨S', vs'⟩ := S.to ec eq hec
      have os19 := os18.ext e19
      have hfi19 := hfi.ext e19
      have y1' := e19 _ _ y1
      have y2' := y2.ext e19
      have t1' := e19 _ _ t1
      refine ⟨_, rfl, _, rfl, _, rfl, _, _, _, _, rfl, rfl, SqT.of t1', hat, by show 1 ≤ sizeLine; decide, fun q1 nq1 => ?_⟩
      have f1 := ext1 (o := .lst [.ref fi]) nq1
      refine ⟨l, q1, ys, _, rfl, rfl, f1 _ _ y1', upd_same, by rw [sizeLine_eq, y2.1]; show qs.length + 1 ≤ _; omega, fun r nr => ?_⟩
      have f2 := ext1 (o := .lst (ys ++ [.ref fi])) nr
      have na : ns A (upd (upd H19 q1 (.lst [.ref fi])) r (.lst (ys ++ [.ref fi]))) r (qs ++ [yi]) := ns_app upd_same ((y2'.ext f1).ext f2) (.inl ⟨fi, rfl, (hfi19.ext f1).ext f2⟩) S.low lyi
      have os20 := (os19.ext f1).ext f2
      have ha20 : TupAt _ ra_ qa := f2 _ _ (f1 _ _ ha)
      revert na os20 ha20
      generalize upd (upd H19 q1 (.lst [.ref fi])) r (.lst (ys ++ [.ref fi])) = H20
      intro na os20 ha20
      obtain ⟨ba1, ba2⟩ := bd lyi cyi
      obtain ⟨I1, O1, u1, v1⟩ := S'.fin hec he1 lyi ba1 ba2 (by rw [vyi, vs'])
      refine ⟨r, _, rfl, na.nums, by rw [len1]; omega, .inr ⟨by rw [len1]; omega, ps, I1, .inl ⟨_, O1, fun rt H21 e21 ht2 => ?_⟩⟩⟩
      rw [u1, v1] at ht2
      have ha21 : TupAt H21 ra_ qa := e21 _ _ ha20
      refine ⟨_, rfl, _, rfl, by show 2 ≤ sizeLine; decide, fun ql nql => ?_⟩
      have g1 := ext1 (o := .lst [V.ref ra_, V.ref ra_]) nql
      refine ⟨rt, ql, [qa, qa], rfl, (ht2.ext g1).pt la la va va, tl2 upd_same (g1 _ _ ha21) (g1 _ _ ha21), fun q hq => ?_, by show 2 ≤ 60; decide, fun H22 e22 => ⟨_, rfl, iteF ⟨((os20.ext e21).ext g1).ext e22, _, _, rfl⟩⟩⟩
      have : q = qa := by simpa using hq
      subst this
      exact ⟨la, bik b2 (by omega)⟩
    · rintro σ H18 ⟨os18, v10, v11, rfl⟩
      exact k H18 os18.T os18.P os18.k
end
end Fx

set_option Elab.async false
set_option linter.all false
set_option maxRecDepth 100000
set_option maxHeartbeats 4000000
set_option exponentiation.threshold 20000
/-! Long lists: a number and zeros, zeros and a number. -/
namespace Fx
open PySem PySem.Spec PyProof.Rows L2 FM KM LamX
theorem run_zeros (k : Nat) (X B : Sq) : run (List.replicate k 0) X B = (fun j => X (j + k), B) := by
  induction k generalizing X with
  | zero => rfl
  | succ k ih =>
    show run (List.replicate k 0) (nxA 0 X B) (nxB 0 X B) = _
    have e1 : nxB 0 X B = B := by
      funext j
      unfold nxB
      grind
    rw [e1, ih]
    congr 1
    funext j
    unfold nxA
    rw [show j + (k + 1) = j + k + 1 by omega]
    grind
theorem sch_zeros {k : Nat} {X B : Sq} (h : ∀ j, j < k → X j = 0) : Sch (List.replicate k 0) X B := by
  induction k generalizing X with
  | zero => trivial
  | succ k ih =>
    have e1 : nxB 0 X B = B := by
      funext j
      unfold nxB
      grind
    refine ⟨by rw [h 0 (by omega)]; grind, ?_⟩
    rw [e1]
    refine ih fun j hj => ?_
    unfold nxA
    rw [h (j + 1) (by omega)]
    grind
theorem rep2 (n : Int) (h : n.natAbs ≤ 2) : Rep 2 4 (val (n, 1)) := ⟨n * 2, by rw [val_int]; push_cast; grind, by omega⟩
theorem rep2h (n : Int) (h : n.natAbs ≤ 2) : Rep 2 4 (val (n, 2)) := ⟨n, by unfold val; push_cast; grind, by omega⟩
def zrs (k : Nat) : List (Int × Int) := List.replicate k (0, 1)
theorem sq_zrs (k j : Nat) : sq (zrs k) j = 0 := by
  unfold sq zrs
  rw [List.getElem?_replicate]
  split
  · exact val01
  · rfl
theorem sq_cons (a : Int × Int) (l : List (Int × Int)) : sq (a :: l) 0 = val a ∧ ∀ j, sq (a :: l) (j + 1) = sq l j := ⟨rfl, fun _ => rfl⟩
theorem sq_one (n : Int) (k : Nat) (j : Nat) : sq ((n, 1) :: zrs k) j = (n : Rat) * dl j := by
  cases j with
  | zero =>
    show val (n, 1) = _
    rw [val_int]
    show (n : Rat) = (n : Rat) * 1
    grind
  | succ j =>
    rw [(sq_cons _ _).2, sq_zrs]
    show (0 : Rat) = (n : Rat) * 0
    grind
theorem gl_of2 {qs : List (Int × Int)} (h : ∀ q ∈ qs, Rep 2 4 (val q)) : Gr 0 (sq qs) dl := GL.gr (a := 1) (b := 2) ⟨2, 4, by decide, by decide, by decide, h⟩ (by decide) (by decide)
theorem mem_zrs {k : Nat} {q : Int × Int} (h : q ∈ zrs k) : q = (0, 1) := List.eq_of_mem_replicate h
theorem rep_one {n : Int} (hn : n.natAbs ≤ 2) {k : Nat} : ∀ q ∈ (n, (1 : Int)) :: zrs k, Rep 2 4 (val q) := fun q hq => by
  rcases List.mem_cons.mp hq with z | z
  · rw [z]; exact rep2 n hn
  · rw [mem_zrs z]; exact rep2 0 (by decide)
theorem len_one (n : Int) : ((n, (1 : Int)) :: zrs 99).length = 100 := by rw [List.length_cons]; unfold zrs; rw [List.length_replicate]
/-- the end and zeros behind it -/
theorem long_end {e : Int} (he : e = 1 ∨ e = -1) : In (sq ((e, 1) :: zrs 99)) ((e, (1 : Int)) :: zrs 99).length [] ∧ OutP (sq ((e, 1) :: zrs 99)) ((e, (1 : Int)) :: zrs 99).length [] (.int e) ∧ stU (sq ((e, 1) :: zrs 99)) ((e, (1 : Int)) :: zrs 99).length [] (.int e) = 0 ∧ stV (sq ((e, 1) :: zrs 99)) ((e, (1 : Int)) :: zrs 99).length [] (.int e) = 0 := by
  have u : stU (sq ((e, 1) :: zrs 99)) ((e, (1 : Int)) :: zrs 99).length [] (.int e) = 0 := by
    show (e : Rat) * dl (((e, (1 : Int)) :: zrs 99).length - 0) - sq ((e, 1) :: zrs 99) (((e, (1 : Int)) :: zrs 99).length - 0) = 0
    rw [sq_one]
    grind
  refine ⟨⟨gl_of2 (rep_one (by omega)), by simp, by decide, by simp, trivial⟩, .inr ⟨e, rfl, by simp, he, fun j _ => sq_one e 99 j⟩, u, u⟩
/-- 2 and zeros behind it -/
theorem long_two : In (sq ((2, 1) :: zrs 99)) (((2 : Int), (1 : Int)) :: zrs 99).length [] ∧ OutE (sq ((2, 1) :: zrs 99)) (((2 : Int), (1 : Int)) :: zrs 99).length [] 0 := by
  refine ⟨⟨gl_of2 (rep_one (by decide)), by simp, by decide, by simp, trivial⟩, .inl ⟨rfl, by simp, .inl ?_⟩⟩
  show dl 0 < sq ((2, 1) :: zrs 99) 0
  rw [sq_one]
  show (1 : Rat) < ((2 : Int) : Rat) * 1
  have : ((2 : Int) : Rat) = 2 := rfl
  grind
theorem lowH {e : Int} (he : e = 1 ∨ e = -1) : Low (e, (2 : Int)) := by rcases he with rfl | rfl <;> exact ⟨by decide, by decide⟩
/-- zeros, and a half behind them -/
theorem long_half {e : Int} (he : e = 1 ∨ e = -1) : In (sq (zrs 25 ++ [(e, 2)])) (zrs 25 ++ [(e, (2 : Int))]).length (zrs 25 ++ [(e, 2)]) ∧ OutP (sq (zrs 25 ++ [(e, 2)])) (zrs 25 ++ [(e, (2 : Int))]).length (zrs 25 ++ [(e, 2)]) .non ∧
    stU (sq (zrs 25 ++ [(e, 2)])) (zrs 25 ++ [(e, (2 : Int))]).length (zrs 25 ++ [(e, 2)]) .non = val (-3, 4) ∧ stV (sq (zrs 25 ++ [(e, 2)])) (zrs 25 ++ [(e, (2 : Int))]).length (zrs 25 ++ [(e, 2)]) .non = val (3, 4) := by
  have lz : (zrs 25).length = 25 := List.length_replicate
  have ll : (zrs 25 ++ [(e, (2 : Int))]).length = 26 := by rw [len1, lz]
  obtain ⟨a1, a2⟩ := sq_app (qs := zrs 25) (y := (e, 2)) (rs := [])
  rw [lz] at a1 a2
  have a3 := sq_len (zrs 25 ++ [(e, (2 : Int))])
  rw [ll] at a3
  have mz : (zrs 25 ++ [(e, (2 : Int))]).map val = List.replicate 25 0 ++ [val (e, 2)] := by
    rw [List.map_append]
    unfold zrs
    rw [List.map_replicate, val01]
    rfl
  have ve : val (e, (2 : Int)) * 2 = (e : Rat) := by unfold val; push_cast; grind
  have e2 : (e : Rat) * (e : Rat) = 1 := by
    have : e * e = 1 := by rcases he with rfl | rfl <;> decide
    exact_mod_cast congrArg (fun z : Int => (z : Rat)) this
  have pe : Pn (e, (2 : Int)) := ⟨lowH he, by show -2 < e; omega, by show e < 2; omega, by show (2 : Int) < 2 ^ 26; decide⟩
  generalize hx : sq (zrs 25 ++ [(e, (2 : Int))]) = x at a1 a2 a3
  have sch : Sch ((zrs 25 ++ [(e, (2 : Int))]).map val) x dl := by
    rw [mz, sch_app, run_zeros]
    refine ⟨sch_zeros fun j hj => by rw [a1 j hj, sq_zrs], ?_, trivial⟩
    show x (0 + 25) = val (e, 2) * dl 0
    rw [Nat.zero_add, a2]
    show _ = _ * (1 : Rat)
    grind
  have r : run ((zrs 25 ++ [(e, (2 : Int))]).map val) x dl = (nxA (val (e, 2)) (fun j => x (j + 25)) dl, nxB (val (e, 2)) (fun j => x (j + 25)) dl) := by
    rw [mz, run_app, run_zeros]
    rfl
  have rA : (run ((zrs 25 ++ [(e, (2 : Int))]).map val) x dl).1 0 = 0 := by
    rw [r]
    show x (0 + 1 + 25) - _ * dl (0 + 1) = 0
    rw [show 0 + 1 + 25 = 26 by rfl, a3]
    show (0 : Rat) - _ * 0 = 0
    grind
  have rB : (run ((zrs 25 ++ [(e, (2 : Int))]).map val) x dl).2 0 = val (3, 4) := by
    rw [r]
    show dl 0 - _ * x (0 + 25) = _
    rw [Nat.zero_add, a2]
    show (1 : Rat) - _ = _
    have : val ((3 : Int), (4 : Int)) * 4 = 3 := by unfold val; push_cast; grind
    grind
  have v34 : val ((-3 : Int), (4 : Int)) = -val (3, 4) := by unfold val; push_cast; grind
  have gr : Gr 0 x dl := by
    rw [← hx]
    refine gl_of2 fun q hq => ?_
    rcases List.mem_append.mp hq with z | z
    · rw [mem_zrs z]; exact rep2 0 (by decide)
    · rw [List.mem_singleton.mp z]; exact rep2h e (by omega)
  refine ⟨⟨gr, fun p hp => ?_, by rw [ll]; decide, Nat.le_refl _, sch⟩, .inl ⟨rfl, rfl⟩, ?_, ?_⟩
  · rcases List.mem_append.mp hp with z | z
    · rw [mem_zrs z]; exact pn01
    · rw [List.mem_singleton.mp z]; exact pe
  · show -(run _ x dl).2 0 - (run _ x dl).1 0 = _
    rw [rA, rB, v34]
    grind
  · show (run _ x dl).2 0 - (run _ x dl).1 0 = _
    rw [rA, rB]
    grind
theorem zrs_at {A : Adr} {H : Hp} {k : Nat} {xs : List V} (h : xs = List.replicate k (.int 0)) : NumsAt A H xs (zrs k) := by
  subst h
  refine ⟨by unfold zrs; rw [List.length_replicate, List.length_replicate], fun i y q hy hq => ?_⟩
  have e1 := List.eq_of_mem_replicate (List.mem_of_getElem? hy)
  have e2 := mem_zrs (List.mem_of_getElem? hq)
  rw [e1, e2]
  exact .inr ⟨rfl, rfl⟩
theorem low_zrs {k : Nat} : ∀ q ∈ zrs k, Low q := fun q hq => by rw [mem_zrs hq]; exact lowInt 0
theorem LR.zeros {H : Hp} {l : Addr} {n : Nat} (h : LR (fun _ x _ => x = V.int 0) H l n) : H l = some (.lst (List.replicate n (.int 0))) := by
  obtain ⟨xs, h1, h2, h3⟩ := h
  rw [h1]
  congr 2
  refine List.eq_replicate_iff.mpr ⟨h2, fun b hb => ?_⟩
  obtain ⟨j, hj⟩ := List.getElem?_of_mem hb
  exact h3 j b hj
end Fx

set_option Elab.async false
set_option linter.all false
set_option maxRecDepth 100000
set_option maxHeartbeats 4000000
set_option exponentiation.threshold 20000
namespace Fx
open PySem PySem.Spec PyProof.Rows L2 FM KM LamX
theorem top_of {r : R2} {ta tb : TE} {σ : L2.St} {H : Hp} {Q : VK} (h : ta σ H fun x H1 => tb σ H1 fun y H2 => r x y H2 Q) : tOp r ta tb σ H Q := h
def spLng (T : List (Addr × Str)) : Sp := fun vs H Q _ => ∃ e : Int, vs = [.int e] ∧ (e = 1 ∨ e = -1) ∧ Tabs T H ∧ ∀ H', ExtN H H' → Tabs T H' → Q (.bl true) H'
section
variable {P : Program} {w : World} {K : PySem.W.Frag} {mg : Str → Option Value} {base : Heap} {A : Adr}
theorem scLng : FnScope ["last", "zeros", "k", "half"] ["last"] (defScope (top 45)) := ⟨rfl, rfl, rfl, by decide +kernel, rfl, by decide +kernel, by decide +kernel⟩
theorem ok_lng {T : List (Addr × Str)} {N B Wb f c : Addr} {fd : FuncData} (F : FunC K "_law_long" "_law_long" (top 45) f fd c) (LF_ : LamF base mg T "_law_long" (top 45) c) (X_ : RfD P w K mg base N B Wb) (F_ : FA P w K mg base A) (hS : LF P w K mg base "next_stretch" 8 ["numbers"] (spNs K A B N)) (hO : LF P w K mg base "_law_row" 3 ["told", "due", "tied"] (spRow A)) (tu : mg "tuple" = none) (ra : mg "range" = none) : FnOk P w K mg base (L2.CX P w) 14 f fd ["last"] (spLng T) := by
  refine F.okX scLng (fun vs H Q E h => ?_) (fun AA outer s H vs Q E hr h => ?_)
  · obtain ⟨e, rfl, _⟩ := h
    rfl
  · obtain ⟨e, rfl, he, hT, k⟩ := h
    obtain ⟨gR_, fdR, gR, RF, bR⟩ := X_.F
    obtain ⟨ocR, odR, kVR, docR, pmR, anR, cdvR, ctR, oslR, rfl, lkR, hcR⟩ := RF.ex
    obtain ⟨Pt, TB, hmT, hu⟩ := LF_.ex
    obtain ⟨fS, gS, cS⟩ := hS
    obtain ⟨fdS, GS, bS⟩ := cS.ex
    obtain ⟨fO, gO, cO⟩ := hO
    obtain ⟨fdO, GO, bO⟩ := cO.ex
    refine ⟨_, (pss_cons (ps_set (i := 1) scLng.nd rfl (Or.inr rfl) (pe_lc (own := [("k", 2)]) (g := gName 2) rfl scLng.nd (pi_range1 rfl ra (pa_cons pe_int pa_nil)) (blkOk_by (own := [("k", 2)]) (N := ["last", "zeros", "k", "half"]) (sc := defScope (top 45)) (by decide +kernel)) (fun _ _ _ _ _ => (pg_name (i := 2) scLng.nd rfl (Or.inl rfl))) (fun _ _ _ _ _ => pts_nil) (fun _ _ _ _ _ => pe_int)))
      (pss_cons (ps_if (pt_not (pt_val (pe_call GO (hr.mono (by decide)) rfl gO cO.kp bO .nil (E := E0) passL (pa_cons (pe_call GS (hr.mono (by decide)) rfl gS cS.kp bS .nil (E := E0) passL (pa_cons (pe_op op_cat (pe_lst (pa_cons (pv 0) pa_nil)) (pv 1)) pa_nil)) (pa_cons (pe_lst (pa_cons (pe_tup (pa_cons pe_int (pa_cons pe_int pa_nil))) (pa_cons (pe_tup (pa_cons pe_int (pa_cons pe_int pa_nil))) pa_nil))) (pa_cons pe_bl pa_nil)))))) (pss_one (ps_ret pe_bl)) pss_nil)
      (pss_cons (ps_if (pt_cmpR (op_neD hr.units) (pe_lamcall (T := T) (TT := TTref N B) (a := "deed") (k := 9) (Ng := ["deed", "told", "e"]) rfl gR RF.kp lkR hcR bR scRef rfl (.inl rfl) (ref_gives (k := 9) X_.R X_.isi X_.hW (hr.mono (by decide))) TB rfl (hmT _ _) (hu _ _) (hr.mono (by decide)) (lamS_by (by show lamSB (defScope (top 45)) _ = true; decide +kernel)) rfl (fun _ _ _ _ _ => rfl) (fun A outer s H E f c' hr2 => pe_call GS (hr2.mono (by decide)) rfl gS cS.kp bS .nil (E := E) (passes_call (takes_of rfl rfl rfl rfl) (fun _ _ _ _ h => h)) (pa_cons (pe_op op_cat (pe_op op_cat (pe_lst (pa_cons (pv 0) pa_nil)) (pv 1)) (pe_lst (pa_cons pe_int pa_nil))) pa_nil))) (pe_tup (pa_cons pe_str (pa_cons pe_int pa_nil))) (nomark _)) (pss_one (ps_ret pe_bl)) pss_nil)
      (pss_cons (ps_if (pt_cmpR (op_neD hr.units) (pe_lamcall (T := T) (TT := TTref N B) (a := "deed") (k := 9) (Ng := ["deed", "told", "e"]) rfl gR RF.kp lkR hcR bR scRef rfl (.inl rfl) (ref_gives (k := 9) X_.R X_.isi X_.hW (hr.mono (by decide))) TB rfl (hmT _ _) (hu _ _) (hr.mono (by decide)) (lamS_by (by show lamSB (defScope (top 45)) _ = true; decide +kernel)) rfl (fun _ _ _ _ _ => rfl) (fun A outer s H E f c' hr2 => pe_call GS (hr2.mono (by decide)) rfl gS cS.kp bS .nil (E := E) (passes_call (takes_of rfl rfl rfl rfl) (fun _ _ _ _ h => h)) (pa_cons (pe_callTy (call_tupK (K := K) rfl) (by rfl) tu boot_tuple (pa_cons (pe_op op_cat (pe_op op_cat (pe_lst (pa_cons pe_int pa_nil)) (pv 1)) (pe_lst (pa_cons pe_int pa_nil))) pa_nil)) pa_nil))) (pe_tup (pa_cons pe_str (pa_cons pe_int pa_nil))) (nomark _)) (pss_one (ps_ret pe_bl)) pss_nil)
      (pss_cons (ps_if (pt_cmpR (op_neD hr.units) (pe_lamcall (T := T) (TT := TTref N B) (a := "deed") (k := 9) (Ng := ["deed", "told", "e"]) rfl gR RF.kp lkR hcR bR scRef rfl (.inl rfl) (ref_gives (k := 9) X_.R X_.isi X_.hW (hr.mono (by decide))) TB rfl (hmT _ _) (hu _ _) (hr.mono (by decide)) (lamS_by (by show lamSB (defScope (top 45)) _ = true; decide +kernel)) rfl (fun _ _ _ _ _ => rfl) (fun A outer s H E f c' hr2 => pe_call GS (hr2.mono (by decide)) rfl gS cS.kp bS .nil (E := E) (passes_call (takes_of rfl rfl rfl rfl) (fun _ _ _ _ h => h)) (pa_cons (pe_op op_cat (pe_lst (pa_cons pe_int pa_nil)) (pv 1)) pa_nil))) (pe_tup (pa_cons pe_str (pa_cons pe_int pa_nil))) (nomark _)) (pss_one (ps_ret pe_bl)) pss_nil)
      (pss_cons (ps_set (i := 3) scLng.nd rfl (Or.inl rfl) (pe_op op_cat (pe_lc (own := [("k", 2)]) (g := gName 2) rfl scLng.nd (pi_range1 rfl ra (pa_cons pe_int pa_nil)) (blkOk_by (own := [("k", 2)]) (N := ["last", "zeros", "k", "half"]) (sc := defScope (top 45)) (by decide +kernel)) (fun _ _ _ _ _ => (pg_name (i := 2) scLng.nd rfl (Or.inl rfl))) (fun _ _ _ _ _ => pts_nil) (fun _ _ _ _ _ => pe_int)) (pe_lst (pa_cons (pe_frac2 F_.M F_.T (hr.mono (by decide)) rfl (pa_cons (pv 0) (pa_cons pe_int pa_nil))) pa_nil))))
      (pss_one (ps_ret (pe_call GO (hr.mono (by decide)) rfl gO cO.kp bO .nil (E := E0) passL (pa_cons (pe_call GS (hr.mono (by decide)) rfl gS cS.kp bS .nil (E := E0) passL (pa_cons (pv 3) pa_nil)) (pa_cons (pe_lst (pa_cons (pe_tup (pa_cons (pe_un L2.un_neg pe_int) (pa_cons pe_int pa_nil))) (pa_cons (pe_tup (pa_cons pe_int (pa_cons pe_int pa_nil))) pa_nil))) (pa_cons pe_bl pa_nil)))))))))))), ?_⟩
    refine tseq_of (t := tAsg (tLc _ _ _ _ _) (gName 1)) ?_
    refine tasg_of ?_
    refine tlc_1 (n := 99) (H1 := H) (R := fun _ x _ => x = V.int 0) (walk_range (lo := 0) (n := 99)) (fun R r => ⟨99, rfl, by decide, by decide, r⟩) (fun _ _ _ _ _ h => h) (by decide) (fun _ _ => trivial) (fun _ _ _ _ y => y.1) (show 2 < 4 by decide) ?_ ?_
    · intro i x H2 τ Qy hi e2 hy h2 _ kk
      exact kk _ H2 Ext.rfl' rfl
    intro zl H1 e1 hz
    have z1 := hz.zeros
    dsimp only [gName]
    have sz1 : ∀ x : V, [x].length + (List.replicate 99 (V.int 0)).length ≤ sizeLine := fun x => by rw [List.length_replicate, sizeLine_eq]; show 1 + 99 ≤ _; omega
    have na1 : ∀ (n : Int) {H : Hp}, NumsAt A H ([V.int n] ++ List.replicate 99 (V.int 0)) ((n, 1) :: zrs 99) := fun n => numsAt_app (qs := [(n, 1)]) (numsAt_one (.inr ⟨rfl, rfl⟩)) (zrs_at rfl)
    have lo1 : ∀ n : Int, ∀ q ∈ (n, (1 : Int)) :: zrs 99, Low q := fun n q hq => by
      rcases List.mem_cons.mp hq with z | z
      · rw [z]; exact lowInt n
      · exact low_zrs q z
    -- the end and zeros
    refine ⟨_, rfl, by show 1 ≤ sizeLine; decide, fun q1 nq1 => ⟨_, rfl, q1, zl, _, _, rfl, rfl, upd_same, ext1 nq1 _ _ z1, sz1 _, fun r nr => ?_⟩⟩
    have f1 := ext1 (o := .lst [V.int e]) nq1
    have f2 := ext1 (o := .lst ([V.int e] ++ List.replicate 99 (V.int 0))) nr
    have n1 : ns A (upd (upd H1 q1 (.lst [V.int e])) r (.lst ([V.int e] ++ List.replicate 99 (V.int 0)))) r ((e, 1) :: zrs 99) := ⟨_, .inl upd_same, na1 e, lo1 e⟩
    have e2 := (e1.trans f1).trans f2
    have z2 := f2 _ _ (f1 _ _ z1)
    revert n1 e2 z2
    generalize upd (upd H1 q1 (.lst [V.int e])) r (.lst ([V.int e] ++ List.replicate 99 (V.int 0))) = H2
    intro n1 e2 z2
    obtain ⟨I1, O1, u1, v1⟩ := long_end he
    refine ⟨r, _, rfl, n1.nums, by rw [len_one]; decide, .inr ⟨by rw [len_one]; decide, [], I1, .inl ⟨_, O1, fun rt H3 e3 ht => ?_⟩⟩⟩
    rw [u1, v1] at ht
    refine ⟨by show 2 ≤ sizeLine; decide, fun ta nta => ⟨by show 2 ≤ sizeLine; decide, fun tb ntb => ⟨by show 2 ≤ sizeLine; decide, fun tl ntl => ?_⟩⟩⟩
    have g1 := ext1 (o := .tup [.int 0, .int 1]) nta
    have g2 := ext1 (o := .tup [.int 0, .int 1]) ntb
    have g3 := ext1 (o := .lst [V.ref ta, V.ref tb]) ntl
    have gg := (g1.trans g2).trans g3
    refine ⟨rt, tl, [(0, 1), (0, 1)], rfl, (ht.ext gg).pt (lowInt 0) (lowInt 0) val01 val01, tl2 upd_same (g3 _ _ (g2 _ _ upd_same)) (g3 _ _ upd_same), fun q hq => ?_, by show 2 ≤ 60; decide, fun H4 e4 => ⟨_, rfl, iteF ?_⟩⟩
    · have : q = (0, 1) := by simpa using hq
      rw [this]
      exact ⟨lowInt 0, Bi_one⟩
    have e04 := (((e2.trans e3).trans gg).trans e4)
    have z4 := e4 _ _ (gg _ _ (e3 _ _ z2))
    have t4 := hT.ext e04
    have en4 := ExtN.of e04
    clear g1 g2 g3 gg nta ntb ntl ht I1 O1 u1 v1 n1 e2 z2 f1 f2 nr nq1
    have sz2 : ∀ x y : V, ([x] ++ List.replicate 99 (V.int 0)).length + [y].length ≤ sizeLine := fun x y => by rw [List.length_append, List.length_replicate, sizeLine_eq]; show 1 + 99 + 1 ≤ _; omega
    have na2 : ∀ (n : Int) {H : Hp}, NumsAt A H ([V.int n] ++ List.replicate 99 (V.int 0) ++ [V.int 0]) ((n, 1) :: zrs 99 ++ [(0, 1)]) := fun n => numsAt_app (na1 n) (numsAt_one (.inr ⟨rfl, rfl⟩))
    have lo2 : ∀ n : Int, ∀ q ∈ (n, (1 : Int)) :: zrs 99 ++ [(0, 1)], Low q := fun n q hq => by
      rcases List.mem_append.mp hq with z | z
      · exact lo1 n q z
      · rw [List.mem_singleton.mp z]; exact lowInt 0
    have l101 : ∀ n : Int, ((n, (1 : Int)) :: zrs 99 ++ [(0, 1)]).length = 101 := fun n => by rw [len1, len_one]
    -- 101 numbers
    refine ⟨t4, fun Ha ena ta Ech Qr hN hB hk => ?_⟩
    have za : Ha zl = some (.lst (List.replicate 99 (V.int 0))) := ena _ _ z4 fun ps z => by cases z
    have enA := en4.trans ena
    refine ⟨_, rfl, by show 1 ≤ sizeLine; decide, fun q1 nq1 => ⟨_, rfl, q1, zl, _, _, rfl, rfl, upd_same, ext1 nq1 _ _ za, sz1 _, fun r1 nr1 => ⟨by show 1 ≤ sizeLine; decide, fun q2 nq2 => ?_⟩⟩⟩
    have f1 := ext1 (o := .lst [V.int e]) nq1
    have f2 := ext1 (o := .lst ([V.int e] ++ List.replicate 99 (V.int 0))) nr1
    have f3 := ext1 (o := .lst [V.int 0]) nq2
    refine ⟨r1, q2, _, _, rfl, rfl, f3 _ _ upd_same, upd_same, sz2 _ _, fun r2 nr2 => ?_⟩
    have f4 := ext1 (o := .lst ([V.int e] ++ List.replicate 99 (V.int 0) ++ [V.int 0])) nr2
    have ff := ((f1.trans f2).trans f3).trans f4
    have tb := ta.ext ff
    have enB := enA.trans (ExtN.of ff)
    have zb := ff _ _ za
    have nb : (upd (upd (upd (upd Ha q1 (.lst [V.int e])) r1 (.lst ([V.int e] ++ List.replicate 99 (V.int 0)))) q2 (.lst [V.int 0])) r2 (.lst ([V.int e] ++ List.replicate 99 (V.int 0) ++ [V.int 0]))) r2 = some (.lst ([V.int e] ++ List.replicate 99 (V.int 0) ++ [V.int 0])) := upd_same
    revert tb enB zb nb
    generalize (upd (upd (upd (upd Ha q1 (.lst [V.int e])) r1 (.lst ([V.int e] ++ List.replicate 99 (V.int 0)))) q2 (.lst [V.int 0])) r2 (.lst ([V.int e] ++ List.replicate 99 (V.int 0) ++ [V.int 0]))) = Hb
    intro tb enB zb nb
    have nn : ns A Hb r2 ((e, 1) :: zrs 99 ++ [(0, 1)]) := ⟨_, .inl nb, na2 e, lo2 e⟩
    refine ⟨r2, _, rfl, nn.nums, by rw [l101]; decide, .inl ⟨by rw [l101]; decide, fun dd Hc ec hdd => hB dd Hc 101 (by rw [hdd, l101]; rfl) fun rr nrr => ?_⟩⟩
    have h1 := ext1 (o := .tup [.str "count", .int 101]) nrr
    refine ⟨by show 2 ≤ sizeLine; decide, fun du ndu => ?_⟩
    have h2 := ext1 (o := .tup [.str "count", .int 101]) ndu
    have hh := (ec.trans h1).trans h2
    refine ⟨_, _, dp_si (h2 _ _ upd_same), dp_si upd_same, shp_si okC, shp_si okC, _, rfl, ?_⟩
    rw [eqv_si]
    refine iteF ?_
    have tc := tb.ext hh
    have enC := enB.trans (ExtN.of hh)
    have zc := hh _ _ zb
    revert tc enC zc
    generalize upd (upd Hc rr (.tup [.str "count", .int 101])) du (.tup [.str "count", .int 101]) = Hd
    intro tc enC zc
    have td := tc
    have enD := enC
    have zd := zc
    clear tc enC zc
    refine ⟨td, fun Ha ena ta Ech Qr hN hB hk => ?_⟩
    have za : Ha zl = some (.lst (List.replicate 99 (V.int 0))) := ena _ _ zd fun ps z => by cases z
    have enA := enD.trans ena
    refine ⟨by show 1 ≤ sizeLine; decide, fun q1 nq1 => ⟨_, rfl, q1, zl, _, _, rfl, rfl, upd_same, ext1 nq1 _ _ za, sz1 _, fun r1 nr1 => ⟨by show 1 ≤ sizeLine; decide, fun q2 nq2 => ?_⟩⟩⟩
    have f1 := ext1 (o := .lst [V.int 2]) nq1
    have f2 := ext1 (o := .lst ([V.int 2] ++ List.replicate 99 (V.int 0))) nr1
    have f3 := ext1 (o := .lst [V.int 0]) nq2
    refine ⟨r1, q2, _, _, rfl, rfl, f3 _ _ upd_same, upd_same, sz2 _ _, fun r2 nr2 => ?_⟩
    have f4 := ext1 (o := .lst ([V.int 2] ++ List.replicate 99 (V.int 0) ++ [V.int 0])) nr2
    have ff := ((f1.trans f2).trans f3).trans f4
    have tb := ta.ext ff
    have enB := enA.trans (ExtN.of ff)
    have zb := ff _ _ za
    have nb : (upd (upd (upd (upd Ha q1 (.lst [V.int 2])) r1 (.lst ([V.int 2] ++ List.replicate 99 (V.int 0)))) q2 (.lst [V.int 0])) r2 (.lst ([V.int 2] ++ List.replicate 99 (V.int 0) ++ [V.int 0]))) r2 = some (.lst ([V.int 2] ++ List.replicate 99 (V.int 0) ++ [V.int 0])) := upd_same
    revert tb enB zb nb
    generalize (upd (upd (upd (upd Ha q1 (.lst [V.int 2])) r1 (.lst ([V.int 2] ++ List.replicate 99 (V.int 0)))) q2 (.lst [V.int 0])) r2 (.lst ([V.int 2] ++ List.replicate 99 (V.int 0) ++ [V.int 0]))) = Hb
    intro tb enB zb nb
    refine ⟨r2, _, rfl, .inl ⟨SqL.of nb, fun tt ntt => ?_⟩⟩
    have f5 := ext1 (o := .tup ([V.int 2] ++ List.replicate 99 (V.int 0) ++ [V.int 0])) ntt
    have nn : ns A (upd Hb tt (.tup ([V.int 2] ++ List.replicate 99 (V.int 0) ++ [V.int 0]))) tt ((2, 1) :: zrs 99 ++ [(0, 1)]) := ⟨_, .inr upd_same, na2 2, lo2 2⟩
    have tb := tb.ext f5
    have enB := enB.trans (ExtN.of f5)
    have zb := f5 _ _ zb
    refine ⟨tt, _, rfl, nn.nums, by rw [l101]; decide, .inl ⟨by rw [l101]; decide, fun dd Hc ec hdd => hB dd Hc 101 (by rw [hdd, l101]; rfl) fun rr nrr => ?_⟩⟩
    have h1 := ext1 (o := .tup [.str "count", .int 101]) nrr
    refine ⟨by show 2 ≤ sizeLine; decide, fun du ndu => ?_⟩
    have h2 := ext1 (o := .tup [.str "count", .int 101]) ndu
    have hh := (ec.trans h1).trans h2
    refine ⟨_, _, dp_si (h2 _ _ upd_same), dp_si upd_same, shp_si okC, shp_si okC, _, rfl, ?_⟩
    rw [eqv_si]
    refine iteF ?_
    have tc := tb.ext hh
    have enC := enB.trans (ExtN.of hh)
    have zc := hh _ _ zb
    revert tc enC zc
    generalize upd (upd Hc rr (.tup [.str "count", .int 101])) du (.tup [.str "count", .int 101]) = Hd
    intro tc enC zc
    have te := tc
    have enE := enC
    have ze := zc
    clear tc enC zc
    -- 2 and zeros
    obtain ⟨I2, O2⟩ := long_two
    refine ⟨te, fun Ha ena ta Ech Qr hN hB hk => ?_⟩
    have za : Ha zl = some (.lst (List.replicate 99 (V.int 0))) := ena _ _ ze fun ps z => by cases z
    have enA := enE.trans ena
    refine ⟨by show 1 ≤ sizeLine; decide, fun q1 nq1 => ⟨_, rfl, q1, zl, _, _, rfl, rfl, upd_same, ext1 nq1 _ _ za, sz1 _, fun r1 nr1 => ?_⟩⟩
    have f1 := ext1 (o := .lst [V.int 2]) nq1
    have f2 := ext1 (o := .lst ([V.int 2] ++ List.replicate 99 (V.int 0))) nr1
    have ff := f1.trans f2
    have tb := ta.ext ff
    have enB := enA.trans (ExtN.of ff)
    have zb := ff _ _ za
    have nn : ns A (upd (upd Ha q1 (.lst [V.int 2])) r1 (.lst ([V.int 2] ++ List.replicate 99 (V.int 0)))) r1 ((2, 1) :: zrs 99) := ⟨_, .inl upd_same, na1 2, lo1 2⟩
    refine ⟨r1, _, rfl, nn.nums, by rw [len_one]; decide, .inr ⟨by rw [len_one]; decide, [], I2, .inr ⟨0, O2, fun dd Hc ec hdd => hN dd Hc 0 hdd fun rr nrr => ?_⟩⟩⟩
    have h1 := ext1 (o := .tup [.str "echo", .int 0]) nrr
    refine ⟨by show 2 ≤ sizeLine; decide, fun du ndu => ?_⟩
    have h2 := ext1 (o := .tup [.str "echo", .int 0]) ndu
    have hh := (ec.trans h1).trans h2
    refine ⟨_, _, dp_si (h2 _ _ upd_same), dp_si upd_same, shp_si okE, shp_si okE, _, rfl, ?_⟩
    rw [eqv_si]
    refine iteF ?_
    have tc := tb.ext hh
    have enC := enB.trans (ExtN.of hh)
    have zc := hh _ _ zb
    revert tc enC zc
    generalize upd (upd Hc rr (.tup [.str "echo", .int 0])) du (.tup [.str "echo", .int 0]) = Hd
    intro tc enC zc
    have tf := tc
    have enF := enC
    clear tc enC zc
    -- a half behind zeros
    unfold tNext
    dsimp only
    refine tseq_of (t := tAsg (tOp _ _ _) (gName 3)) ?_
    refine tasg_of ?_
    refine top_of ?_
    refine tlc_f (n := 25) (H1 := Hd) (R := fun _ x _ => x = V.int 0) (walk_range (lo := 0) (n := 25)) (fun R r => ⟨25, rfl, by decide, by decide, r⟩) (fun _ _ _ _ _ h => h) (by decide) (fun _ _ => trivial) (fun _ _ _ _ y => y.1) (show 2 < 4 by decide) ?_ ?_
    · intro i x H2 τ Qy hi e2 hy h2 _ kk
      exact kk _ H2 Ext.rfl' rfl
    intro hl He nhl eE hz2
    have z5 := hz2.zeros
    have l25 : (zrs 25 ++ [(e, (2 : Int))]).length = 26 := by rw [len1]; unfold zrs; rw [List.length_replicate]
    refine ⟨_, rfl, e, 2, rfl, by decide, by unfold Bi; exact Nat.lt_of_lt_of_le (by decide : (2 : Int).natAbs < 2 ^ 2) (Nat.pow_le_pow_right (by decide) (by decide)), fun hf Hf ef fh => ⟨by show 1 ≤ sizeLine; decide, fun q1 nq1 => ?_⟩⟩
    have f1 := ext1 (o := .lst [V.ref hf]) nq1
    refine ⟨hl, q1, _, _, rfl, rfl, f1 _ _ (ef _ _ z5), upd_same, by rw [List.length_replicate, sizeLine_eq]; show 25 + 1 ≤ _; omega, fun r nr => ?_⟩
    have f2 := ext1 (o := .lst (List.replicate 25 (V.int 0) ++ [V.ref hf])) nr
    rw [low_self (p := (e, 2)) (lowH he)] at fh
    have nn : ns A (upd (upd Hf q1 (.lst [V.ref hf])) r (.lst (List.replicate 25 (V.int 0) ++ [V.ref hf]))) r (zrs 25 ++ [(e, 2)]) := ns_app upd_same (zrs_at rfl) (.inl ⟨hf, rfl, (fh.ext f1).ext f2⟩) low_zrs (lowH he)
    have e5 := ((eE.trans ef).trans f1).trans f2
    obtain ⟨I3, O3, u3, v3⟩ := long_half he
    dsimp only [gName]
    refine ⟨_, rfl, r, _, rfl, nn.nums, by rw [l25]; decide, .inr ⟨by rw [l25]; decide, _, I3, .inl ⟨_, O3, fun rt Hg eg ht => ?_⟩⟩⟩
    rw [u3, v3] at ht
    refine ⟨_, rfl, by show 2 ≤ sizeLine; decide, fun ta nta => ⟨by show 2 ≤ sizeLine; decide, fun tb2 ntb => ⟨by show 2 ≤ sizeLine; decide, fun tl ntl => ?_⟩⟩⟩
    have g1 := ext1 (o := .tup [.int (-3), .int 4]) nta
    have g2 := ext1 (o := .tup [.int 3, .int 4]) ntb
    have g3 := ext1 (o := .lst [V.ref ta, V.ref tb2]) ntl
    have gg := (g1.trans g2).trans g3
    have lo3 : Low ((-3 : Int), (4 : Int)) := ⟨by decide, by decide⟩
    have lo4 : Low ((3 : Int), (4 : Int)) := ⟨by decide, by decide⟩
    have b4 : Bi 4 := by unfold Bi; exact Nat.lt_of_lt_of_le (by decide : (4 : Int).natAbs < 2 ^ 3) (Nat.pow_le_pow_right (by decide) (by decide))
    refine ⟨rt, tl, [(-3, 4), (3, 4)], rfl, (ht.ext gg).pt lo3 lo4 rfl rfl, tl2 upd_same (g3 _ _ (g2 _ _ upd_same)) (g3 _ _ upd_same), fun q hq => ?_, by show 2 ≤ 60; decide, fun Hz ez => ?_⟩
    · rcases List.mem_cons.mp hq with z | z
      · rw [z]; exact ⟨lo3, b4⟩
      · rw [List.mem_singleton.mp z]; exact ⟨lo4, b4⟩
    · have last := ((e5.trans eg).trans gg).trans ez
      exact k Hz (enF.trans (ExtN.of last)) (tf.ext last)
end
end Fx

set_option Elab.async false
set_option linter.all false
set_option maxRecDepth 100000
set_option maxHeartbeats 4000000
set_option exponentiation.threshold 20000
/-! The ways on from the first numbers. -/
namespace Fx
open PySem PySem.Spec PyProof.Rows L2 FM KM LamX
def Bar (qs : List (Int × Int)) (y : Int × Int) (cs : List (Int × Int)) : Prop :=
  In (sq (qs ++ [y])) (qs.length + 1) cs ∧ OutE (sq (qs ++ [y])) (qs.length + 1) cs qs.length ∧ In (sq (qs ++ [y] ++ [(0, 1), (1, 2)])) (qs.length + 3) cs ∧ OutE (sq (qs ++ [y] ++ [(0, 1), (1, 2)])) (qs.length + 3) cs qs.length
theorem bar_of {qs cs : List (Int × Int)} {y : Int × Int} (h : ∀ rs : List (Int × Int), rs = [] ∨ rs = [(0, 1), (1, 2)] → In (sq (qs ++ y :: rs)) (qs ++ y :: rs).length cs ∧ OutE (sq (qs ++ y :: rs)) (qs ++ y :: rs).length cs qs.length) : Bar qs y cs := by
  obtain ⟨a, b⟩ := h [] (.inl rfl)
  obtain ⟨c, d⟩ := h [(0, 1), (1, 2)] (.inr rfl)
  have l1 : (qs ++ [y]).length = qs.length + 1 := len1 _ _
  have l3 : (qs ++ y :: [((0 : Int), (1 : Int)), (1, 2)]).length = qs.length + 3 := by rw [List.length_append]; rfl
  rw [l1] at a b
  rw [l3] at c d
  have e : qs ++ [y] ++ [((0 : Int), (1 : Int)), (1, 2)] = qs ++ y :: [(0, 1), (1, 2)] := by rw [List.append_assoc]; rfl
  refine ⟨a, b, ?_, ?_⟩
  · rw [e]; exact c
  · rw [e]; exact d
theorem GL.rs {qs : List (Int × Int)} {y : Int × Int} {rs : List (Int × Int)} (h : GL 156 384 qs) (ly : Low y) (h1 : y.1.natAbs ≤ 2 ^ 480) (h2 : y.2.natAbs ≤ 2 ^ 240) (hr : rs = [] ∨ rs = [(0, 1), (1, 2)]) : GL 700 700 (qs ++ y :: rs) := by
  have g := h.grc ly h1 h2 (Nat.le_refl _) (Nat.le_refl _)
  rcases hr with rfl | rfl
  · exact g.mono (by decide) (by decide)
  · have g2 := (g.app (c := 1) (d := 1) (lowInt 0) (by decide) (by decide)).app (y := (1, 2)) (c := 1) (d := 1) lowHalf (by decide) (by decide)
    have e : qs ++ [y] ++ [((0 : Int), (1 : Int))] ++ [(1, 2)] = qs ++ y :: [(0, 1), (1, 2)] := by rw [List.append_assoc, List.append_assoc]; rfl
    rw [e] at g2
    exact g2.mono (by decide) (by decide)
/-- what may follow the numbers -/
structure Way (qs : List (Int × Int)) (d0 d1 : Int × Int) : Prop where
  l0 : Low d0
  l1 : Low d1
  b0 : d0.1.natAbs ≤ 2 ^ 450 ∧ d0.2.natAbs ≤ 2 ^ 216
  b1 : d1.1.natAbs ≤ 2 ^ 450 ∧ d1.2.natAbs ≤ 2 ^ 216
  lq : ∀ q ∈ qs, Low q
  c6 : qs.length ≤ 6
  ns : ∃ cs v, In (sq qs) qs.length cs ∧ OutP (sq qs) qs.length cs v ∧ stU (sq qs) qs.length cs v = val d0 ∧ stV (sq qs) qs.length cs v = val d1
  up : ∀ y, Low y → y.1.natAbs ≤ 2 ^ 480 → y.2.natAbs ≤ 2 ^ 240 → val d1 < val y → ∃ cs, Bar qs y cs
  dn : ∀ y, Low y → y.1.natAbs ≤ 2 ^ 480 → y.2.natAbs ≤ 2 ^ 240 → val y < val d0 → ∃ cs, Bar qs y cs
theorem way_end {qs ps : List (Int × Int)} {s : Sq} {e : Int} {pm : Int × Int} (S : Sit qs ps s) (h : Ec (ps.map val) (e : Rat) s) (he : e = 1 ∨ e = -1) (lt : ps.length < qs.length) (lpm : Low pm) (vm : val pm = s qs.length) (b1 : pm.1.natAbs ≤ 2 ^ 448) (b2 : pm.2.natAbs ≤ 2 ^ 182) : Way qs pm pm := by
  have bb := And.intro (Nat.le_trans b1 (pw_le (by decide : 448 ≤ 450))) (Nat.le_trans b2 (pw_le (by decide : 182 ≤ 216)))
  obtain ⟨a, b, c, d⟩ := S.end_ h he lt
  have off : ∀ y, Low y → y.1.natAbs ≤ 2 ^ 480 → y.2.natAbs ≤ 2 ^ 240 → val y ≠ val pm → ∃ cs, Bar qs y cs := fun y ly h1 h2 ne => ⟨ps, bar_of fun rs hr => S.off h he lt rs (S.gl.rs ly h1 h2 hr) (by rw [← vm]; exact ne)⟩
  exact ⟨lpm, lpm, bb, bb, S.low, S.c6, ⟨ps, _, a, b, by rw [c, vm], by rw [d, vm]⟩, fun y ly h1 h2 lt => off y ly h1 h2 (by grind), fun y ly h1 h2 lt => off y ly h1 h2 (by grind)⟩
theorem way_open {qs ps : List (Int × Int)} {s : Sq} {e : Rat} {es : List Rat} {d0 d1 : Int × Int} (S : Sit qs ps s) (h : Ec (ps.map val ++ (0 :: es)) e s) (eq : ps.length = qs.length) (l0 : Low d0) (l1 : Low d1) (b0 : d0.1.natAbs ≤ 2 ^ 450 ∧ d0.2.natAbs ≤ 2 ^ 216) (b1 : d1.1.natAbs ≤ 2 ^ 450 ∧ d1.2.natAbs ≤ 2 ^ 216)
    (v0 : val d0 = s qs.length - rch (ps.map val)) (v1 : val d1 = s qs.length + rch (ps.map val)) : Way qs d0 d1 := by
  obtain ⟨a, b, c, d⟩ := S.non h eq
  have far : ∀ y, Low y → y.1.natAbs ≤ 2 ^ 480 → y.2.natAbs ≤ 2 ^ 240 → (s qs.length + rch (ps.map val) < val y ∨ val y < s qs.length - rch (ps.map val)) → ∃ cs, Bar qs y cs := fun y ly h1 h2 ne => ⟨ps, bar_of fun rs hr => S.far h eq ly h1 h2 rs (S.gl.rs ly h1 h2 hr) ne⟩
  exact ⟨l0, l1, b0, b1, S.low, S.c6, ⟨ps, _, a, b, by rw [c, v0], by rw [d, v1]⟩, fun y ly h1 h2 lt => far y ly h1 h2 (.inl (by rw [← v1]; exact lt)), fun y ly h1 h2 lt => far y ly h1 h2 (.inr (by rw [← v0]; exact lt))⟩
/-- how far away the refused number is -/
structure Far (f : Int × Int) : Prop where
  low : Low f
  pos : 0 < val f
  b1 : f.1.natAbs ≤ 2 ^ 1
  b2 : f.2.natAbs ≤ 2 ^ 20
theorem far_of {n : Int} (h : n = 1 ∨ n = 7 ∨ n = 1000003) : Far (1, n) := by
  have k : ∀ m : Int, m = n → 0 < m → m.natAbs ≤ 2 ^ 20 → Far (1, m) := fun m _ hm hb => by
    have hm' := cast_ne (show m ≠ 0 by omega)
    have pos : (0 : Rat) < (m : Rat) := by exact_mod_cast hm
    refine ⟨⟨hm, ?_⟩, ?_, by show (1 : Int).natAbs ≤ 2 ^ 1; decide, hb⟩
    · show Nat.gcd 1 m.natAbs = 1
      exact Nat.gcd_one_left _
    · have e : val (1, m) * (m : Rat) = 1 := by unfold val; push_cast; grind
      by_cases z : 0 < val (1, m)
      · exact z
      · have := Rat.mul_le_mul_of_nonneg_right (Rat.not_lt.mp z) (Rat.le_of_lt pos)
        grind
  rcases h with rfl | rfl | rfl <;> exact k _ rfl (by decide) (by decide)
theorem low_neg {f : Int × Int} (h : Low f) : Low (-f.1, f.2) := ⟨h.pos, by show Nat.gcd (-f.1).natAbs f.2.natAbs = 1; rw [Int.natAbs_neg]; exact h.cop⟩
theorem val_negp (f : Int × Int) : val (-f.1, f.2) = -val f := by unfold val; push_cast; grind
/-- the refused numbers -/
theorem way_up {qs : List (Int × Int)} {d0 d1 f : Int × Int} (W : Way qs d0 d1) (hf : Far f) : Low (fadd d1 f) ∧ Bi (fadd d1 f).2 ∧ ∃ cs, Bar qs (fadd d1 f) cs := by
  have l := low_fadd W.l1 hf.low
  obtain ⟨s2, s1⟩ := parts_sub l W.l1 hf.low (.inr (val_add W.l1 hf.low)) W.b1.1 W.b1.2 hf.b1 hf.b2
  refine ⟨l, bik s2 (by decide), W.up _ l (Nat.le_trans s1 (pw_sum (by decide) (by decide))) (Nat.le_trans s2 (pw_le (by decide))) ?_⟩
  rw [val_add W.l1 hf.low]
  have := hf.pos
  grind
theorem way_dn {qs : List (Int × Int)} {d0 d1 f : Int × Int} (W : Way qs d0 d1) (hf : Far f) : Low (fadd d0 (-f.1, f.2)) ∧ Bi (fadd d0 (-f.1, f.2)).2 ∧ ∃ cs, Bar qs (fadd d0 (-f.1, f.2)) cs := by
  have ln := low_neg hf.low
  have l := low_fadd W.l0 ln
  obtain ⟨s2, s1⟩ := parts_sub l W.l0 ln (.inr (val_add W.l0 ln)) W.b0.1 W.b0.2 (by show (-f.1).natAbs ≤ 2 ^ 1; rw [Int.natAbs_neg]; exact hf.b1) hf.b2
  refine ⟨l, bik s2 (by decide), W.dn _ l (Nat.le_trans s1 (pw_sum (by decide) (by decide))) (Nat.le_trans s2 (pw_le (by decide))) ?_⟩
  rw [val_add W.l0 ln, val_negp]
  have := hf.pos
  grind
/-- one pane more behind the reach -/
theorem reach_step {c pr : Int × Int} (hc : Pn c) (lp : Low pr) : Low (fmul pr (c.2 * c.2 - c.1 * c.1, c.2 * c.2)) ∧ val (fmul pr (c.2 * c.2 - c.1 * c.1, c.2 * c.2)) = val pr * (1 - val c * val c) ∧
    (fmul pr (c.2 * c.2 - c.1 * c.1, c.2 * c.2)).1.natAbs ≤ pr.1.natAbs * (c.2 * c.2).natAbs ∧ (fmul pr (c.2 * c.2 - c.1 * c.1, c.2 * c.2)).2.natAbs ≤ pr.2.natAbs * (c.2 * c.2).natAbs := by
  have c2 := KM.Low.ne hc.low
  have cc := Int.mul_ne_zero c2 c2
  have nz := Int.mul_ne_zero (KM.Low.ne lp) cc
  have h1 := cast_ne c2
  have h2 := cast_ne (KM.Low.ne lp)
  refine ⟨low_low nz, ?_, ?_, ?_⟩
  · unfold fmul
    rw [val_low nz]
    unfold val
    push_cast
    grind
  · refine Nat.le_trans (low_le1 nz) ?_
    rw [Int.natAbs_mul]
    refine Nat.mul_le_mul_left _ ?_
    have a := hc.lo
    have b := hc.hi
    have e1 : c.1 * c.1 ≤ c.2 * c.2 := by
      have : 0 ≤ (c.2 - c.1) * (c.2 + c.1) := Int.mul_nonneg (by omega) (by omega)
      have e : (c.2 - c.1) * (c.2 + c.1) = c.2 * c.2 - c.1 * c.1 := by grind
      omega
    have e2 : 0 ≤ c.1 * c.1 := by
      rcases Int.le_total 0 c.1 with z | z
      · exact Int.mul_nonneg z z
      · exact Int.mul_nonneg_of_nonpos_of_nonpos z z
    show (c.2 * c.2 - c.1 * c.1).natAbs ≤ _
    omega
  · refine Nat.le_trans (low_le2 nz) ?_
    rw [Int.natAbs_mul]
    exact Nat.le_refl _
theorem sq_le_wt (c : Int × Int) (W a : Nat) (h : a ≤ W * W) : a * (c.2 * c.2).natAbs ≤ (W * (c.1.natAbs + c.2.natAbs)) * (W * (c.1.natAbs + c.2.natAbs)) := by
  rw [Int.natAbs_mul, Nat.mul_mul_mul_comm]
  exact Nat.mul_le_mul h (Nat.mul_le_mul (by omega) (by omega))
theorem pan_sq {c : Int × Int} (hc : Pn c) : (c.2 * c.2 - c.1 * c.1).natAbs ≤ (c.2 * c.2).natAbs ∧ (c.2 * c.2).natAbs ≤ 2 ^ 52 ∧ c.2 * c.2 ≠ 0 := by
  have a := hc.lo
  have b := hc.hi
  have e1 : c.1 * c.1 ≤ c.2 * c.2 := by
    have : 0 ≤ (c.2 - c.1) * (c.2 + c.1) := Int.mul_nonneg (by omega) (by omega)
    have e : (c.2 - c.1) * (c.2 + c.1) = c.2 * c.2 - c.1 * c.1 := by grind
    omega
  have e2 : 0 ≤ c.1 * c.1 := by
    rcases Int.le_total 0 c.1 with z | z
    · exact Int.mul_nonneg z z
    · exact Int.mul_nonneg_of_nonpos_of_nonpos z z
  refine ⟨by omega, ?_, Int.mul_ne_zero (KM.Low.ne hc.low) (KM.Low.ne hc.low)⟩
  have s := hc.sm
  have e26 : (2 : Int) ^ 26 = ((2 ^ 26 : Nat) : Int) := by norm_cast
  rw [e26] at s
  rw [Int.natAbs_mul, show (52 : Nat) = 26 + 26 by rfl, Nat.pow_add]
  exact Nat.mul_le_mul (by omega) (by omega)
theorem wt_take {ps : List (Int × Int)} (h : ∀ p ∈ ps, Pn p) (k : Nat) : wt (ps.take k) ≤ wt ps := by
  induction ps generalizing k with
  | nil => rw [List.take_nil]; exact Nat.le_refl _
  | cons c cs ih =>
    cases k with
    | zero =>
      have a := ih (fun p hp => h p (List.mem_cons_of_mem _ hp)) 0
      have b := (h c (List.mem_cons_self ..)).low.pos
      refine Nat.le_trans a ?_
      show wt cs ≤ (c.1.natAbs + c.2.natAbs) * wt cs
      exact Nat.le_mul_of_pos_left _ (by omega)
    | succ k => exact Nat.mul_le_mul_left _ (ih (fun p hp => h p (List.mem_cons_of_mem _ hp)) k)
theorem cut_take (xs : List V) (c : Nat) : cutV xs none (some (c : Int)) = xs.take c := by
  unfold cutV
  rw [HT.sIx_none, HT.sIx_nat, Nat.sub_zero, List.drop_zero]
  by_cases h : c ≤ xs.length
  · rw [Nat.min_eq_left h]
  · rw [Nat.min_eq_right (by omega), List.take_of_length_le (Nat.le_refl _), List.take_of_length_le (by omega)]
end Fx

set_option Elab.async false
set_option linter.all false
set_option maxRecDepth 100000
set_option maxHeartbeats 4000000
set_option exponentiation.threshold 20000
set_option pp.maxSteps 300
namespace Fx
open PySem PySem.Spec PyProof.Rows L2 FM KM LamX
theorem TL.take {H : Hp} {l b : Addr} {ps : List (Int × Int)} {xs : List V} {c : Nat} (h : TL H l ps) (hl : H l = some (.lst xs)) (hb : H b = some (.lst (xs.take c))) : TL H b (ps.take c) := by
  obtain ⟨ys, h1, h2, h3⟩ := h
  rw [hl] at h1
  injection h1 with h1
  injection h1 with h1
  subst h1
  refine ⟨_, hb, by rw [List.length_take, List.length_take, h2], fun j x q hx hq => ?_⟩
  rw [List.getElem?_take] at hx hq
  by_cases hj : j < c
  · rw [if_pos hj] at hx hq
    exact h3 j x q hx hq
  · rw [if_neg hj] at hx
    cases hx
theorem TL.ne {H : Hp} {l r c : Addr} {ps : List (Int × Int)} (h : TL H l ps) (hp : PoolAt H r c) : l ≠ r := by
  rintro rfl
  obtain ⟨cs, i, cur, m, e, _⟩ := hp
  obtain ⟨xs, h1, h2, h3⟩ := h
  rw [e] at h1
  injection h1 with h1
  injection h1 with h1
  subst h1
  have l4 : 4 = ps.length := h2
  obtain ⟨b, z, _⟩ := h3 1 _ (ps[1]'(by omega)) rfl (List.getElem?_eq_getElem (by omega))
  cases z
theorem LN.nums {K : PySem.W.Frag} {A : Adr} {H : Hp} {l : Addr} {qs : List (Int × Int)} (h : LN A H l qs) (lo : ∀ q ∈ qs, Low q) : Nums K A H l qs := let ⟨ys, h1, h2⟩ := h; ⟨⟨ys, .inl (SqL.of h1), h2⟩, lo⟩
theorem lg27 : ∀ n : Nat, n < 2 ^ 27 → (n : Int).natAbs.log2 < 9000 := fun n h => Nat.lt_of_lt_of_le (log2_lt (n := (n : Int)) (k := 27) (by omega) (by decide)) (by decide)
def spLaw (T : List (Addr × Str)) (K : PySem.W.Frag) : Sp := fun vs H Q _ => ∃ (a : Addr) (ns : List Int), vs = [.ref a] ∧ SqL K H a (ns.map V.int) ∧ ns.length ≤ 63 ∧ Tabs T H ∧ ∀ H', Q (.bl true) H'
section
variable {P : Program} {w : World} {K : PySem.W.Frag} {mg : Str → Option Value} {base : Heap} {A : Adr}
theorem scLaw : FnScope ["script", "pool", "panes", "last", "way", "count", "high", "low", "numbers", "passed", "ahead", "ended", "reach", "p", "q", "middle", "due", "told", "far"] ["script"] (defScope (top 46)) := ⟨rfl, rfl, rfl, by decide +kernel, rfl, by decide +kernel, by decide +kernel⟩
theorem ok_law {T : List (Addr × Str)} {N B f : Addr} {fd : FuncData} (F : Fun K "law" "law" (top 46) f fd) (hP : LF P w K mg base "_law_pool" 1 ["script"] (spPool K)) (hY : LF P w K mg base "_law_drawn" 3 ["pool"] spDrawn) (hD : LF P w K mg base "_law_draw" 1 ["pool", "base"] spDraw) (hQ : LF P w K mg base "_law_quotient" 2 ["panes", "last"] spQuo) (hS : LF P w K mg base "_law_series" 3 ["high", "low", "count"] spSer) (hB : LF P w K mg base "_law_numbers" 4 ["pairs", "way"] (spNbs A)) (hM : LF P w K mg base "_law_mul" 3 ["x", "y"] spMulK) (hE : LF P w K mg base "_law_echo" 4 ["panes", "last", "at"] spEcho) (hA : LF P w K mg base "_law_add" 3 ["x", "y"] spAddK) (hN : LF P w K mg base "next_stretch" 8 ["numbers"] (spNs K A B N)) (hO : LF P w K mg base "_law_row" 3 ["told", "due", "tied"] (spRow A)) (hT : LF P w K mg base "_law_stayed" 3 ["passed", "pairs"] (spStay A)) (hL : LF P w K mg base "_law_peels" 14 ["numbers", "panes", "last"] (spPls T A)) (hX : LF P w K mg base "_law_open" 15 ["pool", "passed", "panes", "told", "middle", "reach", "way"] (spOpn T A)) (hR : LF P w K mg base "_law_barred" 14 ["passed", "number", "way"] (spBar T A)) (hG : LF P w K mg base "_law_long" 14 ["last"] (spLng T)) (it : mg "int" = none) (tu : mg "tuple" = none) (le : mg "len" = none) : FnOk P w K mg base (L2.CX P w) 16 f fd ["script"] (spLaw T K) := by
  refine F.okX scLaw (fun vs H Q E h => ?_) (fun cdv AA outer s H vs Q E hr h => ?_)
  · obtain ⟨a, ns, rfl, _⟩ := h
    rfl
  · obtain ⟨a, ns, rfl, hSc, hNs, hTb, kk⟩ := h
    obtain ⟨fP, gP, cP⟩ := hP
    obtain ⟨fdP, GP, bP⟩ := cP.ex
    obtain ⟨fY, gY, cY⟩ := hY
    obtain ⟨fdY, GY, bY⟩ := cY.ex
    obtain ⟨fD, gD, cD⟩ := hD
    obtain ⟨fdD, GD, bD⟩ := cD.ex
    obtain ⟨fQ, gQ, cQ⟩ := hQ
    obtain ⟨fdQ, GQ, bQ⟩ := cQ.ex
    obtain ⟨fS, gS, cS⟩ := hS
    obtain ⟨fdS, GS, bS⟩ := cS.ex
    obtain ⟨fB, gB, cB⟩ := hB
    obtain ⟨fdB, GB, bB⟩ := cB.ex
    obtain ⟨fM, gM, cM⟩ := hM
    obtain ⟨fdM, GM, bM⟩ := cM.ex
    obtain ⟨fE, gE, cE⟩ := hE
    obtain ⟨fdE, GE, bE⟩ := cE.ex
    obtain ⟨fA, gA, cA⟩ := hA
    obtain ⟨fdA, GA, bA⟩ := cA.ex
    obtain ⟨fN, gN, cN⟩ := hN
    obtain ⟨fdN, GN, bN⟩ := cN.ex
    obtain ⟨fO, gO, cO⟩ := hO
    obtain ⟨fdO, GO, bO⟩ := cO.ex
    obtain ⟨fT, gT, cT⟩ := hT
    obtain ⟨fdT, GT, bT⟩ := cT.ex
    obtain ⟨fL, gL, cL⟩ := hL
    obtain ⟨fdL, GL, bL⟩ := cL.ex
    obtain ⟨fX, gX, cX⟩ := hX
    obtain ⟨fdX, GX, bX⟩ := cX.ex
    obtain ⟨fR, gR, cR⟩ := hR
    obtain ⟨fdR, GR, bR⟩ := cR.ex
    obtain ⟨fG, gG, cG⟩ := hG
    obtain ⟨fdG, GG, bG⟩ := cG.ex
    refine ⟨_, (pss_cons (ps_set (i := 1) scLaw.nd rfl (Or.inl rfl) (pe_call GP (hr.mono (by decide)) rfl gP cP.kp bP .nil (E := E0) passL (pa_cons (pv 0) pa_nil)))
      (pss_cons (ps_set (i := 2) scLaw.nd rfl (Or.inl rfl) (pe_call GY (hr.mono (by decide)) rfl gY cY.kp bY .nil (E := E0) passL (pa_cons (pv 1) pa_nil)))
      (pss_cons (ps_set (i := 3) scLaw.nd rfl (Or.inl rfl) (pe_op L2.op_sub pe_int (pe_op L2.op_mul pe_int (pe_call GD (hr.mono (by decide)) rfl gD cD.kp bD .nil (E := E0) passL (pa_cons (pv 1) (pa_cons pe_int pa_nil))))))
      (pss_cons (ps_set (i := 4) scLaw.nd rfl (Or.inl rfl) (pe_call GD (hr.mono (by decide)) rfl gD cD.kp bD .nil (E := E0) passL (pa_cons (pv 1) (pa_cons pe_int pa_nil))))
      (pss_cons (ps_set (i := 5) scLaw.nd rfl (Or.inl rfl) (pe_op op_modN (pe_callTy call_int1 (by rfl) it boot_int (pa_cons (pe_op L2.op_add (pe_call GD (hr.mono (by decide)) rfl gD cD.kp bD .nil (E := E0) passL (pa_cons (pv 1) (pa_cons pe_int pa_nil))) pe_int) pa_nil)) pe_int))
      (pss_cons (ps_asg (pe_call GQ (hr.mono (by decide)) rfl gQ cQ.kp bQ .nil (E := E0) passL (pa_cons (pv 2) (pa_cons (pv 3) pa_nil))) (pg_tup rfl (pgs_cons (pg_name (i := 6) scLaw.nd rfl (Or.inl rfl)) (pgs_cons (pg_name (i := 7) scLaw.nd rfl (Or.inl rfl)) pgs_nil))))
      (pss_cons (ps_set (i := 8) scLaw.nd rfl (Or.inl rfl) (pe_call GS (hr.mono (by decide)) rfl gS cS.kp bS .nil (E := E0) passL (pa_cons (pv 6) (pa_cons (pv 7) (pa_cons (pv 5) pa_nil)))))
      (pss_cons (ps_set (i := 9) scLaw.nd rfl (Or.inl rfl) (pe_call GB (hr.mono (by decide)) rfl gB cB.kp bB .nil (E := E0) passL (pa_cons (pv 8) (pa_cons (pv 4) pa_nil))))
      (pss_cons (ps_set (i := 10) scLaw.nd rfl (Or.inl rfl) (pe_slice sl_list (pv 2) po_none (po_some (pv 5))))
      (pss_cons (ps_set (i := 11) scLaw.nd rfl (Or.inl rfl) (pe_cmpR L2.op_gt (pv 5) (pe_callB call_len_seq (by rfl) le PySem.boot_len (pa_cons (pv 2) pa_nil)) (nomark _)))
      (pss_cons (ps_set (i := 12) scLaw.nd rfl (Or.inl rfl) (pe_tup (pa_cons pe_int (pa_cons pe_int pa_nil))))
      (pss_cons (ps_for (passes_of rfl) rfl (pi_list (pv 10)) (pg_tup rfl (pgs_cons (pg_name (i := 13) scLaw.nd rfl (Or.inl rfl)) (pgs_cons (pg_name (i := 14) scLaw.nd rfl (Or.inl rfl)) pgs_nil))) (pss_one (ps_set (i := 12) scLaw.nd rfl (Or.inl rfl) (pe_call GM (hr.mono (by decide)) rfl gM cM.kp bM .nil (E := E0) passL (pa_cons (pv 12) (pa_cons (pe_tup (pa_cons (pe_op L2.op_sub (pe_op op_mulW (pv 14) (pv 14)) (pe_op op_mulW (pv 13) (pv 13))) (pa_cons (pe_op op_mulW (pv 14) (pv 14)) pa_nil))) pa_nil))))))
      (C8.pss_cut (ps_if (pt_val (pv 11)) (pss_cons (ps_set (i := 15) scLaw.nd rfl (Or.inl rfl) (pe_call GE (hr.mono (by decide)) rfl gE cE.kp bE .nil (E := E0) passL (pa_cons (pv 2) (pa_cons (pv 3) (pa_cons (pv 5) pa_nil)))))
      (pss_one (ps_set (i := 16) scLaw.nd rfl (Or.inl rfl) (pe_lst (pa_cons (pv 15) (pa_cons (pv 15) pa_nil)))))) (pss_cons (ps_set (i := 15) scLaw.nd rfl (Or.inl rfl) (pe_call GE (hr.mono (by decide)) rfl gE cE.kp bE .nil (E := E0) passL (pa_cons (pe_op op_cat (pv 10) (pe_lst (pa_cons (pe_tup (pa_cons pe_int (pa_cons pe_int pa_nil))) pa_nil))) (pa_cons pe_int (pa_cons (pv 5) pa_nil)))))
      (pss_one (ps_set (i := 16) scLaw.nd rfl (Or.inl rfl) (pe_lst (pa_cons (pe_call GA (hr.mono (by decide)) rfl gA cA.kp bA .nil (E := E0) passL (pa_cons (pv 15) (pa_cons (pe_tup (pa_cons (pe_un L2.un_neg (pe_ix ix_tup (pv 12) pe_int (fun _ _ => rfl))) (pa_cons (pe_ix ix_tup (pv 12) pe_int (fun _ _ => rfl)) pa_nil))) pa_nil))) (pa_cons (pe_call GA (hr.mono (by decide)) rfl gA cA.kp bA .nil (E := E0) passL (pa_cons (pv 15) (pa_cons (pv 12) pa_nil))) pa_nil)))))))
      (pss_cons (ps_set (i := 17) scLaw.nd rfl (Or.inl rfl) (pe_call GN (hr.mono (by decide)) rfl gN cN.kp bN .nil (E := E0) passL (pa_cons (pv 9) pa_nil)))
      (pss_cons (ps_if (PW.pt (pw_or (pt_not (pt_val (pe_call GO (hr.mono (by decide)) rfl gO cO.kp bO .nil (E := E0) passL (pa_cons (pv 17) (pa_cons (pv 16) (pa_cons pe_bl pa_nil)))))) (pw_or1 (pt_not (pt_val (pe_call GT (hr.mono (by decide)) rfl gT cT.kp bT .nil (E := E0) passL (pa_cons (pv 9) (pa_cons (pv 8) pa_nil)))))))) (pss_one (ps_ret pe_bl)) pss_nil)
      (pss_cons (ps_if (pt_not (pt_val (pe_call GO (hr.mono (by decide)) rfl gO cO.kp bO .nil (E := E0) passL (pa_cons (pe_call GN (hr.mono (by decide)) rfl gN cN.kp bN .nil (E := E0) passL (pa_cons (pe_callTy call_tuple_of (by rfl) tu boot_tuple (pa_cons (pv 9) pa_nil)) pa_nil)) (pa_cons (pv 16) (pa_cons pe_bl pa_nil)))))) (pss_one (ps_ret pe_bl)) pss_nil)
      (C8.pss_cut (ps_if (pt_val (pv 11)) (pss_one (ps_if (pt_not (pt_val (pe_call GL (hr.mono (by decide)) rfl gL cL.kp bL .nil (E := E0) passL (pa_cons (pe_op op_cat (pv 9) (pe_lst (pa_cons (pe_ix ix_tup (pv 17) pe_int (fun _ _ => rfl)) pa_nil))) (pa_cons (pv 2) (pa_cons (pv 3) pa_nil)))))) (pss_one (ps_ret pe_bl)) pss_nil)) (pss_one (ps_if (pt_not (pt_val (pe_call GX (hr.mono (by decide)) rfl gX cX.kp bX .nil (E := E0) passL (pa_cons (pv 1) (pa_cons (pv 9) (pa_cons (pv 10) (pa_cons (pv 17) (pa_cons (pv 15) (pa_cons (pv 12) (pa_cons (pv 4) pa_nil)))))))))) (pss_one (ps_ret pe_bl)) pss_nil)))
      (pss_cons (ps_set (i := 18) scLaw.nd rfl (Or.inl rfl) (pe_ix ix_list (pe_lst (pa_cons (pe_tup (pa_cons pe_int (pa_cons pe_int pa_nil))) (pa_cons (pe_tup (pa_cons pe_int (pa_cons pe_int pa_nil))) (pa_cons (pe_tup (pa_cons pe_int (pa_cons pe_int pa_nil))) pa_nil)))) (pe_call GD (hr.mono (by decide)) rfl gD cD.kp bD .nil (E := E0) passL (pa_cons (pv 1) (pa_cons pe_int pa_nil))) (fun _ _ => rfl)))
      (pss_cons (ps_if (pt_not (pt_val (pe_call GR (hr.mono (by decide)) rfl gR cR.kp bR .nil (E := E0) passL (pa_cons (pv 9) (pa_cons (pe_call GA (hr.mono (by decide)) rfl gA cA.kp bA .nil (E := E0) passL (pa_cons (pe_ix ix_list (pv 16) pe_int (fun _ _ => rfl)) (pa_cons (pv 18) pa_nil))) (pa_cons (pv 4) pa_nil)))))) (pss_one (ps_ret pe_bl)) pss_nil)
      (pss_cons (ps_if (pt_not (pt_val (pe_call GR (hr.mono (by decide)) rfl gR cR.kp bR .nil (E := E0) passL (pa_cons (pv 9) (pa_cons (pe_call GA (hr.mono (by decide)) rfl gA cA.kp bA .nil (E := E0) passL (pa_cons (pe_ix ix_list (pv 16) pe_int (fun _ _ => rfl)) (pa_cons (pe_tup (pa_cons (pe_un L2.un_neg (pe_ix ix_tup (pv 18) pe_int (fun _ _ => rfl))) (pa_cons (pe_ix ix_tup (pv 18) pe_int (fun _ _ => rfl)) pa_nil))) pa_nil))) (pa_cons (pe_op L2.op_sub pe_int (pv 4)) pa_nil)))))) (pss_one (ps_ret pe_bl)) pss_nil)
      (pss_cons (ps_if (pt_not (pt_val (pe_call GT (hr.mono (by decide)) rfl gT cT.kp bT .nil (E := E0) passL (pa_cons (pv 9) (pa_cons (pv 8) pa_nil))))) (pss_one (ps_ret pe_bl)) pss_nil)
      (pss_cons (ps_if (pt_not (pt_val (pe_call GO (hr.mono (by decide)) rfl gO cO.kp bO .nil (E := E0) passL (pa_cons (pe_call GN (hr.mono (by decide)) rfl gN cN.kp bN .nil (E := E0) passL (pa_cons (pe_lst pa_nil) pa_nil)) (pa_cons (pe_lst (pa_cons (pe_tup (pa_cons (pe_un L2.un_neg pe_int) (pa_cons pe_int pa_nil))) (pa_cons (pe_tup (pa_cons pe_int (pa_cons pe_int pa_nil))) pa_nil))) (pa_cons pe_bl pa_nil)))))) (pss_one (ps_ret pe_bl)) pss_nil)
      (pss_one (ps_ret (pe_call GG (hr.mono (by decide)) rfl gG cG.kp bG .nil (E := E0) passL (pa_cons (pv 3) pa_nil)))))))))))))))))))))))))), ?_⟩
    refine ⟨_, rfl, a, ns, rfl, hSc, hNs, fun rp cp H1 e1 nrp hp1 => ?_⟩
    have t1 := hTb.ext e1
    refine ⟨_, rfl, rp, cp, rfl, hp1, fun pl ps H2 hp2 kp2 tl2 pnl plr plc => ?_⟩
    have t2 := Tabs.kp t1 kp2 hp1
    refine ⟨_, rfl, rp, cp, 2, rfl, hp2, by decide, lg27 2 (by decide), fun d3 H3 a30 a31 hp3 kp3 => ⟨_, _, rfl, rfl, .inl ⟨by decide, by decide⟩, _, _, rfl, rfl, ?_⟩⟩
    have t3 := Tabs.kp t2 kp3 hp2
    have tl3 := tl2.kp kp3 hp2 plr
    refine ⟨_, rfl, rp, cp, 2, rfl, hp3, by decide, lg27 2 (by decide), fun wy H4 a40 a41 hp4 kp4 => ?_⟩
    have t4 := Tabs.kp t3 kp4 hp3
    have tl4 := tl3.kp kp4 hp3 plr
    refine ⟨_, rfl, rp, cp, 7, rfl, hp4, by decide, lg27 7 (by decide), fun d5 H5 a50 a51 hp5 kp5 => ⟨_, _, rfl, rfl, .inl ⟨_, rfl, _, _, rfl, rfl, (show (7 : Int) ≠ 0 by decide), ?_⟩⟩⟩
    have t5 := Tabs.kp t4 kp5 hp4
    have tl5 := tl4.kp kp5 hp4 plr
    have f7 : (d5 + 2).fmod 7 = (((d5 + 2) % 7).toNat : Int) := by rw [Int.fmod_eq_emod_of_nonneg _ (by decide)]; omega
    dsimp only
    rw [f7]
    have c6 : ((d5 + 2) % 7).toNat ≤ 6 := by omega
    generalize ((d5 + 2) % 7).toNat = c at c6
    have he : 1 - 2 * d3 = 1 ∨ 1 - 2 * d3 = -1 := by omega
    generalize 1 - 2 * d3 = e at he
    clear f7 a50 a51 kp5 tl4 t4 hp4 a40 a41 kp4 tl3 t3 hp3 a30 a31 kp3 kp2 tl2 t2 hp2 t1 hp1
    refine ⟨_, rfl, _, rfl, pl, e, ps, rfl, tl5, pnl.pn, pnl.wt, by have := pnl.len; omega, he, fun r rh rl hf lf H6 e6 hr6 ih il qp => ⟨r, _, rfl, SqT.of hr6, rfl, _, _, rfl, _, _, rfl, rfl, ?_⟩⟩
    refine ⟨_, rfl, _, rfl, _, rfl, rh, rl, c, _, hf, lf, _, _, rfl, ih, il, qp, by omega, by have := pnl.len; omega, by omega, fun nl qs s H7 e7 tln lq ec td gl => ?_⟩
    have lo : ∀ q ∈ qs, Low q ∧ Bi q.2 := fun q hq => by
      obtain ⟨j, hj⟩ := List.getElem?_of_mem hq
      have hj2 := (List.getElem?_eq_some_iff.mp hj).1
      obtain ⟨z1, _, _, z4⟩ := td.t j q hj
      exact ⟨z1, bik z4 (by omega)⟩
    refine ⟨_, rfl, _, rfl, nl, qs, wy, rfl, tln, lo, by omega, fun pa H8 e8 npa lnp => ?_⟩
    have e58 := (e6.trans e7).trans e8
    have t8 := t5.ext e58
    have tl8 := tl5.ext e58
    have hp8 := hp5.ext e58
    have tln8 := tln.ext e8
    obtain ⟨xs, x1, x2, x3⟩ := id tl8
    refine ⟨_, rfl, _, rfl, (c : Int), rfl, pl, xs, rfl, SqL.of x1, fun ah nah => ?_⟩
    rw [cut_take]
    have ea := ext1 (o := .lst (xs.take c)) nah
    have tla : TL (upd H8 ah (.lst (xs.take c))) ah (ps.take c) := (tl8.ext ea).take (ea _ _ x1) upd_same
    have t9 := t8.ext ea
    have tl9 := tl8.ext ea
    have hp9 := hp8.ext ea
    have tln9 := tln8.ext ea
    have lnp9 := lnp.ext ea
    have x19 := ea _ _ x1
    have ahr : ah ≠ rp := by
      rintro rfl
      obtain ⟨cs, i, cur, m, e9, _⟩ := hp8
      rw [e9] at nah
      cases nah
    have par : pa ≠ rp := by
      rintro rfl
      obtain ⟨cs, i, cur, m, e9, _⟩ := (hp5.ext e6).ext e7
      rw [e9] at npa
      cases npa
    revert tla t9 tl9 hp9 tln9 lnp9 x19
    generalize upd H8 ah (.lst (xs.take c)) = H9
    intro tla t9 tl9 hp9 tln9 lnp9 x19
    clear ea nah x1 tln8 hp8 tl8 t8 e58 lnp npa e8 tln e7 ih il e6 hr6 t5 tl5 hp5
    refine ⟨_, rfl, _, rfl, pl, xs, rfl, .inl (SqL.of x19), _, _, rfl, rfl, ?_⟩
    refine ⟨by show 2 ≤ sizeLine; decide, fun r0 nr0 => ?_⟩
    have er := ext1 (o := .tup [.int 1, .int 1]) nr0
    have hr0 : TupAt (upd H9 r0 (.tup [.int 1, .int 1])) r0 (1, 1) := upd_same
    have tla := tla.ext er
    have t9 := t9.ext er
    have tl9 := tl9.ext er
    have hp9 := hp9.ext er
    have tln9 := tln9.ext er
    have lnp9 := lnp9.ext er
    revert tla t9 tl9 hp9 tln9 lnp9 hr0
    generalize upd H9 r0 (.tup [.int 1, .int 1]) = Ha
    intro hr0 tla t9 tl9 hp9 tln9 lnp9
    obtain ⟨ys, y1, y2, y3⟩ := id tla
    have pnt : ∀ p ∈ ps.take c, Pn p := fun p hp => pnl.pn p (List.mem_of_mem_take hp)
    have yl : ys.length = (ps.take c).length := y2
    refine ⟨_, rfl, ah, rfl, ⟨_, SqL.of y1⟩, for_list (K := K) (a := ah) (xs := ys) (fun i σ H2 => Ext Ha H2 ∧ ∃ (rr : Addr) (pr : Int × Int) (v13 v14 : Option V), σ = [some (.ref a), some (.ref rp), some (.ref pl), some (.int e), some (.int wy), some (.int c), some (.ref rh), some (.ref rl), some (.ref nl), some (.ref pa), some (.ref ah), some (.bl (decide ((xs.length : Int) < (c : Int)))), some (.ref rr), v13, v14, none, none, none, none] ∧
        TupAt H2 rr pr ∧ Low pr ∧ val pr = rch (((ps.take c).take i).map val) ∧ pr.1.natAbs ≤ wt ((ps.take c).take i) * wt ((ps.take c).take i) ∧ pr.2.natAbs ≤ wt ((ps.take c).take i) * wt ((ps.take c).take i))
      ⟨Ext.rfl', r0, (1, 1), none, none, rfl, hr0, lowInt 1, by rw [val_int]; rfl, by show 1 ≤ 1 * 1; decide, by show 1 ≤ 1 * 1; decide⟩ (fun i σ H2 _ ⟨e2, _⟩ => SqL.of (e2 _ _ y1)) ?_ ?_⟩
    · rintro i y σ H2 hi ⟨e2, rr, pr, v13, v14, rfl, hr2, lpr, vpr, pr1, pr2⟩
      have hil : i < (ps.take c).length := by
        have := (List.getElem?_eq_some_iff.mp hi).1
        omega
      have hp2 : (ps.take c)[i]? = some ((ps.take c)[i]'hil) := List.getElem?_eq_getElem hil
      obtain ⟨b, rfl, hb⟩ := y3 i y _ hi hp2
      have pc := pnt _ (List.getElem_mem hil)
      have tk : (ps.take c).take (i + 1) = (ps.take c).take i ++ [(ps.take c)[i]'hil] := (List.take_append_getElem hil).symm
      have w26 : wt ((ps.take c).take i) ≤ 2 ^ 26 := Nat.le_trans (wt_take pnt i) (Nat.le_trans (wt_take pnl.pn c) pnl.wt)
      generalize (ps.take c)[i]'hil = cc at hb pc tk
      have hb2 := e2 _ _ hb
      have bc2 := pc.okf.b2
      have bc1 := pc.okf.b1
      refine ⟨b, _, rfl, SqT.of hb2, rfl, _, _, rfl, _, _, rfl, rfl, ?_⟩
      have sm := pc.sm
      have e26 : (2 : Int) ^ 26 = ((2 ^ 26 : Nat) : Int) := by norm_cast
      rw [e26] at sm
      have c2p := pc.low.pos
      have clo := pc.lo
      have chi := pc.hi
      refine ⟨_, rfl, _, rfl, _, rfl, _, _, rfl, rfl, bc2.cm bc2, _, rfl, _, rfl, _, _, rfl, rfl, bc1.cm bc1, _, _, rfl, rfl, ?_⟩
      obtain ⟨q1, q2, q3⟩ := pan_sq pc
      refine ⟨_, rfl, _, rfl, _, _, rfl, rfl, bc2.cm bc2, by show 2 ≤ sizeLine; decide, fun ta nta => ?_⟩
      have et := ext1 (o := .tup [.int (cc.2 * cc.2 - cc.1 * cc.1), .int (cc.2 * cc.2)]) nta
      have ww : wt ((ps.take c).take i) * wt ((ps.take c).take i) ≤ 2 ^ 52 := Nat.le_trans (Nat.mul_le_mul w26 w26) (by rw [← Nat.pow_add]; exact Nat.le_refl _)
      obtain ⟨s1, s2, s3, s4⟩ := reach_step pc lpr
      refine ⟨rr, pr, ta, (cc.2 * cc.2 - cc.1 * cc.1, cc.2 * cc.2), rfl, et _ _ hr2, upd_same, ⟨bdk (Nat.le_trans pr1 ww) (by decide), bdk (Nat.le_trans pr2 ww) (by decide), KM.Low.ne lpr⟩, ⟨bdk (Nat.le_trans q1 q2) (by decide), bdk q2 (by decide), q3⟩, fun rn H3 e3 hn => ?_⟩
      refine ⟨(e2.trans et).trans e3, rn, _, _, _, rfl, hn, s1, ?_, ?_, ?_⟩
      · rw [s2, vpr, tk, List.map_append, rch_app]
        show _ = _ * ((1 - _ * _) * 1)
        grind
      · rw [tk, wt_snoc]
        exact Nat.le_trans s3 (sq_le_wt cc _ _ pr1)
      · rw [tk, wt_snoc]
        exact Nat.le_trans s4 (sq_le_wt cc _ _ pr2)
    rintro σ Hb ⟨e2, rr, pr, v13, v14, rfl, hrr, lpr, vpr, pr1, pr2⟩
    have tt : (ps.take c).take ys.length = ps.take c := by rw [yl, List.take_length]
    rw [tt] at vpr pr1 pr2
    have tla := tla.ext e2
    have t9 := t9.ext e2
    have tl9 := tl9.ext e2
    have hp9 := hp9.ext e2
    have tln9 := tln9.ext e2
    have lnp9 := lnp9.ext e2
    have y1 := e2 _ _ y1
    have w26 : wt (ps.take c) ≤ 2 ^ 26 := Nat.le_trans (wt_take pnl.pn c) pnl.wt
    have ww : wt (ps.take c) * wt (ps.take c) ≤ 2 ^ 60 := Nat.le_trans (Nat.mul_le_mul w26 w26) (by rw [← Nat.pow_add]; exact pw_le (by decide))
    have pr1 := Nat.le_trans pr1 ww
    have pr2 := Nat.le_trans pr2 ww
    have opr : Prt pr := ⟨bdk pr1 (by decide), bdk pr2 (by decide), KM.Low.ne lpr⟩
    have p5 := pnl.len
    have ag0 : ∀ j, j < qs.length → sq qs j = s j := fun j hj => by
      have hq : qs[j]? = some (qs[j]'hj) := List.getElem?_eq_getElem hj
      unfold sq
      rw [hq]
      exact (td.t j _ hq).2.1
    have gl' : Fx.GL 156 384 qs := gl.mono (by omega) (by omega)
    refine ⟨fun σ H1 => ∃ (mm du : Addr) (pm d0 d1 : Int × Int), σ = [some (.ref a), some (.ref rp), some (.ref pl), some (.int e), some (.int wy), some (.int c), some (.ref rh), some (.ref rl), some (.ref nl), some (.ref pa), some (.ref ah), some (.bl (decide ((xs.length : Int) < (c : Int)))), some (.ref rr), v13, v14, some (.ref mm), some (.ref du), none, none] ∧
      Ext Hb H1 ∧ TupAt H1 mm pm ∧ TL H1 du [d0, d1] ∧ Way qs d0 d1 ∧ ((ps.length < c ∧ Sit qs ps s ∧ val pm = s qs.length ∧ d0 = pm ∧ d1 = pm) ∨
        (c ≤ ps.length ∧ ∃ s2, Sit qs (ps.take c) s2 ∧ (ps.take c).length = qs.length ∧ Ec ((ps.take c).map val ++ (0 :: [])) 1 s2 ∧ Low pm ∧ val pm = s2 qs.length ∧ pm.1.natAbs ≤ 2 ^ 384 ∧ pm.2.natAbs ≤ 2 ^ 156 ∧ val d0 = s2 qs.length - rch ((ps.take c).map val) ∧ val d1 = s2 qs.length + rch ((ps.take c).map val))), ?_, ?_⟩
    · refine ⟨_, rfl, _, rfl, if_D (fun hlt => ?_) (fun hge => ?_)⟩
      · have hlt : ps.length < c := by omega
        refine ⟨_, rfl, _, rfl, _, rfl, pl, e, ps, c, rfl, tl9, pnl.pn, pnl.wt, by omega, he, by omega, fun mm pm s' Hc ec1 hm ec' lpm vpm b1 b2 => ?_⟩
        refine ⟨_, rfl, _, rfl, by show 2 ≤ sizeLine; decide, fun du ndu => ?_⟩
        have ed := ext1 (o := .lst [V.ref mm, V.ref mm]) ndu
        have vm : val pm = s qs.length := by rw [vpm, lq]; exact ec_uniq ec' ec c
        have S1 : Sit qs ps s := ⟨fun q hq => (lo q hq).1, gl', pnl.pn, by omega, by omega, by omega, ag0⟩
        exact ⟨mm, du, pm, pm, pm, rfl, ec1.trans ed, ed _ _ hm, tl2 upd_same (ed _ _ hm) (ed _ _ hm), way_end S1 ec he (by omega) lpm vm (Nat.le_trans b1 (pw_le (by omega))) (Nat.le_trans b2 (pw_le (by omega))), .inl ⟨hlt, S1, vm, rfl, rfl⟩⟩
      · have hge : c ≤ ps.length := by omega
        have ltk : (ps.take c).length = c := by rw [List.length_take, Nat.min_eq_left hge]
        refine ⟨_, rfl, by show 2 ≤ sizeLine; decide, fun tz ntz => ⟨by show 1 ≤ sizeLine; decide, fun q2 nq2 => ?_⟩⟩
        have g1 := ext1 (o := .tup [.int 0, .int 1]) ntz
        have g2 := ext1 (o := .lst [V.ref tz]) nq2
        refine ⟨ah, q2, ys, _, rfl, rfl, g2 _ _ (g1 _ _ y1), upd_same, by rw [sizeLine_eq, y2]; show (ps.take c).length + 1 ≤ _; omega, fun dn ndn => ?_⟩
        have g3 := ext1 (o := .lst (ys ++ [V.ref tz])) ndn
        have gg := (g1.trans g2).trans g3
        have tln : TL (upd (upd (upd Hb tz (.tup [.int 0, .int 1])) q2 (.lst [V.ref tz])) dn (.lst (ys ++ [V.ref tz]))) dn (ps.take c ++ [(0, 1)]) := (tla.ext gg).app (gg _ _ y1) (g3 _ _ (g2 _ _ upd_same)) upd_same
        have hrr2 := gg _ _ hrr
        revert gg tln hrr2
        generalize upd (upd (upd Hb tz (.tup [.int 0, .int 1])) q2 (.lst [V.ref tz])) dn (.lst (ys ++ [V.ref tz])) = Hc
        intro gg tln hrr2
        refine ⟨_, rfl, dn, 1, ps.take c ++ [(0, 1)], c, rfl, tln, fun p hp => ?_, by rw [wt_snoc]; show wt _ * 1 ≤ _; omega, by rw [len1, ltk]; omega, .inl rfl, by omega, fun mm pm s2 Hd ed hm ec2 lpm vpm b1 b2 => ?_⟩
        · rcases List.mem_append.mp hp with z | z
          · exact pnt p z
          · rw [List.mem_singleton.mp z]; exact pn01
        have mp : (ps.take c ++ [((0 : Int), (1 : Int))]).map val = (ps.take c).map val ++ (0 :: []) := by
          rw [List.map_append]
          show _ ++ [val (0, 1)] = _
          rw [val01]
        have i1 : ((1 : Int) : Rat) = 1 := rfl
        rw [mp, i1] at ec2
        have hrr3 := ed _ _ hrr2
        have b1 : pm.1.natAbs ≤ 2 ^ 384 := Nat.le_trans b1 (pw_le (by omega))
        have b2 : pm.2.natAbs ≤ 2 ^ 156 := Nat.le_trans b2 (pw_le (by omega))
        have opm : Prt pm := ⟨bdk b1 (by decide), bdk b2 (by decide), KM.Low.ne lpm⟩
        have lnr := low_neg lpr
        have npr1 : (-pr.1).natAbs ≤ 2 ^ 60 := by rw [Int.natAbs_neg]; exact pr1
        refine ⟨_, rfl, _, rfl, _, _, _, _, rfl, rfl, SqT.of hrr3, rfl, _, rfl, _, rfl, _, _, _, _, rfl, rfl, SqT.of hrr3, rfl, by show 2 ≤ sizeLine; decide, fun ta nta => ?_⟩
        have h1 := ext1 (o := .tup [.int (-pr.1), .int pr.2]) nta
        refine ⟨mm, pm, ta, (-pr.1, pr.2), rfl, h1 _ _ hm, upd_same, opm, ⟨bdk npr1 (by decide), bdk pr2 (by decide), KM.Low.ne lnr⟩, fun a0 He ee ha0 => ?_⟩
        refine ⟨_, rfl, _, rfl, mm, pm, rr, pr, rfl, ee _ _ (h1 _ _ hm), ee _ _ (h1 _ _ hrr3), opm, opr, fun a1 Hf ef ha1 => ⟨by show 2 ≤ sizeLine; decide, fun du ndu => ?_⟩⟩
        have eu := ext1 (o := .lst [V.ref a0, V.ref a1]) ndu
        have eall := ((((gg.trans ed).trans h1).trans ee).trans ef).trans eu
        have l0 := low_fadd lpm lnr
        have l1 := low_fadd lpm lpr
        have v0 : val (fadd pm (-pr.1, pr.2)) = val pm - val pr := by rw [val_add lpm lnr, val_negp]; grind
        have v1 : val (fadd pm pr) = val pm + val pr := val_add lpm lpr
        obtain ⟨s02, s01⟩ := parts_sub l0 lpm lpr (.inl v0) b1 b2 pr1 pr2
        obtain ⟨s12, s11⟩ := parts_sub l1 lpm lpr (.inr v1) b1 b2 pr1 pr2
        have B0 : (fadd pm (-pr.1, pr.2)).1.natAbs ≤ 2 ^ 450 ∧ (fadd pm (-pr.1, pr.2)).2.natAbs ≤ 2 ^ 216 := ⟨Nat.le_trans s01 (pw_sum (by decide) (by decide)), Nat.le_trans s02 (pw_le (by decide))⟩
        have B1 : (fadd pm pr).1.natAbs ≤ 2 ^ 450 ∧ (fadd pm pr).2.natAbs ≤ 2 ^ 216 := ⟨Nat.le_trans s11 (pw_sum (by decide) (by decide)), Nat.le_trans s12 (pw_le (by decide))⟩
        have ecs : Ec ((ps.take c).map val ++ (ps.drop c).map val) (e : Rat) s := by rw [← List.map_append, List.take_append_drop]; exact ec
        have agr := ec_agree ecs ec2
        rw [List.length_map, ltk] at agr
        have S2 : Sit qs (ps.take c) s2 := ⟨fun q hq => (lo q hq).1, gl', pnt, by omega, by omega, by omega, fun j hj => by rw [ag0 j hj, agr j (by omega)]⟩
        have vm : val pm = s2 qs.length := by rw [vpm, lq]
        have leq : (ps.take c).length = qs.length := by omega
        have v0' : val (fadd pm (-pr.1, pr.2)) = s2 qs.length - rch ((ps.take c).map val) := by rw [v0, vm, vpr]
        have v1' : val (fadd pm pr) = s2 qs.length + rch ((ps.take c).map val) := by rw [v1, vm, vpr]
        exact ⟨mm, du, pm, _, _, rfl, eall, eu _ _ (ef _ _ (ee _ _ (h1 _ _ hm))), tl2 upd_same (eu _ _ (ef _ _ ha0)) (eu _ _ ha1), way_open S2 ec2 leq l0 l1 B0 B1 v0' v1', .inr ⟨hge, s2, S2, leq, ec2, lpm, vm, b1, b2, v0', v1'⟩⟩
    rintro σ Hd ⟨mm, du, pm, d0, d1, rfl, ed, hm, hdu, W, hcase⟩
    have tla := tla.ext ed
    have t9 := t9.ext ed
    have tl9 := tl9.ext ed
    have hp9 := hp9.ext ed
    have tln9 := tln9.ext ed
    have lnp9 := lnp9.ext ed
    have hrr := ed _ _ hrr
    have q6 : qs.length ≤ 6 := by omega
    obtain ⟨cs, v, I, O, vU, vV⟩ := W.ns
    have lq' := W.lq
    refine ⟨_, rfl, pa, qs, rfl, lnp9.nums lq', by omega, .inr ⟨by omega, cs, I, .inl ⟨v, O, fun td He ee ht => ?_⟩⟩⟩
    rw [vU, vV] at ht
    have lod : ∀ q ∈ [d0, d1], Low q ∧ Bi q.2 := fun q hq => by
      rcases List.mem_cons.mp hq with z | z
      · rw [z]; exact ⟨W.l0, bik W.b0.2 (by decide)⟩
      · rw [List.mem_singleton.mp z]; exact ⟨W.l1, bik W.b1.2 (by decide)⟩
    refine ⟨_, rfl, _, rfl, td, du, [d0, d1], rfl, ht.pt W.l0 W.l1 rfl rfl, hdu.ext ee, lod, by show 2 ≤ 60; decide, fun Hf ef => ⟨_, rfl, iteF ?_⟩⟩
    refine ⟨_, rfl, _, rfl, pa, nl, qs, rfl, (lnp9.ext ee).ext ef, (tln9.ext ee).ext ef, lo, by omega, fun Hg eg => ⟨_, rfl, iteF ?_⟩⟩
    have e1g := (ee.trans ef).trans eg
    have ht := (ht.ext ef).ext eg
    obtain ⟨zs, z1, z2⟩ := id (lnp9.ext e1g)
    refine ⟨_, rfl, pa, zs, rfl, .inl ⟨SqL.of z1, fun tt2 ntt2 => ?_⟩⟩
    have et := ext1 (o := .tup zs) ntt2
    have ns2 : Fx.ns A (upd Hg tt2 (.tup zs)) tt2 qs := ⟨zs, .inr upd_same, z2.ext et, lq'⟩
    refine ⟨tt2, qs, rfl, ns2.nums, by omega, .inr ⟨by omega, cs, I, .inl ⟨v, O, fun td2 Hh eh ht2 => ?_⟩⟩⟩
    rw [vU, vV] at ht2
    refine ⟨_, rfl, td2, du, [d0, d1], rfl, ht2.pt W.l0 W.l1 rfl rfl, ((hdu.ext e1g).ext et).ext eh, lod, by show 2 ≤ 60; decide, fun Hi ei => ⟨_, rfl, iteF ?_⟩⟩
    have eall := ((e1g.trans et).trans eh).trans ei
    have ht := ((ht.ext et).ext eh).ext ei
    have tla := tla.ext eall
    have t9 := t9.ext eall
    have tl9 := tl9.ext eall
    have hp9 := hp9.ext eall
    have tln9 := tln9.ext eall
    have lnp9 := lnp9.ext eall
    have hrr : TupAt Hi rr pr := eall _ _ hrr
    have hm : TupAt Hi mm pm := eall _ _ hm
    have hdu := hdu.ext eall
    clear ns2 z1 z2 et eh ei ef eg ee e1g ht2 eall
    refine ⟨fun σ H1 => σ = [some (.ref a), some (.ref rp), some (.ref pl), some (.int e), some (.int wy), some (.int c), some (.ref rh), some (.ref rl), some (.ref nl), some (.ref pa), some (.ref ah), some (.bl (decide ((xs.length : Int) < (c : Int)))), some (.ref rr), v13, v14, some (.ref mm), some (.ref du), some (.ref td), none] ∧
      Tabs T H1 ∧ PoolAt H1 rp cp ∧ LN A H1 pa qs ∧ TL H1 du [d0, d1] ∧ TL H1 nl qs, ?_, ?_⟩
    · refine ⟨_, rfl, _, rfl, if_D (fun hlt => ?_) (fun hge => ?_)⟩
      · have hlt : ps.length < c := by omega
        rcases hcase with ⟨_, S1, vm, rfl, rfl⟩ | ⟨hge, _⟩
        · obtain ⟨zs, z1, z2⟩ := id lnp9
          obtain ⟨fa, fb, pa', pb', k1, k2, k3, k4, k5, k6, k7⟩ := id ht
          have epa : pa' = d1 := val_inj k4 W.l0 k6
          subst epa
          refine ⟨_, rfl, _, rfl, _, _, _, _, rfl, rfl, SqT.of k1, rfl, by show 1 ≤ sizeLine; decide, fun q1 nq1 => ?_⟩
          have f1 := ext1 (o := .lst [.ref fa]) nq1
          refine ⟨pa, q1, zs, _, rfl, rfl, f1 _ _ z1, upd_same, by rw [sizeLine_eq, z2.1]; show qs.length + 1 ≤ _; omega, fun r2 nr2 => ?_⟩
          have f2 := ext1 (o := .lst (zs ++ [.ref fa])) nr2
          have ff := f1.trans f2
          have na : Fx.ns A (upd (upd Hi q1 (.lst [.ref fa])) r2 (.lst (zs ++ [.ref fa]))) r2 (qs ++ [pa']) := ns_app upd_same (z2.ext ff) (.inl ⟨fa, rfl, k2.ext ff⟩) lq' k4
          obtain ⟨I1, O1, _, _⟩ := S1.fin ec he k4 (Nat.le_trans W.b0.1 (pw_le (by decide))) (Nat.le_trans W.b0.2 (pw_le (by decide))) vm
          refine ⟨_, rfl, _, rfl, r2, pl, _, ps, _, rfl, t9.ext ff, na, tl9.ext ff, by rw [len1]; omega, by rw [len1]; omega, I1, O1, fun Hj ej tj => ⟨_, rfl, iteF ?_⟩⟩
          have en := (ExtN.of ff).trans ej
          exact ⟨rfl, tj, hp9.n en, lnp9.n en, hdu.n en, tln9.n en⟩
        · exact absurd hlt (by omega)
      · have hge : c ≤ ps.length := by omega
        rcases hcase with ⟨hlt, _⟩ | ⟨_, s2, S2, leq, ec2, lpm, vm, b1, b2, v0, v1⟩
        · exact absurd hlt (by omega)
        · rw [v0, v1] at ht
          refine ⟨_, rfl, _, rfl, _, rfl, _, rfl, _, rfl, _, rfl, _, rfl, rp, cp, pa, ah, td, mm, rr, wy, qs, ps.take c, s2, pm, pr, rfl, ⟨t9, hp9, lnp9, tla, ht, hm, hrr, Kx.of Ext.rfl'⟩, par, ahr, S2, w26, by omega, leq, ec2, lpm, vm, b1, b2, lpr, vpr, pr1, pr2, fun Hj tj pj kj => ⟨_, rfl, iteF ?_⟩⟩
          exact ⟨rfl, tj, pj, lnp9.x kj hp9 par, hdu.x kj hp9 (hdu.ne hp9), tln9.x kj hp9 (tln9.ne hp9)⟩
    rintro σ Hj ⟨rfl, tj, hpj, lnj, duj, tlj⟩
    -- how far
    refine ⟨by show 2 ≤ sizeLine; decide, fun ta nta => ⟨by show 2 ≤ sizeLine; decide, fun tb ntb => ⟨by show 2 ≤ sizeLine; decide, fun tc ntc => ⟨by show 3 ≤ sizeLine; decide, fun fl nfl => ?_⟩⟩⟩⟩
    have g1 := ext1 (o := .tup [.int 1, .int 1]) nta
    have g2 := ext1 (o := .tup [.int 1, .int 7]) ntb
    have g3 := ext1 (o := .tup [.int 1, .int 1000003]) ntc
    have g4 := ext1 (o := .lst [V.ref ta, V.ref tb, V.ref tc]) nfl
    have gg := ((g1.trans g2).trans g3).trans g4
    have k1 : TupAt (upd (upd (upd (upd Hj ta (.tup [.int 1, .int 1])) tb (.tup [.int 1, .int 7])) tc (.tup [.int 1, .int 1000003])) fl (.lst [V.ref ta, V.ref tb, V.ref tc])) ta (1, 1) := g4 _ _ (g3 _ _ (g2 _ _ upd_same))
    have k2 : TupAt (upd (upd (upd (upd Hj ta (.tup [.int 1, .int 1])) tb (.tup [.int 1, .int 7])) tc (.tup [.int 1, .int 1000003])) fl (.lst [V.ref ta, V.ref tb, V.ref tc])) tb (1, 7) := g4 _ _ (g3 _ _ upd_same)
    have k3 : TupAt (upd (upd (upd (upd Hj ta (.tup [.int 1, .int 1])) tb (.tup [.int 1, .int 7])) tc (.tup [.int 1, .int 1000003])) fl (.lst [V.ref ta, V.ref tb, V.ref tc])) tc (1, 1000003) := g4 _ _ upd_same
    have k4 : (upd (upd (upd (upd Hj ta (.tup [.int 1, .int 1])) tb (.tup [.int 1, .int 7])) tc (.tup [.int 1, .int 1000003])) fl (.lst [V.ref ta, V.ref tb, V.ref tc])) fl = some (.lst [V.ref ta, V.ref tb, V.ref tc]) := upd_same
    have flr : fl ≠ rp := by
      rintro rfl
      obtain ⟨cs, i, cur, m, e9, _⟩ := hpj
      rw [(g1.trans g2).trans g3 _ _ e9] at nfl
      cases nfl
    have tk := tj.ext gg
    have pk := hpj.ext gg
    have lk := lnj.ext gg
    have dk := duj.ext gg
    have nk := tlj.ext gg
    revert k1 k2 k3 k4 tk pk lk dk nk
    generalize upd (upd (upd (upd Hj ta (.tup [.int 1, .int 1])) tb (.tup [.int 1, .int 7])) tc (.tup [.int 1, .int 1000003])) fl (.lst [V.ref ta, V.ref tb, V.ref tc]) = Hk
    intro k1 k2 k3 k4 tk pk lk dk nk
    refine ⟨_, rfl, rp, cp, 3, rfl, pk, by decide, lg27 3 (by decide), fun x HL x0 x3 pL kL => ?_⟩
    have fx : ∃ (fa : Addr) (f : Int × Int), atI [V.ref ta, V.ref tb, V.ref tc] x = some (.ref fa) ∧ TupAt HL fa f ∧ Far f := by
      have cx : x = 0 ∨ x = 1 ∨ x = 2 := by omega
      rcases cx with rfl | rfl | rfl
      · exact ⟨ta, _, rfl, k1.kp kL pk, far_of (.inl rfl)⟩
      · exact ⟨tb, _, rfl, k2.kp kL pk, far_of (.inr (.inl rfl))⟩
      · exact ⟨tc, _, rfl, k3.kp kL pk, far_of (.inr (.inr rfl))⟩
    obtain ⟨fa, f, fx1, hf, Ff⟩ := fx
    have tL := Tabs.kp tk kL pk
    have lL := lk.x (Kx.k kL) pk par
    have dL := dk.x (Kx.k kL) pk (dk.ne pk)
    have nL := nk.x (Kx.k kL) pk (nk.ne pk)
    refine ⟨_, _, _, _, rfl, rfl, SqL.of (kL _ _ k4 flr), fx1, ?_⟩
    clear k1 k2 k3 k4 tk pk lk dk nk kL gg g1 g2 g3 g4 nfl ntc ntb nta tj hpj lnj duj tlj
    have d0p : Prt d0 := ⟨bdk W.b0.1 (by decide), bdk W.b0.2 (by decide), KM.Low.ne W.l0⟩
    have d1p : Prt d1 := ⟨bdk W.b1.1 (by decide), bdk W.b1.2 (by decide), KM.Low.ne W.l1⟩
    have fp : Prt f := ⟨bdk Ff.b1 (by decide), bdk Ff.b2 (by decide), KM.Low.ne Ff.low⟩
    have lnf := low_neg Ff.low
    have nfp : Prt (-f.1, f.2) := ⟨bdk (k := 1) (by show (-f.1).natAbs ≤ 2 ^ 1; rw [Int.natAbs_neg]; exact Ff.b1) (by decide), bdk Ff.b2 (by decide), KM.Low.ne lnf⟩
    obtain ⟨ly1, by1, c1, I1, O1, I1', O1'⟩ := way_up W Ff
    obtain ⟨ly0, by0, c0, I0, O0, I0', O0'⟩ := way_dn W Ff
    -- above
    obtain ⟨zs, a0, a1, a2, a3, a4⟩ := dL.get (K := K) (j := 1) (q := d1) rfl
    refine ⟨_, rfl, _, rfl, _, _, _, _, rfl, rfl, a1, a3, _, rfl, a0, d1, fa, f, rfl, a4, hf, d1p, fp, fun r1 HM eM h1 => ?_⟩
    refine ⟨_, rfl, pa, r1, wy, qs, _, c1, rfl, tL.ext eM, lL.ext eM, lq', h1, ly1, by1, by omega, I1, O1, I1', O1', fun HN eN tN => ⟨_, rfl, iteF ?_⟩⟩
    have en := (ExtN.of eM).trans eN
    have lN := lL.n en
    have dN := dL.n en
    have nN := nL.n en
    have hf := hf.n en
    clear en eN eM h1 a1 a2 a3 a4
    -- below
    obtain ⟨zs, a0, a1, a2, a3, a4⟩ := dN.get (K := K) (j := 0) (q := d0) rfl
    refine ⟨_, rfl, _, rfl, _, _, _, _, rfl, rfl, a1, a3, _, rfl, _, _, _, _, rfl, rfl, SqT.of hf, rfl, _, rfl, _, rfl, _, _, _, _, rfl, rfl, SqT.of hf, rfl, by show 2 ≤ sizeLine; decide, fun tn ntn => ?_⟩
    have e1 := ext1 (o := .tup [.int (-f.1), .int f.2]) ntn
    refine ⟨a0, d0, tn, (-f.1, f.2), rfl, e1 _ _ a4, upd_same, d0p, nfp, fun r0' HO_ eO h0 => ?_⟩
    have eo := e1.trans eO
    refine ⟨_, rfl, _, _, rfl, rfl, pa, r0', 1 - wy, qs, _, c0, rfl, tN.ext eo, lN.ext eo, lq', h0, ly0, by0, by omega, I0, O0, I0', O0', fun HP_ eP tP => ⟨_, rfl, iteF ?_⟩⟩
    have en := (ExtN.of eo).trans eP
    have lP := lN.n en
    have nP := nN.n en
    -- what was passed stands
    refine ⟨_, rfl, _, rfl, pa, nl, qs, rfl, lP, nP, lo, by omega, fun HR eR => ⟨_, rfl, iteF ?_⟩⟩
    have tR := tP.ext eR
    -- nothing passed
    refine ⟨by show 0 ≤ sizeLine; decide, fun el nel => ?_⟩
    have ne : Fx.ns A (upd HR el (.lst [])) el [] := ⟨[], .inl upd_same, ⟨rfl, fun i y q hy => by simp at hy⟩, fun q hq => by simp at hq⟩
    have eE := ext1 (o := .lst ([] : List V)) nel
    have s0 : sq [] 0 = 0 := rfl
    have dl0 : dl 0 = 1 := rfl
    refine ⟨el, [], rfl, ne.nums, by decide, .inr ⟨by decide, [], ⟨gl_of2 (fun q hq => by simp at hq), fun p hp => by simp at hp, by decide, by decide, trivial⟩, .inl ⟨.non, .inl ⟨rfl, rfl⟩, fun rt HS eS ht => ?_⟩⟩⟩
    have u1 : stU (sq []) ([] : List (Int × Int)).length [] .non = val (-1, 1) := by
      show -dl 0 - sq [] 0 = _
      rw [s0, dl0, val_int]
      show -(1 : Rat) - 0 = ((-1 : Int) : Rat)
      push_cast
      grind
    have u2 : stV (sq []) ([] : List (Int × Int)).length [] .non = val (1, 1) := by
      show dl 0 - sq [] 0 = _
      rw [s0, dl0, val_int]
      show (1 : Rat) - 0 = ((1 : Int) : Rat)
      push_cast
      grind
    rw [u1, u2] at ht
    refine ⟨_, rfl, by show 2 ≤ sizeLine; decide, fun ta nta => ⟨by show 2 ≤ sizeLine; decide, fun tb ntb => ⟨by show 2 ≤ sizeLine; decide, fun tl2' ntl => ?_⟩⟩⟩
    have g1 := ext1 (o := .tup [.int (-1), .int 1]) nta
    have g2 := ext1 (o := .tup [.int 1, .int 1]) ntb
    have g3 := ext1 (o := .lst [V.ref ta, V.ref tb]) ntl
    have gg := (g1.trans g2).trans g3
    refine ⟨rt, tl2', [(-1, 1), (1, 1)], rfl, (ht.ext gg).pt (lowInt (-1)) (lowInt 1) rfl rfl, tl2 upd_same (g3 _ _ (g2 _ _ upd_same)) (g3 _ _ upd_same), fun q hq => ?_, by show 2 ≤ 60; decide, fun HZ eZ => ⟨_, rfl, iteF ?_⟩⟩
    · rcases List.mem_cons.mp hq with z | z
      · rw [z]; exact ⟨lowInt (-1), Bi_one⟩
      · rw [List.mem_singleton.mp z]; exact ⟨lowInt 1, Bi_one⟩
    · exact ⟨_, rfl, e, rfl, he, (((tR.ext eE).ext eS).ext gg).ext eZ, fun H' e' t' => kk H'⟩
end
end Fx

set_option Elab.async false
set_option linter.all false
set_option maxRecDepth 100000
set_option maxHeartbeats 8000000
set_option exponentiation.threshold 20000
namespace Fx
open PySem PySem.Spec PyProof.Rows L2 FM KM LamX
theorem kit_to {K : PySem.W.Frag} {D C : Addr} {b : Bool} (i : PySem.W.isClsIn K C = true) (t : PySem.W.typeIn K (.ref C) = some (.type "type")) (s : PySem.W.subIn K (.ref D) (.ref C) = some b) (ss : PySem.W.subIn K (.ref D) (.ref D) = some true) : PySem.W.kitOne K (.ref D) (.ref C) = some b := by
  unfold PySem.W.kitOne PySem.W.kitCls
  by_cases e : (Value.ref D == Value.ref C) = true
  · rw [if_pos e]
    have e' : Value.ref D = Value.ref C := beq_iff_eq.mp e
    rw [← e', ss] at s
    exact s
  · rw [if_neg e]
    have e2 : (PySem.W.clsIn K C).isSome = true := i
    simp only [e2, t, beq_self_eq_true, Bool.and_self, if_true]
    exact s
theorem kit_tv {K : PySem.W.Frag} {D : Addr} (s : PySem.W.subIn K (.ref D) (.type "ValueError") = some true) : PySem.W.kitOne K (.ref D) (.type "ValueError") = some true := by
  have m : PySem.W.kitMeta "ValueError" = true := by decide +kernel
  unfold PySem.W.kitOne PySem.W.kitCls
  rw [if_neg (by intro z; cases beq_iff_eq.mp z)]
  simp only [m, if_true]
  exact s
theorem d_add : PySem.dunder Operator.Add.info.2 = ("__add__" : Str) := by decide +kernel
theorem dr_add : dunderR Operator.Add.info.2 = ("__radd__" : Str) := by decide +kernel
theorem d_sub : PySem.dunder Operator.Sub.info.2 = ("__sub__" : Str) := by decide +kernel
theorem dr_sub : dunderR Operator.Sub.info.2 = ("__rsub__" : Str) := by decide +kernel
theorem d_mul : PySem.dunder Operator.Mult.info.2 = ("__mul__" : Str) := by decide +kernel
theorem dr_mul : dunderR Operator.Mult.info.2 = ("__rmul__" : Str) := by decide +kernel
theorem d_flo : PySem.dunder Operator.FloorDiv.info.2 = ("__floordiv__" : Str) := by decide +kernel
theorem dr_flo : dunderR Operator.FloorDiv.info.2 = ("__rfloordiv__" : Str) := by decide +kernel
theorem d_mod : PySem.dunder Operator.Mod.info.2 = ("__mod__" : Str) := by decide +kernel
theorem dr_mod : dunderR Operator.Mod.info.2 = ("__rmod__" : Str) := by decide +kernel
theorem d_pow : PySem.dunder Operator.Pow.info.2 = ("__pow__" : Str) := by decide +kernel
theorem dr_pow : dunderR Operator.Pow.info.2 = ("__rpow__" : Str) := by decide +kernel
def Tt (P1 P2 P3 c1 c2 c3 : Addr) : List (Addr × Str) := [(P1, (envOfC "_law_peels" (defScope (top 42)) 0 0 (.ref c1)).qual ++ "<lambda>"), (P2, (envOfC "_law_barred" (defScope (top 43)) 0 0 (.ref c2)).qual ++ "<lambda>"), (P3, (envOfC "_law_long" (defScope (top 45)) 0 0 (.ref c3)).qual ++ "<lambda>")]
theorem lamF1 {mg : Str → Option Value} {base : Heap} {P1 P2 P3 c1 c2 c3 : Addr} (ne12 : P1 ≠ P2) (ne13 : P1 ≠ P3) (ne23 : P2 ≠ P3) (TB : LamX.TabB base mg c1 P1) : LamF base mg (Tt P1 P2 P3 c1 c2 c3) "_law_peels" (top 42) c1 := by
  refine ⟨⟨P1, TB, fun a f => List.Mem.head _, fun a f p hp e => ?_⟩⟩
  unfold Tt at hp
  rcases List.mem_cons.mp hp with z | hp
  · rw [z] at e ⊢
    rfl
  · rcases List.mem_cons.mp hp with z | hp
    · rw [z] at e ⊢
      exact absurd e (fun z => ne12 z.symm)
    · rw [List.mem_singleton.mp hp] at e ⊢
      exact absurd e (fun z => ne13 z.symm)
theorem lamF2 {mg : Str → Option Value} {base : Heap} {P1 P2 P3 c1 c2 c3 : Addr} (ne12 : P1 ≠ P2) (ne13 : P1 ≠ P3) (ne23 : P2 ≠ P3) (TB : LamX.TabB base mg c2 P2) : LamF base mg (Tt P1 P2 P3 c1 c2 c3) "_law_barred" (top 43) c2 := by
  refine ⟨⟨P2, TB, fun a f => List.Mem.tail _ (List.Mem.head _), fun a f p hp e => ?_⟩⟩
  unfold Tt at hp
  rcases List.mem_cons.mp hp with z | hp
  · rw [z] at e ⊢
    exact absurd e (ne12)
  · rcases List.mem_cons.mp hp with z | hp
    · rw [z] at e ⊢
      rfl
    · rw [List.mem_singleton.mp hp] at e ⊢
      exact absurd e (fun z => ne23 z.symm)
theorem lamF3 {mg : Str → Option Value} {base : Heap} {P1 P2 P3 c1 c2 c3 : Addr} (ne12 : P1 ≠ P2) (ne13 : P1 ≠ P3) (ne23 : P2 ≠ P3) (TB : LamX.TabB base mg c3 P3) : LamF base mg (Tt P1 P2 P3 c1 c2 c3) "_law_long" (top 45) c3 := by
  refine ⟨⟨P3, TB, fun a f => List.Mem.tail _ (List.Mem.tail _ (List.Mem.head _)), fun a f p hp e => ?_⟩⟩
  unfold Tt at hp
  rcases List.mem_cons.mp hp with z | hp
  · rw [z] at e ⊢
    exact absurd e (ne13)
  · rcases List.mem_cons.mp hp with z | hp
    · rw [z] at e ⊢
      exact absurd e (ne23)
    · rw [List.mem_singleton.mp hp] at e ⊢
      rfl
theorem all_core {l : PySem.W.OpenLaw} {w : World} {K : PySem.W.Frag} {h : Heap} {mg : Str → Option Value} {fa Nx : Addr} {A : Adr} (X : K.In h) (G : h.Ns mainGlobals mg) (hfa : mg "law" = some (.ref fa))
    {tkP tk0 tk1 : Tok} {nmC bsC nsC qC hdC snC sbC abC coC dlC} {oi_add oj_add : Option Value} {oi_sub oj_sub : Option Value} {oi_mul oj_mul : Option Value} {oi_flo oj_flo : Option Value} {oi_mod oj_mod : Option Value} {oi_pow oj_pow : Option Value} {tkQ : Tok} {nmB qBx NTB bsB bmB snB sbB abB coB ddB k0B k1B k2B k3B k5B} {fIB : Addr} {nmN qNx NTN bsN bmN snN sbN abN coN ddN k0N k1N k2N k3N k5N} {fIN : Addr} {odIB anIB : Option Addr} {slIB : Array (Option Value)} {ocIB kVIB dcIB pmIB cdIB ctIB : Value} {odIN anIN : Option Addr} {slIN : Array (Option Value)} {ocIN kVIN dcIN pmIN cdIN ctIN : Value} {Td : Addr} {ocTd : Value} {odTd : Option Addr} {nTd : Nat} {slTd : Array (Option Value)} {od_init an_init : Option Addr} {sl_init : Array (Option Value)} {oc_init kV_init dc_init pm_init cd_init ct_init : Value} {od_add an_add : Option Addr} {sl_add : Array (Option Value)} {oc_add kV_add dc_add pm_add cd_add ct_add : Value} {od_radd an_radd : Option Addr} {sl_radd : Array (Option Value)} {oc_radd kV_radd dc_radd pm_radd cd_radd ct_radd : Value} {od_sub an_sub : Option Addr} {sl_sub : Array (Option Value)} {oc_sub kV_sub dc_sub pm_sub cd_sub ct_sub : Value} {od_rsub an_rsub : Option Addr} {sl_rsub : Array (Option Value)} {oc_rsub kV_rsub dc_rsub pm_rsub cd_rsub ct_rsub : Value} {od_mul an_mul : Option Addr} {sl_mul : Array (Option Value)} {oc_mul kV_mul dc_mul pm_mul cd_mul ct_mul : Value} {od_rmul an_rmul : Option Addr} {sl_rmul : Array (Option Value)} {oc_rmul kV_rmul dc_rmul pm_rmul cd_rmul ct_rmul : Value} {od_flo an_flo : Option Addr} {sl_flo : Array (Option Value)} {oc_flo kV_flo dc_flo pm_flo cd_flo ct_flo : Value} {od_rflo an_rflo : Option Addr} {sl_rflo : Array (Option Value)} {oc_rflo kV_rflo dc_rflo pm_rflo cd_rflo ct_rflo : Value} {od_mod an_mod : Option Addr} {sl_mod : Array (Option Value)} {oc_mod kV_mod dc_mod pm_mod cd_mod ct_mod : Value} {od_rmod an_rmod : Option Addr} {sl_rmod : Array (Option Value)} {oc_rmod kV_rmod dc_rmod pm_rmod cd_rmod ct_rmod : Value} {od_pow an_pow : Option Addr} {sl_pow : Array (Option Value)} {oc_pow kV_pow dc_pow pm_pow cd_pow ct_pow : Value} {od_neg an_neg : Option Addr} {sl_neg : Array (Option Value)} {oc_neg kV_neg dc_neg pm_neg cd_neg ct_neg : Value} {od_abs an_abs : Option Addr} {sl_abs : Array (Option Value)} {oc_abs kV_abs dc_abs pm_abs cd_abs ct_abs : Value} {od_bool an_bool : Option Addr} {sl_bool : Array (Option Value)} {oc_bool kV_bool dc_bool pm_bool cd_bool ct_bool : Value} {od_eq an_eq : Option Addr} {sl_eq : Array (Option Value)} {oc_eq kV_eq dc_eq pm_eq cd_eq ct_eq : Value} {od_lt an_lt : Option Addr} {sl_lt : Array (Option Value)} {oc_lt kV_lt dc_lt pm_lt cd_lt ct_lt : Value} {od_le an_le : Option Addr} {sl_le : Array (Option Value)} {oc_le kV_le dc_le pm_le cd_le ct_le : Value} {od_gt an_gt : Option Addr} {sl_gt : Array (Option Value)} {oc_gt kV_gt dc_gt pm_gt cd_gt ct_gt : Value} {od_ge an_ge : Option Addr} {sl_ge : Array (Option Value)} {oc_ge kV_ge dc_ge pm_ge cd_ge ct_ge : Value} {od_str an_str : Option Addr} {sl_str : Array (Option Value)} {oc_str kV_str dc_str pm_str cd_str ct_str : Value} {od_over an_over : Option Addr} {sl_over : Array (Option Value)} {oc_over kV_over dc_over pm_over cd_over ct_over : Value} {rest_of_ : List Value} {od_of_ an_of_ : Option Addr} {sl_of_ : Array (Option Value)} {oc_of_ kV_of_ dc_of_ pm_of_ cd_of_ ct_of_ : Value} {od_isnum an_isnum : Option Addr} {sl_isnum : Array (Option Value)} {oc_isnum kV_isnum dc_isnum pm_isnum cd_isnum ct_isnum : Value} {od_wq an_wq : Option Addr} {sl_wq : Array (Option Value)} {oc_wq kV_wq dc_wq pm_wq cd_wq ct_wq : Value} {fCc : Addr} {odCc_ anCc_ : Option Addr} {slCc_ : Array (Option Value)} {ocCc_ kVCc_ dcCc_ pmCc_ cdCc_ ctCc_ : Value} {fFo : Addr} {odFo_ anFo_ : Option Addr} {slFo_ : Array (Option Value)} {ocFo_ kVFo_ dcFo_ pmFo_ cdFo_ ctFo_ : Value} {fIp : Addr} {odIp_ anIp_ : Option Addr} {slIp_ : Array (Option Value)} {ocIp_ kVIp_ dcIp_ pmIp_ cdIp_ ctIp_ : Value} {fPl : Addr} {odPl_ anPl_ : Option Addr} {slPl_ : Array (Option Value)} {ocPl_ kVPl_ dcPl_ pmPl_ cdPl_ ctPl_ : Value} {fNs : Addr} {odNs_ anNs_ : Option Addr} {slNs_ : Array (Option Value)} {ocNs_ kVNs_ dcNs_ pmNs_ cdNs_ ctNs_ : Value} {fPd : Addr} {odPd_ anPd_ : Option Addr} {slPd_ : Array (Option Value)} {ocPd_ kVPd_ dcPd_ pmPd_ cdPd_ ctPd_ : Value} {fEo : Addr} {odEo_ anEo_ : Option Addr} {slEo_ : Array (Option Value)} {ocEo_ kVEo_ dcEo_ pmEo_ cdEo_ ctEo_ : Value} {fPo : Addr} {odPo_ anPo_ : Option Addr} {slPo_ : Array (Option Value)} {ocPo_ kVPo_ dcPo_ pmPo_ cdPo_ ctPo_ : Value} {fDr : Addr} {odDr_ anDr_ : Option Addr} {slDr_ : Array (Option Value)} {ocDr_ kVDr_ dcDr_ pmDr_ cdDr_ ctDr_ : Value} {fGc : Addr} {odGc_ anGc_ : Option Addr} {slGc_ : Array (Option Value)} {ocGc_ kVGc_ dcGc_ pmGc_ cdGc_ ctGc_ : Value} {fLo : Addr} {odLo_ anLo_ : Option Addr} {slLo_ : Array (Option Value)} {ocLo_ kVLo_ dcLo_ pmLo_ cdLo_ ctLo_ : Value} {fAd : Addr} {odAd_ anAd_ : Option Addr} {slAd_ : Array (Option Value)} {ocAd_ kVAd_ dcAd_ pmAd_ cdAd_ ctAd_ : Value} {fMu : Addr} {odMu_ anMu_ : Option Addr} {slMu_ : Array (Option Value)} {ocMu_ kVMu_ dcMu_ pmMu_ cdMu_ ctMu_ : Value} {fWh : Addr} {odWh_ anWh_ : Option Addr} {slWh_ : Array (Option Value)} {ocWh_ kVWh_ dcWh_ pmWh_ cdWh_ ctWh_ : Value} {fPa : Addr} {odPa_ anPa_ : Option Addr} {slPa_ : Array (Option Value)} {ocPa_ kVPa_ dcPa_ pmPa_ cdPa_ ctPa_ : Value} {fRo : Addr} {odRo_ anRo_ : Option Addr} {slRo_ : Array (Option Value)} {ocRo_ kVRo_ dcRo_ pmRo_ cdRo_ ctRo_ : Value} {fNu : Addr} {odNu_ anNu_ : Option Addr} {slNu_ : Array (Option Value)} {ocNu_ kVNu_ dcNu_ pmNu_ cdNu_ ctNu_ : Value} {fSt : Addr} {odSt_ anSt_ : Option Addr} {slSt_ : Array (Option Value)} {ocSt_ kVSt_ dcSt_ pmSt_ cdSt_ ctSt_ : Value} {fNb : Addr} {odNb_ anNb_ : Option Addr} {slNb_ : Array (Option Value)} {ocNb_ kVNb_ dcNb_ pmNb_ cdNb_ ctNb_ : Value} {fQu : Addr} {odQu_ anQu_ : Option Addr} {slQu_ : Array (Option Value)} {ocQu_ kVQu_ dcQu_ pmQu_ cdQu_ ctQu_ : Value} {fSe : Addr} {odSe_ anSe_ : Option Addr} {slSe_ : Array (Option Value)} {ocSe_ kVSe_ dcSe_ pmSe_ cdSe_ ctSe_ : Value} {fDn : Addr} {odDn_ anDn_ : Option Addr} {slDn_ : Array (Option Value)} {ocDn_ kVDn_ dcDn_ pmDn_ cdDn_ ctDn_ : Value} {fEc : Addr} {odEc_ anEc_ : Option Addr} {slEc_ : Array (Option Value)} {ocEc_ kVEc_ dcEc_ pmEc_ cdEc_ ctEc_ : Value} {fRf : Addr} {odRf_ anRf_ : Option Addr} {slRf_ : Array (Option Value)} {ocRf_ kVRf_ dcRf_ pmRf_ cdRf_ ctRf_ : Value} {fOp : Addr} {odOp_ anOp_ : Option Addr} {slOp_ : Array (Option Value)} {ocOp_ kVOp_ dcOp_ pmOp_ cdOp_ ctOp_ : Value} {fLa : Addr} {odLa_ anLa_ : Option Addr} {slLa_ : Array (Option Value)} {ocLa_ kVLa_ dcLa_ pmLa_ cdLa_ ctLa_ : Value} {fPs c1 P1 : Addr} {odPs_ anPs_ : Option Addr} {slPs_ : Array (Option Value)} {ocPs_ kVPs_ dcPs_ pmPs_ ctPs_ : Value} {fBa c2 P2 : Addr} {odBa_ anBa_ : Option Addr} {slBa_ : Array (Option Value)} {ocBa_ kVBa_ dcBa_ pmBa_ ctBa_ : Value} {fLg c3 P3 : Addr} {odLg_ anLg_ : Option Addr} {slLg_ : Array (Option Value)} {ocLg_ kVLg_ dcLg_ pmLg_ ctLg_ : Value}
    (aC : PySem.W.nsIn K mainGlobals "Frac" = some (some (.ref A.C)))
    (aZ : PySem.W.nsIn K mainGlobals "DivisionByZero" = some (some (.ref A.Z)))
    (aB : PySem.W.nsIn K mainGlobals "BadCount" = some (some (.ref A.B)))
    (aW : PySem.W.nsIn K mainGlobals "WebError" = some (some (.ref A.W)))
    (agcd : PySem.W.nsIn K mainGlobals "gcd" = some (some (.builtin "math.gcd")))
    (amp : PySem.W.nsIn K mainGlobals "MOST_POWER" = some (some (.int 64 tkP)))
    (n_isinstance : PySem.W.nsIn K mainGlobals "isinstance" = some none)
    (n_int : PySem.W.nsIn K mainGlobals "int" = some none)
    (n_all : PySem.W.nsIn K mainGlobals "all" = some none)
    (n_abs : PySem.W.nsIn K mainGlobals "abs" = some none)
    (n_bool : PySem.W.nsIn K mainGlobals "bool" = some none)
    (n_len : PySem.W.nsIn K mainGlobals "len" = some none)
    (n_str : PySem.W.nsIn K mainGlobals "str" = some none)
    (n_range : PySem.W.nsIn K mainGlobals "range" = some none)
    (n_ValueError : PySem.W.nsIn K mainGlobals "ValueError" = some none)
    (pg : PySem.W.plainGet K A.C Str.empty = true)
    (hd : PySem.W.hasDictIn K A.C = true)
    (po : PySem.W.plainOver K A.C = true)
    (sa : PySem.W.findIn K (.ref A.C) "__setattr__" = some (some (.builtin "object.__setattr__")))
    (mk : PySem.W.makesIn K A.C = true)
    (kc : PySem.W.keepIn K (.ref A.C) = true)
    (nN : PySem.W.findIn K (.ref A.C) "num" = some none)
    (nD : PySem.W.findIn K (.ref A.C) "den" = some none)
    (ca : PySem.W.findIn K (.ref A.C) "__class__" = some (some (.builtin "object.__class__")))
    (cg : PySem.W.specialIn K (.builtin "object.__class__") "__get__" = some (some (.builtin "getset_descriptor.__get__")))
    (ct : PySem.W.takesIn K (.builtin "object.__class__") = some true)
    (cm : PySem.W.mroIn K A.C (.type "object") = some true)
    (isC : PySem.W.isClsIn K A.C = true)
    (tC : PySem.W.typeIn K (.ref A.C) = some (.type "type"))
    (su1 : PySem.W.subIn K (.ref A.C) (.type "int") = some false)
    (su2 : PySem.W.subIn K (.type "int") (.ref A.C) = some false)
    (sf : PySem.W.selfFirst K A.C = true)
    (lC : PySem.W.clsIn K A.C = some { name := nmC, bases := bsC, mro := [(.ref A.C), .type "object"], ns := nsC, qualname := qC, hasDict := hdC, slotNames := snC, subclasses := sbC, abstract := abC, collection := coC, hasDel := dlC })
    (ne : PySem.W.findIn K (.ref A.C) "__ne__" = some (some (.builtin "object.__ne__")))
    (rdC : PySem.W.readsIn K A.C (.type "type") = true)
    (gaC : PySem.W.specialIn K (.ref A.C) "__getattribute__" = some (some (.builtin "type.__getattribute__")))
    (iaC : PySem.W.findIn K (.ref A.C) "__iadd__" = some none)
    (iaO : PySem.W.findIn K (.type "object") "__iadd__" = some none)
    (iaI : PySem.W.findIn K (.type "int") "__iadd__" = some none)
    (rpw : PySem.W.findIn K (.ref A.C) "__rpow__" = some none)
    (i1add : PySem.W.findIn K (.type "int") "__add__" = some oi_add)
    (i2add : PySem.W.findIn K (.type "int") "__radd__" = some oj_add)
    (i1sub : PySem.W.findIn K (.type "int") "__sub__" = some oi_sub)
    (i2sub : PySem.W.findIn K (.type "int") "__rsub__" = some oj_sub)
    (i1mul : PySem.W.findIn K (.type "int") "__mul__" = some oi_mul)
    (i2mul : PySem.W.findIn K (.type "int") "__rmul__" = some oj_mul)
    (i1flo : PySem.W.findIn K (.type "int") "__floordiv__" = some oi_flo)
    (i2flo : PySem.W.findIn K (.type "int") "__rfloordiv__" = some oj_flo)
    (i1mod : PySem.W.findIn K (.type "int") "__mod__" = some oi_mod)
    (i2mod : PySem.W.findIn K (.type "int") "__rmod__" = some oj_mod)
    (i1pow : PySem.W.findIn K (.type "int") "__pow__" = some oi_pow)
    (i2pow : PySem.W.findIn K (.type "int") "__rpow__" = some oj_pow)
    (n_tuple : PySem.W.nsIn K mainGlobals "tuple" = some none)
    (n_list : PySem.W.nsIn K mainGlobals "list" = some none)
    (n_zip : PySem.W.nsIn K mainGlobals "zip" = some none)
    (aN : PySem.W.nsIn K mainGlobals "NoEcho" = some (some (.ref Nx)))
    (amn : PySem.W.nsIn K mainGlobals "MOST_NUMBERS" = some (some (.int 100 tkQ)))
    (xsZ : PySem.W.subIn K (.ref A.Z) (.type "BaseException") = some true)
    (xtZ : PySem.W.typeIn K (.ref A.Z) = some (.type "type"))
    (xeZ : PySem.W.keepIn K (.ref A.Z) = true)
    (xsB : PySem.W.subIn K (.ref A.B) (.type "BaseException") = some true)
    (xtB : PySem.W.typeIn K (.ref A.B) = some (.type "type"))
    (xeB : PySem.W.keepIn K (.ref A.B) = true)
    (xgB : PySem.W.findIn K (.ref A.B) "__getattribute__" = some (some (.builtin "BaseException.__getattribute__")))
    (xkB : PySem.W.findIn K (.ref A.B) "__getattr__" = some none)
    (xhB : PySem.W.hasDictIn K A.B = true)
    (xaB : PySem.W.findIn K (.ref A.B) "__class__" = some (some (.builtin "object.__class__")))
    (xmB : PySem.W.mroIn K A.B (.type "object") = some true)
    (xvB : PySem.W.subIn K (.ref A.B) (.type "ValueError") = some true)
    (xwB : PySem.W.subIn K (.ref A.B) (.ref A.B) = some true)
    (xWB : PySem.W.subIn K (.ref A.B) (.ref A.W) = some true)
    (xlB : K.lookup A.B = some (excClassObj nmB qBx A.B NTB bsB bmB true snB sbB abB coB ddB k0B k1B k2B k3B k5B "ValueError.__new__"))
    (reB : PySem.HandSPX.refsVE bmB = true)
    (saB : PySem.W.findIn K (.ref A.B) "__setattr__" = some (some (.builtin "object.__setattr__")))
    (xnB : PySem.W.findIn K (.ref A.B) "count" = some none)
    (iB : PySem.W.findIn K (.ref A.B) "__init__" = some (some (.ref fIB)))
    (tB : PySem.W.typeIn K (.ref fIB) = some (.type "function"))
    (xsN : PySem.W.subIn K (.ref Nx) (.type "BaseException") = some true)
    (xtN : PySem.W.typeIn K (.ref Nx) = some (.type "type"))
    (xeN : PySem.W.keepIn K (.ref Nx) = true)
    (xgN : PySem.W.findIn K (.ref Nx) "__getattribute__" = some (some (.builtin "BaseException.__getattribute__")))
    (xkN : PySem.W.findIn K (.ref Nx) "__getattr__" = some none)
    (xhN : PySem.W.hasDictIn K Nx = true)
    (xaN : PySem.W.findIn K (.ref Nx) "__class__" = some (some (.builtin "object.__class__")))
    (xmN : PySem.W.mroIn K Nx (.type "object") = some true)
    (xvN : PySem.W.subIn K (.ref Nx) (.type "ValueError") = some true)
    (xwN : PySem.W.subIn K (.ref Nx) (.ref Nx) = some true)
    (xWN : PySem.W.subIn K (.ref Nx) (.ref A.W) = some true)
    (xlN : K.lookup Nx = some (excClassObj nmN qNx Nx NTN bsN bmN true snN sbN abN coN ddN k0N k1N k2N k3N k5N "ValueError.__new__"))
    (reN : PySem.HandSPX.refsVE bmN = true)
    (saN : PySem.W.findIn K (.ref Nx) "__setattr__" = some (some (.builtin "object.__setattr__")))
    (xnN : PySem.W.findIn K (.ref Nx) "index" = some none)
    (iN : PySem.W.findIn K (.ref Nx) "__init__" = some (some (.ref fIN)))
    (tN : PySem.W.typeIn K (.ref fIN) = some (.type "function"))
    (xBN : PySem.W.subIn K (.ref A.B) (.ref Nx) = some false)
    (xNB : PySem.W.subIn K (.ref Nx) (.ref A.B) = some false)
    (kkW : PySem.W.isClsIn K A.W = true)
    (kkB : PySem.W.isClsIn K A.B = true)
    (kkN : PySem.W.isClsIn K Nx = true)
    (ktW : PySem.W.typeIn K (.ref A.W) = some (.type "type"))
    (xZ : PySem.W.excIn K A.Z [.type "ValueError", .type "Exception", .type "BaseException", .type "object"] "ValueError.__new__" = true)
    (lIB : K.lookup fIB = some ⟨ocIB, odIB, .func (PySem.W.fnOf "__init__" "BadCount.__init__" (defArgs sBcI) (defBody sBcI) (defScope sBcI) .none kVIB dcIB pmIB anIB cdIB ctIB), slIB⟩)
    (cIB : PySem.W.codeIn K cdIB "BadCount.__init__" = true)
    (kIB : PySem.W.keepIn K (.ref fIB) = true)
    (lIN : K.lookup fIN = some ⟨ocIN, odIN, .func (PySem.W.fnOf "__init__" "NoEcho.__init__" (defArgs sNeI) (defBody sNeI) (defScope sNeI) .none kVIN dcIN pmIN anIN cdIN ctIN), slIN⟩)
    (cIN : PySem.W.codeIn K cdIN "NoEcho.__init__" = true)
    (kIN : PySem.W.keepIn K (.ref fIN) = true)
    (a_init : PySem.W.findIn K (.ref A.C) "__init__" = some (some (.ref A.init)))
    (i_init : PySem.W.isFn K (.ref A.init) = true)
    (l_init : K.lookup A.init = some ⟨oc_init, od_init, .func (PySem.W.fnOf "__init__" "Frac.__init__" (defArgs sInit) (defBody sInit) (defScope sInit) (.ref Td) kV_init dc_init pm_init an_init cd_init ct_init), sl_init⟩)
    (c_init : PySem.W.codeIn K cd_init "Frac.__init__" = true)
    (k_init : PySem.W.keepIn K (.ref A.init) = true)
    (lTd : K.lookup Td = some ⟨ocTd, odTd, .seq [.int 0 tk0, .int 1 tk1].toArray nTd, slTd⟩)
    (a_add : PySem.W.findIn K (.ref A.C) "__add__" = some (some (.ref A.add)))
    (i_add : PySem.W.isFn K (.ref A.add) = true)
    (l_add : K.lookup A.add = some ⟨oc_add, od_add, .func (PySem.W.fnOf "__add__" "Frac.__add__" (defArgs sAdd) (defBody sAdd) (defScope sAdd) .none kV_add dc_add pm_add an_add cd_add ct_add), sl_add⟩)
    (c_add : PySem.W.codeIn K cd_add "Frac.__add__" = true)
    (k_add : PySem.W.keepIn K (.ref A.add) = true)
    (a_radd : PySem.W.findIn K (.ref A.C) "__radd__" = some (some (.ref A.radd)))
    (i_radd : PySem.W.isFn K (.ref A.radd) = true)
    (l_radd : K.lookup A.radd = some ⟨oc_radd, od_radd, .func (PySem.W.fnOf "__radd__" "Frac.__radd__" (defArgs sRadd) (defBody sRadd) (defScope sRadd) .none kV_radd dc_radd pm_radd an_radd cd_radd ct_radd), sl_radd⟩)
    (c_radd : PySem.W.codeIn K cd_radd "Frac.__radd__" = true)
    (k_radd : PySem.W.keepIn K (.ref A.radd) = true)
    (a_sub : PySem.W.findIn K (.ref A.C) "__sub__" = some (some (.ref A.sub)))
    (i_sub : PySem.W.isFn K (.ref A.sub) = true)
    (l_sub : K.lookup A.sub = some ⟨oc_sub, od_sub, .func (PySem.W.fnOf "__sub__" "Frac.__sub__" (defArgs sSub) (defBody sSub) (defScope sSub) .none kV_sub dc_sub pm_sub an_sub cd_sub ct_sub), sl_sub⟩)
    (c_sub : PySem.W.codeIn K cd_sub "Frac.__sub__" = true)
    (k_sub : PySem.W.keepIn K (.ref A.sub) = true)
    (a_rsub : PySem.W.findIn K (.ref A.C) "__rsub__" = some (some (.ref A.rsub)))
    (i_rsub : PySem.W.isFn K (.ref A.rsub) = true)
    (l_rsub : K.lookup A.rsub = some ⟨oc_rsub, od_rsub, .func (PySem.W.fnOf "__rsub__" "Frac.__rsub__" (defArgs sRsub) (defBody sRsub) (defScope sRsub) .none kV_rsub dc_rsub pm_rsub an_rsub cd_rsub ct_rsub), sl_rsub⟩)
    (c_rsub : PySem.W.codeIn K cd_rsub "Frac.__rsub__" = true)
    (k_rsub : PySem.W.keepIn K (.ref A.rsub) = true)
    (a_mul : PySem.W.findIn K (.ref A.C) "__mul__" = some (some (.ref A.mul)))
    (i_mul : PySem.W.isFn K (.ref A.mul) = true)
    (l_mul : K.lookup A.mul = some ⟨oc_mul, od_mul, .func (PySem.W.fnOf "__mul__" "Frac.__mul__" (defArgs sMul) (defBody sMul) (defScope sMul) .none kV_mul dc_mul pm_mul an_mul cd_mul ct_mul), sl_mul⟩)
    (c_mul : PySem.W.codeIn K cd_mul "Frac.__mul__" = true)
    (k_mul : PySem.W.keepIn K (.ref A.mul) = true)
    (a_rmul : PySem.W.findIn K (.ref A.C) "__rmul__" = some (some (.ref A.rmul)))
    (i_rmul : PySem.W.isFn K (.ref A.rmul) = true)
    (l_rmul : K.lookup A.rmul = some ⟨oc_rmul, od_rmul, .func (PySem.W.fnOf "__rmul__" "Frac.__rmul__" (defArgs sRmul) (defBody sRmul) (defScope sRmul) .none kV_rmul dc_rmul pm_rmul an_rmul cd_rmul ct_rmul), sl_rmul⟩)
    (c_rmul : PySem.W.codeIn K cd_rmul "Frac.__rmul__" = true)
    (k_rmul : PySem.W.keepIn K (.ref A.rmul) = true)
    (a_flo : PySem.W.findIn K (.ref A.C) "__floordiv__" = some (some (.ref A.flo)))
    (i_flo : PySem.W.isFn K (.ref A.flo) = true)
    (l_flo : K.lookup A.flo = some ⟨oc_flo, od_flo, .func (PySem.W.fnOf "__floordiv__" "Frac.__floordiv__" (defArgs sFlo) (defBody sFlo) (defScope sFlo) .none kV_flo dc_flo pm_flo an_flo cd_flo ct_flo), sl_flo⟩)
    (c_flo : PySem.W.codeIn K cd_flo "Frac.__floordiv__" = true)
    (k_flo : PySem.W.keepIn K (.ref A.flo) = true)
    (a_rflo : PySem.W.findIn K (.ref A.C) "__rfloordiv__" = some (some (.ref A.rflo)))
    (i_rflo : PySem.W.isFn K (.ref A.rflo) = true)
    (l_rflo : K.lookup A.rflo = some ⟨oc_rflo, od_rflo, .func (PySem.W.fnOf "__rfloordiv__" "Frac.__rfloordiv__" (defArgs sRflo) (defBody sRflo) (defScope sRflo) .none kV_rflo dc_rflo pm_rflo an_rflo cd_rflo ct_rflo), sl_rflo⟩)
    (c_rflo : PySem.W.codeIn K cd_rflo "Frac.__rfloordiv__" = true)
    (k_rflo : PySem.W.keepIn K (.ref A.rflo) = true)
    (a_mod : PySem.W.findIn K (.ref A.C) "__mod__" = some (some (.ref A.mod)))
    (i_mod : PySem.W.isFn K (.ref A.mod) = true)
    (l_mod : K.lookup A.mod = some ⟨oc_mod, od_mod, .func (PySem.W.fnOf "__mod__" "Frac.__mod__" (defArgs sMod) (defBody sMod) (defScope sMod) .none kV_mod dc_mod pm_mod an_mod cd_mod ct_mod), sl_mod⟩)
    (c_mod : PySem.W.codeIn K cd_mod "Frac.__mod__" = true)
    (k_mod : PySem.W.keepIn K (.ref A.mod) = true)
    (a_rmod : PySem.W.findIn K (.ref A.C) "__rmod__" = some (some (.ref A.rmod)))
    (i_rmod : PySem.W.isFn K (.ref A.rmod) = true)
    (l_rmod : K.lookup A.rmod = some ⟨oc_rmod, od_rmod, .func (PySem.W.fnOf "__rmod__" "Frac.__rmod__" (defArgs sRmod) (defBody sRmod) (defScope sRmod) .none kV_rmod dc_rmod pm_rmod an_rmod cd_rmod ct_rmod), sl_rmod⟩)
    (c_rmod : PySem.W.codeIn K cd_rmod "Frac.__rmod__" = true)
    (k_rmod : PySem.W.keepIn K (.ref A.rmod) = true)
    (a_pow : PySem.W.findIn K (.ref A.C) "__pow__" = some (some (.ref A.pow)))
    (i_pow : PySem.W.isFn K (.ref A.pow) = true)
    (l_pow : K.lookup A.pow = some ⟨oc_pow, od_pow, .func (PySem.W.fnOf "__pow__" "Frac.__pow__" (defArgs sPow) (defBody sPow) (defScope sPow) .none kV_pow dc_pow pm_pow an_pow cd_pow ct_pow), sl_pow⟩)
    (c_pow : PySem.W.codeIn K cd_pow "Frac.__pow__" = true)
    (k_pow : PySem.W.keepIn K (.ref A.pow) = true)
    (a_neg : PySem.W.findIn K (.ref A.C) "__neg__" = some (some (.ref A.neg)))
    (i_neg : PySem.W.isFn K (.ref A.neg) = true)
    (l_neg : K.lookup A.neg = some ⟨oc_neg, od_neg, .func (PySem.W.fnOf "__neg__" "Frac.__neg__" (defArgs sNeg) (defBody sNeg) (defScope sNeg) .none kV_neg dc_neg pm_neg an_neg cd_neg ct_neg), sl_neg⟩)
    (c_neg : PySem.W.codeIn K cd_neg "Frac.__neg__" = true)
    (k_neg : PySem.W.keepIn K (.ref A.neg) = true)
    (a_abs : PySem.W.findIn K (.ref A.C) "__abs__" = some (some (.ref A.abs)))
    (i_abs : PySem.W.isFn K (.ref A.abs) = true)
    (l_abs : K.lookup A.abs = some ⟨oc_abs, od_abs, .func (PySem.W.fnOf "__abs__" "Frac.__abs__" (defArgs sAbs) (defBody sAbs) (defScope sAbs) .none kV_abs dc_abs pm_abs an_abs cd_abs ct_abs), sl_abs⟩)
    (c_abs : PySem.W.codeIn K cd_abs "Frac.__abs__" = true)
    (k_abs : PySem.W.keepIn K (.ref A.abs) = true)
    (a_bool : PySem.W.findIn K (.ref A.C) "__bool__" = some (some (.ref A.bool)))
    (i_bool : PySem.W.isFn K (.ref A.bool) = true)
    (l_bool : K.lookup A.bool = some ⟨oc_bool, od_bool, .func (PySem.W.fnOf "__bool__" "Frac.__bool__" (defArgs sBool) (defBody sBool) (defScope sBool) .none kV_bool dc_bool pm_bool an_bool cd_bool ct_bool), sl_bool⟩)
    (c_bool : PySem.W.codeIn K cd_bool "Frac.__bool__" = true)
    (k_bool : PySem.W.keepIn K (.ref A.bool) = true)
    (a_eq : PySem.W.findIn K (.ref A.C) "__eq__" = some (some (.ref A.eq)))
    (i_eq : PySem.W.isFn K (.ref A.eq) = true)
    (l_eq : K.lookup A.eq = some ⟨oc_eq, od_eq, .func (PySem.W.fnOf "__eq__" "Frac.__eq__" (defArgs sEq) (defBody sEq) (defScope sEq) .none kV_eq dc_eq pm_eq an_eq cd_eq ct_eq), sl_eq⟩)
    (c_eq : PySem.W.codeIn K cd_eq "Frac.__eq__" = true)
    (k_eq : PySem.W.keepIn K (.ref A.eq) = true)
    (a_lt : PySem.W.findIn K (.ref A.C) "__lt__" = some (some (.ref A.lt)))
    (i_lt : PySem.W.isFn K (.ref A.lt) = true)
    (l_lt : K.lookup A.lt = some ⟨oc_lt, od_lt, .func (PySem.W.fnOf "__lt__" "Frac.__lt__" (defArgs sLt) (defBody sLt) (defScope sLt) .none kV_lt dc_lt pm_lt an_lt cd_lt ct_lt), sl_lt⟩)
    (c_lt : PySem.W.codeIn K cd_lt "Frac.__lt__" = true)
    (k_lt : PySem.W.keepIn K (.ref A.lt) = true)
    (a_le : PySem.W.findIn K (.ref A.C) "__le__" = some (some (.ref A.le)))
    (i_le : PySem.W.isFn K (.ref A.le) = true)
    (l_le : K.lookup A.le = some ⟨oc_le, od_le, .func (PySem.W.fnOf "__le__" "Frac.__le__" (defArgs sLe) (defBody sLe) (defScope sLe) .none kV_le dc_le pm_le an_le cd_le ct_le), sl_le⟩)
    (c_le : PySem.W.codeIn K cd_le "Frac.__le__" = true)
    (k_le : PySem.W.keepIn K (.ref A.le) = true)
    (a_gt : PySem.W.findIn K (.ref A.C) "__gt__" = some (some (.ref A.gt)))
    (i_gt : PySem.W.isFn K (.ref A.gt) = true)
    (l_gt : K.lookup A.gt = some ⟨oc_gt, od_gt, .func (PySem.W.fnOf "__gt__" "Frac.__gt__" (defArgs sGt) (defBody sGt) (defScope sGt) .none kV_gt dc_gt pm_gt an_gt cd_gt ct_gt), sl_gt⟩)
    (c_gt : PySem.W.codeIn K cd_gt "Frac.__gt__" = true)
    (k_gt : PySem.W.keepIn K (.ref A.gt) = true)
    (a_ge : PySem.W.findIn K (.ref A.C) "__ge__" = some (some (.ref A.ge)))
    (i_ge : PySem.W.isFn K (.ref A.ge) = true)
    (l_ge : K.lookup A.ge = some ⟨oc_ge, od_ge, .func (PySem.W.fnOf "__ge__" "Frac.__ge__" (defArgs sGe) (defBody sGe) (defScope sGe) .none kV_ge dc_ge pm_ge an_ge cd_ge ct_ge), sl_ge⟩)
    (c_ge : PySem.W.codeIn K cd_ge "Frac.__ge__" = true)
    (k_ge : PySem.W.keepIn K (.ref A.ge) = true)
    (a_str : PySem.W.findIn K (.ref A.C) "__str__" = some (some (.ref A.str)))
    (i_str : PySem.W.isFn K (.ref A.str) = true)
    (l_str : K.lookup A.str = some ⟨oc_str, od_str, .func (PySem.W.fnOf "__str__" "Frac.__str__" (defArgs sStr) (defBody sStr) (defScope sStr) .none kV_str dc_str pm_str an_str cd_str ct_str), sl_str⟩)
    (c_str : PySem.W.codeIn K cd_str "Frac.__str__" = true)
    (k_str : PySem.W.keepIn K (.ref A.str) = true)
    (a_over : PySem.W.findIn K (.ref A.C) "over" = some (some (.ref A.over)))
    (i_over : PySem.W.isFn K (.ref A.over) = true)
    (l_over : K.lookup A.over = some ⟨oc_over, od_over, .func (PySem.W.fnOf "over" "Frac.over" (defArgs sOver) (defBody sOver) (defScope sOver) .none kV_over dc_over pm_over an_over cd_over ct_over), sl_over⟩)
    (c_over : PySem.W.codeIn K cd_over "Frac.over" = true)
    (k_over : PySem.W.keepIn K (.ref A.over) = true)
    (a_of_ : PySem.W.findCls K (.ref A.C) (.type "type") "of" = some (.get (.builtin "staticmethod.__get__") (.ref A.pOf) .none (.ref A.C)))
    (r_of_ : PySem.W.recIn K A.pOf "staticmethod" = some (.ref A.of_ :: rest_of_))
    (l_of_ : K.lookup A.of_ = some ⟨oc_of_, od_of_, .func (PySem.W.fnOf "of" "Frac.of" (defArgs sOf) (defBody sOf) (defScope sOf) .none kV_of_ dc_of_ pm_of_ an_of_ cd_of_ ct_of_), sl_of_⟩)
    (c_of_ : PySem.W.codeIn K cd_of_ "Frac.of" = true)
    (k_of_ : PySem.W.keepIn K (.ref A.of_) = true)
    (a_isnum : PySem.W.nsIn K mainGlobals "is_number" = some (some (.ref A.isnum)))
    (l_isnum : K.lookup A.isnum = some ⟨oc_isnum, od_isnum, .func (PySem.W.fnOf "is_number" "is_number" (defArgs sIsNum) (defBody sIsNum) (defScope sIsNum) .none kV_isnum dc_isnum pm_isnum an_isnum cd_isnum ct_isnum), sl_isnum⟩)
    (c_isnum : PySem.W.codeIn K cd_isnum "is_number" = true)
    (k_isnum : PySem.W.keepIn K (.ref A.isnum) = true)
    (a_wq : PySem.W.nsIn K mainGlobals "_whole_quotient" = some (some (.ref A.wq)))
    (l_wq : K.lookup A.wq = some ⟨oc_wq, od_wq, .func (PySem.W.fnOf "_whole_quotient" "_whole_quotient" (defArgs sWq) (defBody sWq) (defScope sWq) .none kV_wq dc_wq pm_wq an_wq cd_wq ct_wq), sl_wq⟩)
    (c_wq : PySem.W.codeIn K cd_wq "_whole_quotient" = true)
    (k_wq : PySem.W.keepIn K (.ref A.wq) = true)
    (aCc_ : PySem.W.nsIn K mainGlobals "check_count" = some (some (.ref fCc)))
    (lCc_ : K.lookup fCc = some ⟨ocCc_, odCc_, .func (PySem.W.fnOf "check_count" "check_count" (defArgs (top 8)) (defBody (top 8)) (defScope (top 8)) .none kVCc_ dcCc_ pmCc_ anCc_ cdCc_ ctCc_), slCc_⟩)
    (cCc_ : PySem.W.codeIn K cdCc_ "check_count" = true)
    (kCc_ : PySem.W.keepIn K (.ref fCc) = true)
    (aFo_ : PySem.W.nsIn K mainGlobals "fracs_of" = some (some (.ref fFo)))
    (lFo_ : K.lookup fFo = some ⟨ocFo_, odFo_, .func (PySem.W.fnOf "fracs_of" "fracs_of" (defArgs (top 13)) (defBody (top 13)) (defScope (top 13)) .none kVFo_ dcFo_ pmFo_ anFo_ cdFo_ ctFo_), slFo_⟩)
    (cFo_ : PySem.W.codeIn K cdFo_ "fracs_of" = true)
    (kFo_ : PySem.W.keepIn K (.ref fFo) = true)
    (aIp_ : PySem.W.nsIn K mainGlobals "is_pane" = some (some (.ref fIp)))
    (lIp_ : K.lookup fIp = some ⟨ocIp_, odIp_, .func (PySem.W.fnOf "is_pane" "is_pane" (defArgs (top 17)) (defBody (top 17)) (defScope (top 17)) .none kVIp_ dcIp_ pmIp_ anIp_ cdIp_ ctIp_), slIp_⟩)
    (cIp_ : PySem.W.codeIn K cdIp_ "is_pane" = true)
    (kIp_ : PySem.W.keepIn K (.ref fIp) = true)
    (aPl_ : PySem.W.nsIn K mainGlobals "peel" = some (some (.ref fPl)))
    (lPl_ : K.lookup fPl = some ⟨ocPl_, odPl_, .func (PySem.W.fnOf "peel" "peel" (defArgs (top 20)) (defBody (top 20)) (defScope (top 20)) .none kVPl_ dcPl_ pmPl_ anPl_ cdPl_ ctPl_), slPl_⟩)
    (cPl_ : PySem.W.codeIn K cdPl_ "peel" = true)
    (kPl_ : PySem.W.keepIn K (.ref fPl) = true)
    (aNs_ : PySem.W.nsIn K mainGlobals "next_stretch" = some (some (.ref fNs)))
    (lNs_ : K.lookup fNs = some ⟨ocNs_, odNs_, .func (PySem.W.fnOf "next_stretch" "next_stretch" (defArgs (top 21)) (defBody (top 21)) (defScope (top 21)) .none kVNs_ dcNs_ pmNs_ anNs_ cdNs_ ctNs_), slNs_⟩)
    (cNs_ : PySem.W.codeIn K cdNs_ "next_stretch" = true)
    (kNs_ : PySem.W.keepIn K (.ref fNs) = true)
    (aPd_ : PySem.W.nsIn K mainGlobals "_peeled" = some (some (.ref fPd)))
    (lPd_ : K.lookup fPd = some ⟨ocPd_, odPd_, .func (PySem.W.fnOf "_peeled" "_peeled" (defArgs (top 22)) (defBody (top 22)) (defScope (top 22)) .none kVPd_ dcPd_ pmPd_ anPd_ cdPd_ ctPd_), slPd_⟩)
    (cPd_ : PySem.W.codeIn K cdPd_ "_peeled" = true)
    (kPd_ : PySem.W.keepIn K (.ref fPd) = true)
    (aEo_ : PySem.W.nsIn K mainGlobals "_end_of" = some (some (.ref fEo)))
    (lEo_ : K.lookup fEo = some ⟨ocEo_, odEo_, .func (PySem.W.fnOf "_end_of" "_end_of" (defArgs (top 23)) (defBody (top 23)) (defScope (top 23)) .none kVEo_ dcEo_ pmEo_ anEo_ cdEo_ ctEo_), slEo_⟩)
    (cEo_ : PySem.W.codeIn K cdEo_ "_end_of" = true)
    (kEo_ : PySem.W.keepIn K (.ref fEo) = true)
    (aPo_ : PySem.W.nsIn K mainGlobals "_law_pool" = some (some (.ref fPo)))
    (lPo_ : K.lookup fPo = some ⟨ocPo_, odPo_, .func (PySem.W.fnOf "_law_pool" "_law_pool" (defArgs (top 25)) (defBody (top 25)) (defScope (top 25)) .none kVPo_ dcPo_ pmPo_ anPo_ cdPo_ ctPo_), slPo_⟩)
    (cPo_ : PySem.W.codeIn K cdPo_ "_law_pool" = true)
    (kPo_ : PySem.W.keepIn K (.ref fPo) = true)
    (aDr_ : PySem.W.nsIn K mainGlobals "_law_draw" = some (some (.ref fDr)))
    (lDr_ : K.lookup fDr = some ⟨ocDr_, odDr_, .func (PySem.W.fnOf "_law_draw" "_law_draw" (defArgs (top 26)) (defBody (top 26)) (defScope (top 26)) .none kVDr_ dcDr_ pmDr_ anDr_ cdDr_ ctDr_), slDr_⟩)
    (cDr_ : PySem.W.codeIn K cdDr_ "_law_draw" = true)
    (kDr_ : PySem.W.keepIn K (.ref fDr) = true)
    (aGc_ : PySem.W.nsIn K mainGlobals "_law_gcd" = some (some (.ref fGc)))
    (lGc_ : K.lookup fGc = some ⟨ocGc_, odGc_, .func (PySem.W.fnOf "_law_gcd" "_law_gcd" (defArgs (top 27)) (defBody (top 27)) (defScope (top 27)) .none kVGc_ dcGc_ pmGc_ anGc_ cdGc_ ctGc_), slGc_⟩)
    (cGc_ : PySem.W.codeIn K cdGc_ "_law_gcd" = true)
    (kGc_ : PySem.W.keepIn K (.ref fGc) = true)
    (aLo_ : PySem.W.nsIn K mainGlobals "_law_low" = some (some (.ref fLo)))
    (lLo_ : K.lookup fLo = some ⟨ocLo_, odLo_, .func (PySem.W.fnOf "_law_low" "_law_low" (defArgs (top 28)) (defBody (top 28)) (defScope (top 28)) .none kVLo_ dcLo_ pmLo_ anLo_ cdLo_ ctLo_), slLo_⟩)
    (cLo_ : PySem.W.codeIn K cdLo_ "_law_low" = true)
    (kLo_ : PySem.W.keepIn K (.ref fLo) = true)
    (aAd_ : PySem.W.nsIn K mainGlobals "_law_add" = some (some (.ref fAd)))
    (lAd_ : K.lookup fAd = some ⟨ocAd_, odAd_, .func (PySem.W.fnOf "_law_add" "_law_add" (defArgs (top 29)) (defBody (top 29)) (defScope (top 29)) .none kVAd_ dcAd_ pmAd_ anAd_ cdAd_ ctAd_), slAd_⟩)
    (cAd_ : PySem.W.codeIn K cdAd_ "_law_add" = true)
    (kAd_ : PySem.W.keepIn K (.ref fAd) = true)
    (aMu_ : PySem.W.nsIn K mainGlobals "_law_mul" = some (some (.ref fMu)))
    (lMu_ : K.lookup fMu = some ⟨ocMu_, odMu_, .func (PySem.W.fnOf "_law_mul" "_law_mul" (defArgs (top 30)) (defBody (top 30)) (defScope (top 30)) .none kVMu_ dcMu_ pmMu_ anMu_ cdMu_ ctMu_), slMu_⟩)
    (cMu_ : PySem.W.codeIn K cdMu_ "_law_mul" = true)
    (kMu_ : PySem.W.keepIn K (.ref fMu) = true)
    (aWh_ : PySem.W.nsIn K mainGlobals "_law_whole" = some (some (.ref fWh)))
    (lWh_ : K.lookup fWh = some ⟨ocWh_, odWh_, .func (PySem.W.fnOf "_law_whole" "_law_whole" (defArgs (top 31)) (defBody (top 31)) (defScope (top 31)) .none kVWh_ dcWh_ pmWh_ anWh_ cdWh_ ctWh_), slWh_⟩)
    (cWh_ : PySem.W.codeIn K cdWh_ "_law_whole" = true)
    (kWh_ : PySem.W.keepIn K (.ref fWh) = true)
    (aPa_ : PySem.W.nsIn K mainGlobals "_law_pair" = some (some (.ref fPa)))
    (lPa_ : K.lookup fPa = some ⟨ocPa_, odPa_, .func (PySem.W.fnOf "_law_pair" "_law_pair" (defArgs (top 32)) (defBody (top 32)) (defScope (top 32)) .none kVPa_ dcPa_ pmPa_ anPa_ cdPa_ ctPa_), slPa_⟩)
    (cPa_ : PySem.W.codeIn K cdPa_ "_law_pair" = true)
    (kPa_ : PySem.W.keepIn K (.ref fPa) = true)
    (aRo_ : PySem.W.nsIn K mainGlobals "_law_row" = some (some (.ref fRo)))
    (lRo_ : K.lookup fRo = some ⟨ocRo_, odRo_, .func (PySem.W.fnOf "_law_row" "_law_row" (defArgs (top 33)) (defBody (top 33)) (defScope (top 33)) .none kVRo_ dcRo_ pmRo_ anRo_ cdRo_ ctRo_), slRo_⟩)
    (cRo_ : PySem.W.codeIn K cdRo_ "_law_row" = true)
    (kRo_ : PySem.W.keepIn K (.ref fRo) = true)
    (aNu_ : PySem.W.nsIn K mainGlobals "_law_number" = some (some (.ref fNu)))
    (lNu_ : K.lookup fNu = some ⟨ocNu_, odNu_, .func (PySem.W.fnOf "_law_number" "_law_number" (defArgs (top 34)) (defBody (top 34)) (defScope (top 34)) .none kVNu_ dcNu_ pmNu_ anNu_ cdNu_ ctNu_), slNu_⟩)
    (cNu_ : PySem.W.codeIn K cdNu_ "_law_number" = true)
    (kNu_ : PySem.W.keepIn K (.ref fNu) = true)
    (aSt_ : PySem.W.nsIn K mainGlobals "_law_stayed" = some (some (.ref fSt)))
    (lSt_ : K.lookup fSt = some ⟨ocSt_, odSt_, .func (PySem.W.fnOf "_law_stayed" "_law_stayed" (defArgs (top 35)) (defBody (top 35)) (defScope (top 35)) .none kVSt_ dcSt_ pmSt_ anSt_ cdSt_ ctSt_), slSt_⟩)
    (cSt_ : PySem.W.codeIn K cdSt_ "_law_stayed" = true)
    (kSt_ : PySem.W.keepIn K (.ref fSt) = true)
    (aNb_ : PySem.W.nsIn K mainGlobals "_law_numbers" = some (some (.ref fNb)))
    (lNb_ : K.lookup fNb = some ⟨ocNb_, odNb_, .func (PySem.W.fnOf "_law_numbers" "_law_numbers" (defArgs (top 36)) (defBody (top 36)) (defScope (top 36)) .none kVNb_ dcNb_ pmNb_ anNb_ cdNb_ ctNb_), slNb_⟩)
    (cNb_ : PySem.W.codeIn K cdNb_ "_law_numbers" = true)
    (kNb_ : PySem.W.keepIn K (.ref fNb) = true)
    (aQu_ : PySem.W.nsIn K mainGlobals "_law_quotient" = some (some (.ref fQu)))
    (lQu_ : K.lookup fQu = some ⟨ocQu_, odQu_, .func (PySem.W.fnOf "_law_quotient" "_law_quotient" (defArgs (top 37)) (defBody (top 37)) (defScope (top 37)) .none kVQu_ dcQu_ pmQu_ anQu_ cdQu_ ctQu_), slQu_⟩)
    (cQu_ : PySem.W.codeIn K cdQu_ "_law_quotient" = true)
    (kQu_ : PySem.W.keepIn K (.ref fQu) = true)
    (aSe_ : PySem.W.nsIn K mainGlobals "_law_series" = some (some (.ref fSe)))
    (lSe_ : K.lookup fSe = some ⟨ocSe_, odSe_, .func (PySem.W.fnOf "_law_series" "_law_series" (defArgs (top 38)) (defBody (top 38)) (defScope (top 38)) .none kVSe_ dcSe_ pmSe_ anSe_ cdSe_ ctSe_), slSe_⟩)
    (cSe_ : PySem.W.codeIn K cdSe_ "_law_series" = true)
    (kSe_ : PySem.W.keepIn K (.ref fSe) = true)
    (aDn_ : PySem.W.nsIn K mainGlobals "_law_drawn" = some (some (.ref fDn)))
    (lDn_ : K.lookup fDn = some ⟨ocDn_, odDn_, .func (PySem.W.fnOf "_law_drawn" "_law_drawn" (defArgs (top 39)) (defBody (top 39)) (defScope (top 39)) .none kVDn_ dcDn_ pmDn_ anDn_ cdDn_ ctDn_), slDn_⟩)
    (cDn_ : PySem.W.codeIn K cdDn_ "_law_drawn" = true)
    (kDn_ : PySem.W.keepIn K (.ref fDn) = true)
    (aEc_ : PySem.W.nsIn K mainGlobals "_law_echo" = some (some (.ref fEc)))
    (lEc_ : K.lookup fEc = some ⟨ocEc_, odEc_, .func (PySem.W.fnOf "_law_echo" "_law_echo" (defArgs (top 40)) (defBody (top 40)) (defScope (top 40)) .none kVEc_ dcEc_ pmEc_ anEc_ cdEc_ ctEc_), slEc_⟩)
    (cEc_ : PySem.W.codeIn K cdEc_ "_law_echo" = true)
    (kEc_ : PySem.W.keepIn K (.ref fEc) = true)
    (aRf_ : PySem.W.nsIn K mainGlobals "_law_refused" = some (some (.ref fRf)))
    (lRf_ : K.lookup fRf = some ⟨ocRf_, odRf_, .func (PySem.W.fnOf "_law_refused" "_law_refused" (defArgs (top 41)) (defBody (top 41)) (defScope (top 41)) .none kVRf_ dcRf_ pmRf_ anRf_ cdRf_ ctRf_), slRf_⟩)
    (cRf_ : PySem.W.codeIn K cdRf_ "_law_refused" = true)
    (kRf_ : PySem.W.keepIn K (.ref fRf) = true)
    (aOp_ : PySem.W.nsIn K mainGlobals "_law_open" = some (some (.ref fOp)))
    (lOp_ : K.lookup fOp = some ⟨ocOp_, odOp_, .func (PySem.W.fnOf "_law_open" "_law_open" (defArgs (top 44)) (defBody (top 44)) (defScope (top 44)) .none kVOp_ dcOp_ pmOp_ anOp_ cdOp_ ctOp_), slOp_⟩)
    (cOp_ : PySem.W.codeIn K cdOp_ "_law_open" = true)
    (kOp_ : PySem.W.keepIn K (.ref fOp) = true)
    (aLa_ : PySem.W.nsIn K mainGlobals "law" = some (some (.ref fLa)))
    (lLa_ : K.lookup fLa = some ⟨ocLa_, odLa_, .func (PySem.W.fnOf "law" "law" (defArgs (top 46)) (defBody (top 46)) (defScope (top 46)) .none kVLa_ dcLa_ pmLa_ anLa_ cdLa_ ctLa_), slLa_⟩)
    (cLa_ : PySem.W.codeIn K cdLa_ "law" = true)
    (kLa_ : PySem.W.keepIn K (.ref fLa) = true)
    (aPs_ : PySem.W.nsIn K mainGlobals "_law_peels" = some (some (.ref fPs)))
    (lPs_ : K.lookup fPs = some ⟨ocPs_, odPs_, .func (PySem.W.fnOf "_law_peels" "_law_peels" (defArgs (top 42)) (defBody (top 42)) (defScope (top 42)) .none kVPs_ dcPs_ pmPs_ anPs_ (.ref c1) ctPs_), slPs_⟩)
    (cPs_ : PySem.W.codeIn K (.ref c1) "_law_peels" = true)
    (kPs_ : PySem.W.keepIn K (.ref fPs) = true)
    (ch1 : PySem.W.codeHdIn K c1 P1 = true)
    (nl1 : K.lookup P1 = none)
    (ht1 : h.get? P1 = some { cls := .none, data := .fields #[] })
    (aBa_ : PySem.W.nsIn K mainGlobals "_law_barred" = some (some (.ref fBa)))
    (lBa_ : K.lookup fBa = some ⟨ocBa_, odBa_, .func (PySem.W.fnOf "_law_barred" "_law_barred" (defArgs (top 43)) (defBody (top 43)) (defScope (top 43)) .none kVBa_ dcBa_ pmBa_ anBa_ (.ref c2) ctBa_), slBa_⟩)
    (cBa_ : PySem.W.codeIn K (.ref c2) "_law_barred" = true)
    (kBa_ : PySem.W.keepIn K (.ref fBa) = true)
    (ch2 : PySem.W.codeHdIn K c2 P2 = true)
    (nl2 : K.lookup P2 = none)
    (ht2 : h.get? P2 = some { cls := .none, data := .fields #[] })
    (aLg_ : PySem.W.nsIn K mainGlobals "_law_long" = some (some (.ref fLg)))
    (lLg_ : K.lookup fLg = some ⟨ocLg_, odLg_, .func (PySem.W.fnOf "_law_long" "_law_long" (defArgs (top 45)) (defBody (top 45)) (defScope (top 45)) .none kVLg_ dcLg_ pmLg_ anLg_ (.ref c3) ctLg_), slLg_⟩)
    (cLg_ : PySem.W.codeIn K (.ref c3) "_law_long" = true)
    (kLg_ : PySem.W.keepIn K (.ref fLg) = true)
    (ch3 : PySem.W.codeHdIn K c3 P3 = true)
    (nl3 : K.lookup P3 = none)
    (ht3 : h.get? P3 = some { cls := .none, data := .fields #[] })
    (ne12 : P1 ≠ P2)
    (ne13 : P1 ≠ P3)
    (ne23 : P2 ≠ P3) :
    LamX.LawAtS l w K (L2.CX l.prog w) 16 63 "script" mg fa h := by
  have e := hfa.symm.trans (PySem.W.mg_of X G aLa_)
  cases e
  have g : ∀ {x : Str} {v : Value}, PySem.W.nsIn K mainGlobals x = some (some v) → mg x = some v := fun q => PySem.W.mg_of X G q
  have gn : ∀ {x : Str}, PySem.W.nsIn K mainGlobals x = some none → mg x = none := fun q => PySem.W.mg_none_of X G q
  have T : FT K mg A := { cl := ⟨pg, hd, po, sa⟩, nN := nN, nD := nD, mgC := g aC, gcd := g agcd, gZ := g aZ, xZ := xZ, kZ := xeZ, bZ := xsZ, tZ := xtZ, isi := gn n_isinstance, int0 := gn n_int, ca := ca, cg := cg, ct := ct, cm := cm, isC := isC, tC := tC, sub1 := su1, sub2 := su2, sf := sf, gIs := g a_isnum, gWq := g a_wq }
  have S : StF K A := ⟨⟨rdC, gaC⟩, ⟨a_of_, ⟨_, r_of_⟩, k_of_⟩⟩
  have Badd : BinF K A.C A.add .Add := ⟨sf, by rw [d_add]; exact a_add, i_add, ⟨some (.ref A.radd), by rw [dr_add]; exact a_radd, .inr ⟨_, rfl⟩⟩, ⟨_, by rw [d_add]; exact i1add⟩, ⟨_, by rw [dr_add]; exact i2add⟩, su2⟩
  have Bsub : BinF K A.C A.sub .Sub := ⟨sf, by rw [d_sub]; exact a_sub, i_sub, ⟨some (.ref A.rsub), by rw [dr_sub]; exact a_rsub, .inr ⟨_, rfl⟩⟩, ⟨_, by rw [d_sub]; exact i1sub⟩, ⟨_, by rw [dr_sub]; exact i2sub⟩, su2⟩
  have Bmul : BinF K A.C A.mul .Mult := ⟨sf, by rw [d_mul]; exact a_mul, i_mul, ⟨some (.ref A.rmul), by rw [dr_mul]; exact a_rmul, .inr ⟨_, rfl⟩⟩, ⟨_, by rw [d_mul]; exact i1mul⟩, ⟨_, by rw [dr_mul]; exact i2mul⟩, su2⟩
  have Bflo : BinF K A.C A.flo .FloorDiv := ⟨sf, by rw [d_flo]; exact a_flo, i_flo, ⟨some (.ref A.rflo), by rw [dr_flo]; exact a_rflo, .inr ⟨_, rfl⟩⟩, ⟨_, by rw [d_flo]; exact i1flo⟩, ⟨_, by rw [dr_flo]; exact i2flo⟩, su2⟩
  have Bmod : BinF K A.C A.mod .Mod := ⟨sf, by rw [d_mod]; exact a_mod, i_mod, ⟨some (.ref A.rmod), by rw [dr_mod]; exact a_rmod, .inr ⟨_, rfl⟩⟩, ⟨_, by rw [d_mod]; exact i1mod⟩, ⟨_, by rw [dr_mod]; exact i2mod⟩, su2⟩
  have Bpow : BinF K A.C A.pow .Pow := ⟨sf, by rw [d_pow]; exact a_pow, i_pow, ⟨none, by rw [dr_pow]; exact rpw, .inl rfl⟩, ⟨_, by rw [d_pow]; exact i1pow⟩, ⟨_, by rw [dr_pow]; exact i2pow⟩, su2⟩
  have Radd : RefF K A.C A.radd .Add := ⟨sf, ⟨_, by rw [d_add]; exact a_add⟩, by rw [dr_add]; exact a_radd, i_radd, su1⟩
  have Rsub : RefF K A.C A.rsub .Sub := ⟨sf, ⟨_, by rw [d_sub]; exact a_sub⟩, by rw [dr_sub]; exact a_rsub, i_rsub, su1⟩
  have Rmul : RefF K A.C A.rmul .Mult := ⟨sf, ⟨_, by rw [d_mul]; exact a_mul⟩, by rw [dr_mul]; exact a_rmul, i_rmul, su1⟩
  have Rflo : RefF K A.C A.rflo .FloorDiv := ⟨sf, ⟨_, by rw [d_flo]; exact a_flo⟩, by rw [dr_flo]; exact a_rflo, i_rflo, su1⟩
  have Rmod : RefF K A.C A.rmod .Mod := ⟨sf, ⟨_, by rw [d_mod]; exact a_mod⟩, by rw [dr_mod]; exact a_rmod, i_rmod, su1⟩
  have Keq : CmpF K A.C A.eq "__eq__" := ⟨a_eq, i_eq, su2, su1⟩
  have Klt : CmpF K A.C A.lt "__lt__" := ⟨a_lt, i_lt, su2, su1⟩
  have Kle : CmpF K A.C A.le "__le__" := ⟨a_le, i_le, su2, su1⟩
  have Kgt : CmpF K A.C A.gt "__gt__" := ⟨a_gt, i_gt, su2, su1⟩
  have Kge : CmpF K A.C A.ge "__ge__" := ⟨a_ge, i_ge, su2, su1⟩
  have Uneg : UnF K A.C A.neg "__neg__" := ⟨a_neg, i_neg⟩
  have Uabs : UnF K A.C A.abs "__abs__" := ⟨a_abs, i_abs⟩
  have Ubool : UnF K A.C A.bool "__bool__" := ⟨a_bool, i_bool⟩
  have Ustr : UnF K A.C A.str "__str__" := ⟨a_str, i_str⟩
  have eB : ExcC K A.B := ⟨xgB, xkB, xsB, xhB, xaB, cg, ct, xmB⟩
  have oxB : OexC K A.B := ⟨⟨_, _, _, _, _, _, _, _, _, _, _, _, _, _, _, xlB, reB⟩, saB, xsB, xtB, xeB⟩
  have eN : ExcC K Nx := ⟨xgN, xkN, xsN, xhN, xaN, cg, ct, xmN⟩
  have oxN : OexC K Nx := ⟨⟨_, _, _, _, _, _, _, _, _, _, _, _, _, _, _, xlN, reN⟩, saN, xsN, xtN, xeN⟩
  have ER_ : ER K mg Nx A.B A.W := { gN := g aN, gB := g aB, gW := g aW, ve := gn n_ValueError, eN := eN, eB := eB, nB := kit_to kkB xtB xNB xwN, nW := kit_to kkW ktW xWN xwN, nV := kit_tv xvN, bN := kit_to kkN xtN xBN xwB, bW := kit_to kkW ktW xWB xwB, bV := kit_tv xvB, xN := PySem.W.exm_ref xsN xhN xtN xwN, xBN := PySem.W.exm_ref xsN xhN xtN xBN, xB := PySem.W.exm_ref xsB xhB xtB xwB, fN := ⟨xgN, xkN, xsN, xhN⟩, fB := ⟨xgB, xkB, xsB, xhB⟩, iN := xnN, iB := xnB }
  have Fn_add := fun_mk (st := sAdd) l_add c_add k_add
  have Bn_add := Fn_add.binds (ps := ["self", "other"]) fun _ _ _ _ _ _ us hl => match us, hl with | [_, _], _ => rfl
  have Fn_radd := fun_mk (st := sRadd) l_radd c_radd k_radd
  have Bn_radd := Fn_radd.binds (ps := ["self", "other"]) fun _ _ _ _ _ _ us hl => match us, hl with | [_, _], _ => rfl
  have Fn_sub := fun_mk (st := sSub) l_sub c_sub k_sub
  have Bn_sub := Fn_sub.binds (ps := ["self", "other"]) fun _ _ _ _ _ _ us hl => match us, hl with | [_, _], _ => rfl
  have Fn_rsub := fun_mk (st := sRsub) l_rsub c_rsub k_rsub
  have Bn_rsub := Fn_rsub.binds (ps := ["self", "other"]) fun _ _ _ _ _ _ us hl => match us, hl with | [_, _], _ => rfl
  have Fn_mul := fun_mk (st := sMul) l_mul c_mul k_mul
  have Bn_mul := Fn_mul.binds (ps := ["self", "other"]) fun _ _ _ _ _ _ us hl => match us, hl with | [_, _], _ => rfl
  have Fn_rmul := fun_mk (st := sRmul) l_rmul c_rmul k_rmul
  have Bn_rmul := Fn_rmul.binds (ps := ["self", "other"]) fun _ _ _ _ _ _ us hl => match us, hl with | [_, _], _ => rfl
  have Fn_flo := fun_mk (st := sFlo) l_flo c_flo k_flo
  have Bn_flo := Fn_flo.binds (ps := ["self", "other"]) fun _ _ _ _ _ _ us hl => match us, hl with | [_, _], _ => rfl
  have Fn_rflo := fun_mk (st := sRflo) l_rflo c_rflo k_rflo
  have Bn_rflo := Fn_rflo.binds (ps := ["self", "other"]) fun _ _ _ _ _ _ us hl => match us, hl with | [_, _], _ => rfl
  have Fn_mod := fun_mk (st := sMod) l_mod c_mod k_mod
  have Bn_mod := Fn_mod.binds (ps := ["self", "other"]) fun _ _ _ _ _ _ us hl => match us, hl with | [_, _], _ => rfl
  have Fn_rmod := fun_mk (st := sRmod) l_rmod c_rmod k_rmod
  have Bn_rmod := Fn_rmod.binds (ps := ["self", "other"]) fun _ _ _ _ _ _ us hl => match us, hl with | [_, _], _ => rfl
  have Fn_pow := fun_mk (st := sPow) l_pow c_pow k_pow
  have Bn_pow := Fn_pow.binds (ps := ["self", "other"]) fun _ _ _ _ _ _ us hl => match us, hl with | [_, _], _ => rfl
  have Fn_neg := fun_mk (st := sNeg) l_neg c_neg k_neg
  have Bn_neg := Fn_neg.binds (ps := ["self"]) fun _ _ _ _ _ _ us hl => match us, hl with | [_], _ => rfl
  have Fn_abs := fun_mk (st := sAbs) l_abs c_abs k_abs
  have Bn_abs := Fn_abs.binds (ps := ["self"]) fun _ _ _ _ _ _ us hl => match us, hl with | [_], _ => rfl
  have Fn_bool := fun_mk (st := sBool) l_bool c_bool k_bool
  have Bn_bool := Fn_bool.binds (ps := ["self"]) fun _ _ _ _ _ _ us hl => match us, hl with | [_], _ => rfl
  have Fn_eq := fun_mk (st := sEq) l_eq c_eq k_eq
  have Bn_eq := Fn_eq.binds (ps := ["self", "other"]) fun _ _ _ _ _ _ us hl => match us, hl with | [_, _], _ => rfl
  have Fn_lt := fun_mk (st := sLt) l_lt c_lt k_lt
  have Bn_lt := Fn_lt.binds (ps := ["self", "other"]) fun _ _ _ _ _ _ us hl => match us, hl with | [_, _], _ => rfl
  have Fn_le := fun_mk (st := sLe) l_le c_le k_le
  have Bn_le := Fn_le.binds (ps := ["self", "other"]) fun _ _ _ _ _ _ us hl => match us, hl with | [_, _], _ => rfl
  have Fn_gt := fun_mk (st := sGt) l_gt c_gt k_gt
  have Bn_gt := Fn_gt.binds (ps := ["self", "other"]) fun _ _ _ _ _ _ us hl => match us, hl with | [_, _], _ => rfl
  have Fn_ge := fun_mk (st := sGe) l_ge c_ge k_ge
  have Bn_ge := Fn_ge.binds (ps := ["self", "other"]) fun _ _ _ _ _ _ us hl => match us, hl with | [_, _], _ => rfl
  have Fn_str := fun_mk (st := sStr) l_str c_str k_str
  have Bn_str := Fn_str.binds (ps := ["self"]) fun _ _ _ _ _ _ us hl => match us, hl with | [_], _ => rfl
  have Fn_over := fun_mk (st := sOver) l_over c_over k_over
  have Bn_over := Fn_over.binds (ps := ["self", "b"]) fun _ _ _ _ _ _ us hl => match us, hl with | [_, _], _ => rfl
  have Fn_of_ := fun_mk (st := sOf) l_of_ c_of_ k_of_
  have Bn_of_ := Fn_of_.binds (ps := ["value"]) fun _ _ _ _ _ _ us hl => match us, hl with | [_], _ => rfl
  have Fn_isnum := fun_mk (st := sIsNum) l_isnum c_isnum k_isnum
  have Bn_isnum := Fn_isnum.binds (ps := ["value"]) fun _ _ _ _ _ _ us hl => match us, hl with | [_], _ => rfl
  have Fn_wq := fun_mk (st := sWq) l_wq c_wq k_wq
  have Bn_wq := Fn_wq.binds (ps := ["first", "second"]) fun _ _ _ _ _ _ us hl => match us, hl with | [_, _], _ => rfl
  have FnIB := fun_mk (st := sBcI) lIB cIB kIB
  have BnIB := FnIB.binds (ps := ["self", "count"]) fun _ _ _ _ _ _ us hl => match us, hl with | [_, _], _ => rfl
  have FnIN := fun_mk (st := sNeI) lIN cIN kIN
  have BnIN := FnIN.binds (ps := ["self", "index"]) fun _ _ _ _ _ _ us hl => match us, hl with | [_, _], _ => rfl
  have FnCc_ := fun_mk (st := top 8) lCc_ cCc_ kCc_
  have BnCc_ := FnCc_.binds (ps := ["count", "low", "high"]) fun _ _ _ _ _ _ us hl => match us, hl with | [_, _, _], _ => rfl
  have FnFo_ := fun_mk (st := top 13) lFo_ cFo_ kFo_
  have BnFo_ := FnFo_.binds (ps := ["numbers"]) fun _ _ _ _ _ _ us hl => match us, hl with | [_], _ => rfl
  have FnIp_ := fun_mk (st := top 17) lIp_ cIp_ kIp_
  have BnIp_ := FnIp_.binds (ps := ["number"]) fun _ _ _ _ _ _ us hl => match us, hl with | [_], _ => rfl
  have FnPl_ := fun_mk (st := top 20) lPl_ cPl_ kPl_
  have BnPl_ := FnPl_.binds (ps := ["numbers"]) fun _ _ _ _ _ _ us hl => match us, hl with | [_], _ => rfl
  have FnNs_ := fun_mk (st := top 21) lNs_ cNs_ kNs_
  have BnNs_ := FnNs_.binds (ps := ["numbers"]) fun _ _ _ _ _ _ us hl => match us, hl with | [_], _ => rfl
  have FnPd_ := fun_mk (st := top 22) lPd_ cPd_ kPd_
  have BnPd_ := FnPd_.binds (ps := ["numbers", "count"]) fun _ _ _ _ _ _ us hl => match us, hl with | [_, _], _ => rfl
  have FnEo_ := fun_mk (st := top 23) lEo_ cEo_ kEo_
  have BnEo_ := FnEo_.binds (ps := ["pane", "top", "bottom", "count", "index"]) fun _ _ _ _ _ _ us hl => match us, hl with | [_, _, _, _, _], _ => rfl
  have FnPo_ := fun_mk (st := top 25) lPo_ cPo_ kPo_
  have BnPo_ := FnPo_.binds (ps := ["script"]) fun _ _ _ _ _ _ us hl => match us, hl with | [_], _ => rfl
  have FnDr_ := fun_mk (st := top 26) lDr_ cDr_ kDr_
  have BnDr_ := FnDr_.binds (ps := ["pool", "base"]) fun _ _ _ _ _ _ us hl => match us, hl with | [_, _], _ => rfl
  have FnGc_ := fun_mk (st := top 27) lGc_ cGc_ kGc_
  have BnGc_ := FnGc_.binds (ps := ["one", "two"]) fun _ _ _ _ _ _ us hl => match us, hl with | [_, _], _ => rfl
  have FnLo_ := fun_mk (st := top 28) lLo_ cLo_ kLo_
  have BnLo_ := FnLo_.binds (ps := ["top", "bottom"]) fun _ _ _ _ _ _ us hl => match us, hl with | [_, _], _ => rfl
  have FnAd_ := fun_mk (st := top 29) lAd_ cAd_ kAd_
  have BnAd_ := FnAd_.binds (ps := ["x", "y"]) fun _ _ _ _ _ _ us hl => match us, hl with | [_, _], _ => rfl
  have FnMu_ := fun_mk (st := top 30) lMu_ cMu_ kMu_
  have BnMu_ := FnMu_.binds (ps := ["x", "y"]) fun _ _ _ _ _ _ us hl => match us, hl with | [_, _], _ => rfl
  have FnWh_ := fun_mk (st := top 31) lWh_ cWh_ kWh_
  have BnWh_ := FnWh_.binds (ps := ["x"]) fun _ _ _ _ _ _ us hl => match us, hl with | [_], _ => rfl
  have FnPa_ := fun_mk (st := top 32) lPa_ cPa_ kPa_
  have BnPa_ := FnPa_.binds (ps := ["told"]) fun _ _ _ _ _ _ us hl => match us, hl with | [_], _ => rfl
  have FnRo_ := fun_mk (st := top 33) lRo_ cRo_ kRo_
  have BnRo_ := FnRo_.binds (ps := ["told", "due", "tied"]) fun _ _ _ _ _ _ us hl => match us, hl with | [_, _, _], _ => rfl
  have FnNu_ := fun_mk (st := top 34) lNu_ cNu_ kNu_
  have BnNu_ := FnNu_.binds (ps := ["pair", "way"]) fun _ _ _ _ _ _ us hl => match us, hl with | [_, _], _ => rfl
  have FnSt_ := fun_mk (st := top 35) lSt_ cSt_ kSt_
  have BnSt_ := FnSt_.binds (ps := ["passed", "pairs"]) fun _ _ _ _ _ _ us hl => match us, hl with | [_, _], _ => rfl
  have FnNb_ := fun_mk (st := top 36) lNb_ cNb_ kNb_
  have BnNb_ := FnNb_.binds (ps := ["pairs", "way"]) fun _ _ _ _ _ _ us hl => match us, hl with | [_, _], _ => rfl
  have FnQu_ := fun_mk (st := top 37) lQu_ cQu_ kQu_
  have BnQu_ := FnQu_.binds (ps := ["panes", "last"]) fun _ _ _ _ _ _ us hl => match us, hl with | [_, _], _ => rfl
  have FnSe_ := fun_mk (st := top 38) lSe_ cSe_ kSe_
  have BnSe_ := FnSe_.binds (ps := ["high", "low", "count"]) fun _ _ _ _ _ _ us hl => match us, hl with | [_, _, _], _ => rfl
  have FnDn_ := fun_mk (st := top 39) lDn_ cDn_ kDn_
  have BnDn_ := FnDn_.binds (ps := ["pool"]) fun _ _ _ _ _ _ us hl => match us, hl with | [_], _ => rfl
  have FnEc_ := fun_mk (st := top 40) lEc_ cEc_ kEc_
  have BnEc_ := FnEc_.binds (ps := ["panes", "last", "at"]) fun _ _ _ _ _ _ us hl => match us, hl with | [_, _, _], _ => rfl
  have FnRf_ := fun_mk (st := top 41) lRf_ cRf_ kRf_
  have BnRf_ := FnRf_.binds (ps := ["deed"]) fun _ _ _ _ _ _ us hl => match us, hl with | [_], _ => rfl
  have FnOp_ := fun_mk (st := top 44) lOp_ cOp_ kOp_
  have BnOp_ := FnOp_.binds (ps := ["pool", "passed", "panes", "told", "middle", "reach", "way"]) fun _ _ _ _ _ _ us hl => match us, hl with | [_, _, _, _, _, _, _], _ => rfl
  have FnLa_ := fun_mk (st := top 46) lLa_ cLa_ kLa_
  have FnPs_ : FunC K "_law_peels" "_law_peels" (top 42) fPs _ c1 := ⟨⟨_, _, _, _, _, _, _, _, rfl, lPs_, cPs_⟩, kPs_⟩
  have BnPs_ := (fun_mk (st := top 42) lPs_ cPs_ kPs_).binds (ps := ["numbers", "panes", "last"]) fun _ _ _ _ _ _ us hl => match us, hl with | [_, _, _], _ => rfl
  have FnBa_ : FunC K "_law_barred" "_law_barred" (top 43) fBa _ c2 := ⟨⟨_, _, _, _, _, _, _, _, rfl, lBa_, cBa_⟩, kBa_⟩
  have BnBa_ := (fun_mk (st := top 43) lBa_ cBa_ kBa_).binds (ps := ["passed", "number", "way"]) fun _ _ _ _ _ _ us hl => match us, hl with | [_, _, _], _ => rfl
  have FnLg_ : FunC K "_law_long" "_law_long" (top 45) fLg _ c3 := ⟨⟨_, _, _, _, _, _, _, _, rfl, lLg_, cLg_⟩, kLg_⟩
  have BnLg_ := (fun_mk (st := top 45) lLg_ cLg_ kLg_).binds (ps := ["last"]) fun _ _ _ _ _ _ us hl => match us, hl with | [_], _ => rfl
  have FnI : FunD K "__init__" "Frac.__init__" (defArgs sInit) (defBody sInit) (defScope sInit) [.int 0, .int 1] [] A.init _ := ⟨⟨_, _, _, _, _, _, _, _, _, _, rfl, l_init, c_init, .inr ⟨fun z => (nomatch z), Td, _, _, _, rfl, lTd, rfl, .cons ⟨_, rfl⟩ (.cons ⟨_, rfl⟩ .nil)⟩, .inl rfl⟩, k_init⟩
  have tw : ∀ {R : Addr × Addr → Prop}, R (c1, P1) → R (c2, P2) → R (c3, P3) → ∀ p ∈ [(c1, P1), (c2, P2), (c3, P3)], R p := fun h1 h2 h3 p hp => by
    rcases List.mem_cons.mp hp with z | hp
    · rw [z]; exact h1
    · rcases List.mem_cons.mp hp with z | hp
      · rw [z]; exact h2
      · rw [List.mem_singleton.mp hp]; exact h3
  refine ⟨PySem.W.fnOf "law" "law" (defArgs (top 46)) (defBody (top 46)) (defScope (top 46)) .none kVLa_ dcLa_ pmLa_ anLa_ cdLa_ ctLa_, [(c1, P1), (c2, P2), (c3, P3)], spLaw (Tt P1 P2 P3 c1 c2 c3) K, tw ht1 ht2 ht3, tw nl1 nl2 nl3, tw (PySem.W.codeHd_of_K X ch1) (PySem.W.codeHd_of_K X ch2) (PySem.W.codeHd_of_K X ch3), fun s v => .of_eq rfl, fun H a ns hl _ hH hS => ⟨a, ns, rfl, hS, hl, fun p hp => ?_, fun H' => rfl⟩, fun base _ _ TB => ?_⟩
  · have m1 := hH (c1, P1) (List.Mem.head _)
    have m2 := hH (c2, P2) (List.Mem.tail _ (List.Mem.head _))
    have m3 := hH (c3, P3) (List.Mem.tail _ (List.Mem.tail _ (List.Mem.head _)))
    unfold Tt at hp
    rcases List.mem_cons.mp hp with z | hp
    · rw [z]; exact TabS.nil m1
    · rcases List.mem_cons.mp hp with z | hp
      · rw [z]; exact TabS.nil m2
      · rw [List.mem_singleton.mp hp]; exact TabS.nil m3
  have L1 := lamF1 (c2 := c2) (c3 := c3) ne12 ne13 ne23 (TB (c1, P1) (List.Mem.head _))
  have L2_ := lamF2 (c1 := c1) (c3 := c3) ne12 ne13 ne23 (TB (c2, P2) (List.Mem.tail _ (List.Mem.head _)))
  have L3 := lamF3 (c1 := c1) (c2 := c2) ne12 ne13 ne23 (TB (c3, P3) (List.Mem.tail _ (List.Mem.tail _ (List.Mem.head _))))
  have M : MkF l.prog w K mg base A := mkF FnI ⟨mk, a_init, i_init, kc⟩ T
  have c_isnumC : Cal l.prog w K mg base 1 A.isnum ["value"] (spIsNum A) := ⟨⟨_, ok_isnum Fn_isnum T, Bn_isnum⟩, k_isnum⟩
  have c_wqC : Cal l.prog w K mg base 1 A.wq ["first", "second"] (spWq A) := ⟨⟨_, ok_wq Fn_wq T, Bn_wq⟩, k_wq⟩
  have c_of_C : Cal l.prog w K mg base 3 A.of_ ["value"] (spOf A) := ⟨⟨_, ok_of Fn_of_ T M, Bn_of_⟩, k_of_⟩
  have c_addC : Cal l.prog w K mg base 3 A.add ["self", "other"] (spB A fadd) := ⟨⟨_, ok_add Fn_add T M c_isnumC, Bn_add⟩, k_add⟩
  have c_subC : Cal l.prog w K mg base 3 A.sub ["self", "other"] (spB A fsub) := ⟨⟨_, ok_sub Fn_sub T M c_isnumC, Bn_sub⟩, k_sub⟩
  have c_mulC : Cal l.prog w K mg base 3 A.mul ["self", "other"] (spB A fmul) := ⟨⟨_, ok_mul Fn_mul T M c_isnumC, Bn_mul⟩, k_mul⟩
  have c_negC : Cal l.prog w K mg base 3 A.neg ["self"] (spU A fneg) := ⟨⟨_, ok_neg Fn_neg T M, Bn_neg⟩, k_neg⟩
  have c_absC : Cal l.prog w K mg base 3 A.abs ["self"] (spU A fabs) := ⟨⟨_, ok_abs Fn_abs T M (gn n_abs), Bn_abs⟩, k_abs⟩
  have c_raddC : Cal l.prog w K mg base 4 A.radd ["self", "other"] (spB A fun p q => fadd q p) := ⟨⟨_, ok_radd Fn_radd T c_isnumC Badd c_addC, Bn_radd⟩, k_radd⟩
  have c_rmulC : Cal l.prog w K mg base 4 A.rmul ["self", "other"] (spB A fun p q => fmul q p) := ⟨⟨_, ok_rmul Fn_rmul T c_isnumC Bmul c_mulC, Bn_rmul⟩, k_rmul⟩
  have c_rsubC : Cal l.prog w K mg base 4 A.rsub ["self", "other"] (spB A fun p q => fsub q p) := ⟨⟨_, ok_rsub Fn_rsub T c_isnumC Badd c_addC Uneg c_negC, Bn_rsub⟩, k_rsub⟩
  have c_floC : Cal l.prog w K mg base 4 A.flo ["self", "other"] (spFlo A) := ⟨⟨_, ok_flo Fn_flo T S c_of_C c_isnumC c_wqC, Bn_flo⟩, k_flo⟩
  have c_rfloC : Cal l.prog w K mg base 4 A.rflo ["self", "other"] (spRflo A) := ⟨⟨_, ok_rflo Fn_rflo T S c_of_C c_isnumC c_wqC, Bn_rflo⟩, k_rflo⟩
  have c_modC : Cal l.prog w K mg base 4 A.mod ["self", "other"] (spMod A) := ⟨⟨_, ok_mod Fn_mod T S c_of_C c_isnumC c_wqC Bsub c_subC Bmul c_mulC, Bn_mod⟩, k_mod⟩
  have c_rmodC : Cal l.prog w K mg base 5 A.rmod ["self", "other"] (spRmod A) := ⟨⟨_, ok_rmod Fn_rmod T S c_of_C c_isnumC c_wqC Rsub c_rsubC Bmul c_mulC, Bn_rmod⟩, k_rmod⟩
  have c_powC : Cal l.prog w K mg base 3 A.pow ["self", "other"] (spPow A) := ⟨⟨_, ok_pow Fn_pow T M (gn n_range) ⟨_, g amp⟩, Bn_pow⟩, k_pow⟩
  have c_boolC : Cal l.prog w K mg base 1 A.bool ["self"] (spBool A) := ⟨⟨_, ok_bool Fn_bool T (gn n_bool), Bn_bool⟩, k_bool⟩
  have c_strC : Cal l.prog w K mg base 1 A.str ["self"] (spStr A) := ⟨⟨_, ok_str Fn_str T (gn n_str), Bn_str⟩, k_str⟩
  have c_eqC : Cal l.prog w K mg base 1 A.eq ["self", "other"] (spC A ceq) := ⟨⟨_, ok_eq Fn_eq T, Bn_eq⟩, k_eq⟩
  have c_ltC : Cal l.prog w K mg base 4 A.lt ["self", "other"] (spC A clt) := ⟨⟨_, ok_lt Fn_lt T S c_of_C c_isnumC, Bn_lt⟩, k_lt⟩
  have c_leC : Cal l.prog w K mg base 4 A.le ["self", "other"] (spC A cle) := ⟨⟨_, ok_le Fn_le T S c_of_C c_isnumC, Bn_le⟩, k_le⟩
  have c_gtC : Cal l.prog w K mg base 4 A.gt ["self", "other"] (spC A cgt) := ⟨⟨_, ok_gt Fn_gt T S c_of_C c_isnumC, Bn_gt⟩, k_gt⟩
  have c_geC : Cal l.prog w K mg base 4 A.ge ["self", "other"] (spC A cge) := ⟨⟨_, ok_ge Fn_ge T S c_of_C c_isnumC, Bn_ge⟩, k_ge⟩
  have c_overC : Cal l.prog w K mg base 4 A.over ["self", "b"] (spOver A) := ⟨⟨_, ok_over Fn_over T S c_of_C M, Bn_over⟩, k_over⟩
  have F_ : FA l.prog w K mg base A := { T := T, M := M, S := S, O := c_of_C, bAdd := Badd, cAdd := c_addC, rAdd := Radd, cRadd := c_raddC, bSub := Bsub, cSub := c_subC, rSub := Rsub, cRsub := c_rsubC, bMul := Bmul, cMul := c_mulC, rMul := Rmul, cRmul := c_rmulC, bFlo := Bflo, cFlo := c_floC, rFlo := Rflo, cRflo := c_rfloC, bMod := Bmod, cMod := c_modC, rMod := Rmod, cRmod := c_rmodC, bPow := Bpow, cPow := c_powC, uNeg := Uneg, cNeg := c_negC, uAbs := Uabs, cAbs := c_absC, uBool := Ubool, cBool := c_boolC, uStr := Ustr, cStr := c_strC, kEq := Keq, cEq := c_eqC, kLt := Klt, cLt := c_ltC, kLe := Kle, cLe := c_leC, kGt := Kgt, cGt := c_gtC, kGe := Kge, cGe := c_geC, kNe := ⟨a_eq, i_eq, ne, cm, su2, su1⟩, mOver := ⟨a_over, i_over, k_over⟩, cOver := c_overC, noIn := ⟨⟨_, lC, rfl⟩, iaC, iaO, iaI⟩, ab := gn n_abs, all := gn n_all }
  have XB : XcF l.prog w K mg base A.B "BadCount" "count" := ⟨oxB, ⟨fIB, iB, tB, ⟨⟨_, ok_BcI FnIB oxB xnB, BnIB⟩, kIB⟩⟩, g aB⟩
  have XN : XcF l.prog w K mg base Nx "NoEcho" "index" := ⟨oxN, ⟨fIN, iN, tN, ⟨⟨_, ok_NeI FnIN oxN xnN, BnIN⟩, kIN⟩⟩, g aN⟩
  have CCc : Cal l.prog w K mg base 3 fCc ["count", "low", "high"] (spCc A.B) := ⟨⟨_, ok_cc FnCc_ XB, BnCc_⟩, kCc_⟩
  have LCc : LF l.prog w K mg base "check_count" 3 ["count", "low", "high"] (spCc A.B) := ⟨fCc, g aCc_, CCc⟩
  have CFo : Cal l.prog w K mg base 4 fFo ["numbers"] (spFof K A) := ⟨⟨_, ok_fof FnFo_ T S c_of_C, BnFo_⟩, kFo_⟩
  have LFo : LF l.prog w K mg base "fracs_of" 4 ["numbers"] (spFof K A) := ⟨fFo, g aFo_, CFo⟩
  have CIp : Cal l.prog w K mg base 5 fIp ["number"] (spIp A) := ⟨⟨_, ok_ip FnIp_ F_, BnIp_⟩, kIp_⟩
  have LIp : LF l.prog w K mg base "is_pane" 5 ["number"] (spIp A) := ⟨fIp, g aIp_, CIp⟩
  have CEo : Cal l.prog w K mg base 6 fEo ["pane", "top", "bottom", "count", "index"] (spEo A Nx) := ⟨⟨_, ok_eo FnEo_ F_ XN (gn n_range), BnEo_⟩, kEo_⟩
  have LEo : LF l.prog w K mg base "_end_of" 6 ["pane", "top", "bottom", "count", "index"] (spEo A Nx) := ⟨fEo, g aEo_, CEo⟩
  have CPd : Cal l.prog w K mg base 7 fPd ["numbers", "count"] (spPd A Nx) := ⟨⟨_, ok_pd FnPd_ F_ LIp LEo (gn n_len) (gn n_list) (gn n_zip), BnPd_⟩, kPd_⟩
  have LPd : LF l.prog w K mg base "_peeled" 7 ["numbers", "count"] (spPd A Nx) := ⟨fPd, g aPd_, CPd⟩
  have CPl : Cal l.prog w K mg base 8 fPl ["numbers"] (spPl K A A.B Nx) := ⟨⟨_, ok_pl FnPl_ LCc LFo LPd (gn n_len) (gn n_tuple) ⟨_, g amn⟩, BnPl_⟩, kPl_⟩
  have LPl : LF l.prog w K mg base "peel" 8 ["numbers"] (spPl K A A.B Nx) := ⟨fPl, g aPl_, CPl⟩
  have CNs : Cal l.prog w K mg base 8 fNs ["numbers"] (spNs K A A.B Nx) := ⟨⟨_, ok_ns FnNs_ F_ LCc LFo LPd (gn n_len) (gn n_tuple) ⟨_, g amn⟩, BnNs_⟩, kNs_⟩
  have LNs : LF l.prog w K mg base "next_stretch" 8 ["numbers"] (spNs K A A.B Nx) := ⟨fNs, g aNs_, CNs⟩
  have CPo : Cal l.prog w K mg base 1 fPo ["script"] (spPool K) := ⟨⟨_, ok_pool FnPo_ (gn n_int), BnPo_⟩, kPo_⟩
  have LPo : LF l.prog w K mg base "_law_pool" 1 ["script"] (spPool K) := ⟨fPo, g aPo_, CPo⟩
  have CDr : Cal l.prog w K mg base 1 fDr ["pool", "base"] spDraw := ⟨⟨_, ok_draw FnDr_ (gn n_len) (gn n_int), BnDr_⟩, kDr_⟩
  have LDr : LF l.prog w K mg base "_law_draw" 1 ["pool", "base"] spDraw := ⟨fDr, g aDr_, CDr⟩
  have CGc : Cal l.prog w K mg base 1 fGc ["one", "two"] spGcd := ⟨⟨_, ok_gcd FnGc_ (gn n_abs) (gn n_int), BnGc_⟩, kGc_⟩
  have LGc : LF l.prog w K mg base "_law_gcd" 1 ["one", "two"] spGcd := ⟨fGc, g aGc_, CGc⟩
  have CLo : Cal l.prog w K mg base 2 fLo ["top", "bottom"] spLowK := ⟨⟨_, ok_lowK FnLo_ LGc, BnLo_⟩, kLo_⟩
  have LLo : LF l.prog w K mg base "_law_low" 2 ["top", "bottom"] spLowK := ⟨fLo, g aLo_, CLo⟩
  have CAd : Cal l.prog w K mg base 3 fAd ["x", "y"] spAddK := ⟨⟨_, ok_spAddK FnAd_ LLo, BnAd_⟩, kAd_⟩
  have LAd : LF l.prog w K mg base "_law_add" 3 ["x", "y"] spAddK := ⟨fAd, g aAd_, CAd⟩
  have CMu : Cal l.prog w K mg base 3 fMu ["x", "y"] spMulK := ⟨⟨_, ok_spMulK FnMu_ LLo, BnMu_⟩, kMu_⟩
  have LMu : LF l.prog w K mg base "_law_mul" 3 ["x", "y"] spMulK := ⟨fMu, g aMu_, CMu⟩
  have CWh : Cal l.prog w K mg base 1 fWh ["x"] (spWh A) := ⟨⟨_, ok_wh FnWh_ T (gn n_bool), BnWh_⟩, kWh_⟩
  have LWh : LF l.prog w K mg base "_law_whole" 1 ["x"] (spWh A) := ⟨fWh, g aWh_, CWh⟩
  have CPa : Cal l.prog w K mg base 2 fPa ["told"] (spPr A) := ⟨⟨_, ok_pr FnPa_ T LWh LGc, BnPa_⟩, kPa_⟩
  have LPa : LF l.prog w K mg base "_law_pair" 2 ["told"] (spPr A) := ⟨fPa, g aPa_, CPa⟩
  have CRo : Cal l.prog w K mg base 3 fRo ["told", "due", "tied"] (spRow A) := ⟨⟨_, ok_row FnRo_ LPa (gn n_isinstance) (gn n_tuple) (gn n_list) (gn n_len) (gn n_range), BnRo_⟩, kRo_⟩
  have LRo : LF l.prog w K mg base "_law_row" 3 ["told", "due", "tied"] (spRow A) := ⟨fRo, g aRo_, CRo⟩
  have CNu : Cal l.prog w K mg base 3 fNu ["pair", "way"] (spNu A) := ⟨⟨_, ok_nu FnNu_ T M, BnNu_⟩, kNu_⟩
  have LNu : LF l.prog w K mg base "_law_number" 3 ["pair", "way"] (spNu A) := ⟨fNu, g aNu_, CNu⟩
  have CSt : Cal l.prog w K mg base 3 fSt ["passed", "pairs"] (spStay A) := ⟨⟨_, ok_stay FnSt_ LPa LWh (gn n_len) (gn n_range), BnSt_⟩, kSt_⟩
  have LSt : LF l.prog w K mg base "_law_stayed" 3 ["passed", "pairs"] (spStay A) := ⟨fSt, g aSt_, CSt⟩
  have CNb : Cal l.prog w K mg base 4 fNb ["pairs", "way"] (spNbs A) := ⟨⟨_, ok_nbs FnNb_ LNu, BnNb_⟩, kNb_⟩
  have LNb : LF l.prog w K mg base "_law_numbers" 4 ["pairs", "way"] (spNbs A) := ⟨fNb, g aNb_, CNb⟩
  have CQu : Cal l.prog w K mg base 2 fQu ["panes", "last"] spQuo := ⟨⟨_, ok_quo FnQu_ LGc (gn n_len) (gn n_range), BnQu_⟩, kQu_⟩
  have LQu : LF l.prog w K mg base "_law_quotient" 2 ["panes", "last"] spQuo := ⟨fQu, g aQu_, CQu⟩
  have CSe : Cal l.prog w K mg base 3 fSe ["high", "low", "count"] spSer := ⟨⟨_, ok_ser FnSe_ LLo (gn n_len) (gn n_range), BnSe_⟩, kSe_⟩
  have LSe : LF l.prog w K mg base "_law_series" 3 ["high", "low", "count"] spSer := ⟨fSe, g aSe_, CSe⟩
  have CDn : Cal l.prog w K mg base 3 fDn ["pool"] spDrawn := ⟨⟨_, ok_drawn FnDn_ LDr LLo (gn n_int) (gn n_range), BnDn_⟩, kDn_⟩
  have LDn : LF l.prog w K mg base "_law_drawn" 3 ["pool"] spDrawn := ⟨fDn, g aDn_, CDn⟩
  have CEc : Cal l.prog w K mg base 4 fEc ["panes", "last", "at"] spEcho := ⟨⟨_, ok_echo FnEc_ LQu LSe, BnEc_⟩, kEc_⟩
  have LEc : LF l.prog w K mg base "_law_echo" 4 ["panes", "last", "at"] spEcho := ⟨fEc, g aEc_, CEc⟩
  have RD : RfD l.prog w K mg base Nx A.B A.W := ⟨ER_, (gn n_isinstance), ⟨fWh, g aWh_, ⟨⟨_, ok_whZ FnWh_ (gn n_isinstance) (gn n_int) (gn n_bool), BnWh_⟩, kWh_⟩⟩, ⟨fRf, _, g aRf_, FnRf_, BnRf_⟩⟩
  have CPs : Cal l.prog w K mg base 14 fPs ["numbers", "panes", "last"] (spPls (Tt P1 P2 P3 c1 c2 c3) A) := ⟨⟨_, ok_pls FnPs_ L1 RD LPl LRo LWh (gn n_tuple) (gn n_len), BnPs_⟩, kPs_⟩
  have LPs : LF l.prog w K mg base "_law_peels" 14 ["numbers", "panes", "last"] (spPls (Tt P1 P2 P3 c1 c2 c3) A) := ⟨fPs, g aPs_, CPs⟩
  have CBa : Cal l.prog w K mg base 14 fBa ["passed", "number", "way"] (spBar (Tt P1 P2 P3 c1 c2 c3) A) := ⟨⟨_, ok_bar FnBa_ L2_ RD F_ LPl LNs LNu (gn n_tuple) (gn n_len), BnBa_⟩, kBa_⟩
  have LBa : LF l.prog w K mg base "_law_barred" 14 ["passed", "number", "way"] (spBar (Tt P1 P2 P3 c1 c2 c3) A) := ⟨fBa, g aBa_, CBa⟩
  have COp : Cal l.prog w K mg base 15 fOp ["pool", "passed", "panes", "told", "middle", "reach", "way"] (spOpn (Tt P1 P2 P3 c1 c2 c3) A) := ⟨⟨_, ok_opn FnOp_ LPs LDr LLo LNu LAd LMu LEc LRo LNs (gn n_tuple) (gn n_len) (gn n_range), BnOp_⟩, kOp_⟩
  have LOp : LF l.prog w K mg base "_law_open" 15 ["pool", "passed", "panes", "told", "middle", "reach", "way"] (spOpn (Tt P1 P2 P3 c1 c2 c3) A) := ⟨fOp, g aOp_, COp⟩
  have CLg : Cal l.prog w K mg base 14 fLg ["last"] (spLng (Tt P1 P2 P3 c1 c2 c3)) := ⟨⟨_, ok_lng FnLg_ L3 RD F_ LNs LRo (gn n_tuple) (gn n_range), BnLg_⟩, kLg_⟩
  have LLg : LF l.prog w K mg base "_law_long" 14 ["last"] (spLng (Tt P1 P2 P3 c1 c2 c3)) := ⟨fLg, g aLg_, CLg⟩
  exact ok_law FnLa_ LPo LDn LDr LQu LSe LNb LMu LEc LAd LNs LRo LSt LPs LOp LBa LLg (gn n_int) (gn n_tuple) (gn n_len)
theorem all_mk {l : PySem.W.OpenLaw} {w : World} {K : PySem.W.Frag} {h : Heap} {mg : Str → Option Value} {fa Nx : Addr} {F_C F_Z F_B F_W F_init F_add F_radd F_sub F_rsub F_mul F_rmul F_flo F_rflo F_mod F_rmod F_pow F_neg F_abs F_bool F_eq F_lt F_le F_gt F_ge F_str F_over F_of_ F_isnum F_wq F_pOf : Addr} (X : K.In h) (G : h.Ns mainGlobals mg) (hfa : mg "law" = some (.ref fa))
    {tkP tk0 tk1 : Tok} {nmC bsC nsC qC hdC snC sbC abC coC dlC} {oi_add oj_add : Option Value} {oi_sub oj_sub : Option Value} {oi_mul oj_mul : Option Value} {oi_flo oj_flo : Option Value} {oi_mod oj_mod : Option Value} {oi_pow oj_pow : Option Value} {tkQ : Tok} {nmB qBx NTB bsB bmB snB sbB abB coB ddB k0B k1B k2B k3B k5B} {fIB : Addr} {nmN qNx NTN bsN bmN snN sbN abN coN ddN k0N k1N k2N k3N k5N} {fIN : Addr} {odIB anIB : Option Addr} {slIB : Array (Option Value)} {ocIB kVIB dcIB pmIB cdIB ctIB : Value} {odIN anIN : Option Addr} {slIN : Array (Option Value)} {ocIN kVIN dcIN pmIN cdIN ctIN : Value} {Td : Addr} {ocTd : Value} {odTd : Option Addr} {nTd : Nat} {slTd : Array (Option Value)} {od_init an_init : Option Addr} {sl_init : Array (Option Value)} {oc_init kV_init dc_init pm_init cd_init ct_init : Value} {od_add an_add : Option Addr} {sl_add : Array (Option Value)} {oc_add kV_add dc_add pm_add cd_add ct_add : Value} {od_radd an_radd : Option Addr} {sl_radd : Array (Option Value)} {oc_radd kV_radd dc_radd pm_radd cd_radd ct_radd : Value} {od_sub an_sub : Option Addr} {sl_sub : Array (Option Value)} {oc_sub kV_sub dc_sub pm_sub cd_sub ct_sub : Value} {od_rsub an_rsub : Option Addr} {sl_rsub : Array (Option Value)} {oc_rsub kV_rsub dc_rsub pm_rsub cd_rsub ct_rsub : Value} {od_mul an_mul : Option Addr} {sl_mul : Array (Option Value)} {oc_mul kV_mul dc_mul pm_mul cd_mul ct_mul : Value} {od_rmul an_rmul : Option Addr} {sl_rmul : Array (Option Value)} {oc_rmul kV_rmul dc_rmul pm_rmul cd_rmul ct_rmul : Value} {od_flo an_flo : Option Addr} {sl_flo : Array (Option Value)} {oc_flo kV_flo dc_flo pm_flo cd_flo ct_flo : Value} {od_rflo an_rflo : Option Addr} {sl_rflo : Array (Option Value)} {oc_rflo kV_rflo dc_rflo pm_rflo cd_rflo ct_rflo : Value} {od_mod an_mod : Option Addr} {sl_mod : Array (Option Value)} {oc_mod kV_mod dc_mod pm_mod cd_mod ct_mod : Value} {od_rmod an_rmod : Option Addr} {sl_rmod : Array (Option Value)} {oc_rmod kV_rmod dc_rmod pm_rmod cd_rmod ct_rmod : Value} {od_pow an_pow : Option Addr} {sl_pow : Array (Option Value)} {oc_pow kV_pow dc_pow pm_pow cd_pow ct_pow : Value} {od_neg an_neg : Option Addr} {sl_neg : Array (Option Value)} {oc_neg kV_neg dc_neg pm_neg cd_neg ct_neg : Value} {od_abs an_abs : Option Addr} {sl_abs : Array (Option Value)} {oc_abs kV_abs dc_abs pm_abs cd_abs ct_abs : Value} {od_bool an_bool : Option Addr} {sl_bool : Array (Option Value)} {oc_bool kV_bool dc_bool pm_bool cd_bool ct_bool : Value} {od_eq an_eq : Option Addr} {sl_eq : Array (Option Value)} {oc_eq kV_eq dc_eq pm_eq cd_eq ct_eq : Value} {od_lt an_lt : Option Addr} {sl_lt : Array (Option Value)} {oc_lt kV_lt dc_lt pm_lt cd_lt ct_lt : Value} {od_le an_le : Option Addr} {sl_le : Array (Option Value)} {oc_le kV_le dc_le pm_le cd_le ct_le : Value} {od_gt an_gt : Option Addr} {sl_gt : Array (Option Value)} {oc_gt kV_gt dc_gt pm_gt cd_gt ct_gt : Value} {od_ge an_ge : Option Addr} {sl_ge : Array (Option Value)} {oc_ge kV_ge dc_ge pm_ge cd_ge ct_ge : Value} {od_str an_str : Option Addr} {sl_str : Array (Option Value)} {oc_str kV_str dc_str pm_str cd_str ct_str : Value} {od_over an_over : Option Addr} {sl_over : Array (Option Value)} {oc_over kV_over dc_over pm_over cd_over ct_over : Value} {rest_of_ : List Value} {od_of_ an_of_ : Option Addr} {sl_of_ : Array (Option Value)} {oc_of_ kV_of_ dc_of_ pm_of_ cd_of_ ct_of_ : Value} {od_isnum an_isnum : Option Addr} {sl_isnum : Array (Option Value)} {oc_isnum kV_isnum dc_isnum pm_isnum cd_isnum ct_isnum : Value} {od_wq an_wq : Option Addr} {sl_wq : Array (Option Value)} {oc_wq kV_wq dc_wq pm_wq cd_wq ct_wq : Value} {fCc : Addr} {odCc_ anCc_ : Option Addr} {slCc_ : Array (Option Value)} {ocCc_ kVCc_ dcCc_ pmCc_ cdCc_ ctCc_ : Value} {fFo : Addr} {odFo_ anFo_ : Option Addr} {slFo_ : Array (Option Value)} {ocFo_ kVFo_ dcFo_ pmFo_ cdFo_ ctFo_ : Value} {fIp : Addr} {odIp_ anIp_ : Option Addr} {slIp_ : Array (Option Value)} {ocIp_ kVIp_ dcIp_ pmIp_ cdIp_ ctIp_ : Value} {fPl : Addr} {odPl_ anPl_ : Option Addr} {slPl_ : Array (Option Value)} {ocPl_ kVPl_ dcPl_ pmPl_ cdPl_ ctPl_ : Value} {fNs : Addr} {odNs_ anNs_ : Option Addr} {slNs_ : Array (Option Value)} {ocNs_ kVNs_ dcNs_ pmNs_ cdNs_ ctNs_ : Value} {fPd : Addr} {odPd_ anPd_ : Option Addr} {slPd_ : Array (Option Value)} {ocPd_ kVPd_ dcPd_ pmPd_ cdPd_ ctPd_ : Value} {fEo : Addr} {odEo_ anEo_ : Option Addr} {slEo_ : Array (Option Value)} {ocEo_ kVEo_ dcEo_ pmEo_ cdEo_ ctEo_ : Value} {fPo : Addr} {odPo_ anPo_ : Option Addr} {slPo_ : Array (Option Value)} {ocPo_ kVPo_ dcPo_ pmPo_ cdPo_ ctPo_ : Value} {fDr : Addr} {odDr_ anDr_ : Option Addr} {slDr_ : Array (Option Value)} {ocDr_ kVDr_ dcDr_ pmDr_ cdDr_ ctDr_ : Value} {fGc : Addr} {odGc_ anGc_ : Option Addr} {slGc_ : Array (Option Value)} {ocGc_ kVGc_ dcGc_ pmGc_ cdGc_ ctGc_ : Value} {fLo : Addr} {odLo_ anLo_ : Option Addr} {slLo_ : Array (Option Value)} {ocLo_ kVLo_ dcLo_ pmLo_ cdLo_ ctLo_ : Value} {fAd : Addr} {odAd_ anAd_ : Option Addr} {slAd_ : Array (Option Value)} {ocAd_ kVAd_ dcAd_ pmAd_ cdAd_ ctAd_ : Value} {fMu : Addr} {odMu_ anMu_ : Option Addr} {slMu_ : Array (Option Value)} {ocMu_ kVMu_ dcMu_ pmMu_ cdMu_ ctMu_ : Value} {fWh : Addr} {odWh_ anWh_ : Option Addr} {slWh_ : Array (Option Value)} {ocWh_ kVWh_ dcWh_ pmWh_ cdWh_ ctWh_ : Value} {fPa : Addr} {odPa_ anPa_ : Option Addr} {slPa_ : Array (Option Value)} {ocPa_ kVPa_ dcPa_ pmPa_ cdPa_ ctPa_ : Value} {fRo : Addr} {odRo_ anRo_ : Option Addr} {slRo_ : Array (Option Value)} {ocRo_ kVRo_ dcRo_ pmRo_ cdRo_ ctRo_ : Value} {fNu : Addr} {odNu_ anNu_ : Option Addr} {slNu_ : Array (Option Value)} {ocNu_ kVNu_ dcNu_ pmNu_ cdNu_ ctNu_ : Value} {fSt : Addr} {odSt_ anSt_ : Option Addr} {slSt_ : Array (Option Value)} {ocSt_ kVSt_ dcSt_ pmSt_ cdSt_ ctSt_ : Value} {fNb : Addr} {odNb_ anNb_ : Option Addr} {slNb_ : Array (Option Value)} {ocNb_ kVNb_ dcNb_ pmNb_ cdNb_ ctNb_ : Value} {fQu : Addr} {odQu_ anQu_ : Option Addr} {slQu_ : Array (Option Value)} {ocQu_ kVQu_ dcQu_ pmQu_ cdQu_ ctQu_ : Value} {fSe : Addr} {odSe_ anSe_ : Option Addr} {slSe_ : Array (Option Value)} {ocSe_ kVSe_ dcSe_ pmSe_ cdSe_ ctSe_ : Value} {fDn : Addr} {odDn_ anDn_ : Option Addr} {slDn_ : Array (Option Value)} {ocDn_ kVDn_ dcDn_ pmDn_ cdDn_ ctDn_ : Value} {fEc : Addr} {odEc_ anEc_ : Option Addr} {slEc_ : Array (Option Value)} {ocEc_ kVEc_ dcEc_ pmEc_ cdEc_ ctEc_ : Value} {fRf : Addr} {odRf_ anRf_ : Option Addr} {slRf_ : Array (Option Value)} {ocRf_ kVRf_ dcRf_ pmRf_ cdRf_ ctRf_ : Value} {fOp : Addr} {odOp_ anOp_ : Option Addr} {slOp_ : Array (Option Value)} {ocOp_ kVOp_ dcOp_ pmOp_ cdOp_ ctOp_ : Value} {fLa : Addr} {odLa_ anLa_ : Option Addr} {slLa_ : Array (Option Value)} {ocLa_ kVLa_ dcLa_ pmLa_ cdLa_ ctLa_ : Value} {fPs c1 P1 : Addr} {odPs_ anPs_ : Option Addr} {slPs_ : Array (Option Value)} {ocPs_ kVPs_ dcPs_ pmPs_ ctPs_ : Value} {fBa c2 P2 : Addr} {odBa_ anBa_ : Option Addr} {slBa_ : Array (Option Value)} {ocBa_ kVBa_ dcBa_ pmBa_ ctBa_ : Value} {fLg c3 P3 : Addr} {odLg_ anLg_ : Option Addr} {slLg_ : Array (Option Value)} {ocLg_ kVLg_ dcLg_ pmLg_ ctLg_ : Value}
    (aC : PySem.W.nsIn K mainGlobals "Frac" = some (some (.ref F_C)))
    (aZ : PySem.W.nsIn K mainGlobals "DivisionByZero" = some (some (.ref F_Z)))
    (aB : PySem.W.nsIn K mainGlobals "BadCount" = some (some (.ref F_B)))
    (aW : PySem.W.nsIn K mainGlobals "WebError" = some (some (.ref F_W)))
    (agcd : PySem.W.nsIn K mainGlobals "gcd" = some (some (.builtin "math.gcd")))
    (amp : PySem.W.nsIn K mainGlobals "MOST_POWER" = some (some (.int 64 tkP)))
    (n_isinstance : PySem.W.nsIn K mainGlobals "isinstance" = some none)
    (n_int : PySem.W.nsIn K mainGlobals "int" = some none)
    (n_all : PySem.W.nsIn K mainGlobals "all" = some none)
    (n_abs : PySem.W.nsIn K mainGlobals "abs" = some none)
    (n_bool : PySem.W.nsIn K mainGlobals "bool" = some none)
    (n_len : PySem.W.nsIn K mainGlobals "len" = some none)
    (n_str : PySem.W.nsIn K mainGlobals "str" = some none)
    (n_range : PySem.W.nsIn K mainGlobals "range" = some none)
    (n_ValueError : PySem.W.nsIn K mainGlobals "ValueError" = some none)
    (pg : PySem.W.plainGet K F_C Str.empty = true)
    (hd : PySem.W.hasDictIn K F_C = true)
    (po : PySem.W.plainOver K F_C = true)
    (sa : PySem.W.findIn K (.ref F_C) "__setattr__" = some (some (.builtin "object.__setattr__")))
    (mk : PySem.W.makesIn K F_C = true)
    (kc : PySem.W.keepIn K (.ref F_C) = true)
    (nN : PySem.W.findIn K (.ref F_C) "num" = some none)
    (nD : PySem.W.findIn K (.ref F_C) "den" = some none)
    (ca : PySem.W.findIn K (.ref F_C) "__class__" = some (some (.builtin "object.__class__")))
    (cg : PySem.W.specialIn K (.builtin "object.__class__") "__get__" = some (some (.builtin "getset_descriptor.__get__")))
    (ct : PySem.W.takesIn K (.builtin "object.__class__") = some true)
    (cm : PySem.W.mroIn K F_C (.type "object") = some true)
    (isC : PySem.W.isClsIn K F_C = true)
    (tC : PySem.W.typeIn K (.ref F_C) = some (.type "type"))
    (su1 : PySem.W.subIn K (.ref F_C) (.type "int") = some false)
    (su2 : PySem.W.subIn K (.type "int") (.ref F_C) = some false)
    (sf : PySem.W.selfFirst K F_C = true)
    (lC : PySem.W.clsIn K F_C = some { name := nmC, bases := bsC, mro := [(.ref F_C), .type "object"], ns := nsC, qualname := qC, hasDict := hdC, slotNames := snC, subclasses := sbC, abstract := abC, collection := coC, hasDel := dlC })
    (ne : PySem.W.findIn K (.ref F_C) "__ne__" = some (some (.builtin "object.__ne__")))
    (rdC : PySem.W.readsIn K F_C (.type "type") = true)
    (gaC : PySem.W.specialIn K (.ref F_C) "__getattribute__" = some (some (.builtin "type.__getattribute__")))
    (iaC : PySem.W.findIn K (.ref F_C) "__iadd__" = some none)
    (iaO : PySem.W.findIn K (.type "object") "__iadd__" = some none)
    (iaI : PySem.W.findIn K (.type "int") "__iadd__" = some none)
    (rpw : PySem.W.findIn K (.ref F_C) "__rpow__" = some none)
    (i1add : PySem.W.findIn K (.type "int") "__add__" = some oi_add)
    (i2add : PySem.W.findIn K (.type "int") "__radd__" = some oj_add)
    (i1sub : PySem.W.findIn K (.type "int") "__sub__" = some oi_sub)
    (i2sub : PySem.W.findIn K (.type "int") "__rsub__" = some oj_sub)
    (i1mul : PySem.W.findIn K (.type "int") "__mul__" = some oi_mul)
    (i2mul : PySem.W.findIn K (.type "int") "__rmul__" = some oj_mul)
    (i1flo : PySem.W.findIn K (.type "int") "__floordiv__" = some oi_flo)
    (i2flo : PySem.W.findIn K (.type "int") "__rfloordiv__" = some oj_flo)
    (i1mod : PySem.W.findIn K (.type "int") "__mod__" = some oi_mod)
    (i2mod : PySem.W.findIn K (.type "int") "__rmod__" = some oj_mod)
    (i1pow : PySem.W.findIn K (.type "int") "__pow__" = some oi_pow)
    (i2pow : PySem.W.findIn K (.type "int") "__rpow__" = some oj_pow)
    (n_tuple : PySem.W.nsIn K mainGlobals "tuple" = some none)
    (n_list : PySem.W.nsIn K mainGlobals "list" = some none)
    (n_zip : PySem.W.nsIn K mainGlobals "zip" = some none)
    (aN : PySem.W.nsIn K mainGlobals "NoEcho" = some (some (.ref Nx)))
    (amn : PySem.W.nsIn K mainGlobals "MOST_NUMBERS" = some (some (.int 100 tkQ)))
    (xsZ : PySem.W.subIn K (.ref F_Z) (.type "BaseException") = some true)
    (xtZ : PySem.W.typeIn K (.ref F_Z) = some (.type "type"))
    (xeZ : PySem.W.keepIn K (.ref F_Z) = true)
    (xsB : PySem.W.subIn K (.ref F_B) (.type "BaseException") = some true)
    (xtB : PySem.W.typeIn K (.ref F_B) = some (.type "type"))
    (xeB : PySem.W.keepIn K (.ref F_B) = true)
    (xgB : PySem.W.findIn K (.ref F_B) "__getattribute__" = some (some (.builtin "BaseException.__getattribute__")))
    (xkB : PySem.W.findIn K (.ref F_B) "__getattr__" = some none)
    (xhB : PySem.W.hasDictIn K F_B = true)
    (xaB : PySem.W.findIn K (.ref F_B) "__class__" = some (some (.builtin "object.__class__")))
    (xmB : PySem.W.mroIn K F_B (.type "object") = some true)
    (xvB : PySem.W.subIn K (.ref F_B) (.type "ValueError") = some true)
    (xwB : PySem.W.subIn K (.ref F_B) (.ref F_B) = some true)
    (xWB : PySem.W.subIn K (.ref F_B) (.ref F_W) = some true)
    (xlB : K.lookup F_B = some (excClassObj nmB qBx F_B NTB bsB bmB true snB sbB abB coB ddB k0B k1B k2B k3B k5B "ValueError.__new__"))
    (reB : PySem.HandSPX.refsVE bmB = true)
    (saB : PySem.W.findIn K (.ref F_B) "__setattr__" = some (some (.builtin "object.__setattr__")))
    (xnB : PySem.W.findIn K (.ref F_B) "count" = some none)
    (iB : PySem.W.findIn K (.ref F_B) "__init__" = some (some (.ref fIB)))
    (tB : PySem.W.typeIn K (.ref fIB) = some (.type "function"))
    (xsN : PySem.W.subIn K (.ref Nx) (.type "BaseException") = some true)
    (xtN : PySem.W.typeIn K (.ref Nx) = some (.type "type"))
    (xeN : PySem.W.keepIn K (.ref Nx) = true)
    (xgN : PySem.W.findIn K (.ref Nx) "__getattribute__" = some (some (.builtin "BaseException.__getattribute__")))
    (xkN : PySem.W.findIn K (.ref Nx) "__getattr__" = some none)
    (xhN : PySem.W.hasDictIn K Nx = true)
    (xaN : PySem.W.findIn K (.ref Nx) "__class__" = some (some (.builtin "object.__class__")))
    (xmN : PySem.W.mroIn K Nx (.type "object") = some true)
    (xvN : PySem.W.subIn K (.ref Nx) (.type "ValueError") = some true)
    (xwN : PySem.W.subIn K (.ref Nx) (.ref Nx) = some true)
    (xWN : PySem.W.subIn K (.ref Nx) (.ref F_W) = some true)
    (xlN : K.lookup Nx = some (excClassObj nmN qNx Nx NTN bsN bmN true snN sbN abN coN ddN k0N k1N k2N k3N k5N "ValueError.__new__"))
    (reN : PySem.HandSPX.refsVE bmN = true)
    (saN : PySem.W.findIn K (.ref Nx) "__setattr__" = some (some (.builtin "object.__setattr__")))
    (xnN : PySem.W.findIn K (.ref Nx) "index" = some none)
    (iN : PySem.W.findIn K (.ref Nx) "__init__" = some (some (.ref fIN)))
    (tN : PySem.W.typeIn K (.ref fIN) = some (.type "function"))
    (xBN : PySem.W.subIn K (.ref F_B) (.ref Nx) = some false)
    (xNB : PySem.W.subIn K (.ref Nx) (.ref F_B) = some false)
    (kkW : PySem.W.isClsIn K F_W = true)
    (kkB : PySem.W.isClsIn K F_B = true)
    (kkN : PySem.W.isClsIn K Nx = true)
    (ktW : PySem.W.typeIn K (.ref F_W) = some (.type "type"))
    (xZ : PySem.W.excIn K F_Z [.type "ValueError", .type "Exception", .type "BaseException", .type "object"] "ValueError.__new__" = true)
    (lIB : K.lookup fIB = some ⟨ocIB, odIB, .func (PySem.W.fnOf "__init__" "BadCount.__init__" (defArgs sBcI) (defBody sBcI) (defScope sBcI) .none kVIB dcIB pmIB anIB cdIB ctIB), slIB⟩)
    (cIB : PySem.W.codeIn K cdIB "BadCount.__init__" = true)
    (kIB : PySem.W.keepIn K (.ref fIB) = true)
    (lIN : K.lookup fIN = some ⟨ocIN, odIN, .func (PySem.W.fnOf "__init__" "NoEcho.__init__" (defArgs sNeI) (defBody sNeI) (defScope sNeI) .none kVIN dcIN pmIN anIN cdIN ctIN), slIN⟩)
    (cIN : PySem.W.codeIn K cdIN "NoEcho.__init__" = true)
    (kIN : PySem.W.keepIn K (.ref fIN) = true)
    (a_init : PySem.W.findIn K (.ref F_C) "__init__" = some (some (.ref F_init)))
    (i_init : PySem.W.isFn K (.ref F_init) = true)
    (l_init : K.lookup F_init = some ⟨oc_init, od_init, .func (PySem.W.fnOf "__init__" "Frac.__init__" (defArgs sInit) (defBody sInit) (defScope sInit) (.ref Td) kV_init dc_init pm_init an_init cd_init ct_init), sl_init⟩)
    (c_init : PySem.W.codeIn K cd_init "Frac.__init__" = true)
    (k_init : PySem.W.keepIn K (.ref F_init) = true)
    (lTd : K.lookup Td = some ⟨ocTd, odTd, .seq [.int 0 tk0, .int 1 tk1].toArray nTd, slTd⟩)
    (a_add : PySem.W.findIn K (.ref F_C) "__add__" = some (some (.ref F_add)))
    (i_add : PySem.W.isFn K (.ref F_add) = true)
    (l_add : K.lookup F_add = some ⟨oc_add, od_add, .func (PySem.W.fnOf "__add__" "Frac.__add__" (defArgs sAdd) (defBody sAdd) (defScope sAdd) .none kV_add dc_add pm_add an_add cd_add ct_add), sl_add⟩)
    (c_add : PySem.W.codeIn K cd_add "Frac.__add__" = true)
    (k_add : PySem.W.keepIn K (.ref F_add) = true)
    (a_radd : PySem.W.findIn K (.ref F_C) "__radd__" = some (some (.ref F_radd)))
    (i_radd : PySem.W.isFn K (.ref F_radd) = true)
    (l_radd : K.lookup F_radd = some ⟨oc_radd, od_radd, .func (PySem.W.fnOf "__radd__" "Frac.__radd__" (defArgs sRadd) (defBody sRadd) (defScope sRadd) .none kV_radd dc_radd pm_radd an_radd cd_radd ct_radd), sl_radd⟩)
    (c_radd : PySem.W.codeIn K cd_radd "Frac.__radd__" = true)
    (k_radd : PySem.W.keepIn K (.ref F_radd) = true)
    (a_sub : PySem.W.findIn K (.ref F_C) "__sub__" = some (some (.ref F_sub)))
    (i_sub : PySem.W.isFn K (.ref F_sub) = true)
    (l_sub : K.lookup F_sub = some ⟨oc_sub, od_sub, .func (PySem.W.fnOf "__sub__" "Frac.__sub__" (defArgs sSub) (defBody sSub) (defScope sSub) .none kV_sub dc_sub pm_sub an_sub cd_sub ct_sub), sl_sub⟩)
    (c_sub : PySem.W.codeIn K cd_sub "Frac.__sub__" = true)
    (k_sub : PySem.W.keepIn K (.ref F_sub) = true)
    (a_rsub : PySem.W.findIn K (.ref F_C) "__rsub__" = some (some (.ref F_rsub)))
    (i_rsub : PySem.W.isFn K (.ref F_rsub) = true)
    (l_rsub : K.lookup F_rsub = some ⟨oc_rsub, od_rsub, .func (PySem.W.fnOf "__rsub__" "Frac.__rsub__" (defArgs sRsub) (defBody sRsub) (defScope sRsub) .none kV_rsub dc_rsub pm_rsub an_rsub cd_rsub ct_rsub), sl_rsub⟩)
    (c_rsub : PySem.W.codeIn K cd_rsub "Frac.__rsub__" = true)
    (k_rsub : PySem.W.keepIn K (.ref F_rsub) = true)
    (a_mul : PySem.W.findIn K (.ref F_C) "__mul__" = some (some (.ref F_mul)))
    (i_mul : PySem.W.isFn K (.ref F_mul) = true)
    (l_mul : K.lookup F_mul = some ⟨oc_mul, od_mul, .func (PySem.W.fnOf "__mul__" "Frac.__mul__" (defArgs sMul) (defBody sMul) (defScope sMul) .none kV_mul dc_mul pm_mul an_mul cd_mul ct_mul), sl_mul⟩)
    (c_mul : PySem.W.codeIn K cd_mul "Frac.__mul__" = true)
    (k_mul : PySem.W.keepIn K (.ref F_mul) = true)
    (a_rmul : PySem.W.findIn K (.ref F_C) "__rmul__" = some (some (.ref F_rmul)))
    (i_rmul : PySem.W.isFn K (.ref F_rmul) = true)
    (l_rmul : K.lookup F_rmul = some ⟨oc_rmul, od_rmul, .func (PySem.W.fnOf "__rmul__" "Frac.__rmul__" (defArgs sRmul) (defBody sRmul) (defScope sRmul) .none kV_rmul dc_rmul pm_rmul an_rmul cd_rmul ct_rmul), sl_rmul⟩)
    (c_rmul : PySem.W.codeIn K cd_rmul "Frac.__rmul__" = true)
    (k_rmul : PySem.W.keepIn K (.ref F_rmul) = true)
    (a_flo : PySem.W.findIn K (.ref F_C) "__floordiv__" = some (some (.ref F_flo)))
    (i_flo : PySem.W.isFn K (.ref F_flo) = true)
    (l_flo : K.lookup F_flo = some ⟨oc_flo, od_flo, .func (PySem.W.fnOf "__floordiv__" "Frac.__floordiv__" (defArgs sFlo) (defBody sFlo) (defScope sFlo) .none kV_flo dc_flo pm_flo an_flo cd_flo ct_flo), sl_flo⟩)
    (c_flo : PySem.W.codeIn K cd_flo "Frac.__floordiv__" = true)
    (k_flo : PySem.W.keepIn K (.ref F_flo) = true)
    (a_rflo : PySem.W.findIn K (.ref F_C) "__rfloordiv__" = some (some (.ref F_rflo)))
    (i_rflo : PySem.W.isFn K (.ref F_rflo) = true)
    (l_rflo : K.lookup F_rflo = some ⟨oc_rflo, od_rflo, .func (PySem.W.fnOf "__rfloordiv__" "Frac.__rfloordiv__" (defArgs sRflo) (defBody sRflo) (defScope sRflo) .none kV_rflo dc_rflo pm_rflo an_rflo cd_rflo ct_rflo), sl_rflo⟩)
    (c_rflo : PySem.W.codeIn K cd_rflo "Frac.__rfloordiv__" = true)
    (k_rflo : PySem.W.keepIn K (.ref F_rflo) = true)
    (a_mod : PySem.W.findIn K (.ref F_C) "__mod__" = some (some (.ref F_mod)))
    (i_mod : PySem.W.isFn K (.ref F_mod) = true)
    (l_mod : K.lookup F_mod = some ⟨oc_mod, od_mod, .func (PySem.W.fnOf "__mod__" "Frac.__mod__" (defArgs sMod) (defBody sMod) (defScope sMod) .none kV_mod dc_mod pm_mod an_mod cd_mod ct_mod), sl_mod⟩)
    (c_mod : PySem.W.codeIn K cd_mod "Frac.__mod__" = true)
    (k_mod : PySem.W.keepIn K (.ref F_mod) = true)
    (a_rmod : PySem.W.findIn K (.ref F_C) "__rmod__" = some (some (.ref F_rmod)))
    (i_rmod : PySem.W.isFn K (.ref F_rmod) = true)
    (l_rmod : K.lookup F_rmod = some ⟨oc_rmod, od_rmod, .func (PySem.W.fnOf "__rmod__" "Frac.__rmod__" (defArgs sRmod) (defBody sRmod) (defScope sRmod) .none kV_rmod dc_rmod pm_rmod an_rmod cd_rmod ct_rmod), sl_rmod⟩)
    (c_rmod : PySem.W.codeIn K cd_rmod "Frac.__rmod__" = true)
    (k_rmod : PySem.W.keepIn K (.ref F_rmod) = true)
    (a_pow : PySem.W.findIn K (.ref F_C) "__pow__" = some (some (.ref F_pow)))
    (i_pow : PySem.W.isFn K (.ref F_pow) = true)
    (l_pow : K.lookup F_pow = some ⟨oc_pow, od_pow, .func (PySem.W.fnOf "__pow__" "Frac.__pow__" (defArgs sPow) (defBody sPow) (defScope sPow) .none kV_pow dc_pow pm_pow an_pow cd_pow ct_pow), sl_pow⟩)
    (c_pow : PySem.W.codeIn K cd_pow "Frac.__pow__" = true)
    (k_pow : PySem.W.keepIn K (.ref F_pow) = true)
    (a_neg : PySem.W.findIn K (.ref F_C) "__neg__" = some (some (.ref F_neg)))
    (i_neg : PySem.W.isFn K (.ref F_neg) = true)
    (l_neg : K.lookup F_neg = some ⟨oc_neg, od_neg, .func (PySem.W.fnOf "__neg__" "Frac.__neg__" (defArgs sNeg) (defBody sNeg) (defScope sNeg) .none kV_neg dc_neg pm_neg an_neg cd_neg ct_neg), sl_neg⟩)
    (c_neg : PySem.W.codeIn K cd_neg "Frac.__neg__" = true)
    (k_neg : PySem.W.keepIn K (.ref F_neg) = true)
    (a_abs : PySem.W.findIn K (.ref F_C) "__abs__" = some (some (.ref F_abs)))
    (i_abs : PySem.W.isFn K (.ref F_abs) = true)
    (l_abs : K.lookup F_abs = some ⟨oc_abs, od_abs, .func (PySem.W.fnOf "__abs__" "Frac.__abs__" (defArgs sAbs) (defBody sAbs) (defScope sAbs) .none kV_abs dc_abs pm_abs an_abs cd_abs ct_abs), sl_abs⟩)
    (c_abs : PySem.W.codeIn K cd_abs "Frac.__abs__" = true)
    (k_abs : PySem.W.keepIn K (.ref F_abs) = true)
    (a_bool : PySem.W.findIn K (.ref F_C) "__bool__" = some (some (.ref F_bool)))
    (i_bool : PySem.W.isFn K (.ref F_bool) = true)
    (l_bool : K.lookup F_bool = some ⟨oc_bool, od_bool, .func (PySem.W.fnOf "__bool__" "Frac.__bool__" (defArgs sBool) (defBody sBool) (defScope sBool) .none kV_bool dc_bool pm_bool an_bool cd_bool ct_bool), sl_bool⟩)
    (c_bool : PySem.W.codeIn K cd_bool "Frac.__bool__" = true)
    (k_bool : PySem.W.keepIn K (.ref F_bool) = true)
    (a_eq : PySem.W.findIn K (.ref F_C) "__eq__" = some (some (.ref F_eq)))
    (i_eq : PySem.W.isFn K (.ref F_eq) = true)
    (l_eq : K.lookup F_eq = some ⟨oc_eq, od_eq, .func (PySem.W.fnOf "__eq__" "Frac.__eq__" (defArgs sEq) (defBody sEq) (defScope sEq) .none kV_eq dc_eq pm_eq an_eq cd_eq ct_eq), sl_eq⟩)
    (c_eq : PySem.W.codeIn K cd_eq "Frac.__eq__" = true)
    (k_eq : PySem.W.keepIn K (.ref F_eq) = true)
    (a_lt : PySem.W.findIn K (.ref F_C) "__lt__" = some (some (.ref F_lt)))
    (i_lt : PySem.W.isFn K (.ref F_lt) = true)
    (l_lt : K.lookup F_lt = some ⟨oc_lt, od_lt, .func (PySem.W.fnOf "__lt__" "Frac.__lt__" (defArgs sLt) (defBody sLt) (defScope sLt) .none kV_lt dc_lt pm_lt an_lt cd_lt ct_lt), sl_lt⟩)
    (c_lt : PySem.W.codeIn K cd_lt "Frac.__lt__" = true)
    (k_lt : PySem.W.keepIn K (.ref F_lt) = true)
    (a_le : PySem.W.findIn K (.ref F_C) "__le__" = some (some (.ref F_le)))
    (i_le : PySem.W.isFn K (.ref F_le) = true)
    (l_le : K.lookup F_le = some ⟨oc_le, od_le, .func (PySem.W.fnOf "__le__" "Frac.__le__" (defArgs sLe) (defBody sLe) (defScope sLe) .none kV_le dc_le pm_le an_le cd_le ct_le), sl_le⟩)
    (c_le : PySem.W.codeIn K cd_le "Frac.__le__" = true)
    (k_le : PySem.W.keepIn K (.ref F_le) = true)
    (a_gt : PySem.W.findIn K (.ref F_C) "__gt__" = some (some (.ref F_gt)))
    (i_gt : PySem.W.isFn K (.ref F_gt) = true)
    (l_gt : K.lookup F_gt = some ⟨oc_gt, od_gt, .func (PySem.W.fnOf "__gt__" "Frac.__gt__" (defArgs sGt) (defBody sGt) (defScope sGt) .none kV_gt dc_gt pm_gt an_gt cd_gt ct_gt), sl_gt⟩)
    (c_gt : PySem.W.codeIn K cd_gt "Frac.__gt__" = true)
    (k_gt : PySem.W.keepIn K (.ref F_gt) = true)
    (a_ge : PySem.W.findIn K (.ref F_C) "__ge__" = some (some (.ref F_ge)))
    (i_ge : PySem.W.isFn K (.ref F_ge) = true)
    (l_ge : K.lookup F_ge = some ⟨oc_ge, od_ge, .func (PySem.W.fnOf "__ge__" "Frac.__ge__" (defArgs sGe) (defBody sGe) (defScope sGe) .none kV_ge dc_ge pm_ge an_ge cd_ge ct_ge), sl_ge⟩)
    (c_ge : PySem.W.codeIn K cd_ge "Frac.__ge__" = true)
    (k_ge : PySem.W.keepIn K (.ref F_ge) = true)
    (a_str : PySem.W.findIn K (.ref F_C) "__str__" = some (some (.ref F_str)))
    (i_str : PySem.W.isFn K (.ref F_str) = true)
    (l_str : K.lookup F_str = some ⟨oc_str, od_str, .func (PySem.W.fnOf "__str__" "Frac.__str__" (defArgs sStr) (defBody sStr) (defScope sStr) .none kV_str dc_str pm_str an_str cd_str ct_str), sl_str⟩)
    (c_str : PySem.W.codeIn K cd_str "Frac.__str__" = true)
    (k_str : PySem.W.keepIn K (.ref F_str) = true)
    (a_over : PySem.W.findIn K (.ref F_C) "over" = some (some (.ref F_over)))
    (i_over : PySem.W.isFn K (.ref F_over) = true)
    (l_over : K.lookup F_over = some ⟨oc_over, od_over, .func (PySem.W.fnOf "over" "Frac.over" (defArgs sOver) (defBody sOver) (defScope sOver) .none kV_over dc_over pm_over an_over cd_over ct_over), sl_over⟩)
    (c_over : PySem.W.codeIn K cd_over "Frac.over" = true)
    (k_over : PySem.W.keepIn K (.ref F_over) = true)
    (a_of_ : PySem.W.findCls K (.ref F_C) (.type "type") "of" = some (.get (.builtin "staticmethod.__get__") (.ref F_pOf) .none (.ref F_C)))
    (r_of_ : PySem.W.recIn K F_pOf "staticmethod" = some (.ref F_of_ :: rest_of_))
    (l_of_ : K.lookup F_of_ = some ⟨oc_of_, od_of_, .func (PySem.W.fnOf "of" "Frac.of" (defArgs sOf) (defBody sOf) (defScope sOf) .none kV_of_ dc_of_ pm_of_ an_of_ cd_of_ ct_of_), sl_of_⟩)
    (c_of_ : PySem.W.codeIn K cd_of_ "Frac.of" = true)
    (k_of_ : PySem.W.keepIn K (.ref F_of_) = true)
    (a_isnum : PySem.W.nsIn K mainGlobals "is_number" = some (some (.ref F_isnum)))
    (l_isnum : K.lookup F_isnum = some ⟨oc_isnum, od_isnum, .func (PySem.W.fnOf "is_number" "is_number" (defArgs sIsNum) (defBody sIsNum) (defScope sIsNum) .none kV_isnum dc_isnum pm_isnum an_isnum cd_isnum ct_isnum), sl_isnum⟩)
    (c_isnum : PySem.W.codeIn K cd_isnum "is_number" = true)
    (k_isnum : PySem.W.keepIn K (.ref F_isnum) = true)
    (a_wq : PySem.W.nsIn K mainGlobals "_whole_quotient" = some (some (.ref F_wq)))
    (l_wq : K.lookup F_wq = some ⟨oc_wq, od_wq, .func (PySem.W.fnOf "_whole_quotient" "_whole_quotient" (defArgs sWq) (defBody sWq) (defScope sWq) .none kV_wq dc_wq pm_wq an_wq cd_wq ct_wq), sl_wq⟩)
    (c_wq : PySem.W.codeIn K cd_wq "_whole_quotient" = true)
    (k_wq : PySem.W.keepIn K (.ref F_wq) = true)
    (aCc_ : PySem.W.nsIn K mainGlobals "check_count" = some (some (.ref fCc)))
    (lCc_ : K.lookup fCc = some ⟨ocCc_, odCc_, .func (PySem.W.fnOf "check_count" "check_count" (defArgs (top 8)) (defBody (top 8)) (defScope (top 8)) .none kVCc_ dcCc_ pmCc_ anCc_ cdCc_ ctCc_), slCc_⟩)
    (cCc_ : PySem.W.codeIn K cdCc_ "check_count" = true)
    (kCc_ : PySem.W.keepIn K (.ref fCc) = true)
    (aFo_ : PySem.W.nsIn K mainGlobals "fracs_of" = some (some (.ref fFo)))
    (lFo_ : K.lookup fFo = some ⟨ocFo_, odFo_, .func (PySem.W.fnOf "fracs_of" "fracs_of" (defArgs (top 13)) (defBody (top 13)) (defScope (top 13)) .none kVFo_ dcFo_ pmFo_ anFo_ cdFo_ ctFo_), slFo_⟩)
    (cFo_ : PySem.W.codeIn K cdFo_ "fracs_of" = true)
    (kFo_ : PySem.W.keepIn K (.ref fFo) = true)
    (aIp_ : PySem.W.nsIn K mainGlobals "is_pane" = some (some (.ref fIp)))
    (lIp_ : K.lookup fIp = some ⟨ocIp_, odIp_, .func (PySem.W.fnOf "is_pane" "is_pane" (defArgs (top 17)) (defBody (top 17)) (defScope (top 17)) .none kVIp_ dcIp_ pmIp_ anIp_ cdIp_ ctIp_), slIp_⟩)
    (cIp_ : PySem.W.codeIn K cdIp_ "is_pane" = true)
    (kIp_ : PySem.W.keepIn K (.ref fIp) = true)
    (aPl_ : PySem.W.nsIn K mainGlobals "peel" = some (some (.ref fPl)))
    (lPl_ : K.lookup fPl = some ⟨ocPl_, odPl_, .func (PySem.W.fnOf "peel" "peel" (defArgs (top 20)) (defBody (top 20)) (defScope (top 20)) .none kVPl_ dcPl_ pmPl_ anPl_ cdPl_ ctPl_), slPl_⟩)
    (cPl_ : PySem.W.codeIn K cdPl_ "peel" = true)
    (kPl_ : PySem.W.keepIn K (.ref fPl) = true)
    (aNs_ : PySem.W.nsIn K mainGlobals "next_stretch" = some (some (.ref fNs)))
    (lNs_ : K.lookup fNs = some ⟨ocNs_, odNs_, .func (PySem.W.fnOf "next_stretch" "next_stretch" (defArgs (top 21)) (defBody (top 21)) (defScope (top 21)) .none kVNs_ dcNs_ pmNs_ anNs_ cdNs_ ctNs_), slNs_⟩)
    (cNs_ : PySem.W.codeIn K cdNs_ "next_stretch" = true)
    (kNs_ : PySem.W.keepIn K (.ref fNs) = true)
    (aPd_ : PySem.W.nsIn K mainGlobals "_peeled" = some (some (.ref fPd)))
    (lPd_ : K.lookup fPd = some ⟨ocPd_, odPd_, .func (PySem.W.fnOf "_peeled" "_peeled" (defArgs (top 22)) (defBody (top 22)) (defScope (top 22)) .none kVPd_ dcPd_ pmPd_ anPd_ cdPd_ ctPd_), slPd_⟩)
    (cPd_ : PySem.W.codeIn K cdPd_ "_peeled" = true)
    (kPd_ : PySem.W.keepIn K (.ref fPd) = true)
    (aEo_ : PySem.W.nsIn K mainGlobals "_end_of" = some (some (.ref fEo)))
    (lEo_ : K.lookup fEo = some ⟨ocEo_, odEo_, .func (PySem.W.fnOf "_end_of" "_end_of" (defArgs (top 23)) (defBody (top 23)) (defScope (top 23)) .none kVEo_ dcEo_ pmEo_ anEo_ cdEo_ ctEo_), slEo_⟩)
    (cEo_ : PySem.W.codeIn K cdEo_ "_end_of" = true)
    (kEo_ : PySem.W.keepIn K (.ref fEo) = true)
    (aPo_ : PySem.W.nsIn K mainGlobals "_law_pool" = some (some (.ref fPo)))
    (lPo_ : K.lookup fPo = some ⟨ocPo_, odPo_, .func (PySem.W.fnOf "_law_pool" "_law_pool" (defArgs (top 25)) (defBody (top 25)) (defScope (top 25)) .none kVPo_ dcPo_ pmPo_ anPo_ cdPo_ ctPo_), slPo_⟩)
    (cPo_ : PySem.W.codeIn K cdPo_ "_law_pool" = true)
    (kPo_ : PySem.W.keepIn K (.ref fPo) = true)
    (aDr_ : PySem.W.nsIn K mainGlobals "_law_draw" = some (some (.ref fDr)))
    (lDr_ : K.lookup fDr = some ⟨ocDr_, odDr_, .func (PySem.W.fnOf "_law_draw" "_law_draw" (defArgs (top 26)) (defBody (top 26)) (defScope (top 26)) .none kVDr_ dcDr_ pmDr_ anDr_ cdDr_ ctDr_), slDr_⟩)
    (cDr_ : PySem.W.codeIn K cdDr_ "_law_draw" = true)
    (kDr_ : PySem.W.keepIn K (.ref fDr) = true)
    (aGc_ : PySem.W.nsIn K mainGlobals "_law_gcd" = some (some (.ref fGc)))
    (lGc_ : K.lookup fGc = some ⟨ocGc_, odGc_, .func (PySem.W.fnOf "_law_gcd" "_law_gcd" (defArgs (top 27)) (defBody (top 27)) (defScope (top 27)) .none kVGc_ dcGc_ pmGc_ anGc_ cdGc_ ctGc_), slGc_⟩)
    (cGc_ : PySem.W.codeIn K cdGc_ "_law_gcd" = true)
    (kGc_ : PySem.W.keepIn K (.ref fGc) = true)
    (aLo_ : PySem.W.nsIn K mainGlobals "_law_low" = some (some (.ref fLo)))
    (lLo_ : K.lookup fLo = some ⟨ocLo_, odLo_, .func (PySem.W.fnOf "_law_low" "_law_low" (defArgs (top 28)) (defBody (top 28)) (defScope (top 28)) .none kVLo_ dcLo_ pmLo_ anLo_ cdLo_ ctLo_), slLo_⟩)
    (cLo_ : PySem.W.codeIn K cdLo_ "_law_low" = true)
    (kLo_ : PySem.W.keepIn K (.ref fLo) = true)
    (aAd_ : PySem.W.nsIn K mainGlobals "_law_add" = some (some (.ref fAd)))
    (lAd_ : K.lookup fAd = some ⟨ocAd_, odAd_, .func (PySem.W.fnOf "_law_add" "_law_add" (defArgs (top 29)) (defBody (top 29)) (defScope (top 29)) .none kVAd_ dcAd_ pmAd_ anAd_ cdAd_ ctAd_), slAd_⟩)
    (cAd_ : PySem.W.codeIn K cdAd_ "_law_add" = true)
    (kAd_ : PySem.W.keepIn K (.ref fAd) = true)
    (aMu_ : PySem.W.nsIn K mainGlobals "_law_mul" = some (some (.ref fMu)))
    (lMu_ : K.lookup fMu = some ⟨ocMu_, odMu_, .func (PySem.W.fnOf "_law_mul" "_law_mul" (defArgs (top 30)) (defBody (top 30)) (defScope (top 30)) .none kVMu_ dcMu_ pmMu_ anMu_ cdMu_ ctMu_), slMu_⟩)
    (cMu_ : PySem.W.codeIn K cdMu_ "_law_mul" = true)
    (kMu_ : PySem.W.keepIn K (.ref fMu) = true)
    (aWh_ : PySem.W.nsIn K mainGlobals "_law_whole" = some (some (.ref fWh)))
    (lWh_ : K.lookup fWh = some ⟨ocWh_, odWh_, .func (PySem.W.fnOf "_law_whole" "_law_whole" (defArgs (top 31)) (defBody (top 31)) (defScope (top 31)) .none kVWh_ dcWh_ pmWh_ anWh_ cdWh_ ctWh_), slWh_⟩)
    (cWh_ : PySem.W.codeIn K cdWh_ "_law_whole" = true)
    (kWh_ : PySem.W.keepIn K (.ref fWh) = true)
    (aPa_ : PySem.W.nsIn K mainGlobals "_law_pair" = some (some (.ref fPa)))
    (lPa_ : K.lookup fPa = some ⟨ocPa_, odPa_, .func (PySem.W.fnOf "_law_pair" "_law_pair" (defArgs (top 32)) (defBody (top 32)) (defScope (top 32)) .none kVPa_ dcPa_ pmPa_ anPa_ cdPa_ ctPa_), slPa_⟩)
    (cPa_ : PySem.W.codeIn K cdPa_ "_law_pair" = true)
    (kPa_ : PySem.W.keepIn K (.ref fPa) = true)
    (aRo_ : PySem.W.nsIn K mainGlobals "_law_row" = some (some (.ref fRo)))
    (lRo_ : K.lookup fRo = some ⟨ocRo_, odRo_, .func (PySem.W.fnOf "_law_row" "_law_row" (defArgs (top 33)) (defBody (top 33)) (defScope (top 33)) .none kVRo_ dcRo_ pmRo_ anRo_ cdRo_ ctRo_), slRo_⟩)
    (cRo_ : PySem.W.codeIn K cdRo_ "_law_row" = true)
    (kRo_ : PySem.W.keepIn K (.ref fRo) = true)
    (aNu_ : PySem.W.nsIn K mainGlobals "_law_number" = some (some (.ref fNu)))
    (lNu_ : K.lookup fNu = some ⟨ocNu_, odNu_, .func (PySem.W.fnOf "_law_number" "_law_number" (defArgs (top 34)) (defBody (top 34)) (defScope (top 34)) .none kVNu_ dcNu_ pmNu_ anNu_ cdNu_ ctNu_), slNu_⟩)
    (cNu_ : PySem.W.codeIn K cdNu_ "_law_number" = true)
    (kNu_ : PySem.W.keepIn K (.ref fNu) = true)
    (aSt_ : PySem.W.nsIn K mainGlobals "_law_stayed" = some (some (.ref fSt)))
    (lSt_ : K.lookup fSt = some ⟨ocSt_, odSt_, .func (PySem.W.fnOf "_law_stayed" "_law_stayed" (defArgs (top 35)) (defBody (top 35)) (defScope (top 35)) .none kVSt_ dcSt_ pmSt_ anSt_ cdSt_ ctSt_), slSt_⟩)
    (cSt_ : PySem.W.codeIn K cdSt_ "_law_stayed" = true)
    (kSt_ : PySem.W.keepIn K (.ref fSt) = true)
    (aNb_ : PySem.W.nsIn K mainGlobals "_law_numbers" = some (some (.ref fNb)))
    (lNb_ : K.lookup fNb = some ⟨ocNb_, odNb_, .func (PySem.W.fnOf "_law_numbers" "_law_numbers" (defArgs (top 36)) (defBody (top 36)) (defScope (top 36)) .none kVNb_ dcNb_ pmNb_ anNb_ cdNb_ ctNb_), slNb_⟩)
    (cNb_ : PySem.W.codeIn K cdNb_ "_law_numbers" = true)
    (kNb_ : PySem.W.keepIn K (.ref fNb) = true)
    (aQu_ : PySem.W.nsIn K mainGlobals "_law_quotient" = some (some (.ref fQu)))
    (lQu_ : K.lookup fQu = some ⟨ocQu_, odQu_, .func (PySem.W.fnOf "_law_quotient" "_law_quotient" (defArgs (top 37)) (defBody (top 37)) (defScope (top 37)) .none kVQu_ dcQu_ pmQu_ anQu_ cdQu_ ctQu_), slQu_⟩)
    (cQu_ : PySem.W.codeIn K cdQu_ "_law_quotient" = true)
    (kQu_ : PySem.W.keepIn K (.ref fQu) = true)
    (aSe_ : PySem.W.nsIn K mainGlobals "_law_series" = some (some (.ref fSe)))
    (lSe_ : K.lookup fSe = some ⟨ocSe_, odSe_, .func (PySem.W.fnOf "_law_series" "_law_series" (defArgs (top 38)) (defBody (top 38)) (defScope (top 38)) .none kVSe_ dcSe_ pmSe_ anSe_ cdSe_ ctSe_), slSe_⟩)
    (cSe_ : PySem.W.codeIn K cdSe_ "_law_series" = true)
    (kSe_ : PySem.W.keepIn K (.ref fSe) = true)
    (aDn_ : PySem.W.nsIn K mainGlobals "_law_drawn" = some (some (.ref fDn)))
    (lDn_ : K.lookup fDn = some ⟨ocDn_, odDn_, .func (PySem.W.fnOf "_law_drawn" "_law_drawn" (defArgs (top 39)) (defBody (top 39)) (defScope (top 39)) .none kVDn_ dcDn_ pmDn_ anDn_ cdDn_ ctDn_), slDn_⟩)
    (cDn_ : PySem.W.codeIn K cdDn_ "_law_drawn" = true)
    (kDn_ : PySem.W.keepIn K (.ref fDn) = true)
    (aEc_ : PySem.W.nsIn K mainGlobals "_law_echo" = some (some (.ref fEc)))
    (lEc_ : K.lookup fEc = some ⟨ocEc_, odEc_, .func (PySem.W.fnOf "_law_echo" "_law_echo" (defArgs (top 40)) (defBody (top 40)) (defScope (top 40)) .none kVEc_ dcEc_ pmEc_ anEc_ cdEc_ ctEc_), slEc_⟩)
    (cEc_ : PySem.W.codeIn K cdEc_ "_law_echo" = true)
    (kEc_ : PySem.W.keepIn K (.ref fEc) = true)
    (aRf_ : PySem.W.nsIn K mainGlobals "_law_refused" = some (some (.ref fRf)))
    (lRf_ : K.lookup fRf = some ⟨ocRf_, odRf_, .func (PySem.W.fnOf "_law_refused" "_law_refused" (defArgs (top 41)) (defBody (top 41)) (defScope (top 41)) .none kVRf_ dcRf_ pmRf_ anRf_ cdRf_ ctRf_), slRf_⟩)
    (cRf_ : PySem.W.codeIn K cdRf_ "_law_refused" = true)
    (kRf_ : PySem.W.keepIn K (.ref fRf) = true)
    (aOp_ : PySem.W.nsIn K mainGlobals "_law_open" = some (some (.ref fOp)))
    (lOp_ : K.lookup fOp = some ⟨ocOp_, odOp_, .func (PySem.W.fnOf "_law_open" "_law_open" (defArgs (top 44)) (defBody (top 44)) (defScope (top 44)) .none kVOp_ dcOp_ pmOp_ anOp_ cdOp_ ctOp_), slOp_⟩)
    (cOp_ : PySem.W.codeIn K cdOp_ "_law_open" = true)
    (kOp_ : PySem.W.keepIn K (.ref fOp) = true)
    (aLa_ : PySem.W.nsIn K mainGlobals "law" = some (some (.ref fLa)))
    (lLa_ : K.lookup fLa = some ⟨ocLa_, odLa_, .func (PySem.W.fnOf "law" "law" (defArgs (top 46)) (defBody (top 46)) (defScope (top 46)) .none kVLa_ dcLa_ pmLa_ anLa_ cdLa_ ctLa_), slLa_⟩)
    (cLa_ : PySem.W.codeIn K cdLa_ "law" = true)
    (kLa_ : PySem.W.keepIn K (.ref fLa) = true)
    (aPs_ : PySem.W.nsIn K mainGlobals "_law_peels" = some (some (.ref fPs)))
    (lPs_ : K.lookup fPs = some ⟨ocPs_, odPs_, .func (PySem.W.fnOf "_law_peels" "_law_peels" (defArgs (top 42)) (defBody (top 42)) (defScope (top 42)) .none kVPs_ dcPs_ pmPs_ anPs_ (.ref c1) ctPs_), slPs_⟩)
    (cPs_ : PySem.W.codeIn K (.ref c1) "_law_peels" = true)
    (kPs_ : PySem.W.keepIn K (.ref fPs) = true)
    (ch1 : PySem.W.codeHdIn K c1 P1 = true)
    (nl1 : K.lookup P1 = none)
    (ht1 : h.get? P1 = some { cls := .none, data := .fields #[] })
    (aBa_ : PySem.W.nsIn K mainGlobals "_law_barred" = some (some (.ref fBa)))
    (lBa_ : K.lookup fBa = some ⟨ocBa_, odBa_, .func (PySem.W.fnOf "_law_barred" "_law_barred" (defArgs (top 43)) (defBody (top 43)) (defScope (top 43)) .none kVBa_ dcBa_ pmBa_ anBa_ (.ref c2) ctBa_), slBa_⟩)
    (cBa_ : PySem.W.codeIn K (.ref c2) "_law_barred" = true)
    (kBa_ : PySem.W.keepIn K (.ref fBa) = true)
    (ch2 : PySem.W.codeHdIn K c2 P2 = true)
    (nl2 : K.lookup P2 = none)
    (ht2 : h.get? P2 = some { cls := .none, data := .fields #[] })
    (aLg_ : PySem.W.nsIn K mainGlobals "_law_long" = some (some (.ref fLg)))
    (lLg_ : K.lookup fLg = some ⟨ocLg_, odLg_, .func (PySem.W.fnOf "_law_long" "_law_long" (defArgs (top 45)) (defBody (top 45)) (defScope (top 45)) .none kVLg_ dcLg_ pmLg_ anLg_ (.ref c3) ctLg_), slLg_⟩)
    (cLg_ : PySem.W.codeIn K (.ref c3) "_law_long" = true)
    (kLg_ : PySem.W.keepIn K (.ref fLg) = true)
    (ch3 : PySem.W.codeHdIn K c3 P3 = true)
    (nl3 : K.lookup P3 = none)
    (ht3 : h.get? P3 = some { cls := .none, data := .fields #[] })
    (ne12 : P1 ≠ P2)
    (ne13 : P1 ≠ P3)
    (ne23 : P2 ≠ P3) :
    LamX.LawAtS l w K (L2.CX l.prog w) 16 63 "script" mg fa h :=
  all_core (A := { C := F_C, Z := F_Z, T := 0, B := F_B, W := F_W, init := F_init, add := F_add, radd := F_radd, sub := F_sub, rsub := F_rsub, mul := F_mul, rmul := F_rmul, flo := F_flo, rflo := F_rflo, mod := F_mod, rmod := F_rmod, pow := F_pow, neg := F_neg, abs := F_abs, bool := F_bool, eq := F_eq, lt := F_lt, le := F_le, gt := F_gt, ge := F_ge, str := F_str, over := F_over, of_ := F_of_, read := 0, isnum := F_isnum, wq := F_wq, rdb := 0, pOf := F_pOf, pRead := 0 }) X G hfa aC aZ aB aW agcd amp n_isinstance n_int n_all n_abs n_bool n_len n_str n_range n_ValueError pg hd po sa mk kc nN nD ca cg ct cm isC tC su1 su2 sf lC ne rdC gaC iaC iaO iaI rpw i1add i2add i1sub i2sub i1mul i2mul i1flo i2flo i1mod i2mod i1pow i2pow n_tuple n_list n_zip aN amn xsZ xtZ xeZ xsB xtB xeB xgB xkB xhB xaB xmB xvB xwB xWB xlB reB saB xnB iB tB xsN xtN xeN xgN xkN xhN xaN xmN xvN xwN xWN xlN reN saN xnN iN tN xBN xNB kkW kkB kkN ktW xZ lIB cIB kIB lIN cIN kIN a_init i_init l_init c_init k_init lTd a_add i_add l_add c_add k_add a_radd i_radd l_radd c_radd k_radd a_sub i_sub l_sub c_sub k_sub a_rsub i_rsub l_rsub c_rsub k_rsub a_mul i_mul l_mul c_mul k_mul a_rmul i_rmul l_rmul c_rmul k_rmul a_flo i_flo l_flo c_flo k_flo a_rflo i_rflo l_rflo c_rflo k_rflo a_mod i_mod l_mod c_mod k_mod a_rmod i_rmod l_rmod c_rmod k_rmod a_pow i_pow l_pow c_pow k_pow a_neg i_neg l_neg c_neg k_neg a_abs i_abs l_abs c_abs k_abs a_bool i_bool l_bool c_bool k_bool a_eq i_eq l_eq c_eq k_eq a_lt i_lt l_lt c_lt k_lt a_le i_le l_le c_le k_le a_gt i_gt l_gt c_gt k_gt a_ge i_ge l_ge c_ge k_ge a_str i_str l_str c_str k_str a_over i_over l_over c_over k_over a_of_ r_of_ l_of_ c_of_ k_of_ a_isnum l_isnum c_isnum k_isnum a_wq l_wq c_wq k_wq aCc_ lCc_ cCc_ kCc_ aFo_ lFo_ cFo_ kFo_ aIp_ lIp_ cIp_ kIp_ aPl_ lPl_ cPl_ kPl_ aNs_ lNs_ cNs_ kNs_ aPd_ lPd_ cPd_ kPd_ aEo_ lEo_ cEo_ kEo_ aPo_ lPo_ cPo_ kPo_ aDr_ lDr_ cDr_ kDr_ aGc_ lGc_ cGc_ kGc_ aLo_ lLo_ cLo_ kLo_ aAd_ lAd_ cAd_ kAd_ aMu_ lMu_ cMu_ kMu_ aWh_ lWh_ cWh_ kWh_ aPa_ lPa_ cPa_ kPa_ aRo_ lRo_ cRo_ kRo_ aNu_ lNu_ cNu_ kNu_ aSt_ lSt_ cSt_ kSt_ aNb_ lNb_ cNb_ kNb_ aQu_ lQu_ cQu_ kQu_ aSe_ lSe_ cSe_ kSe_ aDn_ lDn_ cDn_ kDn_ aEc_ lEc_ cEc_ kEc_ aRf_ lRf_ cRf_ kRf_ aOp_ lOp_ cOp_ kOp_ aLa_ lLa_ cLa_ kLa_ aPs_ lPs_ cPs_ kPs_ ch1 nl1 ht1 aBa_ lBa_ cBa_ kBa_ ch2 nl2 ht2 aLg_ lLg_ cLg_ kLg_ ch3 nl3 ht3 ne12 ne13 ne23
theorem walk {l : PySem.W.OpenLaw} {q : Program} {loose : List Str} {XP : (Str → Option Value) → Heap → Prop} {YP : World → Heap → Prop} {d : DefRec} {K : Params → PySem.W.Frag} (hn : l.most = some 63) (hdf : d.params.defaults = [])
    (hY : ∀ (w : World) (h : Heap), YP w h → (K w.params).In h)
    (F : ∀ (w : World) (mg : Str → Option Value) (fa : Addr) (h : Heap), YP w h → (K w.params).In h → h.Ns mainGlobals mg → mg d.name = some (.ref fa) → LamX.LawAtS l w (K w.params) (L2.CX l.prog w) 16 63 "script" mg fa h) :
    PySem.W.WalkO q loose XP YP l.row.toRowW d [] (fun f vs => PySem.call f vs) :=
  LamX.walk_ofTs (n := 63) (k := 16) (x := "script") (CX := fun w => L2.CX l.prog w) hn (by decide) hdf ⟨rfl, by decide, by decide⟩ hY F fun _ _ _ _ _ z => by
    obtain ⟨_, _, _, _, _, _, _, _, _, _, _, _, z⟩ := z
    exact z
end Fx
set_option Elab.async false
set_option maxRecDepth 100000
open PySem PySem.W PyProof.Rows
set_option maxRecDepth 100000 in
set_option maxHeartbeats 0 in
theorem PySem.Challenge.cw_rodwebs_k40_next_stretch_holds : PySem.Challenge.rw_rodwebs_k40_next_stretch.Holds := by
  w_on; o_law; k_head; (case hw => w_witness2)
  k_fill
  refine Fx.walk (l := PySem.Challenge.rw_rodwebs_k40_next_stretch) rfl rfl (fun w h Y => PySem.W.km_in_of Y) ?F
  case F =>
    intro w mg fa h Y KX G hmg
    refine' Fx.all_mk (P1 := 492) (P2 := 499) (P3 := 513) KX G hmg ?aC ?aZ ?aB ?aW ?agcd ?amp ?n_isinstance ?n_int ?n_all ?n_abs ?n_bool ?n_len ?n_str ?n_range ?n_ValueError ?pg ?hd ?po ?sa ?mk ?kc ?nN ?nD ?ca ?cg ?ct ?cm ?isC ?tC ?su1 ?su2 ?sf ?lC ?ne ?rdC ?gaC ?iaC ?iaO ?iaI ?rpw ?i1add ?i2add ?i1sub ?i2sub ?i1mul ?i2mul ?i1flo ?i2flo ?i1mod ?i2mod ?i1pow ?i2pow ?n_tuple ?n_list ?n_zip ?aN ?amn ?xsZ ?xtZ ?xeZ ?xsB ?xtB ?xeB ?xgB ?xkB ?xhB ?xaB ?xmB ?xvB ?xwB ?xWB ?xlB ?reB ?saB ?xnB ?iB ?tB ?xsN ?xtN ?xeN ?xgN ?xkN ?xhN ?xaN ?xmN ?xvN ?xwN ?xWN ?xlN ?reN ?saN ?xnN ?iN ?tN ?xBN ?xNB ?kkW ?kkB ?kkN ?ktW ?xZ ?lIB ?cIB ?kIB ?lIN ?cIN ?kIN ?a_init ?i_init ?l_init ?c_init ?k_init ?lTd ?a_add ?i_add ?l_add ?c_add ?k_add ?a_radd ?i_radd ?l_radd ?c_radd ?k_radd ?a_sub ?i_sub ?l_sub ?c_sub ?k_sub ?a_rsub ?i_rsub ?l_rsub ?c_rsub ?k_rsub ?a_mul ?i_mul ?l_mul ?c_mul ?k_mul ?a_rmul ?i_rmul ?l_rmul ?c_rmul ?k_rmul ?a_flo ?i_flo ?l_flo ?c_flo ?k_flo ?a_rflo ?i_rflo ?l_rflo ?c_rflo ?k_rflo ?a_mod ?i_mod ?l_mod ?c_mod ?k_mod ?a_rmod ?i_rmod ?l_rmod ?c_rmod ?k_rmod ?a_pow ?i_pow ?l_pow ?c_pow ?k_pow ?a_neg ?i_neg ?l_neg ?c_neg ?k_neg ?a_abs ?i_abs ?l_abs ?c_abs ?k_abs ?a_bool ?i_bool ?l_bool ?c_bool ?k_bool ?a_eq ?i_eq ?l_eq ?c_eq ?k_eq ?a_lt ?i_lt ?l_lt ?c_lt ?k_lt ?a_le ?i_le ?l_le ?c_le ?k_le ?a_gt ?i_gt ?l_gt ?c_gt ?k_gt ?a_ge ?i_ge ?l_ge ?c_ge ?k_ge ?a_str ?i_str ?l_str ?c_str ?k_str ?a_over ?i_over ?l_over ?c_over ?k_over ?a_of_ ?r_of_ ?l_of_ ?c_of_ ?k_of_ ?a_isnum ?l_isnum ?c_isnum ?k_isnum ?a_wq ?l_wq ?c_wq ?k_wq ?aCc_ ?lCc_ ?cCc_ ?kCc_ ?aFo_ ?lFo_ ?cFo_ ?kFo_ ?aIp_ ?lIp_ ?cIp_ ?kIp_ ?aPl_ ?lPl_ ?cPl_ ?kPl_ ?aNs_ ?lNs_ ?cNs_ ?kNs_ ?aPd_ ?lPd_ ?cPd_ ?kPd_ ?aEo_ ?lEo_ ?cEo_ ?kEo_ ?aPo_ ?lPo_ ?cPo_ ?kPo_ ?aDr_ ?lDr_ ?cDr_ ?kDr_ ?aGc_ ?lGc_ ?cGc_ ?kGc_ ?aLo_ ?lLo_ ?cLo_ ?kLo_ ?aAd_ ?lAd_ ?cAd_ ?kAd_ ?aMu_ ?lMu_ ?cMu_ ?kMu_ ?aWh_ ?lWh_ ?cWh_ ?kWh_ ?aPa_ ?lPa_ ?cPa_ ?kPa_ ?aRo_ ?lRo_ ?cRo_ ?kRo_ ?aNu_ ?lNu_ ?cNu_ ?kNu_ ?aSt_ ?lSt_ ?cSt_ ?kSt_ ?aNb_ ?lNb_ ?cNb_ ?kNb_ ?aQu_ ?lQu_ ?cQu_ ?kQu_ ?aSe_ ?lSe_ ?cSe_ ?kSe_ ?aDn_ ?lDn_ ?cDn_ ?kDn_ ?aEc_ ?lEc_ ?cEc_ ?kEc_ ?aRf_ ?lRf_ ?cRf_ ?kRf_ ?aOp_ ?lOp_ ?cOp_ ?kOp_ ?aLa_ ?lLa_ ?cLa_ ?kLa_ ?aPs_ ?lPs_ ?cPs_ ?kPs_ ?ch1 ?nl1 ?ht1 ?aBa_ ?lBa_ ?cBa_ ?kBa_ ?ch2 ?nl2 ?ht2 ?aLg_ ?lLg_ ?cLg_ ?kLg_ ?ch3 ?nl3 ?ht3 ?ne12 ?ne13 ?ne23
    (case aC => k_is); (case aZ => k_is); (case aB => k_is); (case aW => k_is); (case agcd => k_is); (case amp => k_is)
    (case n_isinstance => k_is); (case n_int => k_is); (case n_all => k_is); (case n_abs => k_is); (case n_bool => k_is); (case n_len => k_is)
    (case n_str => k_is); (case n_range => k_is); (case n_ValueError => k_is); (case pg => k_is); (case hd => k_is); (case po => k_is)
    (case sa => k_is); (case mk => k_is); (case kc => k_is); (case nN => k_is); (case nD => k_is); (case ca => k_is)
    (case cg => k_is); (case ct => k_is); (case cm => k_is); (case isC => k_is); (case tC => k_is); (case su1 => k_is)
    (case su2 => k_is); (case sf => k_is); (case lC => k_is); (case ne => k_is); (case rdC => k_is); (case gaC => k_is)
    (case iaC => k_is); (case iaO => k_is); (case iaI => k_is); (case rpw => k_is); (case i1add => k_is); (case i2add => k_is)
    (case i1sub => k_is); (case i2sub => k_is); (case i1mul => k_is); (case i2mul => k_is); (case i1flo => k_is); (case i2flo => k_is)
    (case i1mod => k_is); (case i2mod => k_is); (case i1pow => k_is); (case i2pow => k_is); (case n_tuple => k_is); (case n_list => k_is)
    (case n_zip => k_is); (case aN => k_is); (case amn => k_is); (case xsZ => k_is); (case xtZ => k_is); (case xeZ => k_is)
    (case xsB => k_is); (case xtB => k_is); (case xeB => k_is); (case xgB => k_is); (case xkB => k_is); (case xhB => k_is)
    (case xaB => k_is); (case xmB => k_is); (case xvB => k_is); (case xwB => k_is); (case xWB => k_is); (case xlB => k_is)
    (case reB => (first | rfl | decide +kernel)); (case saB => k_is); (case xnB => k_is); (case iB => k_is); (case tB => k_is); (case xsN => k_is)
    (case xtN => k_is); (case xeN => k_is); (case xgN => k_is); (case xkN => k_is); (case xhN => k_is); (case xaN => k_is)
    (case xmN => k_is); (case xvN => k_is); (case xwN => k_is); (case xWN => k_is); (case xlN => k_is); (case reN => (first | rfl | decide +kernel))
    (case saN => k_is); (case xnN => k_is); (case iN => k_is); (case tN => k_is); (case xBN => k_is); (case xNB => k_is)
    (case kkW => k_is); (case kkB => k_is); (case kkN => k_is); (case ktW => k_is); (case xZ => k_exc); (case lIB => k_is)
    (case cIB => k_is); (case kIB => k_is); (case lIN => k_is); (case cIN => k_is); (case kIN => k_is); (case a_init => k_is)
    (case i_init => k_is); (case l_init => k_is); (case c_init => k_is); (case k_init => k_is); (case lTd => k_is); (case a_add => k_is)
    (case i_add => k_is); (case l_add => k_is); (case c_add => k_is); (case k_add => k_is); (case a_radd => k_is); (case i_radd => k_is)
    (case l_radd => k_is); (case c_radd => k_is); (case k_radd => k_is); (case a_sub => k_is); (case i_sub => k_is); (case l_sub => k_is)
    (case c_sub => k_is); (case k_sub => k_is); (case a_rsub => k_is); (case i_rsub => k_is); (case l_rsub => k_is); (case c_rsub => k_is)
    (case k_rsub => k_is); (case a_mul => k_is); (case i_mul => k_is); (case l_mul => k_is); (case c_mul => k_is); (case k_mul => k_is)
    (case a_rmul => k_is); (case i_rmul => k_is); (case l_rmul => k_is); (case c_rmul => k_is); (case k_rmul => k_is); (case a_flo => k_is)
    (case i_flo => k_is); (case l_flo => k_is); (case c_flo => k_is); (case k_flo => k_is); (case a_rflo => k_is); (case i_rflo => k_is)
    (case l_rflo => k_is); (case c_rflo => k_is); (case k_rflo => k_is); (case a_mod => k_is); (case i_mod => k_is); (case l_mod => k_is)
    (case c_mod => k_is); (case k_mod => k_is); (case a_rmod => k_is); (case i_rmod => k_is); (case l_rmod => k_is); (case c_rmod => k_is)
    (case k_rmod => k_is); (case a_pow => k_is); (case i_pow => k_is); (case l_pow => k_is); (case c_pow => k_is); (case k_pow => k_is)
    (case a_neg => k_is); (case i_neg => k_is); (case l_neg => k_is); (case c_neg => k_is); (case k_neg => k_is); (case a_abs => k_is)
    (case i_abs => k_is); (case l_abs => k_is); (case c_abs => k_is); (case k_abs => k_is); (case a_bool => k_is); (case i_bool => k_is)
    (case l_bool => k_is); (case c_bool => k_is); (case k_bool => k_is); (case a_eq => k_is); (case i_eq => k_is); (case l_eq => k_is)
    (case c_eq => k_is); (case k_eq => k_is); (case a_lt => k_is); (case i_lt => k_is); (case l_lt => k_is); (case c_lt => k_is)
    (case k_lt => k_is); (case a_le => k_is); (case i_le => k_is); (case l_le => k_is); (case c_le => k_is); (case k_le => k_is)
    (case a_gt => k_is); (case i_gt => k_is); (case l_gt => k_is); (case c_gt => k_is); (case k_gt => k_is); (case a_ge => k_is)
    (case i_ge => k_is); (case l_ge => k_is); (case c_ge => k_is); (case k_ge => k_is); (case a_str => k_is); (case i_str => k_is)
    (case l_str => k_is); (case c_str => k_is); (case k_str => k_is); (case a_over => k_is); (case i_over => k_is); (case l_over => k_is)
    (case c_over => k_is); (case k_over => k_is); (case a_of_ => k_is); (case r_of_ => k_is); (case l_of_ => k_is); (case c_of_ => k_is)
    (case k_of_ => k_is); (case a_isnum => k_is); (case l_isnum => k_is); (case c_isnum => k_is); (case k_isnum => k_is); (case a_wq => k_is)
    (case l_wq => k_is); (case c_wq => k_is); (case k_wq => k_is); (case aCc_ => k_is); (case lCc_ => k_is); (case cCc_ => k_is)
    (case kCc_ => k_is); (case aFo_ => k_is); (case lFo_ => k_is); (case cFo_ => k_is); (case kFo_ => k_is); (case aIp_ => k_is)
    (case lIp_ => k_is); (case cIp_ => k_is); (case kIp_ => k_is); (case aPl_ => k_is); (case lPl_ => k_is); (case cPl_ => k_is)
    (case kPl_ => k_is); (case aNs_ => k_is); (case lNs_ => k_is); (case cNs_ => k_is); (case kNs_ => k_is); (case aPd_ => k_is)
    (case lPd_ => k_is); (case cPd_ => k_is); (case kPd_ => k_is); (case aEo_ => k_is); (case lEo_ => k_is); (case cEo_ => k_is)
    (case kEo_ => k_is); (case aPo_ => k_is); (case lPo_ => k_is); (case cPo_ => k_is); (case kPo_ => k_is); (case aDr_ => k_is)
    (case lDr_ => k_is); (case cDr_ => k_is); (case kDr_ => k_is); (case aGc_ => k_is); (case lGc_ => k_is); (case cGc_ => k_is)
    (case kGc_ => k_is); (case aLo_ => k_is); (case lLo_ => k_is); (case cLo_ => k_is); (case kLo_ => k_is); (case aAd_ => k_is)
    (case lAd_ => k_is); (case cAd_ => k_is); (case kAd_ => k_is); (case aMu_ => k_is); (case lMu_ => k_is); (case cMu_ => k_is)
    (case kMu_ => k_is); (case aWh_ => k_is); (case lWh_ => k_is); (case cWh_ => k_is); (case kWh_ => k_is); (case aPa_ => k_is)
    (case lPa_ => k_is); (case cPa_ => k_is); (case kPa_ => k_is); (case aRo_ => k_is); (case lRo_ => k_is); (case cRo_ => k_is)
    (case kRo_ => k_is); (case aNu_ => k_is); (case lNu_ => k_is); (case cNu_ => k_is); (case kNu_ => k_is); (case aSt_ => k_is)
    (case lSt_ => k_is); (case cSt_ => k_is); (case kSt_ => k_is); (case aNb_ => k_is); (case lNb_ => k_is); (case cNb_ => k_is)
    (case kNb_ => k_is); (case aQu_ => k_is); (case lQu_ => k_is); (case cQu_ => k_is); (case kQu_ => k_is); (case aSe_ => k_is)
    (case lSe_ => k_is); (case cSe_ => k_is); (case kSe_ => k_is); (case aDn_ => k_is); (case lDn_ => k_is); (case cDn_ => k_is)
    (case kDn_ => k_is); (case aEc_ => k_is); (case lEc_ => k_is); (case cEc_ => k_is); (case kEc_ => k_is); (case aRf_ => k_is)
    (case lRf_ => k_is); (case cRf_ => k_is); (case kRf_ => k_is); (case aOp_ => k_is); (case lOp_ => k_is); (case cOp_ => k_is)
    (case kOp_ => k_is); (case aLa_ => k_is); (case lLa_ => k_is); (case cLa_ => k_is); (case kLa_ => k_is); (case aPs_ => k_is)
    (case lPs_ => k_is); (case cPs_ => k_is); (case kPs_ => k_is); (case ch1 => (first | kernel_rfl | k_is | decide +kernel)); (case nl1 => (first | kernel_rfl | k_is | decide +kernel)); (case ht1 => (exact PySem.W.km_tabs_of Y _ (by k_mem)))
    (case aBa_ => k_is); (case lBa_ => k_is); (case cBa_ => k_is); (case kBa_ => k_is); (case ch2 => (first | kernel_rfl | k_is | decide +kernel)); (case nl2 => (first | kernel_rfl | k_is | decide +kernel))
    (case ht2 => (exact PySem.W.km_tabs_of Y _ (by k_mem))); (case aLg_ => k_is); (case lLg_ => k_is); (case cLg_ => k_is); (case kLg_ => k_is); (case ch3 => (first | kernel_rfl | k_is | decide +kernel))
    (case nl3 => (first | kernel_rfl | k_is | decide +kernel)); (case ht3 => (exact PySem.W.km_tabs_of Y _ (by k_mem))); (case ne12 => decide); (case ne13 => decide); (case ne23 => decide)
