import PyProof.Rows.All
import Wide.All
import OpenK.AllK
import Wide.FinOn
import PyProof.TwoTypes
import PyProof.InstNe
import KE.KOpsOwn
import KE.KCallOwn
import HandS.ForMost
import HandS.ForExc
import HandS.OwnEq
import HandS.ClsMeth
import HandS.Defaults
import HandS.Gcd
import HandS.Wide
import HandS.Small
import HandS.IsInst
import HandS.Text
import HandS.FStr
import PySem.Challenge.RW_rodwebs_k01_fractions
import HandS.Flow
import HandS.WideMore
import PyProof.StrBlock2
import HandS.Codes
import HandS.TryMany
import HandS.ExcIs
import HandS.ExcField
import HandS.ExcInit
import HandS.HotCalls
import KE.KExcIs
import KE.IntTextLaws
import HandS.Walk
import HandS.Style
set_option Elab.async false
set_option linter.all false
set_option maxRecDepth 100000
set_option maxHeartbeats 4000000
/-! Operators of an own class, in the words of the hand layer. -/
namespace Fx
open PySem PySem.Spec PyProof.Rows L2

/-- a plain instance of the class at C -/
def Ins (C : Addr) (H : Hp) (x : V) : Prop := ∃ a dx fs, x = .ref a ∧ H a = some (.ins C dx fs)

section
variable {X : Cx} {CX : CXT} {k : Nat} {f C : Addr} {fd : FuncData} {ps : List Str} {sp : Sp} {E : XK}

theorem cmpBack_EP {pins : List (Addr × Obj)} {σ : L2.St} {Q : VK} {v : Value} {s' : Shared} (h : EP X pins σ Q v s') : PySem.W.CmpBack (EP X pins σ Q) v s' := by
  obtain ⟨x, H', I, r, q⟩ := id h
  cases x with
  | non => cases (show v = Value.none from r); exact h
  | bl b => cases (show v = Value.bool b from r); exact h
  | int i => obtain ⟨t, e⟩ := (show ∃ t, v = Value.int i t from r); cases e; exact h
  | str z => obtain ⟨t, e⟩ := (show ∃ t, v = Value.str z t from r); cases e; exact h
  | byt b => obtain ⟨t, e⟩ := (show ∃ t, v = Value.bytes b t from r); cases e; exact h
  | flt b => obtain ⟨t, e⟩ := (show ∃ t, v = Value.float b t from r); cases e; exact h
  | ref a => cases (show v = Value.ref a from r); exact h
  | ty n => cases (show v = Value.type n from r); exact h

/-- the class's own slot of a number operator -/
structure BinF (K : PySem.W.Frag) (C f : Addr) (op : Operator) : Prop where
  sf : PySem.W.selfFirst K C = true
  at_ : PySem.W.findIn K (.ref C) (PySem.dunder op.info.2) = some (some (.ref f))
  fn : PySem.W.isFn K (.ref f) = true
  rf : ∃ rc, PySem.W.findIn K (.ref C) (dunderR op.info.2) = some rc ∧ (rc = none ∨ ∃ g : Addr, rc = some (.ref g))
  i1 : ∃ fo, PySem.W.findIn K (.type "int") (PySem.dunder op.info.2) = some fo
  i2 : ∃ ro, PySem.W.findIn K (.type "int") (dunderR op.info.2) = some ro
  sub : PySem.W.subIn K (.type "int") (.ref C) = some false

/-- x op y, x an instance, y one too or an int -/
def rOwn (C : Addr) (sp : Sp) (E : XK) : R2 := fun x y H Q => Ins C H x ∧ (Ins C H y ∨ ∃ j, y = .int j) ∧ sp [x, y] H Q E
theorem op_own {op : Operator} (B : BinF X.K C f op) (F : FnOk X.prog X.w X.K X.mg X.base CX k f fd ps sp) (hr : Room k X.A) (hb : Binds X.K fd ps []) (hx : Passes CX X E) : OpR X (binaryOp op) (rOwn C sp E) := by
  intro pins s σ H x y v u Q I rx ry h
  obtain ⟨⟨a, dx, fs, rfl, ha⟩, hy, q⟩ := h
  obtain rfl : v = Value.ref a := rx
  obtain ⟨mA, J, _⟩ := ins_get I.hok ha
  obtain ⟨od, J, _⟩ := J.look
  obtain ⟨m, hF⟩ := I.fr
  have run : wpAny (model X.prog X.w) X.A (call (.ref f) [.ref a, u]) (PySem.W.CmpBack (EP X pins σ Q)) X.xe s :=
    wpAny_mono (run_fn (us := [.ref a, u]) (vs := [.ref a, y]) F hr hb .nil hx I (.cons rfl (.cons ry .nil)) q) (fun _ _ z => cmpBack_EP z) fun _ _ z => z
  rcases hy with ⟨b, dy, gs, rfl, hb'⟩ | ⟨j, rfl⟩
  · obtain rfl : u = Value.ref b := ry
    obtain ⟨mB, J', _⟩ := ins_get I.hok hb'
    obtain ⟨od', J', _⟩ := J'.look
    exact PySem.W.binop_K hF I.ok.mod.kin J J'.type B.sf B.at_ B.fn run
  · obtain ⟨t, rfl⟩ := (show ∃ t, u = Value.int j t from ry)
    obtain ⟨rc, r1, r2⟩ := B.rf
    obtain ⟨fo, i1⟩ := B.i1
    obtain ⟨ro, i2⟩ := B.i2
    exact PySem.W.ksp_binT (T := "int") hF I.ok.mod.kin J rfl B.sf B.at_ B.fn r1 r2 i1 i2 B.sub run

/-- int op instance: what int's own slot declines goes to the instance's reflected one -/
structure RefF (K : PySem.W.Frag) (C g : Addr) (op : Operator) : Prop where
  sf : PySem.W.selfFirst K C = true
  fo : ∃ x, PySem.W.findIn K (.ref C) (PySem.dunder op.info.2) = some (some (.ref x))
  at_ : PySem.W.findIn K (.ref C) (dunderR op.info.2) = some (some (.ref g))
  fn : PySem.W.isFn K (.ref g) = true
  sub : PySem.W.subIn K (.ref C) (.type "int") = some false

/-- a plain object is no int -/
theorem asInt_ref {M : Model} {A : Around} {E : Value → Shared → Prop} {s : Shared} {a : Addr} {o : Obj} {Q : Option Int → Shared → Prop} (h : s.heap.get? a = some o) (hd : o.data = .plain) (q : Q none s) : wpAny M A (asInt? (.ref a)) Q E s := by
  unfold asInt?
  refine wpAny_bind (wpAny_load h ?_)
  rw [hd]
  exact wpAny_pure q
theorem intBinary_declines {M : Model} {A : Around} {E : Value → Shared → Prop} {s : Shared} {i : Int} {t : Tok} {a : Addr} {o : Obj} {name : String} {g : Int → Int → Sem Fin} {rf : Bool} {Q : Fin → Shared → Prop}
    (h : s.heap.get? a = some o) (hd : o.data = .plain) (q : Q (.done (.ret .notImplemented)) s) : wpAny M A (Builtin.Int.intBinary name g rf ⟨[.int i t, .ref a], []⟩) Q E s := by
  unfold Builtin.Int.intBinary
  refine wpAny_bind (m := slotArgs name 1 _) (wpAny_pure ?_)
  refine wpAny_bind (m := Builtin.Int.intOfSelf _) (wpAny_pure ?_)
  refine wpAny_bind (m := asInt? _) (asInt_ref h hd ?_)
  refine wpAny_bind (wpAny_rule ?_)
  exact wpAny_pure q

/-- int's slot, called with an instance, declines -/
theorem slot_declines {M : Model} {A : Around} {E : Value → Shared → Prop} {prog : Program} {w : World} {s : Shared} {i : Int} {t : Tok} {a : Addr} {n : Str} {id : String} {B : Builtin} {Q : Value → Shared → Prop}
    (slot : Slot "int" n id) (entry : entryFor table id = some B) (args : argsOk id ⟨[.int i t, .ref a], []⟩)
    (hB : ∀ (A : Around) (E : Value → Shared → Prop) (Q : Fin → Shared → Prop), Q (.done (.ret .notImplemented)) s → wpAny (model prog w) A (B ⟨[.int i t, .ref a], []⟩) Q E s) (q : Q .notImplemented s) :
    wpAny (model prog w) A (call (.builtin id) [.int i t, .ref a]) Q E s :=
  GQ.call_here slot rfl entry args (hB _ _ _ q)

/-- int's slots for the operator -/
structure IntOp (op : Operator) (idl : String) (B : Builtin) : Prop where
  fills : fillsNumberSlot (.type "int") op.info.2 = pure true
  slot : Slot "int" (PySem.dunder op.info.2) idl
  entry : entryFor table idl = some B
  args : ∀ a b, argsOk idl ⟨[a, b], []⟩
  dec : ∀ (M : Model) (A : Around) (E : Value → Shared → Prop) (s : Shared) (i : Int) (t : Tok) (a : Addr) (o : Obj) (Q : Fin → Shared → Prop), s.heap.get? a = some o → o.data = .plain → Q (.done (.ret .notImplemented)) s → wpAny M A (B ⟨[.int i t, .ref a], []⟩) Q E s

theorem bin1_refl {prog : Program} {w : World} {A : Around} {E : Value → Shared → Prop} {s : Shared} {K : PySem.W.Frag} {h₀ : Heap} {L a C g : Addr} {m : Str → Option Value} {ox : Obj} {od : Option Obj} {op : Operator} {idl : String} {B : Builtin} {i : Int} {t : Tok} {Q : Value → Shared → Prop}
    (N : IntOp op idl B) (R : RefF K C g op) (F : PyProof.Rows.Fr h₀ L s.heap m) (X₀ : K.In h₀) (I : PySem.W.InstAt s.heap a ox C od) (hd : ox.data = .plain)
    (h : wpAny (model prog w) A (call (.ref g) [.ref a, .int i t]) (PySem.W.CmpBack Q) E s) : wpAny (model prog w) A (binaryOp1 op.info.2 (.int i t) (.ref a)) (fun r s' => ∃ v, r = some v ∧ Q v s') E s := by
  have X := X₀.keeps F.keep
  obtain ⟨cd, rest, hcd, hm⟩ := PySem.W.ksp_first R.sf
  obtain ⟨fo, hfo⟩ := R.fo
  have n1 := N.fills
  have n2 := N.slot
  have r1 := R.at_
  rcases hi : op.info with ⟨sym, nm⟩
  rw [hi] at hfo n1 n2 r1
  dsimp only at hfo n1 n2 r1 ⊢
  have hne : (Value.type "int" == Value.ref C) = false := Bool.eq_false_iff.mpr fun q => by cases beq_iff_eq.mp q
  unfold binaryOp1
  refine wpAny_bind (wpAny_typeOf (typeIs_int s i t) (wpAny_bind (I.type.here (wpAny_bind (wpAny_of_eq n1 ?_)))))
  simp only [hne, Bool.false_eq_true, if_false]
  refine wpAny_bind ((PySem.W.fills_K X hcd hm hfo).here ?_)
  simp only [Bool.and_self, if_true]
  refine wpAny_bind ((PySem.W.looks_subIn X R.sub).here ?_)
  have hpy : numberSlotInPython (.type "int") nm = pure false := rfl
  simp only [Bool.false_eq_true, if_false, pure_bind, Bool.not_false, Bool.and_self, if_true, hpy]
  refine wpAny_bind (wpAny_tryMethod_declines (typeIs_int s i t) n2 (slot_declines (M := model prog w) n2 N.entry (N.args _ _) (fun A E Q q => N.dec _ A E s i t a ox Q I.at_ hd q) ⟨rfl, ?_⟩))
  refine wpAny_bind (wpAny_mono (PySem.W.ksp_try X I r1 R.fn h) (fun r s' z => ?_) fun _ _ z => z)
  obtain ⟨v, rfl, hq⟩ := z
  exact wpAny_bind (wpAny_rule (wpAny_pure ⟨v, rfl, hq⟩))
theorem bin_refl {prog : Program} {w : World} {A : Around} {E : Value → Shared → Prop} {s : Shared} {K : PySem.W.Frag} {h₀ : Heap} {L a C g : Addr} {m : Str → Option Value} {ox : Obj} {od : Option Obj} {op : Operator} {idl : String} {B : Builtin} {i : Int} {t : Tok} {Q : Value → Shared → Prop}
    (N : IntOp op idl B) (R : RefF K C g op) (F : PyProof.Rows.Fr h₀ L s.heap m) (X₀ : K.In h₀) (I : PySem.W.InstAt s.heap a ox C od) (hd : ox.data = .plain)
    (h : wpAny (model prog w) A (call (.ref g) [.ref a, .int i t]) (PySem.W.CmpBack Q) E s) : wpAny (model prog w) A (binaryOp op (.int i t) (.ref a)) Q E s := by
  have one := bin1_refl N R F X₀ I hd h
  rcases hi : op.info with ⟨sym, nm⟩
  rw [hi] at one
  simp only [binaryOp, hi]
  refine wpAny_holding (wpAny_bind (wpAny_mono one (fun r s' z => ?_) fun _ _ z => z))
  obtain ⟨v, rfl, hq⟩ := z
  exact wpAny_pure hq

def rRef (C : Addr) (sp : Sp) (E : XK) : R2 := fun x y H Q => (∃ i, x = .int i) ∧ Ins C H y ∧ sp [y, x] H Q E
theorem op_ref {op : Operator} {idl : String} {B : Builtin} (N : IntOp op idl B) (R : RefF X.K C f op) (F : FnOk X.prog X.w X.K X.mg X.base CX k f fd ps sp) (hr : Room k X.A) (hb : Binds X.K fd ps []) (hx : Passes CX X E) : OpR X (binaryOp op) (rRef C sp E) := by
  intro pins s σ H x y v u Q I rx ry h
  obtain ⟨⟨i, rfl⟩, ⟨a, dx, fs, rfl, ha⟩, q⟩ := h
  obtain ⟨t, rfl⟩ := (show ∃ t, v = Value.int i t from rx)
  obtain rfl : u = Value.ref a := ry
  obtain ⟨mA, J, _⟩ := ins_get I.hok ha
  have hob := J.obj
  obtain ⟨od, J, _⟩ := J.look
  obtain ⟨m, hF⟩ := I.fr
  refine bin_refl N R hF I.ok.mod.kin J rfl ?_
  exact wpAny_mono (run_fn (us := [.ref a, .int i t]) (vs := [.ref a, .int i]) F hr hb .nil hx I (.cons rfl (.cons ⟨_, rfl⟩ .nil)) q) (fun _ _ z => cmpBack_EP z) fun _ _ z => z

theorem int_add : IntOp .Add "int.__add__" Builtin.«int.__add__» := ⟨PySem.F.fills_int_add, PySem.F.slot_int_add, PySem.F.entry_int_add, PySem.F.args_int_add_2, fun _ _ _ _ _ _ _ _ _ h hd q => intBinary_declines h hd q⟩
theorem int_sub : IntOp .Sub "int.__sub__" Builtin.«int.__sub__» := ⟨PySem.F.fills_int_sub, PySem.F.slot_int_sub, PySem.F.entry_int_sub, PySem.F.args_int_sub_2, fun _ _ _ _ _ _ _ _ _ h hd q => intBinary_declines h hd q⟩
theorem int_mul : IntOp .Mult "int.__mul__" Builtin.«int.__mul__» := ⟨PySem.F.fills_int_mul, PySem.F.slot_int_mul, PySem.F.entry_int_mul, PySem.F.args_int_mul_2, fun _ _ _ _ _ _ _ _ _ h hd q => intBinary_declines h hd q⟩
theorem int_mod : IntOp .Mod "int.__mod__" Builtin.«int.__mod__» := ⟨PySem.F.fills_int_mod, PySem.F.slot_int_mod, PySem.F.entry_int_mod, PySem.F.args_int_mod_2, fun _ _ _ _ _ _ _ _ _ h hd q => intBinary_declines h hd q⟩
theorem int_fdiv : IntOp .FloorDiv "int.__floordiv__" Builtin.«int.__floordiv__» := by
  refine ⟨PySem.F.fills_int_floordiv, PySem.F.slot_int_floordiv, PySem.F.entry_int_floordiv, PySem.F.args_int_floordiv_2, fun _ _ _ s i t a o _ h hd q => ?_⟩
  unfold Builtin.«int.__floordiv__» Builtin.exactOperandsForPylong
  refine wpAny_bind ?_
  have e : ([Value.int i t, Value.ref a].any Value.onHeap) = true := rfl
  simp only [e, if_true]
  refine wpAny_bind (m := asInt? (.int i t)) (wpAny_pure ?_)
  refine wpAny_bind (m := asInt? _) (asInt_ref h hd ?_)
  exact wpAny_pure (intBinary_declines h hd q)

/-- the callee runs, somewhere below the body -/
theorem run_fnA {A : Around} {pins : List (Addr × Obj)} {σ : L2.St} {H : Hp} {s : Shared} {Q : VK} {us : List Value} {vs : List V} (F : FnOk X.prog X.w X.K X.mg X.base CX k f fd ps sp) (hr : Room k A) (hfr : A.frames = X.A.frames) (hb : Binds X.K fd ps [])
    (hx : Passes CX X E) (I : Inv X pins σ H s) (r : Vals vs us) (h : sp vs H Q E) : wpAny (model X.prog X.w) A (call (.ref f) us) (EP X pins σ Q) X.xe s := by
  have hl : us.length = ps.length := by rw [← r.length]; exact F.len _ _ _ _ h
  have e0 : Env0 X.prog X.w X.K X.mg X.base A X.stack s H := by
    have e := I.env0
    exact ⟨by rw [hfr]; exact e.frames, e.mod, e.bs, e.bsz, e.funs, e.frf, e.hok, e.bare⟩
  have hb' : BindsTo s fd ⟨us, []⟩ (ps.zip us) := by
    have := hb s us I.kIn (by simpa using hl)
    simpa using this
  refine wpAny_call (codeAny_mono (F.run A X.stack s H ⟨us, []⟩ us vs Q E hr e0 hb' r h) fun r s' hq => ?_)
  cases r with
  | error e => exact hx pins σ H s e s' I hq
  | ok fl =>
    cases fl with
    | ret u => exact I.after hq
    | next => exact False.elim hq
    | brk => exact False.elim hq
    | cont => exact False.elim hq

/-! ### comparisons -/
structure CmpF (K : PySem.W.Frag) (C f : Addr) (nm : Str) : Prop where
  at_ : PySem.W.findIn K (.ref C) nm = some (some (.ref f))
  fn : PySem.W.isFn K (.ref f) = true
  sub : PySem.W.subIn K (.type "int") (.ref C) = some false
  sub' : PySem.W.subIn K (.ref C) (.type "int") = some false
theorem notFirst_int {K : PySem.W.Frag} {C : Addr} (h : PySem.W.subIn K (.type "int") (.ref C) = some false) : PySem.W.notFirst K C (.type "int") = true := by
  unfold PySem.W.notFirst
  rw [h]
  simp

theorem op_cmp {op : CmpOp} (B : CmpF X.K C f (cmpInfo op).2.1) (F : FnOk X.prog X.w X.K X.mg X.base CX k f fd ps sp) (hr : Room k X.A) (hb : Binds X.K fd ps []) (hx : Passes CX X E)
    (hop : ∀ a b, compareOp op a b = richCompare op a b) : OpR X (compareOp op) (rOwn C sp E) := by
  intro pins s σ H x y v u Q I rx ry h
  obtain ⟨⟨a, dx, fs, rfl, ha⟩, hy, q⟩ := h
  obtain rfl : v = Value.ref a := rx
  obtain ⟨mA, J, _⟩ := ins_get I.hok ha
  obtain ⟨od, J, _⟩ := J.look
  obtain ⟨m, hF⟩ := I.fr
  have run : wpAny (model X.prog X.w) X.A (call (.ref f) [.ref a, u]) (PySem.W.CmpBack (EP X pins σ Q)) X.xe s :=
    wpAny_mono (run_fn (us := [.ref a, u]) (vs := [.ref a, y]) F hr hb .nil hx I (.cons rfl (.cons ry .nil)) q) (fun _ _ z => cmpBack_EP z) fun _ _ z => z
  rw [hop]
  rcases hy with ⟨b, dy, gs, rfl, hb'⟩ | ⟨j, rfl⟩
  · obtain rfl : u = Value.ref b := ry
    obtain ⟨mB, J', _⟩ := ins_get I.hok hb'
    obtain ⟨od', J', _⟩ := J'.look
    exact PySem.W.cmp_K (tb := .ref C) hr.units0 hF I.ok.mod.kin J J'.type (by simp [PySem.W.notFirst]) B.at_ B.fn run
  · obtain ⟨t, rfl⟩ := (show ∃ t, u = Value.int j t from ry)
    exact PySem.W.cmp_K (tb := .type "int") hr.units0 hF I.ok.mod.kin J (PySem.W.Looks.of_pure rfl) (notFirst_int B.sub) B.at_ B.fn run

structure IntCmp (op : CmpOp) (idl : String) (B : Builtin) : Prop where
  slot : Slot "int" (cmpInfo op).2.1 idl
  entry : entryFor table idl = some B
  args : ∀ a b, argsOk idl ⟨[a, b], []⟩
  dec : ∀ (M : Model) (A : Around) (E : Value → Shared → Prop) (s : Shared) (i : Int) (t : Tok) (a : Addr) (o : Obj) (Q : Fin → Shared → Prop), s.heap.get? a = some o → o.data = .plain → Q (.done (.ret .notImplemented)) s → wpAny M A (B ⟨[.int i t, .ref a], []⟩) Q E s

theorem cmp_refl {prog : Program} {w : World} {A : Around} {E : Value → Shared → Prop} {s : Shared} {K : PySem.W.Frag} {h₀ : Heap} {L a C : Addr} {m : Str → Option Value} {ox : Obj} {od : Option Obj} {op : CmpOp} {idl : String} {B : Builtin} {i : Int} {t : Tok} {Q : Value → Shared → Prop}
    (N : IntCmp op idl B) (hu : A.units < cLine) (F : PyProof.Rows.Fr h₀ L s.heap m) (X₀ : K.In h₀) (I : PySem.W.InstAt s.heap a ox C od) (hd : ox.data = .plain) (sub' : PySem.W.subIn K (.ref C) (.type "int") = some false)
    (h : wpAny (model prog w) A (tryCompare (.ref a) (cmpInfo op).2.2 (.int i t)) (fun r s' => ∃ v, r = some v ∧ Q v s') E s) : wpAny (model prog w) A (richCompare op (.int i t) (.ref a)) Q E s := by
  have X := X₀.keeps F.keep
  have n2 := N.slot
  rcases hi : cmpInfo op with ⟨sym, nf, nr⟩
  rw [hi] at n2 h
  dsimp only at n2 h
  simp only [richCompare, hi]
  refine wpAny_holding (wpAny_bind (wpAny_cRoomFor hu ?_))
  have e1 : oneThing? op (.int i t) (.ref a) = none := (typeIs_int s i t).oneThing_none op (.ref a)
  rw [e1]
  refine wpAny_bind (wpAny_typeOf (typeIs_int s i t) (wpAny_bind (I.type.here ?_)))
  have hne : (Value.type "int" != Value.ref C) = true := by
    rw [bne_iff_ne]
    exact fun z => by cases z
  simp only [hne, if_true]
  refine wpAny_bind ((PySem.W.looks_subIn X sub').here ?_)
  simp only [Bool.false_eq_true, if_false, Bool.not_false, if_true]
  refine wpAny_bind (m := tryCompare (.int i t) nf (.ref a)) ?_
  have dec : wpAny (model prog w) A (call (.builtin idl) [.int i t, .ref a]) (fun v s' => v = .notImplemented ∧ s' = s) E s := slot_declines (M := model prog w) n2 N.entry (N.args _ _) (fun A E Q q => N.dec _ A E s i t a ox Q I.at_ hd q) ⟨rfl, rfl⟩
  unfold tryCompare
  refine wpAny_bind (wpAny_callSpecialIfBound?_slot (typeIs_int s i t) n2 (wpAny_mono dec (fun v s' z => ?_) fun _ _ z => z))
  obtain ⟨rfl, rfl⟩ := z
  refine wpAny_pure ?_
  refine wpAny_bind (wpAny_mono h (fun r s' z => ?_) fun _ _ z => z)
  obtain ⟨v, rfl, hq⟩ := z
  exact wpAny_pure hq

theorem try_own {prog : Program} {w : World} {A : Around} {E : Value → Shared → Prop} {s : Shared} {K : PySem.W.Frag} {a C f : Addr} {ox : Obj} {od : Option Obj} {nm : Str} {b : Value} {Q : Value → Shared → Prop} (X : K.In s.heap) (I : PySem.W.InstAt s.heap a ox C od)
    (hs : PySem.W.findIn K (.ref C) nm = some (some (.ref f))) (hf : PySem.W.isFn K (.ref f) = true) (h : wpAny (model prog w) A (call (.ref f) [.ref a, b]) (PySem.W.CmpBack Q) E s) :
    wpAny (model prog w) A (tryCompare (.ref a) nm b) (fun r s' => ∃ v, r = some v ∧ Q v s') E s := by
  unfold tryCompare
  refine wpAny_bind (PySem.W.ifBound_K X I hs hf (wpAny_mono h (fun v s' hv => ?_) fun _ _ e => e))
  cases v <;> first | exact hv.elim | exact wpAny_pure ⟨_, rfl, hv⟩

theorem op_cmpR {op : CmpOp} {idl : String} {B : Builtin} (N : IntCmp op idl B) (R : CmpF X.K C f (cmpInfo op).2.2) (F : FnOk X.prog X.w X.K X.mg X.base CX k f fd ps sp) (hr : Room k X.A) (hb : Binds X.K fd ps []) (hx : Passes CX X E)
    (hop : ∀ a b, compareOp op a b = richCompare op a b) : OpR X (compareOp op) (rRef C sp E) := by
  intro pins s σ H x y v u Q I rx ry h
  obtain ⟨⟨i, rfl⟩, ⟨a, dx, fs, rfl, ha⟩, q⟩ := h
  obtain ⟨t, rfl⟩ := (show ∃ t, v = Value.int i t from rx)
  obtain rfl : u = Value.ref a := ry
  obtain ⟨mA, J, _⟩ := ins_get I.hok ha
  obtain ⟨od, J, _⟩ := J.look
  obtain ⟨m, hF⟩ := I.fr
  rw [hop]
  refine cmp_refl N hr.units0 hF I.ok.mod.kin J rfl R.sub' (try_own I.kIn J R.at_ R.fn ?_)
  exact wpAny_mono (run_fn (us := [.ref a, .int i t]) (vs := [.ref a, .int i]) F hr hb .nil hx I (.cons rfl (.cons ⟨_, rfl⟩ .nil)) q) (fun _ _ z => cmpBack_EP z) fun _ _ z => z

theorem int_lt : IntCmp .Lt "int.__lt__" Builtin.«int.__lt__» := ⟨PySem.F.slot_int_lt, PySem.F.entry_int_lt, PySem.F.args_int_lt_2, fun _ _ _ _ _ _ _ _ _ h hd q => intBinary_declines h hd q⟩
theorem int_le : IntCmp .LtE "int.__le__" Builtin.«int.__le__» := ⟨PySem.F.slot_int_le, PySem.F.entry_int_le, PySem.F.args_int_le_2, fun _ _ _ _ _ _ _ _ _ h hd q => intBinary_declines h hd q⟩
theorem int_gt : IntCmp .Gt "int.__gt__" Builtin.«int.__gt__» := ⟨PySem.F.slot_int_gt, PySem.F.entry_int_gt, PySem.F.args_int_gt_2, fun _ _ _ _ _ _ _ _ _ h hd q => intBinary_declines h hd q⟩
theorem int_ge : IntCmp .GtE "int.__ge__" Builtin.«int.__ge__» := ⟨PySem.F.slot_int_ge, PySem.F.entry_int_ge, PySem.F.args_int_ge_2, fun _ _ _ _ _ _ _ _ _ h hd q => intBinary_declines h hd q⟩
theorem int_eq : IntCmp .Eq "int.__eq__" Builtin.«int.__eq__» := ⟨PySem.F.slot_int_eq, PySem.F.entry_int_eq, PySem.F.args_int_eq_2, fun _ _ _ _ _ _ _ _ _ h hd q => intBinary_declines h hd q⟩
theorem int_ne : IntCmp .NotEq "int.__ne__" Builtin.«int.__ne__» := ⟨PySem.F.slot_int_ne, PySem.F.entry_int_ne, PySem.F.args_int_ne_2, fun _ _ _ _ _ _ _ _ _ h hd q => intBinary_declines h hd q⟩

/-! ### != by the own == -/
theorem ifBound_B {prog : Program} {w : World} {A : Around} {E : Value → Shared → Prop} {s : Shared} {K : PySem.W.Frag} {x C : Addr} {ox : Obj} {od : Option Obj} {name : Str} {id : String} {args : List Value} {Q : Option Value → Shared → Prop} (X : K.In s.heap) (I : PySem.W.InstAt s.heap x ox C od)
    (hs : PySem.W.findIn K (.ref C) name = some (some (.builtin id))) (hb : ∀ self, bindSpecial (.builtin id) self = pure (.builtin id, [self])) (h : wpAny (model prog w) A (call (.builtin id) (.ref x :: args)) (fun v => Q (some v)) E s) :
    wpAny (model prog w) A (callSpecialIfBound? (.ref x) name args) Q E s := by
  simp only [callSpecialIfBound?, bindSpecialIfBound?]
  refine wpAny_holding (wpAny_bind (wpAny_bind (wpAny_bind (I.type.here ((PySem.W.looks_findIn X hs).here ?_)))))
  refine wpAny_bind (wpAny_askSetting (wpAny_ite ?_))
  have fin : wpAny (model prog w) A (call (.builtin id) ([.ref x] ++ args) >>= fun v => pure (some v)) Q E s := wpAny_bind (wpAny_mono h (fun v s' h' => wpAny_pure h') fun _ _ h' => h')
  split
  · exact wpAny_bind ((PySem.W.Looks.of_pure (hb _)).here (wpAny_pure (by exact fin)))
  · exact wpAny_tryCatch (wpAny_bind ((PySem.W.Looks.of_pure (hb _)).here (wpAny_pure (by exact fin))))
/-- what the class has for != : object's own -/
structure NeF (K : PySem.W.Frag) (C f : Addr) : Prop where
  eq : PySem.W.findIn K (.ref C) "__eq__" = some (some (.ref f))
  fn : PySem.W.isFn K (.ref f) = true
  ne : PySem.W.findIn K (.ref C) "__ne__" = some (some (.builtin "object.__ne__"))
  mro : PySem.W.mroIn K C (.type "object") = some true
  sub : PySem.W.subIn K (.type "int") (.ref C) = some false
  sub' : PySem.W.subIn K (.ref C) (.type "int") = some false
theorem ne_bind (self : Value) : bindSpecial (.builtin "object.__ne__") self = pure (.builtin "object.__ne__", [self]) := PySem.F.slot_tuple_iterator_ne.bind self
theorem try_ne {prog : Program} {w : World} {A : Around} {E : Value → Shared → Prop} {s : Shared} {K : PySem.W.Frag} {a C f : Addr} {ox : Obj} {od : Option Obj} {b : Value} {Q : Value → Shared → Prop} (N : NeF K C f) (hu : A.in1.units < cLine) (X : K.In s.heap) (I : PySem.W.InstAt s.heap a ox C od)
    (h : wpAny (model prog w) A.in1 (call (.ref f) [.ref a, b]) (fun v s' => ∃ k, v = .bool k ∧ Q (.bool (!k)) s') E s) :
    wpAny (model prog w) A (tryCompare (.ref a) "__ne__" b) (fun r s' => ∃ v, r = some v ∧ Q v s') E s := by
  unfold tryCompare
  refine wpAny_bind (ifBound_B X I N.ne ne_bind ?_)
  refine wpAny_call (codeAny_call_builtin (by decide +kernel) F.cmpEntry_ne (PySem.W.check_slot (i := "object.__ne__") (owner := "object") (n := "__ne__") (by decide +kernel) (by decide +kernel) (I.type.andThen (PySem.W.looks_mroIn X N.mro)) (F.cmpArgs_ne _ _) ?_))
  unfold Builtin.«object.__ne__»
  refine wpAny_bind (m := slotArgs "__ne__" 1 _) (wpAny_pure ?_)
  refine wpAny_bind (m := cRoomFor _ _) (wpAny_cRoomFor hu ?_)
  refine wpAny_bind (m := callSpecialIfBound? (.ref a) (Str.ofString "__eq__") _) (PySem.W.ifBound_K X I N.eq N.fn (wpAny_mono h (fun r s' hq => ?_) fun _ _ y => y))
  obtain ⟨k, rfl, q⟩ := hq
  refine wpAny_bind (wpAny_truthy_bool ?_)
  exact wpAny_pure (wpAny_pure ⟨_, rfl, q⟩)

def rNe (C : Addr) (sp : Sp) (E : XK) : R2 := fun x y H Q => (Ins C H x ∧ (Ins C H y ∨ ∃ j, y = .int j) ∧ sp [x, y] H (fun v H' => ∃ k, v = .bl k ∧ Q (.bl (!k)) H') E) ∨
  ((∃ i, x = .int i) ∧ Ins C H y ∧ sp [y, x] H (fun v H' => ∃ k, v = .bl k ∧ Q (.bl (!k)) H') E)
theorem o_ne (N : NeF X.K C f) (F : FnOk X.prog X.w X.K X.mg X.base CX k f fd ps sp) (hr : Room (k + 1) X.A) (hb : Binds X.K fd ps []) (hx : Passes CX X E) : OpR X (compareOp .NotEq) (rNe C sp E) := by
  intro pins s σ H x y v u Q I rx ry h
  have hu1 : X.A.in1.units < cLine := (hr.in1).units0
  show wpAny (model X.prog X.w) X.A (richCompare .NotEq v u) (EP X pins σ Q) X.xe s
  obtain ⟨m, hF⟩ := I.fr
  have X0 := I.kIn
  rcases h with ⟨⟨a, dx, fs, rfl, ha⟩, hy, q⟩ | ⟨⟨i, rfl⟩, ⟨a, dx, fs, rfl, ha⟩, q⟩
  · obtain rfl : v = Value.ref a := rx
    obtain ⟨mA, J, _⟩ := ins_get I.hok ha
    obtain ⟨od, J, _⟩ := J.look
    have one : wpAny (model X.prog X.w) X.A (tryCompare (.ref a) "__ne__" u) (fun r s' => ∃ v, r = some v ∧ EP X pins σ Q v s') X.xe s := by
      refine try_ne N hu1 X0 J (wpAny_mono (run_fnA (us := [.ref a, u]) (vs := [.ref a, y]) F hr.in1 rfl hb hx I (.cons rfl (.cons ry .nil)) q) (fun v s' z => ?_) fun _ _ z => z)
      obtain ⟨w', H', I', r', k', rfl, q'⟩ := z
      obtain rfl : v = Value.bool k' := r'
      exact ⟨k', rfl, .bl (!k'), H', I', rfl, q'⟩
    unfold richCompare
    simp only [oneThing_ref]
    refine wpAny_holding (wpAny_bind (wpAny_cRoomFor hr.units0 ?_))
    rcases hy with ⟨b, dy, gs, rfl, hb'⟩ | ⟨j, rfl⟩
    · obtain rfl : u = Value.ref b := ry
      obtain ⟨mB, J', _⟩ := ins_get I.hok hb'
      obtain ⟨od', J', _⟩ := J'.look
      refine wpAny_bind (J.type.here (wpAny_bind (J'.type.here ?_)))
      simp only [bne_self_eq_false, Bool.false_eq_true, if_false]
      refine wpAny_bind (wpAny_pure ?_)
      simp only [Bool.false_eq_true, if_false]
      refine wpAny_bind (m := tryCompare (.ref a) "__ne__" (.ref b)) (wpAny_mono one (fun r s' z => ?_) fun _ _ e => e)
      obtain ⟨v, rfl, hq⟩ := z
      exact wpAny_pure hq
    · obtain ⟨t, rfl⟩ := (show ∃ t, u = Value.int j t from ry)
      refine wpAny_bind (J.type.here (wpAny_bind (wpAny_typeOf (typeIs_int s j t) ?_)))
      have hne : (Value.ref C != Value.type "int") = true := by
        rw [bne_iff_ne]
        exact fun z => by cases z
      simp only [hne, if_true]
      refine wpAny_bind ((PySem.W.looks_subIn X0 N.sub).here ?_)
      simp only [Bool.false_eq_true, if_false]
      refine wpAny_bind (m := tryCompare (.ref a) "__ne__" (.int j t)) (wpAny_mono one (fun r s' z => ?_) fun _ _ e => e)
      obtain ⟨v, rfl, hq⟩ := z
      exact wpAny_pure hq
  · obtain ⟨t, rfl⟩ := (show ∃ t, v = Value.int i t from rx)
    obtain rfl : u = Value.ref a := ry
    obtain ⟨mA, J, _⟩ := ins_get I.hok ha
    obtain ⟨od, J, _⟩ := J.look
    refine cmp_refl int_ne hr.units0 hF I.ok.mod.kin J rfl N.sub' ?_
    show wpAny (model X.prog X.w) X.A (tryCompare (.ref a) "__ne__" (.int i t)) (fun r s' => ∃ v, r = some v ∧ EP X pins σ Q v s') X.xe s
    refine try_ne N hu1 X0 J (wpAny_mono (run_fnA (us := [.ref a, .int i t]) (vs := [.ref a, .int i]) F hr.in1 rfl hb hx I (.cons rfl (.cons ⟨_, rfl⟩ .nil)) q) (fun v s' z => ?_) fun _ _ z => z)
    obtain ⟨w', H', I', r', k', rfl, q'⟩ := z
    obtain rfl : v = Value.bool k' := r'
    exact ⟨k', rfl, .bl (!k'), H', I', rfl, q'⟩

/-! ### -x, abs(x), bool(x), str(x), truth -/
structure UnF (K : PySem.W.Frag) (C f : Addr) (nm : Str) : Prop where
  at_ : PySem.W.findIn K (.ref C) nm = some (some (.ref f))
  fn : PySem.W.isFn K (.ref f) = true
def rUn (C : Addr) (sp : Sp) (E : XK) : V → Hp → VK → Prop := fun x H Q => Ins C H x ∧ sp [x] H Q E
theorem o_neg (U : UnF X.K C f "__neg__") (F : FnOk X.prog X.w X.K X.mg X.base CX k f fd ps sp) (hr : Room k X.A) (hb : Binds X.K fd ps []) (hx : Passes CX X E) : UnR X (unaryOp .USub) (rUn C sp E) := by
  intro pins s σ H x v Q I rx h
  obtain ⟨⟨a, dx, fs, rfl, ha⟩, q⟩ := h
  obtain rfl : v = Value.ref a := rx
  obtain ⟨mA, J, _⟩ := ins_get I.hok ha
  obtain ⟨od, J, _⟩ := J.look
  obtain ⟨m, hF⟩ := I.fr
  exact PySem.W.ksp_neg hF I.ok.mod.kin J U.at_ U.fn (run_fnA (us := [.ref a]) (vs := [.ref a]) F hr rfl hb hx I (.cons rfl .nil) q)
def rCall1 (C : Addr) (sp : Sp) (P : V → Prop) (E : XK) : List V → Hp → VK → Prop := fun xs H Q => ∃ x, xs = [x] ∧ Ins C H x ∧ sp [x] H (fun v H' => P v ∧ Q v H') E
theorem o_abs (U : UnF X.K C f "__abs__") (F : FnOk X.prog X.w X.K X.mg X.base CX k f fd ps sp) (hr : Room (k + 1) X.A) (hb : Binds X.K fd ps []) (hx : Passes CX X E) : CallR X (.builtin "abs") (rCall1 C sp (fun _ => True) E) := by
  intro pins s σ H xs us Q I r h
  obtain ⟨x, rfl, ⟨a, dx, fs, rfl, ha⟩, q⟩ := h
  obtain ⟨u, rfl, rx⟩ := vals1 r
  obtain rfl : u = Value.ref a := rx
  obtain ⟨mA, J, _⟩ := ins_get I.hok ha
  obtain ⟨od, J, _⟩ := J.look
  refine PySem.Calls.call_function_entry kind_abs plain_abs entry_abs (args_abs _) ?_
  unfold Builtin.«abs»
  refine wpAny_bind (m := oneArg "abs" _) (wpAny_pure ?_)
  refine wpAny_bind (m := callSpecial? (.ref a) (Str.ofString "__abs__")) (PySem.W.special_fn I.kIn J U.at_ (beq_iff_eq.mp U.fn) (wpAny_mono (run_fnA (us := [.ref a]) (vs := [.ref a]) F hr.in1 rfl hb hx I (.cons rfl .nil) q) (fun v s' z => ?_) fun _ _ z => z))
  obtain ⟨v', H', I', r', _, q'⟩ := z
  exact wpAny_pure ⟨_, rfl, v', H', I', r', q'⟩
theorem strBack {pins : List (Addr × Obj)} {σ : L2.St} {Q : VK} {v : Value} {s' : Shared} (h : EP X pins σ (fun v H' => (∃ z, v = .str z) ∧ Q v H') v s') : PySem.W.StrBack (EP X pins σ Q) v s' := by
  obtain ⟨v', H', I', r', ⟨z, rfl⟩, q'⟩ := h
  obtain ⟨t, rfl⟩ := (show ∃ t, v = Value.str z t from r')
  exact ⟨.str z, H', I', ⟨t, rfl⟩, q'⟩
theorem o_str (U : UnF X.K C f "__str__") (F : FnOk X.prog X.w X.K X.mg X.base CX k f fd ps sp) (hr : Room (k + 2) X.A) (hb : Binds X.K fd ps []) (hx : Passes CX X E) : CallR X (.type "str") (rCall1 C sp (fun v => ∃ z, v = .str z) E) := by
  intro pins s σ H xs us Q I r h
  obtain ⟨x, rfl, ⟨a, dx, fs, rfl, ha⟩, q⟩ := h
  obtain ⟨u, rfl, rx⟩ := vals1 r
  obtain rfl : u = Value.ref a := rx
  obtain ⟨mA, J, _⟩ := ins_get I.hok ha
  obtain ⟨od, J, _⟩ := J.look
  exact PySem.W.kso_call (hr.in1.in1).units0 I.kIn J U.at_ U.fn (wpAny_mono (run_fnA (us := [.ref a]) (vs := [.ref a]) F hr.in1.in1 rfl hb hx I (.cons rfl .nil) q) (fun v s' z => strBack z) fun _ _ z => z)
theorem boolBack {pins : List (Addr × Obj)} {σ : L2.St} {Q : Bool → Hp → Prop} {v : Value} {s' : Shared} (h : EP X pins σ (fun v H' => ∃ z, v = .bl z ∧ Q z H') v s') : PySem.W.BoolBack (TP X pins σ Q) v s' := by
  obtain ⟨v', H', I', r', z, rfl, q'⟩ := h
  obtain rfl : v = Value.bool z := r'
  exact ⟨H', I', q'⟩
theorem o_bool (U : UnF X.K C f "__bool__") (F : FnOk X.prog X.w X.K X.mg X.base CX k f fd ps sp) (hr : Room (k + 2) X.A) (hb : Binds X.K fd ps []) (hx : Passes CX X E) :
    CallR X (.type "bool") (fun xs H Q => ∃ x, xs = [x] ∧ Ins C H x ∧ sp [x] H (fun v H' => ∃ z, v = .bl z ∧ Q (.bl z) H') E) := by
  intro pins s σ H xs us Q I r h
  obtain ⟨x, rfl, ⟨a, dx, fs, rfl, ha⟩, q⟩ := h
  obtain ⟨u, rfl, rx⟩ := vals1 r
  obtain rfl : u = Value.ref a := rx
  obtain ⟨mA, J, _⟩ := ins_get I.hok ha
  obtain ⟨od, J, _⟩ := J.look
  obtain ⟨m, hF⟩ := I.fr
  refine callType_codes (T := "bool") (Bi := Builtin.«object.__init__») (Q₁ := fun r s₁ => ∃ b, r = .bool b ∧ EP X pins σ Q r s₁) PySem.F.called_bool (PySem.F.typeCall_bool_1 _) PySem.F.entry_object_init ?_ ?_
  · refine codeAny_of_tree ?_
    show wpAny _ X.A.in1.in1 (do checkBuiltinCall "bool.__new__" ⟨[.type "bool", .ref a], []⟩; again (.builtin "bool.__new__" ⟨[.type "bool", .ref a], []⟩)) _ _ s
    refine wpAny_bind (wpAny_of_eq (PySem.F.newCall_bool_1 _) (wpAny_pure ⟨plainId_quiet (by decide +kernel) _, codeAny_builtin PySem.F.entry_bool_new ?_⟩))
    rw [Around.under_plainId (by decide +kernel) _]
    have tru : wpAny (model X.prog X.w) X.A.in1.in1 (truthy (.ref a)) (TP X pins σ fun b H' => Q (.bl b) H') X.xe s :=
      PySem.W.truthy_K hF I.ok.mod.kin J U.at_ U.fn (wpAny_mono (run_fnA (us := [.ref a]) (vs := [.ref a]) F hr.in1.in1 rfl hb hx I (.cons rfl .nil) q) (fun v s' z => boolBack (Q := fun b H' => Q (.bl b) H') z) fun _ _ z => z)
    unfold Builtin.«bool.__new__»
    refine wpAny_bind (wpAny_pure ?_)
    refine wpAny_bind (wpAny_of_eq PySem.F.conv_sub_bool ?_)
    refine wpAny_bind (m := someArgs "bool" 0 1 _) (wpAny_pure ?_)
    refine wpAny_bind (m := truthy (.ref a)) (wpAny_mono tru (fun b s' z => ?_) fun _ _ y => y)
    obtain ⟨H', I', q'⟩ := z
    exact wpAny_pure ⟨b, rfl, .bl b, H', I', rfl, q'⟩
  · rintro obj s₁ ⟨y, rfl, hq⟩
    exact ⟨rfl, PySem.F.args_object_init_2 _ _, object_init_meets PySem.F.called_bool.init.lookup PySem.F.called_bool.made (by decide) X.prog X.w X.A.in1 _ s₁ ⟨rfl, rfl, hq⟩⟩
end
end Fx

set_option Elab.async false
set_option linter.all false
set_option maxRecDepth 100000
set_option maxHeartbeats 4000000
namespace Fx
open PySem PySem.Spec PyProof.Rows L2
section
variable {X : Cx} {CX : CXT} {k : Nat} {f C : Addr} {fd : FuncData} {ps : List Str} {sp : Sp} {E : XK}

/-! ### a static method read off its class and called -/
structure SMet (K : PySem.W.Frag) (C : Addr) (mc : Value) (m : Str) (p g : Addr) : Prop where
  at_ : PySem.W.findCls K (.ref C) mc m = some (.get (.builtin "staticmethod.__get__") (.ref p) .none (.ref C))
  rc : ∃ rest, PySem.W.recIn K p "staticmethod" = some (.ref g :: rest)
  kp : PySem.W.keepIn K (.ref g) = true
def tSMeth (C : Addr) (sp : Sp) (E : XK) (ta : TE) (t : TA) : TE := fun σ H Q => ta σ H fun x H1 => x = .ref C ∧ t σ H1 fun vs H2 => sp vs H2 Q E
theorem pe_smeth {pl : Sem Bool} {mc : Value} {p g : Addr} {o e : Expr} {es : List Expr} {m : Str} {pos apos : Pos} {ta : TE} {t : TA} (he : PE X o ta) (r : ClX.CRead X.K C mc) (c : SMet X.K C mc m p g) (ty : PySem.W.typeIn X.K (.ref C) = some mc) (F : FnOk X.prog X.w X.K X.mg X.base CX k g fd ps sp) (hr : Room k X.A) (hb : Binds X.K fd ps []) (hx : Passes CX X E) (ha : PA X (e :: es) t)
    (hst : starEach (e :: es) X.env = (false, eval e X.env) :: starEach es X.env := by rfl) (hpl : (backTo pos (starEach es X.env)).any (·.1) = false := by rfl)
    (ht : eval (.Call (.Attribute o m apos) (e :: es) [] pos) X.env = (do
      let ov ← eval o X.env
      standAt apos.atName
      let (f, first) ← holding [ov] (getMethod ov m pl)
      callWith pos f first (backTo pos (starEach (e :: es) X.env)) (backToKw pos (keywordEach [] X.env))) := by rfl) :
    PE X (.Call (.Attribute o m apos) (e :: es) [] pos) (tSMeth C sp E ta t) := by
  refine ⟨fun pins s σ H Q I h => ?_⟩
  refine PySem.W.methodCall_KW (pl := pl) (thn (he.run pins s σ H _ I h) fun u s1 ⟨x, H1, I1, rx, ex, q⟩ => ?_) ht
  subst ex
  obtain rfl : u = Value.ref C := rx
  obtain ⟨m', hF⟩ := I1.fr
  obtain ⟨rest, hp⟩ := c.rc
  refine PySem.W.method_cls I1.kIn r.ga ?_
  refine PySem.W.cls_sm hF I1.ok.mod.kin ty r.rd c.at_ hp rfl ?_
  refine PySem.W.callWith_K (first := []) (h₀ := X.base) I.ok.mod.kin c.kp (thn (ha.run pos pins _ σ H1 _ (I1.tok _) q) fun us s2 ⟨vs, H2, I2, r2, q2⟩ => ⟨I2.kIn, ?_⟩) hst hpl
  exact run_fnA (us := us) (vs := vs) F hr rfl hb hx I2 r2 q2

/-! ### += where the class has no in-place form -/
structure NoIn (K : PySem.W.Frag) (C : Addr) : Prop where
  mro : ∃ cd, PySem.W.clsIn K C = some cd ∧ cd.mro = [.ref C, .type "object"]
  no : PySem.W.findIn K (.ref C) "__iadd__" = some none
  no' : PySem.W.findIn K (.type "object") "__iadd__" = some none
  noI : PySem.W.findIn K (.type "int") "__iadd__" = some none
theorem fillsI_no {M : Model} {h : Heap} {K : PySem.W.Frag} {C : Addr} (X : K.In h) (N : NoIn K C) : PySem.W.Looks M h (fillsInplaceSlot (.ref C) "add" true) false := by
  intro A Q E s k q
  obtain ⟨cd, hc, hm⟩ := N.mro
  have Lm : PySem.W.Looks M h (mroOf (.ref C)) cd.mro := (PySem.W.looks_clsIn X hc).andThen (f := fun cd => pure cd.mro) .now
  have X' : K.In s.heap := X.keeps k
  unfold fillsInplaceSlot
  refine wpAny_bind (Lm A _ E s k ?_)
  rw [hm, List.anyM_cons]
  refine wpAny_bind ?_
  refine wpAny_bind ((PySem.W.looks_findIn X' N.no).here ?_)
  refine wpAny_pure ?_
  simp only [Bool.false_eq_true, if_false]
  rw [List.anyM_cons]
  refine wpAny_bind ?_
  refine wpAny_bind ((PySem.W.looks_findIn X' N.no').here ?_)
  refine wpAny_pure ?_
  simp only [Bool.false_eq_true, if_false]
  exact wpAny_pure q

theorem iop_own (B : BinF X.K C f .Add) (N : NoIn X.K C) (F : FnOk X.prog X.w X.K X.mg X.base CX k f fd ps sp) (hr : Room k X.A) (hb : Binds X.K fd ps []) (hx : Passes CX X E) : OpR X (inplaceOp .Add) (fun x y H Q => Ins C H x ∧ Ins C H y ∧ sp [x, y] H Q E) := by
  intro pins s σ H x y v u Q I rx ry h
  obtain ⟨⟨a, dx, fs, rfl, ha⟩, ⟨b, dy, gs, rfl, hb'⟩, q⟩ := h
  obtain rfl : v = Value.ref a := rx
  obtain rfl : u = Value.ref b := ry
  obtain ⟨mA, J, _⟩ := ins_get I.hok ha
  obtain ⟨od, J, _⟩ := J.look
  obtain ⟨mB, J', _⟩ := ins_get I.hok hb'
  obtain ⟨od', J', _⟩ := J'.look
  have X0 := I.kIn
  obtain ⟨cd, rest, hcd, hm⟩ := PySem.W.ksp_first B.sf
  have one := PySem.W.ksp_try (M := model X.prog X.w) (A := X.A) (E := X.xe) (Q := EP X pins σ Q) X0 J B.at_ B.fn (wpAny_mono (run_fnA (us := [.ref a, .ref b]) (vs := [.ref a, .ref b]) F hr rfl hb hx I (.cons rfl (.cons rfl .nil)) q) (fun _ _ z => cmpBack_EP z) fun _ _ z => z)
  unfold inplaceOp
  refine wpAny_holding ?_
  refine wpAny_bind (J.type.here ?_)
  refine wpAny_bind ((fillsI_no X0 N).here ?_)
  simp only [Bool.false_eq_true, if_false]
  refine wpAny_bind (m := binaryOp1 "add" (.ref a) (.ref b)) ?_
  unfold binaryOp1
  refine wpAny_bind (J.type.here (wpAny_bind (J'.type.here (wpAny_bind ((PySem.W.fills_K X0 hcd hm B.at_).here ?_)))))
  simp only [beq_self_eq_true, if_true]
  refine wpAny_bind (wpAny_pure ?_)
  simp only [Bool.and_false, Bool.false_eq_true, if_false, Bool.false_and]
  refine wpAny_bind (wpAny_pure ?_)
  simp only [Bool.false_eq_true, if_false]
  refine wpAny_bind (m := tryMethod (.ref a) _ (.ref b)) (wpAny_mono one (fun r s' z => ?_) fun _ _ z => z)
  obtain ⟨v, rfl, hq⟩ := z
  exact wpAny_pure (wpAny_pure hq)

theorem iop_ref (R : RefF X.K C f .Add) (N : NoIn X.K C) (F : FnOk X.prog X.w X.K X.mg X.base CX k f fd ps sp) (hr : Room k X.A) (hb : Binds X.K fd ps []) (hx : Passes CX X E) : OpR X (inplaceOp .Add) (rRef C sp E) := by
  intro pins s σ H x y v u Q I rx ry h
  obtain ⟨⟨i, rfl⟩, ⟨a, dx, fs, rfl, ha⟩, q⟩ := h
  obtain ⟨t, rfl⟩ := (show ∃ t, v = Value.int i t from rx)
  obtain rfl : u = Value.ref a := ry
  obtain ⟨mA, J, _⟩ := ins_get I.hok ha
  obtain ⟨od, J, _⟩ := J.look
  obtain ⟨m, hF⟩ := I.fr
  have one := bin1_refl (Q := EP X pins σ Q) (E := X.xe) (A := X.A) (prog := X.prog) (w := X.w) (t := t) int_add R hF I.ok.mod.kin J rfl
    (wpAny_mono (run_fnA (us := [.ref a, .int i t]) (vs := [.ref a, .int i]) F hr rfl hb hx I (.cons rfl (.cons ⟨_, rfl⟩ .nil)) q) (fun _ _ z => cmpBack_EP z) fun _ _ z => z)
  have X0 := I.kIn
  unfold inplaceOp
  refine wpAny_holding ?_
  refine wpAny_bind (wpAny_typeOf (typeIs_int s i t) ?_)
  have L1 : PySem.W.Looks (model X.prog X.w) s.heap (fillsInplaceSlot (.type "int") "add" true) false := by
    intro A Q E s k q
    unfold fillsInplaceSlot
    refine wpAny_bind ((PySem.W.looks_findIn (X0.keeps k) N.noI).here ?_)
    exact wpAny_pure q
  refine wpAny_bind (L1.here ?_)
  simp only [Bool.false_eq_true, if_false]
  refine wpAny_bind (m := binaryOp1 "add" (.int i t) (.ref a)) (wpAny_mono one (fun r s' z => ?_) fun _ _ z => z)
  obtain ⟨v, rfl, hq⟩ := z
  exact wpAny_pure hq
end
end Fx

set_option linter.all false
/-! Fractions in lowest terms, plain Lean. -/
namespace FM
/-- the common divisor with the sign of the bottom -/
def sg (b : Int) (g : Nat) : Int := if b < 0 then -(g : Int) else (g : Int)
def low (a b : Int) : Int × Int := (a.fdiv (sg b (Nat.gcd a.natAbs b.natAbs)), b.fdiv (sg b (Nat.gcd a.natAbs b.natAbs)))
structure Low (p : Int × Int) : Prop where
  pos : 0 < p.2
  cop : Nat.gcd p.1.natAbs p.2.natAbs = 1
theorem sg_ne {a b : Int} (h : b ≠ 0) : sg b (Nat.gcd a.natAbs b.natAbs) ≠ 0 := by
  have g : 0 < Nat.gcd a.natAbs b.natAbs := Nat.gcd_pos_of_pos_right _ (by omega)
  unfold sg
  split <;> omega
theorem sg_abs (b : Int) (g : Nat) : (sg b g).natAbs = g := by
  unfold sg
  split <;> omega
theorem fdiv_exact {a c : Int} (h : c ≠ 0) (d : c ∣ a) : a.fdiv c * c = a := by
  obtain ⟨k, rfl⟩ := d
  rw [Int.mul_comm c k, Int.mul_fdiv_cancel _ h]
theorem sg_dvd_l (a b : Int) : sg b (Nat.gcd a.natAbs b.natAbs) ∣ a := by
  rw [← Int.natAbs_dvd_natAbs, sg_abs]
  exact Nat.gcd_dvd_left _ _
theorem sg_dvd_r (a b : Int) : sg b (Nat.gcd a.natAbs b.natAbs) ∣ b := by
  rw [← Int.natAbs_dvd_natAbs, sg_abs]
  exact Nat.gcd_dvd_right _ _
theorem low_l {a b : Int} (h : b ≠ 0) : (low a b).1 * sg b (Nat.gcd a.natAbs b.natAbs) = a := fdiv_exact (sg_ne h) (sg_dvd_l a b)
theorem low_r {a b : Int} (h : b ≠ 0) : (low a b).2 * sg b (Nat.gcd a.natAbs b.natAbs) = b := fdiv_exact (sg_ne h) (sg_dvd_r a b)
theorem low_low {a b : Int} (h : b ≠ 0) : Low (low a b) := by
  have e1 := low_l (a := a) h
  have e2 := low_r (a := a) h
  have hg := sg_ne (a := a) h
  have ha := sg_abs b (Nat.gcd a.natAbs b.natAbs)
  have gp : 0 < Nat.gcd a.natAbs b.natAbs := Nat.gcd_pos_of_pos_right _ (by omega)
  refine ⟨?_, ?_⟩
  · by_cases hb : b < 0
    · have e3 : sg b (Nat.gcd a.natAbs b.natAbs) < 0 := by
        unfold sg
        rw [if_pos hb]
        omega
      rcases Int.lt_or_le 0 (low a b).2 with z | z
      · exact z
      · have := Int.mul_nonneg_of_nonpos_of_nonpos z (Int.le_of_lt e3)
        omega
    · have e3 : 0 < sg b (Nat.gcd a.natAbs b.natAbs) := by
        unfold sg
        rw [if_neg hb]
        omega
      rcases Int.lt_or_le 0 (low a b).2 with z | z
      · exact z
      · have := Int.mul_nonpos_of_nonpos_of_nonneg z (Int.le_of_lt e3)
        omega
  · have h1 : a.natAbs = (low a b).1.natAbs * Nat.gcd a.natAbs b.natAbs := by
      have := congrArg Int.natAbs e1
      rw [Int.natAbs_mul, ha] at this
      exact this.symm
    have h2 : b.natAbs = (low a b).2.natAbs * Nat.gcd a.natAbs b.natAbs := by
      have := congrArg Int.natAbs e2
      rw [Int.natAbs_mul, ha] at this
      exact this.symm
    have h3 : Nat.gcd ((low a b).1.natAbs * Nat.gcd a.natAbs b.natAbs) ((low a b).2.natAbs * Nat.gcd a.natAbs b.natAbs) = Nat.gcd a.natAbs b.natAbs := by
      rw [← h1, ← h2]
    rw [Nat.gcd_mul_right] at h3
    exact Nat.eq_of_mul_eq_mul_right gp (by rw [h3, Nat.one_mul])
/-- the form is one -/
theorem low_uniq {p : Int × Int} {c : Int} (h : Low p) (hc : c ≠ 0) : low (p.1 * c) (p.2 * c) = p := by
  have hp := h.pos
  have e : Nat.gcd (p.1 * c).natAbs (p.2 * c).natAbs = c.natAbs := by
    rw [Int.natAbs_mul, Int.natAbs_mul, Nat.gcd_mul_right, h.cop, Nat.one_mul]
  have e2 : sg (p.2 * c) c.natAbs = c := by
    unfold sg
    by_cases hn : c < 0
    · rw [if_pos (Int.mul_neg_of_pos_of_neg hp hn)]
      omega
    · have := Int.mul_nonneg (Int.le_of_lt hp) (show 0 ≤ c by omega)
      rw [if_neg (by omega)]
      omega
  unfold low
  rw [e, e2, Int.mul_fdiv_cancel _ hc, Int.mul_fdiv_cancel _ hc]
theorem low_self {p : Int × Int} (h : Low p) : low p.1 p.2 = p := by
  have := low_uniq h (c := 1) (by decide)
  rwa [Int.mul_one, Int.mul_one] at this
theorem low_scale {a b s : Int} (hb : b ≠ 0) (hs : s ≠ 0) : low (a * s) (b * s) = low a b := by
  have h := low_low (a := a) hb
  have g := sg_ne (a := a) hb
  have e := low_uniq h (c := sg b (Nat.gcd a.natAbs b.natAbs) * s) (Int.mul_ne_zero g hs)
  rw [← Int.mul_assoc, ← Int.mul_assoc, low_l hb, low_r hb] at e
  exact e
theorem low_int (n : Int) : low n 1 = (n, 1) := low_self (p := (n, 1)) ⟨Int.one_pos, by simp⟩
theorem lowInt (n : Int) : Low (n, 1) := ⟨Int.one_pos, by simp⟩
theorem low_cross {p q : Int × Int} (hp : Low p) (hq : Low q) : (p = q) ↔ p.1 * q.2 - q.1 * p.2 = 0 := by
  constructor
  · rintro rfl
    exact Int.sub_self _
  · intro h
    have e1 := low_uniq hp (c := q.2) (by have := hq.pos; omega)
    have e2 := low_uniq hq (c := p.2) (by have := hp.pos; omega)
    have hh : p.1 * q.2 = q.1 * p.2 := by omega
    exact (e1.symm.trans (by rw [hh, Int.mul_comm p.2 q.2])).trans e2
theorem low_neg {p : Int × Int} (h : Low p) : Low (-p.1, p.2) := ⟨h.pos, by rw [Int.natAbs_neg]; exact h.cop⟩
theorem low_abs {p : Int × Int} (h : Low p) : Low ((p.1.natAbs : Int), p.2) := ⟨h.pos, by simpa using h.cop⟩
theorem fdiv_scale_pos {a b g : Int} (hg : 0 < g) (hb : 0 < b) : (a * g).fdiv (b * g) = a.fdiv b := by
  rw [Int.fdiv_eq_ediv_of_nonneg _ (Int.le_of_lt (Int.mul_pos hb hg)), Int.fdiv_eq_ediv_of_nonneg _ (Int.le_of_lt hb)]
  exact Int.mul_ediv_mul_of_pos_left a b hg
theorem fdiv_scale {a b g : Int} (hg : g ≠ 0) (hb : b ≠ 0) : (a * g).fdiv (b * g) = a.fdiv b := by
  have key : ∀ (a b g : Int), 0 < g → b ≠ 0 → (a * g).fdiv (b * g) = a.fdiv b := by
    intro a b g hg hb
    rcases Int.lt_or_lt_of_ne hb with h | h
    · rw [← Int.neg_fdiv_neg, ← Int.neg_mul, ← Int.neg_mul, fdiv_scale_pos hg (by omega), Int.neg_fdiv_neg]
    · exact fdiv_scale_pos hg h
  rcases Int.lt_or_lt_of_ne hg with h | h
  · rw [← Int.neg_fdiv_neg, ← Int.mul_neg, ← Int.mul_neg]
    exact key a b (-g) (by omega) hb
  · exact key a b g h hb
theorem low_floor {a b : Int} (hb : b ≠ 0) : (low a b).1.fdiv (low a b).2 = a.fdiv b := by
  have h := low_low (a := a) hb
  have e := fdiv_scale (a := (low a b).1) (b := (low a b).2) (g := sg b (Nat.gcd a.natAbs b.natAbs)) (sg_ne hb) (by have := h.pos; omega)
  rw [low_l hb, low_r hb] at e
  exact e.symm
/-- powers of coprimes -/
theorem low_pow {p : Int × Int} (h : Low p) (k : Nat) : Low (p.1 ^ k, p.2 ^ k) := by
  refine ⟨Int.pow_pos h.pos, ?_⟩
  have e : ∀ (x : Int), (x ^ k).natAbs = x.natAbs ^ k := fun x => Int.natAbs_pow x k
  show Nat.gcd (p.1 ^ k).natAbs (p.2 ^ k).natAbs = 1
  rw [e, e]
  exact Nat.Coprime.pow k k h.cop
/-- the values of sums, differences, products, quotients -/
def fadd (p q : Int × Int) : Int × Int := low (p.1 * q.2 + q.1 * p.2) (p.2 * q.2)
def fsub (p q : Int × Int) : Int × Int := low (p.1 * q.2 - q.1 * p.2) (p.2 * q.2)
def fmul (p q : Int × Int) : Int × Int := low (p.1 * q.1) (p.2 * q.2)
def fover (p q : Int × Int) : Int × Int := low (p.1 * q.2) (p.2 * q.1)
def fflo (p q : Int × Int) : Int := (p.1 * q.2).fdiv (p.2 * q.1)
/-- a difference may be taken with the second one out of lowest terms -/
theorem fsub_low {p : Int × Int} {a b : Int} (hp : Low p) (hb : b ≠ 0) : fsub p (low a b) = low (p.1 * b - a * p.2) (p.2 * b) := by
  have g := sg_ne (a := a) hb
  have h := low_low (a := a) hb
  unfold fsub
  rw [← low_scale (a := p.1 * (low a b).2 - (low a b).1 * p.2) (b := p.2 * (low a b).2) (s := sg b (Nat.gcd a.natAbs b.natAbs)) (Int.mul_ne_zero (by have := hp.pos; omega) (by have := h.pos; omega)) g]
  have e1 := low_l (a := a) hb
  have e2 := low_r (a := a) hb
  rw [Int.sub_mul, Int.mul_assoc, e2, Int.mul_right_comm, e1, Int.mul_assoc, e2]
theorem log2_lt {n : Int} {k : Nat} (h : n.natAbs < 2 ^ k) (hk : 0 < k) : n.natAbs.log2 < k := by
  by_cases z : n.natAbs = 0
  · rw [z]
    simpa using hk
  · exact (Nat.log2_lt z).mpr h
/-- a part of lowest terms is no greater -/
theorem low_le1 {a b : Int} (h : b ≠ 0) : (low a b).1.natAbs ≤ a.natAbs := by
  have e1 := congrArg Int.natAbs (low_l (a := a) h)
  have hg := sg_ne (a := a) h
  rw [Int.natAbs_mul] at e1
  rw [← e1]
  exact Nat.le_mul_of_pos_right _ (by omega)
theorem low_le2 {a b : Int} (h : b ≠ 0) : (low a b).2.natAbs ≤ b.natAbs := by
  have e1 := congrArg Int.natAbs (low_r (a := a) h)
  have hg := sg_ne (a := a) h
  rw [Int.natAbs_mul] at e1
  rw [← e1]
  exact Nat.le_mul_of_pos_right _ (by omega)
end FM

set_option Elab.async false
set_option linter.all false
set_option maxRecDepth 100000
set_option maxHeartbeats 4000000
namespace Fx
open PySem PySem.Spec PyProof.Rows L2 FM
section
variable {X : Cx}
/-- X(), X an own exception class without own __init__ -/
theorem pmk_own0 {C : Addr} {bmB : List Value} {B newId initId : String} {x : Str} {p pos : Pos} (F : ExcBaseFacts B newId initId bmB) (q : PySem.W.excIn X.K C bmB newId = true) (gC : X.mg x = some (.ref C))
    (kC : PySem.W.keepIn X.K (.ref C) = true) (r : Raises X (.ref C)) (hg : Gl X x) (hdb : (x == ("__debug__" : Str)) = false := by decide) :
    PMk X (.Call (.Name x p) [] [] pos) (fun σ H Q => Q (.ref C) none H) := by
  intro pins s σ H Q I h
  refine wpAny_Call_Name_kw (ld_glob I hg gC ?_ hdb)
  refine PySem.W.callWith_K0 I.kIn kC ?_
  show wpAny _ _ (call (.ref C) []) _ _ _
  obtain ⟨bm, N, nm, qn, bs, hdct, sn, sub, ab, col, dd, k0, k1, k2, k3, k5, mN, hC, hN, hni, T⟩ := exc_obj I.kIn q
  refine wpAny_call_exc_subT F T hC hN hni (fun h' e hm => ?_) (by show 0 ≤ sizeLine; exact Nat.zero_le _)
  exact mk_of I hm r h (I.hok.gone hm.new)
/-- // by a divisor of either sign -/
def CDivZ (_ j : Int) : Prop := j ≠ 0 ∧ j.natAbs.log2 < 9000
theorem op_fdivZ : OpR X (binaryOp .FloorDiv) (rI CDivZ fun i j => .int (i.fdiv j)) := opI fun i j _ _ _ _ _ hc q => floordiv_int hc.1 q (.inl (PyProof.noPylong_of_log2 hc.2))
end
/-! ### the text -/
def top (i : Nat) : Stmt := PySem.Challenge.pw_rodwebs_k01_fractions.main.body.getD i (.Pass ⟨0, 0, 0, 0⟩)
abbrev sInit : Stmt := inClass (top 9) 1
/-! ### a Frac in the heap -/
def kN : Str := "num"
def kD : Str := "den"
def fr (p : Int × Int) : List (Str × V) := [("num", .int p.1), ("den", .int p.2)]
def FracAt (C : Addr) (H : Hp) (a : Addr) (p : Int × Int) : Prop := ∃ dx, H a = some (.ins C dx (fr p))
theorem FracAt.ext {C : Addr} {H H' : Hp} {a : Addr} {p : Int × Int} (h : FracAt C H a p) (e : Ext H H') : FracAt C H' a p := let ⟨dx, h⟩ := h; ⟨dx, e _ _ h⟩
theorem FracAt.ins {C : Addr} {H : Hp} {a : Addr} {p : Int × Int} (h : FracAt C H a p) : Ins C H (.ref a) := let ⟨dx, h⟩ := h; ⟨a, dx, _, rfl, h⟩
theorem ndk : ¬ (("num" : Str) = "den") := by decide +kernel
theorem fr_num (p : Int × Int) : (fr p).lookup ("num" : Str) = some (.int p.1) := by simp [fr, List.lookup]
theorem fr_den (p : Int × Int) : (fr p).lookup ("den" : Str) = some (.int p.2) := by
  have q : (("den" : Str) == ("num" : Str)) = false := by decide +kernel
  simp [fr, List.lookup, q]
theorem fr_no (p : Int × Int) {m : Str} (h1 : (m == ("num" : Str)) = false) (h2 : (m == ("den" : Str)) = false) : (fr p).lookup m = none := by simp [fr, List.lookup, h1, h2]
/-- sizes -/
def Bd (n : Int) : Prop := n.natAbs < 2 ^ 4000
def Bi (n : Int) : Prop := n.natAbs < 2 ^ 8900
theorem Bi.log {n : Int} (h : Bi n) : n.natAbs.log2 < 9000 := Nat.lt_of_lt_of_le (log2_lt h (by decide)) (by decide)
/-- where the things of the text lie -/
structure Adr where
  (C Z T B W init add radd sub rsub mul rmul flo rflo mod rmod pow neg abs bool eq lt le gt ge str over of_ read isnum wq rdb pOf pRead : Addr)
/-- what the walk asks of the text -/
structure FT (K : PySem.W.Frag) (mg : Str → Option Value) (A : Adr) : Prop where
  cl : Cls K A.C
  nN : NoAttr K A.C "num"
  nD : NoAttr K A.C "den"
  mgC : mg "Frac" = some (.ref A.C)
  gcd : mg "gcd" = some (.builtin "math.gcd")
  gZ : mg "DivisionByZero" = some (.ref A.Z)
  xZ : PySem.W.excIn K A.Z [.type "ValueError", .type "Exception", .type "BaseException", .type "object"] "ValueError.__new__" = true
  kZ : PySem.W.keepIn K (.ref A.Z) = true
  bZ : PySem.W.subIn K (.ref A.Z) (.type "BaseException") = some true
  tZ : PySem.W.typeIn K (.ref A.Z) = some (.type "type")
  isi : mg "isinstance" = none
  int0 : mg "int" = none
  ca : PySem.W.findIn K (.ref A.C) "__class__" = some (some (.builtin "object.__class__"))
  cg : PySem.W.specialIn K (.builtin "object.__class__") "__get__" = some (some (.builtin "getset_descriptor.__get__"))
  ct : PySem.W.takesIn K (.builtin "object.__class__") = some true
  cm : PySem.W.mroIn K A.C (.type "object") = some true
  isC : PySem.W.isClsIn K A.C = true
  tC : PySem.W.typeIn K (.ref A.C) = some (.type "type")
  sub1 : PySem.W.subIn K (.ref A.C) (.type "int") = some false
  sub2 : PySem.W.subIn K (.type "int") (.ref A.C) = some false
  sf : PySem.W.selfFirst K A.C = true
  gIs : mg "is_number" = some (.ref A.isnum)
  gWq : mg "_whole_quotient" = some (.ref A.wq)
/-- a number: a Frac in the heap, or an int -/
def Num (A : Adr) (H : Hp) (y : V) (q : Int × Int) : Prop := (∃ b, y = .ref b ∧ FracAt A.C H b q) ∨ (y = .int q.1 ∧ q.2 = 1)
theorem Num.ext {A : Adr} {H H' : Hp} {y : V} {q : Int × Int} (h : Num A H y q) (e : Ext H H') : Num A H' y q := h.elim (fun ⟨b, e1, f⟩ => .inl ⟨b, e1, f.ext e⟩) .inr
theorem Num.of {A : Adr} {H : Hp} {b : Addr} {q : Int × Int} (h : FracAt A.C H b q) : Num A H (.ref b) q := .inl ⟨b, rfl, h⟩
theorem Num.int {A : Adr} {H : Hp} (n : Int) : Num A H (.int n) (n, 1) := .inr ⟨rfl, rfl⟩
/-- a fraction in lowest terms, of a size -/
structure Okf (p : Int × Int) : Prop where
  low : Low p
  b1 : Bd p.1
  b2 : Bd p.2
theorem ext1 {H : Hp} {p : Addr} {o : HO} (h : H p = none) : Ext H (upd H p o) := fun a u e => by rw [upd_ne (ne_of_none e h)]; exact e
section
variable {K : PySem.W.Frag} {mg : Str → Option Value} {A : Adr} {H : Hp}
theorem FT.tyF (T : FT K mg A) {a : Addr} {p : Int × Int} (h : FracAt A.C H a p) : TyX K H (.ref a) (.ref A.C) := let ⟨_, h⟩ := h; .base (.ins h T.cl T.ca T.cg T.ct T.cm)
theorem tyI (n : Int) : TyX K H (.int n) (.type "int") := .base (.int n)
theorem kit_meta_int : PySem.W.kitMeta "int" = true := by decide +kernel
theorem kit_II : PySem.W.kitOne K (.type "int") (.type "int") = some true := by unfold PySem.W.kitOne; rw [if_pos (by simp)]
theorem kit_CC : PySem.W.kitOne K (.ref A.C) (.ref A.C) = some true := by unfold PySem.W.kitOne; rw [if_pos (by simp)]
theorem FT.kit_CI (T : FT K mg A) : PySem.W.kitOne K (.ref A.C) (.type "int") = some false := by
  unfold PySem.W.kitOne PySem.W.kitCls
  rw [if_neg (by intro z; cases beq_iff_eq.mp z)]
  simp only [kit_meta_int, if_true]
  exact T.sub1
theorem FT.kit_IC (T : FT K mg A) : PySem.W.kitOne K (.type "int") (.ref A.C) = some false := by
  unfold PySem.W.kitOne PySem.W.kitCls
  rw [if_neg (by intro z; cases beq_iff_eq.mp z)]
  have e : (PySem.W.clsIn K A.C).isSome = true := T.isC
  simp only [e, T.tC, beq_self_eq_true, Bool.and_self, if_true]
  exact T.sub2
end
/-- a def of the text with its promise -/
structure Cal (P : Program) (w : World) (K : PySem.W.Frag) (mg : Str → Option Value) (base : Heap) (k : Nat) (f : Addr) (ps : List Str) (sp : Sp) : Prop where
  ex : ∃ fd, FnOk P w K mg base (L2.CX P w) k f fd ps sp ∧ Binds K fd ps []
  kp : PySem.W.keepIn K (.ref f) = true
section
variable {P : Program} {w : World} {K : PySem.W.Frag} {mg : Str → Option Value} {base : Heap} {A : Adr}
/-- Frac.__init__: the parts in lowest terms, or DivisionByZero -/
def spInit (C Z : Addr) : Sp := fun vs H Q E => ∃ (x dx : Addr) (n d : Int), vs = [.ref x, .int n, .int d] ∧ H x = some (.ins C dx []) ∧ Bi d ∧
  (d = 0 → E (.ref Z) none H) ∧ (d ≠ 0 → Q .non (upd H x (.ins C dx (fr (low n d)))))
theorem scInit : FnScope ["self", "num", "den", "common"] ["self", "num", "den"] (defScope sInit) := ⟨rfl, rfl, rfl, by decide +kernel, rfl, by decide +kernel, by decide +kernel⟩
theorem ok_init {f : Addr} {fd : FuncData} (F : FunD K "__init__" "Frac.__init__" (defArgs sInit) (defBody sInit) (defScope sInit) [.int 0, .int 1] [] f fd) (T : FT K mg A) : FnOk P w K mg base (L2.CX P w) 1 f fd ["self", "num", "den"] (spInit A.C A.Z) := by
  refine F.ok scInit (fun vs H Q E h => ?_) (fun cdv AA outer s H vs Q E hr h => ?_)
  · obtain ⟨x, dx, n, d, rfl, _⟩ := h
    rfl
  · obtain ⟨x, dx, n, d, rfl, hx, hd, k0, k1⟩ := h
    refine ⟨_, pss_cons (ps_if (pt_cmpR L2.op_eq (pv 2) pe_int (nomark _)) (pss_one (ps_raise rfl (takes_of rfl rfl rfl rfl) (pmk_own0 PySem.F.excBase_ValueError T.xZ T.gZ T.kZ (raises_own T.bZ T.tZ) rfl))) pss_nil)
      (pss_cons (ps_set (i := 3) scInit.nd rfl (Or.inl rfl) (pe_callBfun cr_gcd (by rfl) T.gcd (pa_cons (pv 1) (pa_cons (pv 2) pa_nil))))
      (pss_cons (ps_if (pt_cmpR L2.op_lt (pv 2) pe_int (nomark _)) (pss_one (ps_set (i := 3) scInit.nd rfl (Or.inl rfl) (pe_un L2.un_neg (pv 3)))) pss_nil)
      (pss_cons (ps_fld (pv 0) (pe_op op_fdivZ (pv 1) (pv 3)) rfl)
      (pss_one (ps_fld (pv 0) (pe_op op_fdivZ (pv 2) (pv 3)) rfl))))), ?_⟩
    refine ⟨_, rfl, rfl, _, rfl, ?_⟩
    by_cases hz : d = 0
    · subst hz
      refine iteT ?_
      exact k0 rfl
    · have e0 : decide (V.int d = V.int 0) = false := decide_eq_false (by intro z; injection z with z; exact hz z)
      rw [e0]
      refine iteF ?_
      refine ⟨_, rfl, _, rfl, n, d, rfl, ?_⟩
      have fin : ∀ (t : Int) , t = sg d (Nat.gcd n.natAbs d.natAbs) →
          (tSeq (sFld K (tVar 0) (tOp (rI CDivZ fun i j => .int (i.fdiv j)) (tVar 1) (tVar 3)) "num") (sFld K (tVar 0) (tOp (rI CDivZ fun i j => .int (i.fdiv j)) (tVar 2) (tVar 3)) "den")) { nx := fun _ H' => Q .non H', rt := Q } [some (.ref x), some (.int n), some (.int d), some (.int t)] H := by
        rintro t rfl
        have g := sg_ne (a := n) hz
        have gl : (sg d (Nat.gcd n.natAbs d.natAbs)).natAbs.log2 < 9000 := by
          rw [sg_abs]
          refine Nat.lt_of_lt_of_le (log2_lt (n := ((Nat.gcd n.natAbs d.natAbs : Nat) : Int)) (k := 8900) ?_ (by decide)) (by decide)
          exact Nat.lt_of_le_of_lt (Nat.gcd_le_right _ (by omega)) hd
        refine ⟨_, rfl, _, rfl, _, _, rfl, rfl, ⟨g, gl⟩, _, rfl, x, A.C, dx, [], rfl, hx, T.cl, T.nN, (by show 0 < 1000; decide), ?_⟩
        refine ⟨_, rfl, _, rfl, _, _, rfl, rfl, ⟨g, gl⟩, _, rfl, x, A.C, dx, _, rfl, upd_same, T.cl, T.nD, (by show 1 < 1000; decide), ?_⟩
        rw [upd_upd]
        exact k1 hz
      refine ⟨_, rfl, _, _, rfl, rfl, _, rfl, ?_⟩
      by_cases hn : d < 0
      · rw [decide_eq_true hn]
        refine iteT ?_
        refine ⟨_, rfl, _, rfl, ?_⟩
        exact fin _ (by unfold sg; rw [if_pos hn])
      · rw [decide_eq_false hn]
        refine iteF ?_
        exact fin _ (by unfold sg; rw [if_neg hn])

/-- Frac is made: what a call of it needs -/
structure MkF (P : Program) (w : World) (K : PySem.W.Frag) (mg : Str → Option Value) (base : Heap) (A : Adr) : Prop where
  mkc : Mk K A.C A.init
  ex : ∃ fd, FnOk P w K mg base (L2.CX P w) 1 A.init fd ["self", "num", "den"] (spInit A.C A.Z) ∧ Binds K fd ["self", "num", "den"] [] ∧ (∃ ds, Vals [V.int 1] ds ∧ Binds K fd ["self", "num", "den"] ds) ∧ (∃ ds, Vals [V.int 0, V.int 1] ds ∧ Binds K fd ["self", "num", "den"] ds)
theorem mkF {fd : FuncData} (F : FunD K "__init__" "Frac.__init__" (defArgs sInit) (defBody sInit) (defScope sInit) [.int 0, .int 1] [] A.init fd) (M : Mk K A.C A.init) (T : FT K mg A) : MkF P w K mg base A := by
  refine ⟨M, fd, ok_init F T, ?_, ?_, ?_⟩
  · obtain ⟨ds, v, b⟩ := F.binds1 (ps := ["self", "num", "den"]) 3 2 (by simp) rfl fun T kV doc pm an cdv ct us its l1 l2 => match us, its, l1, l2 with | [_, _, _], [_, _], _, _ => ⟨_, rfl, rfl⟩
    cases v
    exact b
  · exact F.binds1 (ps := ["self", "num", "den"]) 2 1 (by simp) rfl fun T kV doc pm an cdv ct us its l1 l2 => match us, its, l1, l2 with | [_, _], [_, _], _, _ => ⟨_, rfl, rfl⟩
  · exact F.binds1 (ps := ["self", "num", "den"]) 1 0 (by simp) rfl fun T kV doc pm an cdv ct us its l1 l2 => match us, its, l1, l2 with | [_], [_, _], _, _ => ⟨_, rfl, rfl⟩
end
section
variable {X : Cx} {A : Adr} {e e2 : Expr} {p pos : Pos} {t : TA}
theorem made_ext {H : Hp} {x dx : Addr} {o1 o2 o3 : HO} (hx : H x = none) (hdx : H dx = none) : Ext H (upd (upd (upd H dx o1) x o2) x o3) := fun a u e => by
  rw [upd_ne (ne_of_none e hx), upd_ne (ne_of_none e hx), upd_ne (ne_of_none e hdx)]
  exact e
/-- Frac(n, d), d not 0 -/
def tFr (A : Adr) (t : TA) : TE := fun σ H Q => t σ H fun vs H1 => ∃ n d, vs = [.int n, .int d] ∧ d ≠ 0 ∧ Bi d ∧ ∀ r H', Ext H1 H' → FracAt A.C H' r (low n d) → Q (.ref r) H'
theorem pe_frac2 (m : MkF X.prog X.w X.K X.mg X.base A) (T : FT X.K X.mg A) (hr : Room 2 X.A) (hg : Gl X "Frac") (ha : PA X [e, e2] t)
    (he : starEach [e, e2] X.env = (false, eval e X.env) :: starEach [e2] X.env := by rfl) (hpl : (backTo pos (starEach [e2] X.env)).any (·.1) = false := by rfl) : PE X (.Call (.Name "Frac" p) [e, e2] [] pos) (tFr A t) := by
  obtain ⟨fd, F, hb, _⟩ := m.ex
  refine ⟨fun pins s σ H Q I h => ?_⟩
  refine wpAny_Call_Name_kw (ld_glob I hg T.mgC ?_ (by decide))
  refine PySem.W.callWith_K (h₀ := X.base) I.ok.mod.kin m.mkc.kp (thn (ha.run pos pins s σ H _ I h) fun us s1 ⟨vs, H1, I1, r, q⟩ => ⟨I1.kIn, ?_⟩) he hpl
  obtain ⟨n, d, rfl, hd, bd, k⟩ := q
  exact run_make m.mkc F hr hb .nil (E := E0) passL I1 r fun x dx nx ndx nex => ⟨x, dx, n, d, rfl, upd_same, bd, fun z => absurd z hd, fun _ => ⟨rfl, k x _ (made_ext nx ndx) ⟨dx, upd_same⟩⟩⟩
/-- Frac(n) -/
def tFr1 (A : Adr) (t : TA) : TE := fun σ H Q => t σ H fun vs H1 => ∃ n, vs = [.int n] ∧ ∀ r H', Ext H1 H' → FracAt A.C H' r (n, 1) → Q (.ref r) H'
theorem Bi_one : Bi 1 := by unfold Bi; exact Nat.one_lt_two_pow (by decide)
theorem pe_frac1 (m : MkF X.prog X.w X.K X.mg X.base A) (T : FT X.K X.mg A) (hr : Room 2 X.A) (hg : Gl X "Frac") (ha : PA X [e] t)
    (he : starEach [e] X.env = (false, eval e X.env) :: starEach [] X.env := by rfl) (hpl : (backTo pos (starEach [] X.env)).any (·.1) = false := by rfl) : PE X (.Call (.Name "Frac" p) [e] [] pos) (tFr1 A t) := by
  obtain ⟨fd, F, _, ⟨ds, hv, hb⟩, _⟩ := m.ex
  refine ⟨fun pins s σ H Q I h => ?_⟩
  refine wpAny_Call_Name_kw (ld_glob I hg T.mgC ?_ (by decide))
  refine PySem.W.callWith_K (h₀ := X.base) I.ok.mod.kin m.mkc.kp (thn (ha.run pos pins s σ H _ I h) fun us s1 ⟨vs, H1, I1, r, q⟩ => ⟨I1.kIn, ?_⟩) he hpl
  obtain ⟨n, rfl, k⟩ := q
  exact run_make m.mkc F hr hb hv (E := E0) passL I1 r fun x dx nx ndx nex => ⟨x, dx, n, 1, rfl, upd_same, Bi_one, fun z => absurd z (by decide), fun _ => ⟨rfl, k x _ (made_ext nx ndx) ⟨dx, by rw [low_int]; exact upd_same⟩⟩⟩
/-- Frac() -/
def tFr0 (A : Adr) : TE := fun σ H Q => ∀ r H', Ext H H' → FracAt A.C H' r (0, 1) → Q (.ref r) H'
theorem pe_frac0 (m : MkF X.prog X.w X.K X.mg X.base A) (T : FT X.K X.mg A) (hr : Room 2 X.A) (hg : Gl X "Frac") : PE X (.Call (.Name "Frac" p) [] [] pos) (tFr0 A) := by
  obtain ⟨fd, F, _, _, ⟨ds, hv, hb⟩⟩ := m.ex
  refine ⟨fun pins s σ H Q I h => ?_⟩
  refine wpAny_Call_Name_kw (ld_glob I hg T.mgC ?_ (by decide))
  exact PySem.W.callWith_K0 I.kIn m.mkc.kp (run_make (us := []) m.mkc F hr hb hv (E := E0) passL I .nil fun x dx nx ndx nex => ⟨x, dx, 0, 1, rfl, upd_same, Bi_one, fun z => absurd z (by decide), fun _ => ⟨rfl, h x _ (made_ext nx ndx) ⟨dx, by rw [low_int]; exact upd_same⟩⟩⟩)
end
end Fx

set_option Elab.async false
set_option linter.all false
set_option maxRecDepth 100000
set_option maxHeartbeats 4000000
set_option exponentiation.threshold 20000
namespace Fx
open PySem PySem.Spec PyProof.Rows L2 FM
abbrev sIsNum : Stmt := top 10
abbrev sWq : Stmt := top 11
abbrev sAdd : Stmt := inClass (top 9) 2
abbrev sRadd : Stmt := inClass (top 9) 3
abbrev sSub : Stmt := inClass (top 9) 4
abbrev sRsub : Stmt := inClass (top 9) 5
abbrev sMul : Stmt := inClass (top 9) 6
abbrev sRmul : Stmt := inClass (top 9) 7
abbrev sNeg : Stmt := inClass (top 9) 13
abbrev sOf : Stmt := inClass (top 9) 23
theorem Bd.add {a b : Int} {m n k : Nat} (ha : a.natAbs < 2 ^ m) (hb : b.natAbs < 2 ^ n) (h1 : m < k) (h2 : n < k) : (a + b).natAbs < 2 ^ k := by
  have x := Nat.pow_le_pow_right (show 0 < 2 by decide) (show m ≤ k - 1 by omega)
  have y := Nat.pow_le_pow_right (show 0 < 2 by decide) (show n ≤ k - 1 by omega)
  have z : 2 ^ k = 2 ^ (k - 1) + 2 ^ (k - 1) := by
    rw [← Nat.two_mul, ← Nat.pow_succ']
    congr 1
    omega
  omega
theorem Bd.mul {a b : Int} (ha : Bd a) (hb : Bd b) : Bi (a * b) := Nat.lt_of_lt_of_le (wide_lt ha hb) (Nat.pow_le_pow_right (by decide) (by decide))
theorem Bd.cm {a b : Int} (ha : Bd a) (hb : Bd b) : CMulW a b := wide_mul ha hb (by decide) (by decide) (by decide)
theorem Bd.bi {a : Int} (ha : Bd a) : Bi a := Nat.lt_of_lt_of_le ha (Nat.pow_le_pow_right (by decide) (by decide))
theorem Bd_one : Bd 1 := Nat.one_lt_two_pow (by decide)
section
variable {P : Program} {w : World} {K : PySem.W.Frag} {mg : Str → Option Value} {base : Heap} {A : Adr}
theorem boot_isi : bootBuiltins "isinstance" = some (.builtin "isinstance") := by decide +kernel
theorem boot_int : bootBuiltins "int" = some (.type "int") := by decide +kernel

/-! ### is_number -/
def spIsNum (A : Adr) : Sp := fun vs H Q _ => ∃ x q, vs = [x] ∧ Num A H x q ∧ ∀ H', Ext H H' → Q (.bl true) H'
theorem scIsNum : FnScope ["value"] ["value"] (defScope sIsNum) := ⟨rfl, rfl, rfl, by decide +kernel, rfl, by decide +kernel, by decide +kernel⟩
theorem ok_isnum {f : Addr} {fd : FuncData} (F : Fun K "is_number" "is_number" sIsNum f fd) (T : FT K mg A) : FnOk P w K mg base (L2.CX P w) 1 f fd ["value"] (spIsNum A) := by
  refine F.okX scIsNum (fun vs H Q E h => ?_) (fun cdv AA outer s H vs Q E hr h => ?_)
  · obtain ⟨x, q, rfl, _⟩ := h
    rfl
  · obtain ⟨x, q, rfl, hn, k⟩ := h
    refine ⟨_, pss_one (ps_ret (pe_callB call_isiT (by rfl) T.isi boot_isi (pa_cons (pv 0) (pa_cons (pe_tup (pa_cons (pe_bltn (v := .ty "int") (by rfl) T.int0 boot_int rfl) (pa_cons (pe_glob (v := .ref A.C) (by rfl) T.mgC rfl) pa_nil))) pa_nil)))), ?_⟩
    refine ⟨_, rfl, (by show 2 ≤ sizeLine; decide), fun p np => ?_⟩
    rcases hn with ⟨b, rfl, hf⟩ | ⟨rfl, _⟩
    · refine ⟨_, p, _, .ref A.C, [.type "int", .ref A.C], true, rfl, upd_same, .cons (.ty "int") (.cons (.own A.C) .nil), T.tyF (hf.ext (ext1 np)), ?_, k _ (ext1 np)⟩
      exact kitAny_cons T.kit_CI (fun _ => kitAny_cons kit_CC (fun z => by cases z) (fun _ => rfl)) (fun z => by cases z)
    · refine ⟨_, p, _, .type "int", [.type "int", .ref A.C], true, rfl, upd_same, .cons (.ty "int") (.cons (.own A.C) .nil), tyI _, ?_, k _ (ext1 np)⟩
      exact kitAny_cons kit_II (fun z => by cases z) (fun _ => rfl)

/-! ### Frac.of -/
def spOf (A : Adr) : Sp := fun vs H Q _ => ∃ x q, vs = [x] ∧ Num A H x q ∧ ∀ r H', Ext H H' → FracAt A.C H' r q → Q (.ref r) H'
theorem scOf : FnScope ["value"] ["value"] (defScope sOf) := ⟨rfl, rfl, rfl, by decide +kernel, rfl, by decide +kernel, by decide +kernel⟩
theorem ok_of {f : Addr} {fd : FuncData} (F : Fun K "of" "Frac.of" sOf f fd) (T : FT K mg A) (M : MkF P w K mg base A) : FnOk P w K mg base (L2.CX P w) 3 f fd ["value"] (spOf A) := by
  refine F.okX scOf (fun vs H Q E h => ?_) (fun cdv AA outer s H vs Q E hr h => ?_)
  · obtain ⟨x, q, rfl, _⟩ := h
    rfl
  · obtain ⟨x, q, rfl, hn, k⟩ := h
    refine ⟨_, pss_cons (ps_if (pt_val (pe_callB call_isi (by rfl) T.isi boot_isi (pa_cons (pv 0) (pa_cons (pe_glob (v := .ref A.C) (by rfl) T.mgC rfl) pa_nil)))) (pss_one (ps_ret (pv 0))) pss_nil)
      (pss_one (ps_ret (pe_frac1 M T hr rfl (pa_cons (pv 0) pa_nil)))), ?_⟩
    rcases hn with ⟨b, rfl, hf⟩ | ⟨rfl, h1⟩
    · refine ⟨_, rfl, _, _, _, _, true, rfl, .own A.C, T.tyF hf, kit_CC, _, rfl, iteT ?_⟩
      exact ⟨_, rfl, k b H Ext.rfl' hf⟩
    · refine ⟨_, rfl, _, _, _, _, false, rfl, .own A.C, tyI _, T.kit_IC, _, rfl, iteF ?_⟩
      refine ⟨_, rfl, q.1, rfl, fun r H' e hf => k r H' e ?_⟩
      rw [← h1] at hf
      exact hf

/-! ### sums, differences, products: the promise of both forms -/
def spB (A : Adr) (g : Int × Int → Int × Int → Int × Int) : Sp := fun vs H Q _ => ∃ a p y q, vs = [.ref a, y] ∧ FracAt A.C H a p ∧ Num A H y q ∧ Okf p ∧ Okf q ∧ ∀ r H', Ext H H' → FracAt A.C H' r (g p q) → Q (.ref r) H'
theorem Okf.ne {p : Int × Int} (o : Okf p) : p.2 ≠ 0 := by have := o.low.pos; omega
theorem Okf.mne {p q : Int × Int} (o : Okf p) (o' : Okf q) : p.2 * q.2 ≠ 0 := Int.mul_ne_zero o.ne o'.ne
theorem one_of {p : Int × Int} (h : p.2 = 1) : p = (p.1, 1) := by cases p; simp_all
theorem scAdd : FnScope ["self", "other"] ["self", "other"] (defScope sAdd) := ⟨rfl, rfl, rfl, by decide +kernel, rfl, by decide +kernel, by decide +kernel⟩
theorem ok_add {f : Addr} {fd : FuncData} (F : Fun K "__add__" "Frac.__add__" sAdd f fd) (T : FT K mg A) (M : MkF P w K mg base A) (N : Cal P w K mg base 1 A.isnum ["value"] (spIsNum A)) : FnOk P w K mg base (L2.CX P w) 3 f fd ["self", "other"] (spB A fadd) := by
  refine F.okX scAdd (fun vs H Q E h => ?_) (fun cdv AA outer s H vs Q E hr h => ?_)
  · obtain ⟨a, p, y, q, rfl, _⟩ := h
    rfl
  · obtain ⟨a, p, y, q, rfl, ha, hy, op, oq, k⟩ := h
    obtain ⟨fdN, GN, bN⟩ := N.ex
    refine ⟨_, pss_cons (ps_if (pt_not (pt_val (pe_call GN (hr.mono (by decide)) rfl T.gIs N.kp bN .nil (E := E0) passL (pa_cons (pv 1) pa_nil)))) (pss_one ps_never) pss_nil)
      (pss_cons (ps_if (pt_val (pe_callB call_isi (by rfl) T.isi boot_isi (pa_cons (pv 1) (pa_cons (pe_bltn (v := .ty "int") (by rfl) T.int0 boot_int rfl) pa_nil))))
        (pss_one (ps_ret (pe_frac2 M T hr rfl (pa_cons (pe_op L2.op_add (pe_fld (pv 0) rfl) (pe_op op_mulW (pv 1) (pe_fld (pv 0) rfl))) (pa_cons (pe_fld (pv 0) rfl) pa_nil))))) pss_nil)
      (pss_one (ps_ret (pe_frac2 M T hr rfl (pa_cons (pe_op L2.op_add (pe_op op_mulW (pe_fld (pv 0) rfl) (pe_fld (pv 1) rfl)) (pe_op op_mulW (pe_fld (pv 1) rfl) (pe_fld (pv 0) rfl))) (pa_cons (pe_op op_mulW (pe_fld (pv 0) rfl) (pe_fld (pv 1) rfl)) pa_nil)))))), ?_⟩
    refine ⟨_, rfl, y, q, rfl, hy, fun H1 e1 => ⟨_, rfl, iteF ?_⟩⟩
    obtain ⟨dx, hA⟩ := ha.ext e1
    rcases hy.ext e1 with ⟨b, rfl, hf⟩ | ⟨rfl, h1⟩
    · obtain ⟨dy, hB⟩ := id hf
      refine ⟨_, rfl, _, _, _, _, false, rfl, .ty "int", T.tyF hf, T.kit_CI, _, rfl, iteF ?_⟩
      exact ⟨_, rfl, _, _, _, _, _, rfl, hA, T.cl, T.nN, fr_num _, _, rfl, _, _, _, _, _, rfl, hB, T.cl, T.nD, fr_den _, _, _, rfl, rfl, (op.b1.cm oq.b2), _, rfl, _, _, _, _, _, rfl, hB, T.cl, T.nN, fr_num _, _, rfl, _, _, _, _, _, rfl, hA, T.cl, T.nD, fr_den _, _, _, rfl, rfl, (oq.b1.cm op.b2), _, _, rfl, rfl, _, rfl, _, _, _, _, _, rfl, hA, T.cl, T.nD, fr_den _, _, rfl, _, _, _, _, _, rfl, hB, T.cl, T.nD, fr_den _, _, _, rfl, rfl, (op.b2.cm oq.b2), _, _, rfl, op.mne oq, op.b2.mul oq.b2, fun r H' e hf => k r H' (e1.trans e) hf⟩
    · refine ⟨_, rfl, _, _, _, _, true, rfl, .ty "int", tyI _, kit_II, _, rfl, iteT ?_⟩
      refine ⟨_, rfl, _, _, _, _, _, rfl, hA, T.cl, T.nN, fr_num _, _, rfl, _, rfl, _, _, _, _, _, rfl, hA, T.cl, T.nD, fr_den _, _, _, rfl, rfl, (oq.b1.cm op.b2), _, _, rfl, rfl, _, rfl, _, _, _, _, _, rfl, hA, T.cl, T.nD, fr_den _, _, _, rfl, op.ne, op.b2.bi, fun r H' e hf => k r H' (e1.trans e) ?_⟩
      unfold fadd
      rw [h1, Int.mul_one, Int.mul_one]
      exact hf

/-! ### own operators of Fracs -/
def rBF (A : Adr) (g : Int × Int → Int × Int → Int × Int) : R2 := fun x y H Q => ∃ a p q, x = .ref a ∧ FracAt A.C H a p ∧ Num A H y q ∧ Okf p ∧ Okf q ∧ ∀ r H', Ext H H' → FracAt A.C H' r (g p q) → Q (.ref r) H'
def rBR (A : Adr) (g : Int × Int → Int × Int → Int × Int) : R2 := fun x y H Q => ∃ n b q, x = .int n ∧ y = .ref b ∧ FracAt A.C H b q ∧ Bd n ∧ Okf q ∧ ∀ r H', Ext H H' → FracAt A.C H' r (g (n, 1) q) → Q (.ref r) H'
theorem Okf.int {n : Int} (h : Bd n) : Okf (n, 1) := ⟨lowInt n, h, Bd_one⟩
end
section
variable {X : Cx} {A : Adr} {k : Nat} {f : Addr} {g : Int × Int → Int × Int → Int × Int}
theorem op_BF {op : Operator} (B : BinF X.K A.C f op) (c : Cal X.prog X.w X.K X.mg X.base k f ["self", "other"] (spB A g)) (hr : Room k X.A) : OpR X (binaryOp op) (rBF A g) := by
  obtain ⟨fd, F, b⟩ := c.ex
  intro pins s σ H x y v u Q I rx ry h
  obtain ⟨a, p, q, rfl, ha, hy, op', oq, k⟩ := h
  exact op_own B F hr b (E := E0) passL pins s σ H _ y v u Q I rx ry ⟨ha.ins, hy.elim (fun ⟨b, e, f⟩ => .inl (by rw [e]; exact f.ins)) (fun e => .inr ⟨_, e.1⟩), a, p, y, q, rfl, ha, hy, op', oq, k⟩
theorem op_BR {op : Operator} {idl : String} {B : Builtin} (N : IntOp op idl B) (R : RefF X.K A.C f op) (c : Cal X.prog X.w X.K X.mg X.base k f ["self", "other"] (spB A fun p q => g q p)) (hr : Room k X.A) : OpR X (binaryOp op) (rBR A g) := by
  obtain ⟨fd, F, b⟩ := c.ex
  intro pins s σ H x y v u Q I rx ry h
  obtain ⟨n, b', q, rfl, rfl, hb, hn, oq, k⟩ := h
  exact op_ref N R F hr b (E := E0) passL pins s σ H _ _ v u Q I rx ry ⟨⟨n, rfl⟩, hb.ins, b', q, .int n, (n, 1), rfl, hb, .int n, oq, .int hn, k⟩
end
section
variable {P : Program} {w : World} {K : PySem.W.Frag} {mg : Str → Option Value} {base : Heap} {A : Adr}
theorem scRadd : FnScope ["self", "other"] ["self", "other"] (defScope sRadd) := ⟨rfl, rfl, rfl, by decide +kernel, rfl, by decide +kernel, by decide +kernel⟩
theorem fadd_comm (p q : Int × Int) : fadd p q = fadd q p := by unfold fadd; rw [Int.add_comm, Int.mul_comm p.2 q.2]
theorem ok_radd {f : Addr} {fd : FuncData} (F : Fun K "__radd__" "Frac.__radd__" sRadd f fd) (T : FT K mg A) (N : Cal P w K mg base 1 A.isnum ["value"] (spIsNum A)) (B : BinF K A.C A.add .Add) (c : Cal P w K mg base 3 A.add ["self", "other"] (spB A fadd)) :
    FnOk P w K mg base (L2.CX P w) 4 f fd ["self", "other"] (spB A fun p q => fadd q p) := by
  refine F.okX scRadd (fun vs H Q E h => ?_) (fun cdv AA outer s H vs Q E hr h => ?_)
  · obtain ⟨a, p, y, q, rfl, _⟩ := h
    rfl
  · obtain ⟨a, p, y, q, rfl, ha, hy, op, oq, k⟩ := h
    obtain ⟨fdN, GN, bN⟩ := N.ex
    refine ⟨_, pss_cons (ps_if (pt_not (pt_val (pe_call GN (hr.mono (by decide)) rfl T.gIs N.kp bN .nil (E := E0) passL (pa_cons (pv 1) pa_nil)))) (pss_one ps_never) pss_nil)
      (pss_one (ps_ret (pe_op (op_BF B c hr) (pv 0) (pv 1)))), ?_⟩
    refine ⟨_, rfl, y, q, rfl, hy, fun H1 e1 => ⟨_, rfl, iteF ?_⟩⟩
    exact ⟨_, rfl, _, rfl, a, p, q, rfl, ha.ext e1, hy.ext e1, op, oq, fun r H' e hf => k r H' (e1.trans e) (by show FracAt A.C H' r (fadd q p); rw [fadd_comm]; exact hf)⟩
end
end Fx

set_option Elab.async false
set_option linter.all false
set_option maxRecDepth 100000
set_option maxHeartbeats 4000000
set_option exponentiation.threshold 20000
namespace Fx
open PySem PySem.Spec PyProof.Rows L2 FM
abbrev sAbs : Stmt := inClass (top 9) 14
abbrev sFlo : Stmt := inClass (top 9) 8
abbrev sRflo : Stmt := inClass (top 9) 9
section
variable {P : Program} {w : World} {K : PySem.W.Frag} {mg : Str → Option Value} {base : Heap} {A : Adr}
theorem scSub : FnScope ["self", "other"] ["self", "other"] (defScope sSub) := ⟨rfl, rfl, rfl, by decide +kernel, rfl, by decide +kernel, by decide +kernel⟩
theorem ok_sub {f : Addr} {fd : FuncData} (F : Fun K "__sub__" "Frac.__sub__" sSub f fd) (T : FT K mg A) (M : MkF P w K mg base A) (N : Cal P w K mg base 1 A.isnum ["value"] (spIsNum A)) : FnOk P w K mg base (L2.CX P w) 3 f fd ["self", "other"] (spB A fsub) := by
  refine F.okX scSub (fun vs H Q E h => ?_) (fun cdv AA outer s H vs Q E hr h => ?_)
  · obtain ⟨a, p, y, q, rfl, _⟩ := h
    rfl
  · obtain ⟨a, p, y, q, rfl, ha, hy, op, oq, k⟩ := h
    obtain ⟨fdN, GN, bN⟩ := N.ex
    refine ⟨_, pss_cons (ps_if (pt_not (pt_val (pe_call GN (hr.mono (by decide)) rfl T.gIs N.kp bN .nil (E := E0) passL (pa_cons (pv 1) pa_nil)))) (pss_one ps_never) pss_nil)
      (pss_cons (ps_if (pt_val (pe_callB call_isi (by rfl) T.isi boot_isi (pa_cons (pv 1) (pa_cons (pe_bltn (v := .ty "int") (by rfl) T.int0 boot_int rfl) pa_nil))))
        (pss_one (ps_ret (pe_frac2 M T hr rfl (pa_cons (pe_op L2.op_sub (pe_fld (pv 0) rfl) (pe_op op_mulW (pv 1) (pe_fld (pv 0) rfl))) (pa_cons (pe_fld (pv 0) rfl) pa_nil))))) pss_nil)
      (pss_one (ps_ret (pe_frac2 M T hr rfl (pa_cons (pe_op L2.op_sub (pe_op op_mulW (pe_fld (pv 0) rfl) (pe_fld (pv 1) rfl)) (pe_op op_mulW (pe_fld (pv 1) rfl) (pe_fld (pv 0) rfl))) (pa_cons (pe_op op_mulW (pe_fld (pv 0) rfl) (pe_fld (pv 1) rfl)) pa_nil)))))), ?_⟩
    refine ⟨_, rfl, y, q, rfl, hy, fun H1 e1 => ⟨_, rfl, iteF ?_⟩⟩
    obtain ⟨dx, hA⟩ := ha.ext e1
    rcases hy.ext e1 with ⟨b, rfl, hf⟩ | ⟨rfl, h1⟩
    · obtain ⟨dy, hB⟩ := id hf
      refine ⟨_, rfl, _, _, _, _, false, rfl, .ty "int", T.tyF hf, T.kit_CI, _, rfl, iteF ?_⟩
      exact ⟨_, rfl, _, _, _, _, _, rfl, hA, T.cl, T.nN, fr_num _, _, rfl, _, _, _, _, _, rfl, hB, T.cl, T.nD, fr_den _, _, _, rfl, rfl, (op.b1.cm oq.b2), _, rfl, _, _, _, _, _, rfl, hB, T.cl, T.nN, fr_num _, _, rfl, _, _, _, _, _, rfl, hA, T.cl, T.nD, fr_den _, _, _, rfl, rfl, (oq.b1.cm op.b2), _, _, rfl, rfl, _, rfl, _, _, _, _, _, rfl, hA, T.cl, T.nD, fr_den _, _, rfl, _, _, _, _, _, rfl, hB, T.cl, T.nD, fr_den _, _, _, rfl, rfl, (op.b2.cm oq.b2), _, _, rfl, op.mne oq, op.b2.mul oq.b2, fun r H' e hf => k r H' (e1.trans e) hf⟩
    · refine ⟨_, rfl, _, _, _, _, true, rfl, .ty "int", tyI _, kit_II, _, rfl, iteT ?_⟩
      refine ⟨_, rfl, _, _, _, _, _, rfl, hA, T.cl, T.nN, fr_num _, _, rfl, _, rfl, _, _, _, _, _, rfl, hA, T.cl, T.nD, fr_den _, _, _, rfl, rfl, (oq.b1.cm op.b2), _, _, rfl, rfl, _, rfl, _, _, _, _, _, rfl, hA, T.cl, T.nD, fr_den _, _, _, rfl, op.ne, op.b2.bi, fun r H' e hf => k r H' (e1.trans e) ?_⟩
      unfold fsub
      rw [h1, Int.mul_one, Int.mul_one]
      exact hf
theorem scMul : FnScope ["self", "other"] ["self", "other"] (defScope sMul) := ⟨rfl, rfl, rfl, by decide +kernel, rfl, by decide +kernel, by decide +kernel⟩
theorem ok_mul {f : Addr} {fd : FuncData} (F : Fun K "__mul__" "Frac.__mul__" sMul f fd) (T : FT K mg A) (M : MkF P w K mg base A) (N : Cal P w K mg base 1 A.isnum ["value"] (spIsNum A)) : FnOk P w K mg base (L2.CX P w) 3 f fd ["self", "other"] (spB A fmul) := by
  refine F.okX scMul (fun vs H Q E h => ?_) (fun cdv AA outer s H vs Q E hr h => ?_)
  · obtain ⟨a, p, y, q, rfl, _⟩ := h
    rfl
  · obtain ⟨a, p, y, q, rfl, ha, hy, op, oq, k⟩ := h
    obtain ⟨fdN, GN, bN⟩ := N.ex
    refine ⟨_, pss_cons (ps_if (pt_not (pt_val (pe_call GN (hr.mono (by decide)) rfl T.gIs N.kp bN .nil (E := E0) passL (pa_cons (pv 1) pa_nil)))) (pss_one ps_never) pss_nil)
      (pss_cons (ps_if (pt_val (pe_callB call_isi (by rfl) T.isi boot_isi (pa_cons (pv 1) (pa_cons (pe_bltn (v := .ty "int") (by rfl) T.int0 boot_int rfl) pa_nil))))
        (pss_one (ps_ret (pe_frac2 M T hr rfl (pa_cons (pe_op op_mulW (pe_fld (pv 0) rfl) (pv 1)) (pa_cons (pe_fld (pv 0) rfl) pa_nil))))) pss_nil)
      (pss_one (ps_ret (pe_frac2 M T hr rfl (pa_cons (pe_op op_mulW (pe_fld (pv 0) rfl) (pe_fld (pv 1) rfl)) (pa_cons (pe_op op_mulW (pe_fld (pv 0) rfl) (pe_fld (pv 1) rfl)) pa_nil)))))), ?_⟩
    refine ⟨_, rfl, y, q, rfl, hy, fun H1 e1 => ⟨_, rfl, iteF ?_⟩⟩
    obtain ⟨dx, hA⟩ := ha.ext e1
    rcases hy.ext e1 with ⟨b, rfl, hf⟩ | ⟨rfl, h1⟩
    · obtain ⟨dy, hB⟩ := id hf
      refine ⟨_, rfl, _, _, _, _, false, rfl, .ty "int", T.tyF hf, T.kit_CI, _, rfl, iteF ?_⟩
      exact ⟨_, rfl, _, _, _, _, _, rfl, hA, T.cl, T.nN, fr_num _, _, rfl, _, _, _, _, _, rfl, hB, T.cl, T.nN, fr_num _, _, _, rfl, rfl, (op.b1.cm oq.b1), _, rfl, _, _, _, _, _, rfl, hA, T.cl, T.nD, fr_den _, _, rfl, _, _, _, _, _, rfl, hB, T.cl, T.nD, fr_den _, _, _, rfl, rfl, (op.b2.cm oq.b2), _, _, rfl, op.mne oq, op.b2.mul oq.b2, fun r H' e hf => k r H' (e1.trans e) hf⟩
    · refine ⟨_, rfl, _, _, _, _, true, rfl, .ty "int", tyI _, kit_II, _, rfl, iteT ?_⟩
      refine ⟨_, rfl, _, _, _, _, _, rfl, hA, T.cl, T.nN, fr_num _, _, rfl, _, _, rfl, rfl, (op.b1.cm oq.b1), _, rfl, _, _, _, _, _, rfl, hA, T.cl, T.nD, fr_den _, _, _, rfl, op.ne, op.b2.bi, fun r H' e hf => k r H' (e1.trans e) ?_⟩
      unfold fmul
      rw [h1, Int.mul_one]
      exact hf
/-- a promise of one Frac -/
def spU (A : Adr) (g : Int × Int → Int × Int) : Sp := fun vs H Q _ => ∃ a p, vs = [.ref a] ∧ FracAt A.C H a p ∧ Okf p ∧ ∀ r H', Ext H H' → FracAt A.C H' r (g p) → Q (.ref r) H'
def fneg (p : Int × Int) : Int × Int := (-p.1, p.2)
def fabs (p : Int × Int) : Int × Int := ((p.1.natAbs : Int), p.2)
theorem Okf.neg {p : Int × Int} (o : Okf p) : Okf (fneg p) := ⟨low_neg o.low, by unfold Bd fneg; rw [Int.natAbs_neg]; exact o.b1, o.b2⟩
theorem scNeg : FnScope ["self"] ["self"] (defScope sNeg) := ⟨rfl, rfl, rfl, by decide +kernel, rfl, by decide +kernel, by decide +kernel⟩
theorem ok_neg {f : Addr} {fd : FuncData} (F : Fun K "__neg__" "Frac.__neg__" sNeg f fd) (T : FT K mg A) (M : MkF P w K mg base A) : FnOk P w K mg base (L2.CX P w) 3 f fd ["self"] (spU A fneg) := by
  refine F.okX scNeg (fun vs H Q E h => ?_) (fun cdv AA outer s H vs Q E hr h => ?_)
  · obtain ⟨a, p, rfl, _⟩ := h
    rfl
  · obtain ⟨a, p, rfl, ha, op, k⟩ := h
    obtain ⟨dx, hA⟩ := ha
    refine ⟨_, pss_one (ps_ret (pe_frac2 M T hr rfl (pa_cons (pe_un L2.un_neg (pe_fld (pv 0) rfl)) (pa_cons (pe_fld (pv 0) rfl) pa_nil)))), ?_⟩
    refine ⟨_, rfl, _, _, _, _, _, rfl, hA, T.cl, T.nN, fr_num _, _, rfl, _, rfl, _, _, _, _, _, rfl, hA, T.cl, T.nD, fr_den _, _, _, rfl, op.ne, op.b2.bi, fun r H' e hf => k r H' e ?_⟩
    have e2 := low_self (low_neg op.low)
    dsimp only at e2
    rw [e2] at hf
    exact hf
theorem scAbs : FnScope ["self"] ["self"] (defScope sAbs) := ⟨rfl, rfl, rfl, by decide +kernel, rfl, by decide +kernel, by decide +kernel⟩
theorem boot_abs' : bootBuiltins "abs" = some (.builtin "abs") := by decide +kernel
theorem ok_abs {f : Addr} {fd : FuncData} (F : Fun K "__abs__" "Frac.__abs__" sAbs f fd) (T : FT K mg A) (M : MkF P w K mg base A) (ab : mg "abs" = none) : FnOk P w K mg base (L2.CX P w) 3 f fd ["self"] (spU A fabs) := by
  refine F.okX scAbs (fun vs H Q E h => ?_) (fun cdv AA outer s H vs Q E hr h => ?_)
  · obtain ⟨a, p, rfl, _⟩ := h
    rfl
  · obtain ⟨a, p, rfl, ha, op, k⟩ := h
    obtain ⟨dx, hA⟩ := ha
    refine ⟨_, pss_one (ps_ret (pe_frac2 M T hr rfl (pa_cons (pe_callB L2.call_abs (by rfl) ab boot_abs' (pa_cons (pe_fld (pv 0) rfl) pa_nil)) (pa_cons (pe_fld (pv 0) rfl) pa_nil)))), ?_⟩
    refine ⟨_, rfl, _, _, _, _, _, rfl, hA, T.cl, T.nN, fr_num _, _, rfl, _, rfl, _, _, _, _, _, rfl, hA, T.cl, T.nD, fr_den _, _, _, rfl, op.ne, op.b2.bi, fun r H' e hf => k r H' e ?_⟩
    have e2 := low_self (low_abs op.low)
    have e3 : (if p.1 < 0 then -p.1 else p.1) = (p.1.natAbs : Int) := by split <;> omega
    rw [e3] at hf
    dsimp only at e2
    rw [e2] at hf
    exact hf
theorem scRmul : FnScope ["self", "other"] ["self", "other"] (defScope sRmul) := ⟨rfl, rfl, rfl, by decide +kernel, rfl, by decide +kernel, by decide +kernel⟩
theorem fmul_comm (p q : Int × Int) : fmul p q = fmul q p := by unfold fmul; rw [Int.mul_comm p.1 q.1, Int.mul_comm p.2 q.2]
theorem ok_rmul {f : Addr} {fd : FuncData} (F : Fun K "__rmul__" "Frac.__rmul__" sRmul f fd) (T : FT K mg A) (N : Cal P w K mg base 1 A.isnum ["value"] (spIsNum A)) (B : BinF K A.C A.mul .Mult) (c : Cal P w K mg base 3 A.mul ["self", "other"] (spB A fmul)) :
    FnOk P w K mg base (L2.CX P w) 4 f fd ["self", "other"] (spB A fun p q => fmul q p) := by
  refine F.okX scRmul (fun vs H Q E h => ?_) (fun cdv AA outer s H vs Q E hr h => ?_)
  · obtain ⟨a, p, y, q, rfl, _⟩ := h
    rfl
  · obtain ⟨a, p, y, q, rfl, ha, hy, op, oq, k⟩ := h
    obtain ⟨fdN, GN, bN⟩ := N.ex
    refine ⟨_, pss_cons (ps_if (pt_not (pt_val (pe_call GN (hr.mono (by decide)) rfl T.gIs N.kp bN .nil (E := E0) passL (pa_cons (pv 1) pa_nil)))) (pss_one ps_never) pss_nil)
      (pss_one (ps_ret (pe_op (op_BF B c hr) (pv 0) (pv 1)))), ?_⟩
    refine ⟨_, rfl, y, q, rfl, hy, fun H1 e1 => ⟨_, rfl, iteF ?_⟩⟩
    exact ⟨_, rfl, _, rfl, a, p, q, rfl, ha.ext e1, hy.ext e1, op, oq, fun r H' e hf => k r H' (e1.trans e) (by show FracAt A.C H' r (fmul q p); rw [fmul_comm]; exact hf)⟩
theorem scRsub : FnScope ["self", "other"] ["self", "other"] (defScope sRsub) := ⟨rfl, rfl, rfl, by decide +kernel, rfl, by decide +kernel, by decide +kernel⟩
theorem fadd_neg (p q : Int × Int) : fadd (fneg p) q = fsub q p := by
  unfold fadd fsub fneg
  dsimp only
  rw [Int.neg_mul, Int.mul_comm p.2 q.2, show -(p.1 * q.2) + q.1 * p.2 = q.1 * p.2 - p.1 * q.2 by omega]
theorem ok_rsub {f : Addr} {fd : FuncData} (F : Fun K "__rsub__" "Frac.__rsub__" sRsub f fd) (T : FT K mg A) (N : Cal P w K mg base 1 A.isnum ["value"] (spIsNum A)) (B : BinF K A.C A.add .Add) (c : Cal P w K mg base 3 A.add ["self", "other"] (spB A fadd))
    (U : UnF K A.C A.neg "__neg__") (cn : Cal P w K mg base 3 A.neg ["self"] (spU A fneg)) : FnOk P w K mg base (L2.CX P w) 4 f fd ["self", "other"] (spB A fun p q => fsub q p) := by
  refine F.okX scRsub (fun vs H Q E h => ?_) (fun cdv AA outer s H vs Q E hr h => ?_)
  · obtain ⟨a, p, y, q, rfl, _⟩ := h
    rfl
  · obtain ⟨a, p, y, q, rfl, ha, hy, op, oq, k⟩ := h
    obtain ⟨fdN, GN, bN⟩ := N.ex
    obtain ⟨fdn, Gn, bn⟩ := cn.ex
    refine ⟨_, pss_cons (ps_if (pt_not (pt_val (pe_call GN (hr.mono (by decide)) rfl T.gIs N.kp bN .nil (E := E0) passL (pa_cons (pv 1) pa_nil)))) (pss_one ps_never) pss_nil)
      (pss_one (ps_ret (pe_op (op_BF B c hr) (pe_un (o_neg U Gn hr bn (E := E0) passL) (pv 0)) (pv 1)))), ?_⟩
    refine ⟨_, rfl, y, q, rfl, hy, fun H1 e1 => ⟨_, rfl, iteF ?_⟩⟩
    refine ⟨_, rfl, (ha.ext e1).ins, a, p, rfl, ha.ext e1, op, fun r H2 e2 hf => ?_⟩
    exact ⟨_, rfl, r, _, q, rfl, hf, hy.ext (e1.trans e2), op.neg, oq, fun r H' e hf => k r H' ((e1.trans e2).trans e) (by show FracAt A.C H' r (fsub q p); rw [← fadd_neg]; exact hf)⟩
theorem scWq : FnScope ["first", "second"] ["first", "second"] (defScope sWq) := ⟨rfl, rfl, rfl, by decide +kernel, rfl, by decide +kernel, by decide +kernel⟩
/-- _whole_quotient: the floor, or DivisionByZero -/
def spWq (A : Adr) : Sp := fun vs H Q E => ∃ a p b q, vs = [.ref a, .ref b] ∧ FracAt A.C H a p ∧ FracAt A.C H b q ∧ Okf p ∧ Okf q ∧ (q.1 = 0 → E (.ref A.Z) none H) ∧ (q.1 ≠ 0 → Q (.int (fflo p q)) H)
theorem ok_wq {f : Addr} {fd : FuncData} (F : Fun K "_whole_quotient" "_whole_quotient" sWq f fd) (T : FT K mg A) : FnOk P w K mg base (L2.CX P w) 1 f fd ["first", "second"] (spWq A) := by
  refine F.okX scWq (fun vs H Q E h => ?_) (fun cdv AA outer s H vs Q E hr h => ?_)
  · obtain ⟨a, p, b, q, rfl, _⟩ := h
    rfl
  · obtain ⟨a, p, b, q, rfl, ⟨dx, hA⟩, ⟨dy, hB⟩, op, oq, k0, k1⟩ := h
    refine ⟨_, pss_cons (ps_if (pt_cmpR L2.op_eq (pe_fld (pv 1) rfl) pe_int (nomark _)) (pss_one (ps_raise rfl (takes_of rfl rfl rfl rfl) (pmk_own0 PySem.F.excBase_ValueError T.xZ T.gZ T.kZ (raises_own T.bZ T.tZ) rfl))) pss_nil)
      (pss_one (ps_ret (pe_op op_fdivZ (pe_op op_mulW (pe_fld (pv 0) rfl) (pe_fld (pv 1) rfl)) (pe_op op_mulW (pe_fld (pv 0) rfl) (pe_fld (pv 1) rfl))))), ?_⟩
    refine ⟨_, rfl, _, _, _, _, _, rfl, hB, T.cl, T.nN, fr_num _, rfl, _, rfl, ?_⟩
    by_cases hz : q.1 = 0
    · rw [hz]
      exact iteT (k0 hz)
    · rw [show decide (V.int q.1 = V.int 0) = false from decide_eq_false (by intro z; injection z with z; exact hz z)]
      refine iteF ?_
      exact ⟨_, rfl, _, _, _, _, _, rfl, hA, T.cl, T.nN, fr_num _, _, rfl, _, _, _, _, _, rfl, hB, T.cl, T.nD, fr_den _, _, _, rfl, rfl, (op.b1.cm oq.b2), _, rfl, _, _, _, _, _, rfl, hA, T.cl, T.nD, fr_den _, _, rfl, _, _, _, _, _, rfl, hB, T.cl, T.nN, fr_num _, _, _, rfl, rfl, (op.b2.cm oq.b1), _, _, rfl, rfl, ⟨Int.mul_ne_zero op.ne hz, (op.b2.mul oq.b1).log⟩, k1 hz⟩
end
end Fx

set_option Elab.async false
set_option linter.all false
set_option maxRecDepth 100000
set_option maxHeartbeats 4000000
set_option exponentiation.threshold 20000
namespace Fx
open PySem PySem.Spec PyProof.Rows L2 FM
abbrev sMod : Stmt := inClass (top 9) 10
abbrev sRmod : Stmt := inClass (top 9) 11
abbrev sBool : Stmt := inClass (top 9) 15
abbrev sEq : Stmt := inClass (top 9) 16
abbrev sLt : Stmt := inClass (top 9) 17
abbrev sLe : Stmt := inClass (top 9) 18
abbrev sGt : Stmt := inClass (top 9) 19
abbrev sGe : Stmt := inClass (top 9) 20
abbrev sStr : Stmt := inClass (top 9) 21
abbrev sOver : Stmt := inClass (top 9) 22
/-- Frac's static methods are read off it -/
structure StF (K : PySem.W.Frag) (A : Adr) : Prop where
  cr : ClX.CRead K A.C (.type "type")
  sm : SMet K A.C (.type "type") "of" A.pOf A.of_
theorem OpR.or {X : Cx} {f : Value → Value → Sem Value} {r r' : R2} (h : OpR X f r) (h' : OpR X f r') : OpR X f (fun x y H Q => r x y H Q ∨ r' x y H Q) := fun pins s σ H x y v u Q I rx ry q =>
  q.elim (fun q => h pins s σ H x y v u Q I rx ry q) fun q => h' pins s σ H x y v u Q I rx ry q
section
variable {P : Program} {w : World} {K : PySem.W.Frag} {mg : Str → Option Value} {base : Heap} {A : Adr}
theorem scFlo : FnScope ["self", "other"] ["self", "other"] (defScope sFlo) := ⟨rfl, rfl, rfl, by decide +kernel, rfl, by decide +kernel, by decide +kernel⟩
/-- the floor of a quotient, or DivisionByZero -/
def spFlo (A : Adr) : Sp := fun vs H Q E => ∃ a p y q, vs = [.ref a, y] ∧ FracAt A.C H a p ∧ Num A H y q ∧ Okf p ∧ Okf q ∧ (q.1 = 0 → ∀ H', Ext H H' → E (.ref A.Z) none H') ∧ (q.1 ≠ 0 → ∀ H', Ext H H' → Q (.int (fflo p q)) H')
theorem ok_flo {f : Addr} {fd : FuncData} (F : Fun K "__floordiv__" "Frac.__floordiv__" sFlo f fd) (T : FT K mg A) (S : StF K A) (O : Cal P w K mg base 3 A.of_ ["value"] (spOf A)) (N : Cal P w K mg base 1 A.isnum ["value"] (spIsNum A)) (W : Cal P w K mg base 1 A.wq ["first", "second"] (spWq A)) : FnOk P w K mg base (L2.CX P w) 4 f fd ["self", "other"] (spFlo A) := by
  refine F.okX scFlo (fun vs H Q E h => ?_) (fun cdv AA outer s H vs Q E hr h => ?_)
  · obtain ⟨a, p, y, q, rfl, _⟩ := h
    rfl
  · obtain ⟨a, p, y, q, rfl, ha, hy, op, oq, k0, k1⟩ := h
    obtain ⟨fdN, GN, bN⟩ := N.ex
    obtain ⟨fdO, GO, bO⟩ := O.ex
    obtain ⟨fdW, GW, bW⟩ := W.ex
    refine ⟨_, pss_cons (ps_if (pt_not (pt_val (pe_call GN (hr.mono (by decide)) rfl T.gIs N.kp bN .nil (E := E0) passL (pa_cons (pv 1) pa_nil)))) (pss_one ps_never) pss_nil)
      (pss_one (ps_ret (pe_call GW (hr.mono (by decide)) rfl T.gWq W.kp bW .nil (passes_call (takes_of rfl rfl rfl rfl) (fun _ _ _ _ h => h)) (pa_cons (pv 0) (pa_cons (pe_smeth (pe_glob (v := .ref A.C) (by rfl) T.mgC rfl) S.cr S.sm T.tC GO (hr.mono (by decide)) bO (E := E0) passL (pa_cons (pv 1) pa_nil)) pa_nil))))), ?_⟩
    refine ⟨_, rfl, y, q, rfl, hy, fun H1 e1 => ⟨_, rfl, iteF ?_⟩⟩
    exact ⟨_, rfl, rfl, _, rfl, y, q, rfl, hy.ext e1, fun r H2 e2 hf => ⟨a, p, r, q, rfl, ha.ext (e1.trans e2), hf, op, oq, fun z => k0 z _ (e1.trans e2), fun z => k1 z _ (e1.trans e2)⟩⟩
theorem scRflo : FnScope ["self", "other"] ["self", "other"] (defScope sRflo) := ⟨rfl, rfl, rfl, by decide +kernel, rfl, by decide +kernel, by decide +kernel⟩
def spRflo (A : Adr) : Sp := fun vs H Q E => ∃ a p y q, vs = [.ref a, y] ∧ FracAt A.C H a p ∧ Num A H y q ∧ Okf p ∧ Okf q ∧ (p.1 = 0 → ∀ H', Ext H H' → E (.ref A.Z) none H') ∧ (p.1 ≠ 0 → ∀ H', Ext H H' → Q (.int (fflo q p)) H')
theorem ok_rflo {f : Addr} {fd : FuncData} (F : Fun K "__rfloordiv__" "Frac.__rfloordiv__" sRflo f fd) (T : FT K mg A) (S : StF K A) (O : Cal P w K mg base 3 A.of_ ["value"] (spOf A)) (N : Cal P w K mg base 1 A.isnum ["value"] (spIsNum A)) (W : Cal P w K mg base 1 A.wq ["first", "second"] (spWq A)) : FnOk P w K mg base (L2.CX P w) 4 f fd ["self", "other"] (spRflo A) := by
  refine F.okX scRflo (fun vs H Q E h => ?_) (fun cdv AA outer s H vs Q E hr h => ?_)
  · obtain ⟨a, p, y, q, rfl, _⟩ := h
    rfl
  · obtain ⟨a, p, y, q, rfl, ha, hy, op, oq, k0, k1⟩ := h
    obtain ⟨fdN, GN, bN⟩ := N.ex
    obtain ⟨fdO, GO, bO⟩ := O.ex
    obtain ⟨fdW, GW, bW⟩ := W.ex
    refine ⟨_, pss_cons (ps_if (pt_not (pt_val (pe_call GN (hr.mono (by decide)) rfl T.gIs N.kp bN .nil (E := E0) passL (pa_cons (pv 1) pa_nil)))) (pss_one ps_never) pss_nil)
      (pss_one (ps_ret (pe_call GW (hr.mono (by decide)) rfl T.gWq W.kp bW .nil (passes_call (takes_of rfl rfl rfl rfl) (fun _ _ _ _ h => h)) (pa_cons (pe_smeth (pe_glob (v := .ref A.C) (by rfl) T.mgC rfl) S.cr S.sm T.tC GO (hr.mono (by decide)) bO (E := E0) passL (pa_cons (pv 1) pa_nil)) (pa_cons (pv 0) pa_nil))))), ?_⟩
    refine ⟨_, rfl, y, q, rfl, hy, fun H1 e1 => ⟨_, rfl, iteF ?_⟩⟩
    exact ⟨rfl, _, rfl, y, q, rfl, hy.ext e1, fun r H2 e2 hf => ⟨_, rfl, r, q, a, p, rfl, hf, ha.ext (e1.trans e2), oq, op, fun z => k0 z _ (e1.trans e2), fun z => k1 z _ (e1.trans e2)⟩⟩
/-- smaller parts -/
structure Oks (p : Int × Int) : Prop where
  low : Low p
  b1 : p.1.natAbs < 2 ^ 900
  b2 : p.2.natAbs < 2 ^ 900
theorem Oks.ok {p : Int × Int} (o : Oks p) : Okf p := ⟨o.low, Nat.lt_of_lt_of_le o.b1 (Nat.pow_le_pow_right (by decide) (by decide)), Nat.lt_of_lt_of_le o.b2 (Nat.pow_le_pow_right (by decide) (by decide))⟩
theorem fdiv_le (a b : Int) (hb : b ≠ 0) : (a.fdiv b).natAbs ≤ a.natAbs := by
  have key : ∀ a b : Int, 0 < b → (a.fdiv b).natAbs ≤ a.natAbs := fun a b hb => by
    rw [Int.fdiv_eq_ediv_of_nonneg _ (Int.le_of_lt hb)]
    exact Int.natAbs_ediv_le_natAbs a b
  rcases Int.lt_or_lt_of_ne hb with h | h
  · rw [← Int.neg_fdiv_neg]
    have := key (-a) (-b) (by omega)
    rwa [Int.natAbs_neg] at this
  · exact key a b h
def fmod_ (p q : Int × Int) : Int × Int := fsub p (fmul q (fflo p q, 1))
theorem flo_b {p q : Int × Int} (op : Oks p) (oq : Oks q) (hz : q.1 ≠ 0) : (fflo p q).natAbs < 2 ^ 1800 :=
  Nat.lt_of_le_of_lt (fdiv_le _ _ (Int.mul_ne_zero op.ok.ne hz)) (wide_lt op.b1 oq.b2)
theorem flo_mul {p q : Int × Int} (op : Oks p) (oq : Oks q) (hz : q.1 ≠ 0) : (q.1 * fflo p q).natAbs < 2 ^ 2700 := wide_lt oq.b1 (flo_b op oq hz)
theorem flo_bd {p q : Int × Int} (op : Oks p) (oq : Oks q) (hz : q.1 ≠ 0) : Okf (fflo p q, 1) := .int (Nat.lt_of_lt_of_le (flo_b op oq hz) (Nat.pow_le_pow_right (by decide) (by decide)))
theorem fmul_ok {p q : Int × Int} (op : Oks p) (oq : Oks q) (hz : q.1 ≠ 0) : Okf (fmul q (fflo p q, 1)) := by
  have h : q.2 * 1 ≠ 0 := by rw [Int.mul_one]; exact oq.ok.ne
  refine ⟨low_low h, ?_, ?_⟩
  · exact Nat.lt_of_le_of_lt (low_le1 h) (Nat.lt_of_lt_of_le (flo_mul op oq hz) (Nat.pow_le_pow_right (by decide) (by decide)))
  · refine Nat.lt_of_le_of_lt (low_le2 h) ?_
    rw [Int.mul_one]
    exact oq.ok.b2
theorem scMod : FnScope ["self", "other"] ["self", "other"] (defScope sMod) := ⟨rfl, rfl, rfl, by decide +kernel, rfl, by decide +kernel, by decide +kernel⟩
def spMod (A : Adr) : Sp := fun vs H Q E => ∃ a p y q, vs = [.ref a, y] ∧ FracAt A.C H a p ∧ Num A H y q ∧ Oks p ∧ Oks q ∧ (q.1 = 0 → ∀ H', Ext H H' → E (.ref A.Z) none H') ∧ (q.1 ≠ 0 → ∀ r H', Ext H H' → FracAt A.C H' r (fmod_ p q) → Q (.ref r) H')
theorem ok_mod {f : Addr} {fd : FuncData} (F : Fun K "__mod__" "Frac.__mod__" sMod f fd) (T : FT K mg A) (S : StF K A) (O : Cal P w K mg base 3 A.of_ ["value"] (spOf A)) (N : Cal P w K mg base 1 A.isnum ["value"] (spIsNum A)) (W : Cal P w K mg base 1 A.wq ["first", "second"] (spWq A))
    (Bs : BinF K A.C A.sub .Sub) (cs : Cal P w K mg base 3 A.sub ["self", "other"] (spB A fsub)) (Bm : BinF K A.C A.mul .Mult) (cm : Cal P w K mg base 3 A.mul ["self", "other"] (spB A fmul)) : FnOk P w K mg base (L2.CX P w) 4 f fd ["self", "other"] (spMod A) := by
  refine F.okX scMod (fun vs H Q E h => ?_) (fun cdv AA outer s H vs Q E hr h => ?_)
  · obtain ⟨a, p, y, q, rfl, _⟩ := h
    rfl
  · obtain ⟨a, p, y, q, rfl, ha, hy, op, oq, k0, k1⟩ := h
    obtain ⟨fdN, GN, bN⟩ := N.ex
    obtain ⟨fdO, GO, bO⟩ := O.ex
    obtain ⟨fdW, GW, bW⟩ := W.ex
    refine ⟨_, pss_cons (ps_if (pt_not (pt_val (pe_call GN (hr.mono (by decide)) rfl T.gIs N.kp bN .nil (E := E0) passL (pa_cons (pv 1) pa_nil)))) (pss_one ps_never) pss_nil)
      (pss_one (ps_ret (pe_op (op_BF Bs cs hr) (pv 0) (pe_op (OpR.or (op_BF Bm cm hr) op_mulW) (pv 1) (pe_call GW (hr.mono (by decide)) rfl T.gWq W.kp bW .nil (passes_call (takes_of rfl rfl rfl rfl) (fun _ _ _ _ h => h)) (pa_cons (pv 0) (pa_cons (pe_smeth (pe_glob (v := .ref A.C) (by rfl) T.mgC rfl) S.cr S.sm T.tC GO (hr.mono (by decide)) bO (E := E0) passL (pa_cons (pv 1) pa_nil)) pa_nil))))))), ?_⟩
    refine ⟨_, rfl, y, q, rfl, hy, fun H1 e1 => ⟨_, rfl, iteF ?_⟩⟩
    refine ⟨_, rfl, _, rfl, _, rfl, rfl, _, rfl, y, q, rfl, hy.ext e1, fun r H2 e2 hf => ⟨a, p, r, q, rfl, ha.ext (e1.trans e2), hf, op.ok, oq.ok, fun z => k0 z _ (e1.trans e2), fun z => ?_⟩⟩
    have e12 := e1.trans e2
    rcases hy.ext e12 with ⟨b, rfl, hb⟩ | ⟨rfl, h1⟩
    · refine .inl ⟨b, q, (fflo p q, 1), rfl, hb, .int _, oq.ok, flo_bd op oq z, fun r3 H3 e3 h3 => ?_⟩
      exact ⟨a, p, _, rfl, ha.ext (e12.trans e3), .of h3, op.ok, fmul_ok op oq z, fun r H' e hf => k1 z r H' ((e12.trans e3).trans e) hf⟩
    · refine .inr ⟨_, _, rfl, rfl, wide_mul oq.b1 (flo_b op oq z) (by decide) (by decide) (by decide), ?_⟩
      have e5 : fmul q (fflo p q, 1) = (q.1 * fflo p q, 1) := by
        unfold fmul
        rw [h1]
        exact low_int _
      have o5 := fmul_ok op oq z
      rw [e5] at o5
      exact ⟨a, p, _, rfl, ha.ext e12, .int _, op.ok, o5, fun r H' e hf => k1 z r H' (e12.trans e) (by unfold fmod_; rw [e5]; exact hf)⟩
theorem scRmod : FnScope ["self", "other"] ["self", "other"] (defScope sRmod) := ⟨rfl, rfl, rfl, by decide +kernel, rfl, by decide +kernel, by decide +kernel⟩
def spRmod (A : Adr) : Sp := fun vs H Q E => ∃ a p n, vs = [.ref a, .int n] ∧ FracAt A.C H a p ∧ Oks p ∧ Oks (n, 1) ∧ (p.1 = 0 → ∀ H', Ext H H' → E (.ref A.Z) none H') ∧ (p.1 ≠ 0 → ∀ r H', Ext H H' → FracAt A.C H' r (fmod_ (n, 1) p) → Q (.ref r) H')
theorem ok_rmod {f : Addr} {fd : FuncData} (F : Fun K "__rmod__" "Frac.__rmod__" sRmod f fd) (T : FT K mg A) (S : StF K A) (O : Cal P w K mg base 3 A.of_ ["value"] (spOf A)) (N : Cal P w K mg base 1 A.isnum ["value"] (spIsNum A)) (W : Cal P w K mg base 1 A.wq ["first", "second"] (spWq A))
    (Rs : RefF K A.C A.rsub .Sub) (cs : Cal P w K mg base 4 A.rsub ["self", "other"] (spB A fun p q => fsub q p)) (Bm : BinF K A.C A.mul .Mult) (cm : Cal P w K mg base 3 A.mul ["self", "other"] (spB A fmul)) : FnOk P w K mg base (L2.CX P w) 5 f fd ["self", "other"] (spRmod A) := by
  refine F.okX scRmod (fun vs H Q E h => ?_) (fun cdv AA outer s H vs Q E hr h => ?_)
  · obtain ⟨a, p, n, rfl, _⟩ := h
    rfl
  · obtain ⟨a, p, n, rfl, ha, op, on, k0, k1⟩ := h
    obtain ⟨fdN, GN, bN⟩ := N.ex
    obtain ⟨fdO, GO, bO⟩ := O.ex
    obtain ⟨fdW, GW, bW⟩ := W.ex
    refine ⟨_, pss_cons (ps_if (pt_not (pt_val (pe_call GN (hr.mono (by decide)) rfl T.gIs N.kp bN .nil (E := E0) passL (pa_cons (pv 1) pa_nil)))) (pss_one ps_never) pss_nil)
      (pss_one (ps_ret (pe_op (op_BR int_sub Rs cs hr) (pv 1) (pe_op (op_BF Bm cm (hr.mono (by decide))) (pv 0) (pe_call GW (hr.mono (by decide)) rfl T.gWq W.kp bW .nil (passes_call (takes_of rfl rfl rfl rfl) (fun _ _ _ _ h => h)) (pa_cons (pe_smeth (pe_glob (v := .ref A.C) (by rfl) T.mgC rfl) S.cr S.sm T.tC GO (hr.mono (by decide)) bO (E := E0) passL (pa_cons (pv 1) pa_nil)) (pa_cons (pv 0) pa_nil))))))), ?_⟩
    refine ⟨_, rfl, .int n, (n, 1), rfl, .int n, fun H1 e1 => ⟨_, rfl, iteF ?_⟩⟩
    refine ⟨_, rfl, _, rfl, rfl, _, rfl, .int n, (n, 1), rfl, .int n, fun r H2 e2 hf => ⟨_, rfl, r, (n, 1), a, p, rfl, hf, ha.ext (e1.trans e2), on.ok, op.ok, fun z => k0 z _ (e1.trans e2), fun z => ?_⟩⟩
    have e12 := e1.trans e2
    refine ⟨a, p, (fflo (n, 1) p, 1), rfl, ha.ext e12, .int _, op.ok, flo_bd on op z, fun r3 H3 e3 h3 => ?_⟩
    exact ⟨n, r3, _, rfl, rfl, h3, on.ok.b1, fmul_ok on op z, fun r H' e hf => k1 z r H' ((e12.trans e3).trans e) hf⟩
/-- a comparison's promise -/
def spC (A : Adr) (g : Int × Int → Int × Int → Bool) : Sp := fun vs H Q _ => ∃ a p y q, vs = [.ref a, y] ∧ FracAt A.C H a p ∧ Num A H y q ∧ Okf p ∧ Okf q ∧ ∀ H', Ext H H' → Q (.bl (g p q)) H'
def clt (p q : Int × Int) : Bool := decide (p.1 * q.2 < q.1 * p.2)
def cle (p q : Int × Int) : Bool := decide (p.1 * q.2 ≤ q.1 * p.2)
def cgt (p q : Int × Int) : Bool := decide (q.1 * p.2 < p.1 * q.2)
def cge (p q : Int × Int) : Bool := decide (q.1 * p.2 ≤ p.1 * q.2)
def ceq (p q : Int × Int) : Bool := decide (p = q)
theorem scLt : FnScope ["self", "other", "worth"] ["self", "other"] (defScope sLt) := ⟨rfl, rfl, rfl, by decide +kernel, rfl, by decide +kernel, by decide +kernel⟩
theorem ok_lt {f : Addr} {fd : FuncData} (F : Fun K "__lt__" "Frac.__lt__" sLt f fd) (T : FT K mg A) (S : StF K A) (O : Cal P w K mg base 3 A.of_ ["value"] (spOf A)) (N : Cal P w K mg base 1 A.isnum ["value"] (spIsNum A)) : FnOk P w K mg base (L2.CX P w) 4 f fd ["self", "other"] (spC A clt) := by
  refine F.okX scLt (fun vs H Q E h => ?_) (fun cdv AA outer s H vs Q E hr h => ?_)
  · obtain ⟨a, p, y, q, rfl, _⟩ := h
    rfl
  · obtain ⟨a, p, y, q, rfl, ha, hy, op, oq, k⟩ := h
    obtain ⟨fdN, GN, bN⟩ := N.ex
    obtain ⟨fdO, GO, bO⟩ := O.ex
    refine ⟨_, pss_cons (ps_if (pt_not (pt_val (pe_call GN (hr.mono (by decide)) rfl T.gIs N.kp bN .nil (E := E0) passL (pa_cons (pv 1) pa_nil)))) (pss_one ps_never) pss_nil)
      (pss_cons (ps_set (i := 2) scLt.nd rfl (Or.inl rfl) (pe_smeth (pe_glob (v := .ref A.C) (by rfl) T.mgC rfl) S.cr S.sm T.tC GO (hr.mono (by decide)) bO (E := E0) passL (pa_cons (pv 1) pa_nil)))
      (pss_one (ps_ret (pe_cmpR L2.op_lt (pe_op op_mulW (pe_fld (pv 0) rfl) (pe_fld (pv 2) rfl)) (pe_op op_mulW (pe_fld (pv 2) rfl) (pe_fld (pv 0) rfl)) (nomark _))))), ?_⟩
    refine ⟨_, rfl, y, q, rfl, hy, fun H1 e1 => ⟨_, rfl, iteF ?_⟩⟩
    refine ⟨rfl, _, rfl, y, q, rfl, hy.ext e1, fun r H2 e2 hf => ?_⟩
    obtain ⟨dx, hA⟩ := ha.ext (e1.trans e2)
    obtain ⟨dy, hB⟩ := hf
    exact ⟨_, rfl, _, _, _, _, _, rfl, hA, T.cl, T.nN, fr_num _, _, rfl, _, _, _, _, _, rfl, hB, T.cl, T.nD, fr_den _, _, _, rfl, rfl, (op.b1.cm oq.b2), _, rfl, _, _, _, _, _, rfl, hB, T.cl, T.nN, fr_num _, _, rfl, _, _, _, _, _, rfl, hA, T.cl, T.nD, fr_den _, _, _, rfl, rfl, (oq.b1.cm op.b2), _, _, rfl, rfl, k _ (e1.trans e2)⟩
theorem scLe : FnScope ["self", "other", "worth"] ["self", "other"] (defScope sLe) := ⟨rfl, rfl, rfl, by decide +kernel, rfl, by decide +kernel, by decide +kernel⟩
theorem ok_le {f : Addr} {fd : FuncData} (F : Fun K "__le__" "Frac.__le__" sLe f fd) (T : FT K mg A) (S : StF K A) (O : Cal P w K mg base 3 A.of_ ["value"] (spOf A)) (N : Cal P w K mg base 1 A.isnum ["value"] (spIsNum A)) : FnOk P w K mg base (L2.CX P w) 4 f fd ["self", "other"] (spC A cle) := by
  refine F.okX scLe (fun vs H Q E h => ?_) (fun cdv AA outer s H vs Q E hr h => ?_)
  · obtain ⟨a, p, y, q, rfl, _⟩ := h
    rfl
  · obtain ⟨a, p, y, q, rfl, ha, hy, op, oq, k⟩ := h
    obtain ⟨fdN, GN, bN⟩ := N.ex
    obtain ⟨fdO, GO, bO⟩ := O.ex
    refine ⟨_, pss_cons (ps_if (pt_not (pt_val (pe_call GN (hr.mono (by decide)) rfl T.gIs N.kp bN .nil (E := E0) passL (pa_cons (pv 1) pa_nil)))) (pss_one ps_never) pss_nil)
      (pss_cons (ps_set (i := 2) scLe.nd rfl (Or.inl rfl) (pe_smeth (pe_glob (v := .ref A.C) (by rfl) T.mgC rfl) S.cr S.sm T.tC GO (hr.mono (by decide)) bO (E := E0) passL (pa_cons (pv 1) pa_nil)))
      (pss_one (ps_ret (pe_cmpR L2.op_le (pe_op op_mulW (pe_fld (pv 0) rfl) (pe_fld (pv 2) rfl)) (pe_op op_mulW (pe_fld (pv 2) rfl) (pe_fld (pv 0) rfl)) (nomark _))))), ?_⟩
    refine ⟨_, rfl, y, q, rfl, hy, fun H1 e1 => ⟨_, rfl, iteF ?_⟩⟩
    refine ⟨rfl, _, rfl, y, q, rfl, hy.ext e1, fun r H2 e2 hf => ?_⟩
    obtain ⟨dx, hA⟩ := ha.ext (e1.trans e2)
    obtain ⟨dy, hB⟩ := hf
    exact ⟨_, rfl, _, _, _, _, _, rfl, hA, T.cl, T.nN, fr_num _, _, rfl, _, _, _, _, _, rfl, hB, T.cl, T.nD, fr_den _, _, _, rfl, rfl, (op.b1.cm oq.b2), _, rfl, _, _, _, _, _, rfl, hB, T.cl, T.nN, fr_num _, _, rfl, _, _, _, _, _, rfl, hA, T.cl, T.nD, fr_den _, _, _, rfl, rfl, (oq.b1.cm op.b2), _, _, rfl, rfl, k _ (e1.trans e2)⟩
theorem scGt : FnScope ["self", "other", "worth"] ["self", "other"] (defScope sGt) := ⟨rfl, rfl, rfl, by decide +kernel, rfl, by decide +kernel, by decide +kernel⟩
theorem ok_gt {f : Addr} {fd : FuncData} (F : Fun K "__gt__" "Frac.__gt__" sGt f fd) (T : FT K mg A) (S : StF K A) (O : Cal P w K mg base 3 A.of_ ["value"] (spOf A)) (N : Cal P w K mg base 1 A.isnum ["value"] (spIsNum A)) : FnOk P w K mg base (L2.CX P w) 4 f fd ["self", "other"] (spC A cgt) := by
  refine F.okX scGt (fun vs H Q E h => ?_) (fun cdv AA outer s H vs Q E hr h => ?_)
  · obtain ⟨a, p, y, q, rfl, _⟩ := h
    rfl
  · obtain ⟨a, p, y, q, rfl, ha, hy, op, oq, k⟩ := h
    obtain ⟨fdN, GN, bN⟩ := N.ex
    obtain ⟨fdO, GO, bO⟩ := O.ex
    refine ⟨_, pss_cons (ps_if (pt_not (pt_val (pe_call GN (hr.mono (by decide)) rfl T.gIs N.kp bN .nil (E := E0) passL (pa_cons (pv 1) pa_nil)))) (pss_one ps_never) pss_nil)
      (pss_cons (ps_set (i := 2) scGt.nd rfl (Or.inl rfl) (pe_smeth (pe_glob (v := .ref A.C) (by rfl) T.mgC rfl) S.cr S.sm T.tC GO (hr.mono (by decide)) bO (E := E0) passL (pa_cons (pv 1) pa_nil)))
      (pss_one (ps_ret (pe_cmpR L2.op_gt (pe_op op_mulW (pe_fld (pv 0) rfl) (pe_fld (pv 2) rfl)) (pe_op op_mulW (pe_fld (pv 2) rfl) (pe_fld (pv 0) rfl)) (nomark _))))), ?_⟩
    refine ⟨_, rfl, y, q, rfl, hy, fun H1 e1 => ⟨_, rfl, iteF ?_⟩⟩
    refine ⟨rfl, _, rfl, y, q, rfl, hy.ext e1, fun r H2 e2 hf => ?_⟩
    obtain ⟨dx, hA⟩ := ha.ext (e1.trans e2)
    obtain ⟨dy, hB⟩ := hf
    exact ⟨_, rfl, _, _, _, _, _, rfl, hA, T.cl, T.nN, fr_num _, _, rfl, _, _, _, _, _, rfl, hB, T.cl, T.nD, fr_den _, _, _, rfl, rfl, (op.b1.cm oq.b2), _, rfl, _, _, _, _, _, rfl, hB, T.cl, T.nN, fr_num _, _, rfl, _, _, _, _, _, rfl, hA, T.cl, T.nD, fr_den _, _, _, rfl, rfl, (oq.b1.cm op.b2), _, _, rfl, rfl, k _ (e1.trans e2)⟩
theorem scGe : FnScope ["self", "other", "worth"] ["self", "other"] (defScope sGe) := ⟨rfl, rfl, rfl, by decide +kernel, rfl, by decide +kernel, by decide +kernel⟩
theorem ok_ge {f : Addr} {fd : FuncData} (F : Fun K "__ge__" "Frac.__ge__" sGe f fd) (T : FT K mg A) (S : StF K A) (O : Cal P w K mg base 3 A.of_ ["value"] (spOf A)) (N : Cal P w K mg base 1 A.isnum ["value"] (spIsNum A)) : FnOk P w K mg base (L2.CX P w) 4 f fd ["self", "other"] (spC A cge) := by
  refine F.okX scGe (fun vs H Q E h => ?_) (fun cdv AA outer s H vs Q E hr h => ?_)
  · obtain ⟨a, p, y, q, rfl, _⟩ := h
    rfl
  · obtain ⟨a, p, y, q, rfl, ha, hy, op, oq, k⟩ := h
    obtain ⟨fdN, GN, bN⟩ := N.ex
    obtain ⟨fdO, GO, bO⟩ := O.ex
    refine ⟨_, pss_cons (ps_if (pt_not (pt_val (pe_call GN (hr.mono (by decide)) rfl T.gIs N.kp bN .nil (E := E0) passL (pa_cons (pv 1) pa_nil)))) (pss_one ps_never) pss_nil)
      (pss_cons (ps_set (i := 2) scGe.nd rfl (Or.inl rfl) (pe_smeth (pe_glob (v := .ref A.C) (by rfl) T.mgC rfl) S.cr S.sm T.tC GO (hr.mono (by decide)) bO (E := E0) passL (pa_cons (pv 1) pa_nil)))
      (pss_one (ps_ret (pe_cmpR L2.op_ge (pe_op op_mulW (pe_fld (pv 0) rfl) (pe_fld (pv 2) rfl)) (pe_op op_mulW (pe_fld (pv 2) rfl) (pe_fld (pv 0) rfl)) (nomark _))))), ?_⟩
    refine ⟨_, rfl, y, q, rfl, hy, fun H1 e1 => ⟨_, rfl, iteF ?_⟩⟩
    refine ⟨rfl, _, rfl, y, q, rfl, hy.ext e1, fun r H2 e2 hf => ?_⟩
    obtain ⟨dx, hA⟩ := ha.ext (e1.trans e2)
    obtain ⟨dy, hB⟩ := hf
    exact ⟨_, rfl, _, _, _, _, _, rfl, hA, T.cl, T.nN, fr_num _, _, rfl, _, _, _, _, _, rfl, hB, T.cl, T.nD, fr_den _, _, _, rfl, rfl, (op.b1.cm oq.b2), _, rfl, _, _, _, _, _, rfl, hB, T.cl, T.nN, fr_num _, _, rfl, _, _, _, _, _, rfl, hA, T.cl, T.nD, fr_den _, _, _, rfl, rfl, (oq.b1.cm op.b2), _, _, rfl, rfl, k _ (e1.trans e2)⟩
theorem scEq : FnScope ["self", "other"] ["self", "other"] (defScope sEq) := ⟨rfl, rfl, rfl, by decide +kernel, rfl, by decide +kernel, by decide +kernel⟩
theorem ok_eq {f : Addr} {fd : FuncData} (F : Fun K "__eq__" "Frac.__eq__" sEq f fd) (T : FT K mg A) : FnOk P w K mg base (L2.CX P w) 1 f fd ["self", "other"] (spC A ceq) := by
  refine F.okX scEq (fun vs H Q E h => ?_) (fun cdv AA outer s H vs Q E hr h => ?_)
  · obtain ⟨a, p, y, q, rfl, _⟩ := h
    rfl
  · obtain ⟨a, p, y, q, rfl, ha, hy, op, oq, k⟩ := h
    refine ⟨_, pss_cons (ps_if (pt_val (pe_callB call_isi (by rfl) T.isi boot_isi (pa_cons (pv 1) (pa_cons (pe_bltn (v := .ty "int") (by rfl) T.int0 boot_int rfl) pa_nil)))) (pss_one (ps_ret (pe_and (pe_cmpR L2.op_eq (pe_fld (pv 0) rfl) pe_int (nomark _)) (pe_one (pe_cmpR L2.op_eq (pe_fld (pv 0) rfl) (pv 1) (nomark _)))))) pss_nil)
      (pss_cons (ps_if (pt_not (pt_val (pe_callB call_isi (by rfl) T.isi boot_isi (pa_cons (pv 1) (pa_cons (pe_glob (v := .ref A.C) (by rfl) T.mgC rfl) pa_nil))))) (pss_one ps_never) pss_nil)
      (pss_one (ps_ret (pe_and (pe_cmpR L2.op_eq (pe_fld (pv 0) rfl) (pe_fld (pv 1) rfl) (nomark _)) (pe_one (pe_cmpR L2.op_eq (pe_fld (pv 0) rfl) (pe_fld (pv 1) rfl) (nomark _))))))), ?_⟩
    have kk := k H Ext.rfl'
    obtain ⟨dx, hA⟩ := ha
    rcases hy with ⟨b, rfl, hf⟩ | ⟨rfl, h1⟩
    · obtain ⟨dy, hB⟩ := id hf
      refine ⟨_, rfl, _, _, _, _, false, rfl, .ty "int", T.tyF hf, T.kit_CI, _, rfl, iteF ?_⟩
      refine ⟨_, rfl, _, _, _, _, true, rfl, .own A.C, T.tyF hf, kit_CC, _, rfl, iteF ?_⟩
      refine ⟨_, rfl, _, _, _, _, _, rfl, hA, T.cl, T.nN, fr_num _, _, rfl, _, _, _, _, _, rfl, hB, T.cl, T.nN, fr_num _, rfl, _, rfl, ?_⟩
      by_cases h2 : p.1 = q.1
      · rw [decide_eq_true (by rw [h2])]
        refine iteT ⟨_, rfl, _, _, _, _, _, rfl, hA, T.cl, T.nD, fr_den _, _, rfl, _, _, _, _, _, rfl, hB, T.cl, T.nD, fr_den _, rfl, ?_⟩
        have e : ceq p q = decide (V.int p.2 = V.int q.2) := by
          unfold ceq
          rw [Bool.eq_iff_iff]
          simp only [decide_eq_true_eq, V.int.injEq, Prod.ext_iff]
          exact ⟨fun z => z.2, fun z => ⟨h2, z⟩⟩
        rw [e] at kk
        exact kk
      · rw [decide_eq_false (by intro z; injection z with z; exact h2 z)]
        have e : ceq p q = false := decide_eq_false (by intro z; exact h2 (by rw [z]))
        rw [e] at kk
        exact iteF kk
    · refine ⟨_, rfl, _, _, _, _, true, rfl, .ty "int", tyI _, kit_II, _, rfl, iteT ?_⟩
      refine ⟨_, rfl, _, _, _, _, _, rfl, hA, T.cl, T.nD, fr_den _, rfl, _, rfl, ?_⟩
      by_cases h2 : p.2 = 1
      · rw [decide_eq_true (by rw [h2])]
        refine iteT ⟨_, rfl, _, _, _, _, _, rfl, hA, T.cl, T.nN, fr_num _, _, rfl, rfl, ?_⟩
        have e : ceq p q = decide (V.int p.1 = V.int q.1) := by
          unfold ceq
          rw [Bool.eq_iff_iff]
          simp only [decide_eq_true_eq, V.int.injEq, Prod.ext_iff]
          exact ⟨fun z => z.1, fun z => ⟨z, by rw [h1, h2]⟩⟩
        rw [e] at kk
        exact kk
      · rw [decide_eq_false (by intro z; injection z with z; exact h2 z)]
        have e : ceq p q = false := decide_eq_false (by intro z; exact h2 (by rw [z, h1]))
        rw [e] at kk
        exact iteF kk
theorem scBool : FnScope ["self"] ["self"] (defScope sBool) := ⟨rfl, rfl, rfl, by decide +kernel, rfl, by decide +kernel, by decide +kernel⟩
def spBool (A : Adr) : Sp := fun vs H Q _ => ∃ a p, vs = [.ref a] ∧ FracAt A.C H a p ∧ Q (.bl (decide (p.1 ≠ 0))) H
theorem boot_bool : bootBuiltins "bool" = some (.type "bool") := by decide +kernel
theorem ok_bool {f : Addr} {fd : FuncData} (F : Fun K "__bool__" "Frac.__bool__" sBool f fd) (T : FT K mg A) (bo : mg "bool" = none) : FnOk P w K mg base (L2.CX P w) 1 f fd ["self"] (spBool A) := by
  refine F.okX scBool (fun vs H Q E h => ?_) (fun cdv AA outer s H vs Q E hr h => ?_)
  · obtain ⟨a, p, rfl, _⟩ := h
    rfl
  · obtain ⟨a, p, rfl, ⟨dx, hA⟩, k⟩ := h
    refine ⟨_, pss_one (ps_ret (pe_callTy call_bool1 (by rfl) bo boot_bool (pa_cons (pe_cmpR L2.op_ne (pe_fld (pv 0) rfl) pe_int (nomark _)) pa_nil))), ?_⟩
    refine ⟨_, rfl, _, _, _, _, _, rfl, hA, T.cl, T.nN, fr_num _, rfl, .inr ⟨_, rfl, ?_⟩⟩
    have e : decide (p.1 ≠ 0) = !decide (V.int p.1 = V.int 0) := by
      rw [Bool.eq_iff_iff]
      simp
    rw [e] at k
    exact k
theorem scOver : FnScope ["self", "b", "worth"] ["self", "b"] (defScope sOver) := ⟨rfl, rfl, rfl, by decide +kernel, rfl, by decide +kernel, by decide +kernel⟩
/-- over: the quotient, or DivisionByZero -/
def spOver (A : Adr) : Sp := fun vs H Q E => ∃ a p y q, vs = [.ref a, y] ∧ FracAt A.C H a p ∧ Num A H y q ∧ Okf p ∧ Okf q ∧ (q.1 = 0 → ∀ H', Ext H H' → E (.ref A.Z) none H') ∧ (q.1 ≠ 0 → ∀ r H', Ext H H' → FracAt A.C H' r (fover p q) → Q (.ref r) H')
theorem made_ext2 {H : Hp} {x dx : Addr} {o1 o2 : HO} (hx : H x = none) (hdx : H dx = none) : Ext H (upd (upd H dx o1) x o2) := fun a u e => by
  rw [upd_ne (ne_of_none e hx), upd_ne (ne_of_none e hdx)]
  exact e
theorem ok_over {f : Addr} {fd : FuncData} (F : Fun K "over" "Frac.over" sOver f fd) (T : FT K mg A) (S : StF K A) (O : Cal P w K mg base 3 A.of_ ["value"] (spOf A)) (M : MkF P w K mg base A) : FnOk P w K mg base (L2.CX P w) 4 f fd ["self", "b"] (spOver A) := by
  refine F.okX scOver (fun vs H Q E h => ?_) (fun cdv AA outer s H vs Q E hr h => ?_)
  · obtain ⟨a, p, y, q, rfl, _⟩ := h
    rfl
  · obtain ⟨a, p, y, q, rfl, ha, hy, op, oq, k0, k1⟩ := h
    obtain ⟨fdO, GO, bO⟩ := O.ex
    obtain ⟨fdM, GM, bM, _⟩ := M.ex
    refine ⟨_, pss_cons (ps_set (i := 2) scOver.nd rfl (Or.inl rfl) (pe_smeth (pe_glob (v := .ref A.C) (by rfl) T.mgC rfl) S.cr S.sm T.tC GO (hr.mono (by decide)) bO (E := E0) passL (pa_cons (pv 1) pa_nil)))
      (pss_one (ps_ret (pe_make M.mkc GM (hr.mono (by decide)) rfl T.mgC bM .nil (passes_call (takes_of rfl rfl rfl rfl) (fun _ _ _ _ h => h)) (pa_cons (pe_op op_mulW (pe_fld (pv 0) rfl) (pe_fld (pv 2) rfl)) (pa_cons (pe_op op_mulW (pe_fld (pv 0) rfl) (pe_fld (pv 2) rfl)) pa_nil))))), ?_⟩
    refine ⟨rfl, _, rfl, y, q, rfl, hy, fun r H2 e2 hf => ?_⟩
    obtain ⟨dx, hA⟩ := ha.ext e2
    obtain ⟨dy, hB⟩ := hf
    refine ⟨_, rfl, _, _, _, _, _, rfl, hA, T.cl, T.nN, fr_num _, _, rfl, _, _, _, _, _, rfl, hB, T.cl, T.nD, fr_den _, _, _, rfl, rfl, (op.b1.cm oq.b2), _, rfl, _, _, _, _, _, rfl, hA, T.cl, T.nD, fr_den _, _, rfl, _, _, _, _, _, rfl, hB, T.cl, T.nN, fr_num _, _, _, rfl, rfl, (op.b2.cm oq.b1), fun x dx' nx ndx nex => ?_⟩
    refine ⟨x, dx', _, _, rfl, upd_same, op.b2.mul oq.b1, fun z => ?_, fun z => ⟨rfl, ?_⟩⟩
    · refine k0 ?_ _ (e2.trans (made_ext2 nx ndx))
      rcases Int.mul_eq_zero.mp z with z | z
      · exact absurd z op.ne
      · exact z
    · exact k1 (fun z' => z (by rw [z', Int.mul_zero])) x _ (e2.trans (made_ext nx ndx)) ⟨dx', upd_same⟩
theorem scStr : FnScope ["self"] ["self"] (defScope sStr) := ⟨rfl, rfl, rfl, by decide +kernel, rfl, by decide +kernel, by decide +kernel⟩
/-- an int's text -/
def wi (i : Int) : Str := toString i
/-- the written form -/
def wr (p : Int × Int) : Str := if p.2 = 1 then wi p.1 else Str.empty ++ wi p.1 ++ "/" ++ wi p.2
def spStr (A : Adr) : Sp := fun vs H Q _ => ∃ a p, vs = [.ref a] ∧ FracAt A.C H a p ∧ Oks p ∧ Q (.str (wr p)) H
theorem boot_str : bootBuiltins "str" = some (.type "str") := by decide +kernel
theorem wi_len {i : Int} (h : i.natAbs < 2 ^ 900) : (wi i).length ≤ 1921 := int_text_len_1921 (Nat.lt_of_lt_of_le (log2_lt h (by decide)) (by decide))
theorem app_len (x y : Str) : (x ++ y).length = x.length + y.length := by first | exact Str.length_append x y | simp
theorem ok_str {f : Addr} {fd : FuncData} (F : Fun K "__str__" "Frac.__str__" sStr f fd) (T : FT K mg A) (st : mg "str" = none) : FnOk P w K mg base (L2.CX P w) 1 f fd ["self"] (spStr A) := by
  refine F.okX scStr (fun vs H Q E h => ?_) (fun cdv AA outer s H vs Q E hr h => ?_)
  · obtain ⟨a, p, rfl, _⟩ := h
    rfl
  · obtain ⟨a, p, rfl, ⟨dx, hA⟩, op, k⟩ := h
    refine ⟨_, pss_cons (ps_if (pt_cmpR L2.op_eq (pe_fld (pv 0) rfl) pe_int (nomark _)) (pss_one (ps_ret (pe_callTy call_str_int (by rfl) st boot_str (pa_cons (pe_fld (pv 0) rfl) pa_nil)))) pss_nil)
      (pss_one (ps_ret (pe_joined (.cons (pe_fmt (pe_fld (pv 0) rfl)) (.cons pe_str (.cons (pe_fmt (pe_fld (pv 0) rfl)) .nil)))))), ?_⟩
    have l1 : p.1.natAbs.log2 < 1920 := Nat.lt_of_lt_of_le (log2_lt op.b1 (by decide)) (by decide)
    have l2 : p.2.natAbs.log2 < 1920 := Nat.lt_of_lt_of_le (log2_lt op.b2 (by decide)) (by decide)
    refine ⟨_, rfl, _, _, _, _, _, rfl, hA, T.cl, T.nD, fr_den _, rfl, _, rfl, ?_⟩
    unfold wr at k
    by_cases h : p.2 = 1
    · rw [if_pos h] at k
      rw [decide_eq_true (by rw [h])]
      exact iteT ⟨_, rfl, _, _, _, _, _, rfl, hA, T.cl, T.nN, fr_num _, _, rfl, l1, k⟩
    · rw [if_neg h] at k
      rw [decide_eq_false (by intro z; injection z with z; exact h z)]
      have s1 := wi_len op.b1
      have s2 := wi_len op.b2
      have s0 : (Str.empty).length = 0 := rfl
      have s3 : ("/" : Str).length = 1 := rfl
      refine iteF ⟨_, rfl, _, _, _, _, _, rfl, hA, T.cl, T.nN, fr_num _, .inr ⟨_, rfl, l1, _, rfl, ?_, _, rfl, ?_, _, rfl, _, _, _, _, _, rfl, hA, T.cl, T.nD, fr_den _, .inr ⟨_, rfl, l2, _, rfl, ?_, k⟩⟩⟩
      all_goals
        rw [sizeLine_eq]
        simp only [app_len, s0, s3]
        show _ + _ ≤ _
        unfold wi at s1 s2
        omega
end
end Fx

set_option Elab.async false
set_option linter.all false
set_option maxRecDepth 100000
set_option maxHeartbeats 4000000
set_option exponentiation.threshold 20000
namespace Fx
open PySem PySem.Spec PyProof.Rows L2 FM
abbrev sPow : Stmt := inClass (top 9) 12
abbrev sPool : Stmt := top 14
abbrev sPick : Stmt := top 15
abbrev sSize : Stmt := top 16
abbrev sTop : Stmt := top 17
abbrev sLow : Stmt := top 18
abbrev sSum : Stmt := top 19
abbrev sTimes : Stmt := top 20
abbrev sPower : Stmt := top 21
abbrev sInt : Stmt := top 22
abbrev sIs : Stmt := top 23
section
variable {P : Program} {w : World} {K : PySem.W.Frag} {mg : Str → Option Value} {base : Heap} {A : Adr}
theorem pow_bd {x : Int} {b j : Nat} (h : x.natAbs < 2 ^ b) (hj : b * j < 4000) : Bd (x ^ j) := by
  unfold Bd
  rw [Int.natAbs_pow]
  refine Nat.lt_of_le_of_lt (Nat.pow_le_pow_left (Nat.le_of_lt h) j) ?_
  rw [← Nat.pow_mul]
  exact Nat.pow_lt_pow_right (by decide) hj
theorem scPow : FnScope ["self", "other", "num", "den", "_"] ["self", "other"] (defScope sPow) := ⟨rfl, rfl, rfl, by decide +kernel, rfl, by decide +kernel, by decide +kernel⟩
/-- a power -/
def spPow (A : Adr) : Sp := fun vs H Q _ => ∃ a p k b, vs = [.ref a, .int k] ∧ FracAt A.C H a p ∧ Low p ∧ 0 ≤ k ∧ k ≤ 64 ∧ p.1.natAbs < 2 ^ b ∧ p.2.natAbs < 2 ^ b ∧ b < 4000 ∧ b * k.toNat < 4000 ∧ ∀ r H', Ext H H' → FracAt A.C H' r (p.1 ^ k.toNat, p.2 ^ k.toNat) → Q (.ref r) H'
theorem ok_pow {f : Addr} {fd : FuncData} (F : Fun K "__pow__" "Frac.__pow__" sPow f fd) (T : FT K mg A) (M : MkF P w K mg base A) (ra : mg "range" = none) (mp : ∃ t, mg "MOST_POWER" = some (.int 64 t)) : FnOk P w K mg base (L2.CX P w) 3 f fd ["self", "other"] (spPow A) := by
  obtain ⟨tk, mp⟩ := mp
  refine F.okX scPow (fun vs H Q E h => ?_) (fun cdv AA outer s H vs Q E hr h => ?_)
  · obtain ⟨a, p, k, b, rfl, _⟩ := h
    rfl
  · obtain ⟨a, p, k, b, rfl, ⟨dx, hA⟩, lo, k0, k1, b1, b2, b3, b4, kk⟩ := h
    refine ⟨_, pss_cons (ps_if (pt_not (pt_chain L2.op_le L2.op_le pe_int (pv 1) (pe_glob (v := .int 64) (by rfl) mp ⟨_, rfl⟩))) (pss_one ps_never) pss_nil)
      (pss_cons (ps_asg2 pe_int (pg_name (i := 2) scPow.nd rfl (Or.inl rfl)) (pg_name (i := 3) scPow.nd rfl (Or.inl rfl)))
      (pss_cons (ps_for (passes_of rfl) rfl (pi_range1 rfl ra (pa_cons (pv 1) pa_nil)) (pg_name (i := 4) scPow.nd rfl (Or.inl rfl))
        (pss_cons (ps_set (i := 2) scPow.nd rfl (Or.inl rfl) (pe_op op_mulW (pv 2) (pe_fld (pv 0) rfl)))
        (pss_one (ps_set (i := 3) scPow.nd rfl (Or.inl rfl) (pe_op op_mulW (pv 3) (pe_fld (pv 0) rfl))))))
      (pss_one (ps_ret (pe_frac2 M T hr rfl (pa_cons (pv 2) (pa_cons (pv 3) pa_nil))))))), ?_⟩
    refine ⟨_, rfl, _, _, rfl, rfl, _, rfl, ?_⟩
    rw [decide_eq_true k0]
    refine iteT ⟨_, _, rfl, rfl, _, rfl, ?_⟩
    rw [decide_eq_true k1]
    refine iteF ?_
    refine ⟨_, rfl, k, rfl, by omega, by omega, for_range (lo := 0) (n := k.toNat) (fun i σ H2 => H2 = H ∧ ∃ v, σ = [some (.ref a), some (.int k), some (.int (p.1 ^ i)), some (.int (p.2 ^ i)), v]) ⟨rfl, none, by simp [Int.pow_zero]; rfl⟩ ?_ ?_⟩
    · rintro i σ H2 hi ⟨rfl, v, rfl⟩
      have bi : b * i < 4000 := Nat.lt_of_le_of_lt (Nat.mul_le_mul_left b (Nat.le_of_lt hi)) b4
      have c1 := (pow_bd b1 bi).cm (show Bd p.1 from Nat.lt_of_lt_of_le b1 (Nat.pow_le_pow_right (by decide) (Nat.le_of_lt b3)))
      have c2 := (pow_bd b2 bi).cm (show Bd p.2 from Nat.lt_of_lt_of_le b2 (Nat.pow_le_pow_right (by decide) (Nat.le_of_lt b3)))
      refine ⟨_, rfl, _, rfl, _, _, _, _, _, rfl, hA, T.cl, T.nN, fr_num _, _, _, rfl, rfl, c1, _, rfl, _, rfl, _, _, _, _, _, rfl, hA, T.cl, T.nD, fr_den _, _, _, rfl, rfl, c2, rfl, some (.int (0 + i)), ?_⟩
      rw [Int.pow_succ, Int.pow_succ]
      rfl
    · rintro σ H2 ⟨rfl, v, rfl⟩
      have dn : p.2 ^ k.toNat ≠ 0 := by
        have h9 : 0 < p.2 ^ k.toNat := Int.pow_pos lo.pos
        omega
      refine ⟨_, rfl, _, rfl, _, _, rfl, dn, (pow_bd b2 b4).bi, fun r H' e hf => kk r H' e ?_⟩
      have e2 := low_self (low_pow lo k.toNat)
      dsimp only at e2
      rw [e2] at hf
      exact hf
/-! ### the pool of draws -/
/-- a pool: its list of numbers, how many are taken, what is left of the last one, how many draws it gave -/
def PoolAt (H : Hp) (r : Addr) : Prop := ∃ (c : Addr) (cs : List Int) (i : Nat) (cur m : Int), H r = some (.lst [.ref c, .int i, .int cur, .int m]) ∧ H c = some (.lst (cs.map V.int)) ∧ cs.length ≤ 1000 ∧ (∀ x ∈ cs, 0 ≤ x) ∧ i ≤ cs.length ∧ 0 ≤ cur ∧ c ≠ r
/-- all but the pool stands -/
def Kp (r : Addr) (H H' : Hp) : Prop := ∀ b o, H b = some o → b ≠ r → H' b = some o
theorem Kp.refl {r : Addr} {H : Hp} : Kp r H H := fun _ _ h _ => h
theorem Kp.trans {r : Addr} {H H1 H2 : Hp} (a : Kp r H H1) (b : Kp r H1 H2) : Kp r H H2 := fun c o h n => b c o (a c o h n) n
theorem Kp.upd {r : Addr} {H H1 : Hp} {o : HO} (a : Kp r H H1) : Kp r H (upd H1 r o) := fun c u h n => by rw [upd_ne n]; exact a c u h n
theorem Kp.ext {r : Addr} {H H1 H2 : Hp} (a : Kp r H H1) (b : Ext H1 H2) : Kp r H H2 := fun c o h n => b c o (a c o h n)
theorem Kp.new {r p : Addr} {H H1 : Hp} {o : HO} (a : Kp r H H1) (hp : H1 p = none) : Kp r H (L2.upd H1 p o) := a.ext (ext1 hp)
theorem Kp.of {r : Addr} {H H1 : Hp} (e : Ext H H1) : Kp r H H1 := fun c o h _ => e c o h
theorem PoolAt.ext {H H' : Hp} {r : Addr} (h : PoolAt H r) (e : Ext H H') : PoolAt H' r := let ⟨c, cs, i, cur, m, h1, h2, h3⟩ := h; ⟨c, cs, i, cur, m, e _ _ h1, e _ _ h2, h3⟩
theorem boot_len' : bootBuiltins "len" = some (.builtin "len") := by decide +kernel
theorem scPool : FnScope ["script", "cells", "x"] ["script"] (defScope sPool) := ⟨rfl, rfl, rfl, by decide +kernel, rfl, by decide +kernel, by decide +kernel⟩
def spPool (K : PySem.W.Frag) : Sp := fun vs H Q _ => ∃ (a : Addr) (ns : List Int), vs = [.ref a] ∧ SqL K H a (ns.map V.int) ∧ ns.length ≤ 63 ∧ ∀ r H', Ext H H' → H r = none → PoolAt H' r → Q (.ref r) H'
theorem ok_pool {f : Addr} {fd : FuncData} (F : Fun K "_law_pool" "_law_pool" sPool f fd) (ab : mg "abs" = none) (it : mg "int" = none) : FnOk P w K mg base (L2.CX P w) 1 f fd ["script"] (spPool K) := by
  refine F.okX scPool (fun vs H Q E h => ?_) (fun cdv AA outer s H vs Q E hr h => ?_)
  · obtain ⟨a, ns, rfl, _⟩ := h
    rfl
  · obtain ⟨a, ns, rfl, hS, hl, k⟩ := h
    refine ⟨_, pss_cons (ps_set (i := 1) scPool.nd rfl (Or.inl rfl) (pe_lst pa_nil))
      (pss_cons (ps_for (passes_of rfl) rfl (pi_list (pe_slice sl_list (pv 0) po_none (po_some pe_int))) (pg_name (i := 2) scPool.nd rfl (Or.inl rfl))
        (pss_cons (ps_expr (pe_bm PySem.F.plainAttrs_list PySem.F.slot_list_append PySem.F.type_list_append mt_append (pv 1) (pa_cons (pe_callB L2.call_abs (by rfl) ab boot_abs' (pa_cons (pe_callTy call_int1 (by rfl) it boot_int (pa_cons (pv 2) pa_nil)) pa_nil)) pa_nil)))
        (pss_one (ps_if (pt_cmpR L2.op_lt (pv 2) pe_int (nomark _)) (pss_one (ps_expr (pe_bm PySem.F.plainAttrs_list PySem.F.slot_list_append PySem.F.type_list_append mt_append (pv 1) (pa_cons pe_int pa_nil)))) pss_nil))))
      (pss_one (ps_ret (pe_lst (pa_cons (pv 1) (pa_cons pe_int (pa_cons pe_int (pa_cons pe_int pa_nil)))))))), ?_⟩
    refine ⟨(by decide), fun c nc => ⟨_, rfl, 63, rfl, a, _, rfl, hS.ext (ext1 nc), fun b nb => ?_⟩⟩
    have e1 : Ext H (upd (upd H c (.lst [])) b (.lst (cutV (ns.map V.int) none (some 63)))) := (ext1 nc).upd' nb
    have cb : c ≠ b := ne_of_none upd_same nb
    have hb : (upd (upd H c (.lst [])) b (.lst (cutV (ns.map V.int) none (some 63)))) b = some (.lst (cutV (ns.map V.int) none (some 63))) := upd_same
    have ncl : (cutV (ns.map V.int) none (some 63)).length ≤ 63 := by
      have := cutV_length (ns.map V.int) none (some 63)
      rw [List.length_map] at this
      omega
    have hint : ∀ (i : Nat) (y : V), (cutV (ns.map V.int) none (some 63))[i]? = some y → ∃ z, y = V.int z := fun i y e => by
      have m := List.mem_of_getElem? e
      unfold cutV at m
      have m2 := List.mem_of_mem_drop (List.mem_of_mem_take m)
      obtain ⟨z, _, rfl⟩ := List.mem_map.mp m2
      exact ⟨z, rfl⟩
    refine ⟨b, rfl, ⟨_, SqL.of hb⟩, for_list (K := K) (a := b) (xs := cutV (ns.map V.int) none (some 63)) (fun i σ H2 => ∃ (cs : List Int) (v : Option V), σ = [some (.ref a), some (.ref c), v] ∧ H2 c = some (.lst (cs.map V.int)) ∧ cs.length ≤ 2 * i ∧ (∀ x ∈ cs, 0 ≤ x) ∧ H2 b = some (.lst (cutV (ns.map V.int) none (some 63))) ∧ Ext H H2)
      ⟨[], none, rfl, by rw [upd_ne cb, upd_same]; rfl, Nat.zero_le _, by simp, hb, e1⟩ (fun i σ H2 _ ⟨_, _, _, _, _, _, h2, _⟩ => SqL.of h2) ?_ ?_⟩
    · rintro i y σ H2 hi ⟨cs, v, rfl, hc, hcl, hpos, hbb, e2⟩
      obtain ⟨z, rfl⟩ := hint i y hi
      have hil : i < 63 := Nat.lt_of_lt_of_le (List.getElem?_eq_some_iff.mp hi).1 ncl
      have extc : ∀ o, Ext H (upd H2 c o) := fun o q u e => by
        rw [upd_ne (ne_of_none e nc)]
        exact e2 _ _ e
      refine ⟨_, rfl, .inl ⟨rfl, _, SqL.of hc⟩, _, rfl, .inl ⟨_, rfl, _, rfl, c, _, _, rfl, rfl, hc, ?_, ?_⟩⟩
      · rw [List.length_map]
        exact small1000 (by omega)
      · have e5 : (if z < 0 then -z else z) = (z.natAbs : Int) := by split <;> omega
        have e6 : cs.map V.int ++ [V.int (if z < 0 then -z else z)] = (cs ++ [(z.natAbs : Int)]).map V.int := by rw [e5, List.map_append]; rfl
        rw [e6]
        have p1 : ∀ x ∈ cs ++ [(z.natAbs : Int)], 0 ≤ x := by
          intro x hx
          rcases List.mem_append.mp hx with h | h
          · exact hpos x h
          · rw [List.mem_singleton.mp h]
            omega
        refine ⟨_, rfl, _, _, rfl, rfl, _, rfl, ?_⟩
        by_cases hz : z < 0
        · rw [decide_eq_true hz]
          refine iteT ⟨_, rfl, .inl ⟨rfl, _, SqL.of upd_same⟩, c, _, _, rfl, rfl, upd_same, ?_, ?_⟩
          · rw [List.length_map, List.length_append]
            exact small1000 (by simp; omega)
          · refine ⟨cs ++ [(z.natAbs : Int)] ++ [1], some (.int z), rfl, ?_, ?_, ?_, ?_, ?_⟩
            · rw [upd_same, List.map_append (l₂ := [1])]
              rfl
            · simp; omega
            · intro x hx
              rcases List.mem_append.mp hx with h | h
              · exact p1 x h
              · rw [List.mem_singleton.mp h]
                decide
            · rw [upd_ne cb.symm, upd_ne cb.symm]
              exact hbb
            · rw [upd_upd]
              exact extc _
        · rw [decide_eq_false hz]
          refine iteF ⟨cs ++ [(z.natAbs : Int)], some (.int z), rfl, upd_same, ?_, p1, ?_, extc _⟩
          · simp; omega
          · rw [upd_ne cb.symm]
            exact hbb
    · rintro σ H2 ⟨cs, v, rfl, hc, hcl, hpos, hbb, e2⟩
      refine ⟨_, rfl, (by show 4 ≤ sizeLine; decide), fun r nr => ?_⟩
      have cr : c ≠ r := ne_of_none hc nr
      exact k r _ (e2.upd' nr) (by cases q : H r with | none => rfl | some o => rw [e2 _ _ q] at nr; cases nr) ⟨c, cs, 0, 0, 0, upd_same, by rw [upd_ne cr]; exact hc, by omega, hpos, Nat.zero_le _, Int.le_refl _, cr⟩
end
end Fx

set_option Elab.async false
set_option linter.all false
set_option maxRecDepth 100000
set_option maxHeartbeats 4000000
set_option exponentiation.threshold 20000
namespace Fx
open PySem PySem.Spec PyProof.Rows L2 FM
section
variable {P : Program} {w : World} {K : PySem.W.Frag} {mg : Str → Option Value} {base : Heap} {A : Adr}
theorem boot_range' : bootBuiltins "range" = some (.type "range") := by decide +kernel
theorem scPick : FnScope ["pool", "many", "digit"] ["pool", "many"] (defScope sPick) := ⟨rfl, rfl, rfl, by decide +kernel, rfl, by decide +kernel, by decide +kernel⟩
/-- a draw below many -/
def spPick : Sp := fun vs H Q _ => ∃ (r : Addr) (many : Int), vs = [.ref r, .int many] ∧ PoolAt H r ∧ 0 < many ∧ many.natAbs.log2 < 9000 ∧ ∀ d H', 0 ≤ d → d < many → PoolAt H' r → Kp r H H' → Q (.int d) H'
theorem ok_pick {f : Addr} {fd : FuncData} (F : Fun K "_law_pick" "_law_pick" sPick f fd) (le : mg "len" = none) (it : mg "int" = none) : FnOk P w K mg base (L2.CX P w) 1 f fd ["pool", "many"] spPick := by
  refine F.okX scPick (fun vs H Q E h => ?_) (fun cdv AA outer s H vs Q E hr h => ?_)
  · obtain ⟨r, many, rfl, _⟩ := h
    rfl
  · obtain ⟨r, many, rfl, ⟨c, cs, i, cur, m, hp, hc, hcl, pos, hi, h0, cr⟩, m0, m9, k⟩ := h
    refine ⟨_, C8.pss_cut (ps_if (PW.pt (pw_or (pt_cmpR L2.op_eq (pe_ix ix_list (pv 0) pe_int (fun _ _ => rfl)) pe_int (nomark _)) (pw_or1 (pt_cmpR L2.op_eq (pe_ix ix_list (pv 0) pe_int (fun _ _ => rfl)) pe_int (nomark _)))))
        (pss_cons (ps_if (pt_cmpR L2.op_eq (pe_ix ix_list (pv 0) pe_int (fun _ _ => rfl)) (pe_callB call_len_seq (by rfl) le PySem.boot_len (pa_cons (pe_ix ix_list (pv 0) pe_int (fun _ _ => rfl)) pa_nil)) (nomark _)) (pss_one (ps_ret pe_int)) pss_nil)
        (pss_cons (ps_asg (pe_ix ix_list (pe_ix ix_list (pv 0) pe_int (fun _ _ => rfl)) (pe_ix ix_list (pv 0) pe_int (fun _ _ => rfl)) (fun _ _ => rfl)) (pg_sub (pv 0) pe_int set_list))
        (pss_cons (ps_asg (pe_op L2.op_add (pe_ix ix_list (pv 0) pe_int (fun _ _ => rfl)) pe_int) (pg_sub (pv 0) pe_int set_list))
        (pss_one (ps_asg pe_int (pg_sub (pv 0) pe_int set_list)))))) pss_nil)
      (pss_cons (ps_set (i := 2) scPick.nd rfl (Or.inl rfl) (pe_op op_modN (pe_callTy call_int1 (by rfl) it boot_int (pa_cons (pe_ix ix_list (pv 0) pe_int (fun _ _ => rfl)) pa_nil)) (pv 1)))
      (pss_cons (ps_asg (pe_op op_fdivZ (pe_callTy call_int1 (by rfl) it boot_int (pa_cons (pe_ix ix_list (pv 0) pe_int (fun _ _ => rfl)) pa_nil)) (pv 1)) (pg_sub (pv 0) pe_int set_list))
      (pss_cons (ps_asg (pe_op L2.op_add (pe_ix ix_list (pv 0) pe_int (fun _ _ => rfl)) pe_int) (pg_sub (pv 0) pe_int set_list))
      (pss_one (ps_ret (pv 2)))))), ?_⟩
    refine ⟨fun σ H1 => σ = [some (.ref r), some (.int many), none] ∧ ∃ (i : Nat) (cur m : Int), H1 r = some (.lst [.ref c, .int i, .int cur, .int m]) ∧ H1 c = some (.lst (cs.map V.int)) ∧ i ≤ cs.length ∧ 0 ≤ cur ∧ Kp r H H1, ?_, ?_⟩
    · -- the draw before
      refine ⟨_, rfl, _, _, _, _, rfl, rfl, SqL.of hp, rfl, rfl, _, rfl, ?_⟩
      by_cases hz : cur = 0
      · rw [decide_eq_true (by rw [hz])]
        refine iteT (iteT ?_)
        refine ⟨_, rfl, _, _, _, _, rfl, rfl, SqL.of hp, rfl, _, rfl, _, _, _, _, rfl, rfl, SqL.of hp, rfl, c, _, rfl, .inl (SqL.of hc), rfl, _, rfl, ?_⟩
        rw [List.length_map]
        by_cases he : i = cs.length
        · rw [decide_eq_true (by rw [he])]
          exact iteT (k 0 H (Int.le_refl _) m0 ⟨c, cs, i, cur, m, hp, hc, hcl, pos, hi, h0, cr⟩ Kp.refl)
        · rw [decide_eq_false (by intro z; injection z with z; omega)]
          have hlt : i < cs.length := by omega
          refine iteF ⟨_, rfl, _, _, _, _, rfl, rfl, SqL.of hp, rfl, _, rfl, _, _, _, _, rfl, rfl, SqL.of hp, rfl, _, _, _, _, rfl, rfl, SqL.of hc, atI_nat (j := i) (v := V.int cs[i]) (by rw [List.getElem?_map, List.getElem?_eq_getElem hlt]; rfl), _, rfl, r, _, 2, 2, rfl, rfl, hp, rfl, ?_⟩
          refine ⟨_, rfl, _, _, _, _, rfl, rfl, SqL.of upd_same, rfl, _, _, rfl, rfl, _, rfl, r, _, 1, 1, rfl, rfl, upd_same, rfl, ?_⟩
          refine ⟨_, rfl, r, _, 3, 3, rfl, rfl, upd_same, rfl, ?_⟩
          refine ⟨rfl, i + 1, cs[i], 0, ?_, ?_, hlt, pos _ (List.getElem_mem _), ?_⟩
          · rw [upd_same]
            rfl
          · rw [upd_ne cr, upd_ne cr, upd_ne cr]
            exact hc
          · exact Kp.refl.upd.upd.upd
      · rw [decide_eq_false (by intro z; injection z with z; exact hz z)]
        refine iteF ⟨_, rfl, _, _, _, _, rfl, rfl, SqL.of hp, rfl, rfl, _, rfl, ?_⟩
        by_cases h6 : m = 60
        · rw [decide_eq_true (by rw [h6])]
          refine iteT ?_
          refine ⟨_, rfl, _, _, _, _, rfl, rfl, SqL.of hp, rfl, _, rfl, _, _, _, _, rfl, rfl, SqL.of hp, rfl, c, _, rfl, .inl (SqL.of hc), rfl, _, rfl, ?_⟩
          rw [List.length_map]
          by_cases he : i = cs.length
          · rw [decide_eq_true (by rw [he])]
            exact iteT (k 0 H (Int.le_refl _) m0 ⟨c, cs, i, cur, m, hp, hc, hcl, pos, hi, h0, cr⟩ Kp.refl)
          · rw [decide_eq_false (by intro z; injection z with z; omega)]
            have hlt : i < cs.length := by omega
            refine iteF ⟨_, rfl, _, _, _, _, rfl, rfl, SqL.of hp, rfl, _, rfl, _, _, _, _, rfl, rfl, SqL.of hp, rfl, _, _, _, _, rfl, rfl, SqL.of hc, atI_nat (j := i) (v := V.int cs[i]) (by rw [List.getElem?_map, List.getElem?_eq_getElem hlt]; rfl), _, rfl, r, _, 2, 2, rfl, rfl, hp, rfl, ?_⟩
            refine ⟨_, rfl, _, _, _, _, rfl, rfl, SqL.of upd_same, rfl, _, _, rfl, rfl, _, rfl, r, _, 1, 1, rfl, rfl, upd_same, rfl, ?_⟩
            refine ⟨_, rfl, r, _, 3, 3, rfl, rfl, upd_same, rfl, ?_⟩
            refine ⟨rfl, i + 1, cs[i], 0, ?_, ?_, hlt, pos _ (List.getElem_mem _), ?_⟩
            · rw [upd_same]
              rfl
            · rw [upd_ne cr, upd_ne cr, upd_ne cr]
              exact hc
            · exact Kp.refl.upd.upd.upd
        · rw [decide_eq_false (by intro z; injection z with z; exact h6 z)]
          exact iteF ⟨rfl, i, cur, m, hp, hc, hi, h0, Kp.refl⟩
    · rintro σ H1 ⟨rfl, i, cur, m, hp, hc, hi, h0, kp⟩
      have mz : many ≠ 0 := by omega
      have f1 : cur.fmod many = cur % many := Int.fmod_eq_emod_of_nonneg cur (Int.le_of_lt m0)
      have f2 : 0 ≤ cur.fdiv many := by
        rw [Int.fdiv_eq_ediv_of_nonneg _ (Int.le_of_lt m0)]
        exact Int.ediv_nonneg h0 (Int.le_of_lt m0)
      refine ⟨_, rfl, _, _, _, _, rfl, rfl, SqL.of hp, rfl, .inl ⟨_, rfl, _, rfl, _, _, rfl, rfl, mz, ?_⟩⟩
      refine ⟨_, rfl, _, _, _, _, rfl, rfl, SqL.of hp, rfl, .inl ⟨_, rfl, _, rfl, _, _, rfl, rfl, ⟨mz, m9⟩, _, rfl, r, _, 2, 2, rfl, rfl, hp, rfl, ?_⟩⟩
      refine ⟨_, rfl, _, _, _, _, rfl, rfl, SqL.of upd_same, rfl, _, _, rfl, rfl, _, rfl, r, _, 3, 3, rfl, rfl, upd_same, rfl, ?_⟩
      refine ⟨_, rfl, k _ _ (by rw [f1]; exact Int.emod_nonneg _ mz) (by rw [f1]; exact Int.emod_lt_of_pos _ m0) ⟨c, cs, i, cur.fdiv many, m + 1, ?_, ?_, hcl, pos, hi, f2, cr⟩ kp.upd.upd⟩
      · rw [upd_same]
        rfl
      · rw [upd_ne cr, upd_ne cr]
        exact hc
end
end Fx

set_option Elab.async false
set_option linter.all false
set_option maxRecDepth 100000
set_option maxHeartbeats 4000000
set_option exponentiation.threshold 20000
namespace Fx
open PySem PySem.Spec PyProof.Rows L2 FM
section
variable {X : Cx}
theorem op_mulS : OpR X (binaryOp .Mult) (fun x y H Q => ∃ z n, x = .str z ∧ y = .int n ∧ MulOk z n ∧ Q (.str (Txt.mul z n)) H) := by
  intro pins s σ H x y v u Q I rx ry h
  obtain ⟨z, n, rfl, rfl, hk, q⟩ := h
  obtain ⟨t, rfl⟩ := (show ∃ t, v = Value.str z t from rx)
  obtain ⟨t', rfl⟩ := (show ∃ t, u = Value.int n t from ry)
  exact SB.mul hk fun t' k => ⟨.str _, H, I.tok _, ⟨_, rfl⟩, q⟩
end
/-- a tuple of two ints -/
def TupAt (H : Hp) (r : Addr) (p : Int × Int) : Prop := H r = some (.tup [.int p.1, .int p.2])
structure Prt (p : Int × Int) : Prop where
  b1 : Bd p.1
  b2 : Bd p.2
  ne : p.2 ≠ 0
theorem Okf.prt {p : Int × Int} (o : Okf p) : Prt p := ⟨o.b1, o.b2, o.ne⟩
def E30 : Int := 1000000000000000000000000000000
section
variable {P : Program} {w : World} {K : PySem.W.Frag} {mg : Str → Option Value} {base : Heap} {A : Adr}
/-- where the law's own defs lie -/
structure GL (mg : Str → Option Value) (L : Str → Addr) : Prop where
  g : ∀ x ∈ (["_law_pool", "_law_pick", "_law_size", "_law_top", "_law_low", "_law_sum", "_law_times", "_law_power", "_law_int", "_law_is", "_law_sums", "_law_powers", "_law_floors", "_law_divided", "_law_order", "_law_sort", "_law_told", "_law_zeros", "_law_written", "_law_put", "_law_spoilt", "_law_texts"] : List Str), mg x = some (.ref (L x))
theorem mul0_ok {d : Int} (h0 : 0 ≤ d) (h : d < 30) : MulOk "0" d := by
  have e : ∀ n : Nat, n < 30 → MulOk "0" ((n : Nat) : Int) := by
    intro n hn
    have hl : (("0" : Str)).length = 1 := rfl
    refine ⟨?_, fun _ _ => ?_, fun _ _ => ?_⟩
    · have : ∀ n : Nat, n < 30 → (decide (((n : Nat) : Int) < -(2 ^ 63 : Int)) || decide (((n : Nat) : Int) ≥ 2 ^ 63)) = false := by decide +kernel
      exact this n hn
    · have : ∀ n : Nat, n < 30 → ¬ (((1 : Nat) : Int) > (2 ^ 63 - 1) / ((n : Nat) : Int)) ∨ n = 0 := by decide +kernel
      rcases this n hn with z | z
      · exact z
      · subst z
        rename_i a b
        exact absurd (show ((0 : Nat) : Int) < 1 by decide) a
    · have : ∀ n : Nat, n < 30 → PySem.Builtin.Str.tooLong (1 * n) = false := by decide +kernel
      have := this n hn
      simpa [hl] using this
  have := e d.toNat (by omega)
  rwa [Int.toNat_of_nonneg h0] at this
theorem ten_text : ∀ n : Nat, n < 30 → PySem.intText? (("1" : Str) ++ Txt.mul "0" ((n : Nat) : Int)) = some (10 ^ n) ∧ (("1" : Str) ++ Txt.mul "0" ((n : Nat) : Int)).length ≤ 640 := by decide +kernel
theorem ten_le : ∀ n : Nat, n < 30 → (0 : Int) ≤ 10 ^ n - 1 ∧ (10 : Int) ^ n < 1000000000000000000000000000000 := by decide +kernel
theorem scSize : FnScope ["pool", "mode"] ["pool"] (defScope sSize) := ⟨rfl, rfl, rfl, by decide +kernel, rfl, by decide +kernel, by decide +kernel⟩
/-- a size -/
def spSize : Sp := fun vs H Q _ => ∃ r, vs = [.ref r] ∧ PoolAt H r ∧ ∀ v H', 0 ≤ v → v < E30 → PoolAt H' r → Kp r H H' → Q (.int v) H'
theorem menu_le : ∀ n : Nat, n < 10 → ∃ v : Int, ([V.int 3, V.int 0, V.int 1, V.int 2, V.int 4, V.int 6, V.int 9, V.int 10, V.int 12, V.int 60] : List V)[n]? = some (.int v) ∧ 0 ≤ v ∧ v ≤ 60 := by
  intro n hn
  match n, hn with
  | 0, _ => exact ⟨3, rfl, by decide, by decide⟩
  | 1, _ => exact ⟨0, rfl, by decide, by decide⟩
  | 2, _ => exact ⟨1, rfl, by decide, by decide⟩
  | 3, _ => exact ⟨2, rfl, by decide, by decide⟩
  | 4, _ => exact ⟨4, rfl, by decide, by decide⟩
  | 5, _ => exact ⟨6, rfl, by decide, by decide⟩
  | 6, _ => exact ⟨9, rfl, by decide, by decide⟩
  | 7, _ => exact ⟨10, rfl, by decide, by decide⟩
  | 8, _ => exact ⟨12, rfl, by decide, by decide⟩
  | 9, _ => exact ⟨60, rfl, by decide, by decide⟩
theorem p30 : ((10 : Int) ^ (30 : Int).toNat) = 1000000000000000000000000000000 := by decide +kernel
theorem lg30 : (((10 : Int) ^ (30 : Int).toNat) - 1).natAbs.log2 < 9000 := by
  rw [p30]
  refine Nat.lt_of_lt_of_le (log2_lt (k := 100) ?_ (by decide)) (by decide)
  decide +kernel
theorem ok_size {f : Addr} {fd : FuncData} (F : Fun K "_law_size" "_law_size" sSize f fd) {k : Addr} (gP : mg "_law_pick" = some (.ref k)) (cP : Cal P w K mg base 1 k ["pool", "many"] spPick) (it : mg "int" = none) : FnOk P w K mg base (L2.CX P w) 2 f fd ["pool"] spSize := by
  refine F.okX scSize (fun vs H Q E h => ?_) (fun cdv AA outer s H vs Q E hr h => ?_)
  · obtain ⟨r, rfl, _⟩ := h
    rfl
  · obtain ⟨r, rfl, hp, k⟩ := h
    obtain ⟨fdP, GP, bP⟩ := cP.ex
    refine ⟨_, pss_cons (ps_set (i := 1) scSize.nd rfl (Or.inl rfl) (pe_call GP (hr.mono (by decide)) rfl gP cP.kp bP .nil (E := E0) passL (pa_cons (pv 0) (pa_cons pe_int pa_nil))))
      (pss_cons (ps_if (pt_cmpR L2.op_eq (pv 1) pe_int (nomark _)) (pss_one (ps_ret (pe_call GP (hr.mono (by decide)) rfl gP cP.kp bP .nil (E := E0) passL (pa_cons (pv 0) (pa_cons (pe_op L2.op_sub (pe_op L2.op_pow pe_int pe_int) pe_int) pa_nil))))) pss_nil)
      (pss_cons (ps_if (pt_cmpR L2.op_eq (pv 1) pe_int (nomark _)) (pss_one (ps_ret (pe_op L2.op_sub (pe_op L2.op_sub (pe_op L2.op_pow pe_int pe_int) pe_int) (pe_call GP (hr.mono (by decide)) rfl gP cP.kp bP .nil (E := E0) passL (pa_cons (pv 0) (pa_cons pe_int pa_nil)))))) pss_nil)
      (pss_cons (ps_if (pt_cmpR L2.op_eq (pv 1) pe_int (nomark _)) (pss_one (ps_ret (pe_op L2.op_add (pe_op L2.op_sub (pe_callTy call_int_str (by rfl) it boot_int (pa_cons (pe_op L2.op_add_str pe_str (pe_op op_mulS pe_str (pe_call GP (hr.mono (by decide)) rfl gP cP.kp bP .nil (E := E0) passL (pa_cons (pv 0) (pa_cons pe_int pa_nil))))) pa_nil)) pe_int) (pe_call GP (hr.mono (by decide)) rfl gP cP.kp bP .nil (E := E0) passL (pa_cons (pv 0) (pa_cons pe_int pa_nil)))))) pss_nil)
      (pss_one (ps_ret (pe_ix ix_list (pe_lst (pa_cons pe_int (pa_cons pe_int (pa_cons pe_int (pa_cons pe_int (pa_cons pe_int (pa_cons pe_int (pa_cons pe_int (pa_cons pe_int (pa_cons pe_int (pa_cons pe_int pa_nil))))))))))) (pe_call GP (hr.mono (by decide)) rfl gP cP.kp bP .nil (E := E0) passL (pa_cons (pv 0) (pa_cons pe_int pa_nil))) (fun _ _ => rfl))))))), ?_⟩
    have hpow : (0 : Int) ≤ 30 ∧ (30 : Int) ≤ 1000000 ∧ (10 : Int).natAbs < 2 ^ 64 := by decide
    refine ⟨_, rfl, r, 4, rfl, hp, by decide, by decide +kernel, fun mode H1 m0 m4 hp1 kp1 => ?_⟩
    refine ⟨_, rfl, rfl, _, rfl, ?_⟩
    by_cases h1 : mode = 1
    · rw [decide_eq_true (by rw [h1])]
      refine iteT ⟨_, rfl, _, _, rfl, rfl, hpow, _, _, rfl, rfl, r, _, rfl, hp1, ?_, lg30, fun d H2 d0 d1 hp2 kp2 => k d H2 d0 ?_ hp2 (kp1.trans kp2)⟩
      · rw [p30]; decide
      · rw [p30] at d1; unfold E30; omega
    rw [decide_eq_false (by intro z; injection z with z; exact h1 z)]
    refine iteF ⟨_, rfl, rfl, _, rfl, ?_⟩
    by_cases h2 : mode = 2
    · rw [decide_eq_true (by rw [h2])]
      refine iteT ⟨_, _, rfl, rfl, hpow, _, _, rfl, rfl, _, rfl, r, 10, rfl, hp1, by decide, by decide +kernel, fun d H2 d0 d1 hp2 kp2 => ⟨_, _, rfl, rfl, k _ H2 ?_ ?_ hp2 (kp1.trans kp2)⟩⟩
      · rw [p30]; omega
      · rw [p30]; unfold E30; omega
    rw [decide_eq_false (by intro z; injection z with z; exact h2 z)]
    refine iteF ⟨_, rfl, rfl, _, rfl, ?_⟩
    by_cases h3 : mode = 3
    · rw [decide_eq_true (by rw [h3])]
      refine iteT ⟨_, rfl, r, 30, rfl, hp1, by decide, by decide +kernel, fun d H2 d0 d1 hp2 kp2 => ?_⟩
      obtain ⟨n, rfl⟩ : ∃ n : Nat, d = (n : Int) := ⟨d.toNat, (Int.toNat_of_nonneg d0).symm⟩
      have hn : n < 30 := by omega
      obtain ⟨tt, tl⟩ := ten_text n hn
      obtain ⟨l0, l1⟩ := ten_le n hn
      refine ⟨_, _, rfl, rfl, mul0_ok d0 d1, _, _, rfl, rfl, ?_, _, _, rfl, tt, tl, _, _, rfl, rfl, _, rfl, r, 2, rfl, hp2, by decide, by decide +kernel, fun d' H3 e0 e1 hp3 kp3 => ⟨_, _, rfl, rfl, k _ H3 ?_ ?_ hp3 ((kp1.trans kp2).trans kp3)⟩⟩
      · have q := tl
        rw [app_len] at q
        exact Nat.le_trans q (by decide)
      · omega
      · unfold E30; omega
    rw [decide_eq_false (by intro z; injection z with z; exact h3 z)]
    refine iteF ⟨(by show 10 ≤ sizeLine; decide), fun l nl => ?_⟩
    have hp1' := hp1.ext (ext1 (o := .lst [V.int 3, V.int 0, V.int 1, V.int 2, V.int 4, V.int 6, V.int 9, V.int 10, V.int 12, V.int 60]) nl)
    refine ⟨_, rfl, r, 10, rfl, hp1', by decide, by decide +kernel, fun d H2 d0 d1 hp2 kp2 => ?_⟩
    obtain ⟨n, rfl⟩ : ∃ n : Nat, d = (n : Int) := ⟨d.toNat, (Int.toNat_of_nonneg d0).symm⟩
    obtain ⟨v, ev, v0, v1⟩ := menu_le n (by omega)
    have lr : l ≠ r := by
      obtain ⟨c, cs, i, cur, m, e, _⟩ := hp1
      exact (ne_of_none e nl).symm
    refine ⟨_, _, _, _, rfl, rfl, SqL.of (kp2 l _ upd_same lr), atI_nat ev, k v H2 v0 (by unfold E30; omega) hp2 ((kp1.new nl).trans kp2)⟩
theorem scTop : FnScope ["pool"] ["pool"] (defScope sTop) := ⟨rfl, rfl, rfl, by decide +kernel, rfl, by decide +kernel, by decide +kernel⟩
def spTop : Sp := fun vs H Q _ => ∃ r, vs = [.ref r] ∧ PoolAt H r ∧ ∀ v H', -E30 < v → v < E30 → PoolAt H' r → Kp r H H' → Q (.int v) H'
theorem ok_top {f : Addr} {fd : FuncData} (F : Fun K "_law_top" "_law_top" sTop f fd) {k k2 : Addr} (gP : mg "_law_pick" = some (.ref k)) (cP : Cal P w K mg base 1 k ["pool", "many"] spPick) (gS : mg "_law_size" = some (.ref k2)) (cS : Cal P w K mg base 2 k2 ["pool"] spSize) : FnOk P w K mg base (L2.CX P w) 3 f fd ["pool"] spTop := by
  refine F.okX scTop (fun vs H Q E h => ?_) (fun cdv AA outer s H vs Q E hr h => ?_)
  · obtain ⟨r, rfl, _⟩ := h
    rfl
  · obtain ⟨r, rfl, hp, k⟩ := h
    obtain ⟨fdP, GP, bP⟩ := cP.ex
    obtain ⟨fdS, GS, bS⟩ := cS.ex
    refine ⟨_, pss_cons (ps_if (pt_cmpR L2.op_eq (pe_call GP (hr.mono (by decide)) rfl gP cP.kp bP .nil (E := E0) passL (pa_cons (pv 0) (pa_cons pe_int pa_nil))) pe_int (nomark _)) (pss_one (ps_ret (pe_un L2.un_neg (pe_call GS (hr.mono (by decide)) rfl gS cS.kp bS .nil (E := E0) passL (pa_cons (pv 0) pa_nil))))) pss_nil)
      (pss_one (ps_ret (pe_call GS (hr.mono (by decide)) rfl gS cS.kp bS .nil (E := E0) passL (pa_cons (pv 0) pa_nil)))), ?_⟩
    refine ⟨_, rfl, r, 2, rfl, hp, by decide, by decide +kernel, fun d H1 d0 d1 hp1 kp1 => ⟨rfl, _, rfl, ?_⟩⟩
    by_cases h1 : d = 1
    · rw [decide_eq_true (by rw [h1])]
      exact iteT ⟨_, rfl, r, rfl, hp1, fun v H2 v0 v1 hp2 kp2 => ⟨_, rfl, k _ H2 (by omega) (by unfold E30 at *; omega) hp2 (kp1.trans kp2)⟩⟩
    · rw [decide_eq_false (by intro z; injection z with z; exact h1 z)]
      exact iteF ⟨_, rfl, r, rfl, hp1, fun v H2 v0 v1 hp2 kp2 => k _ H2 (by unfold E30 at *; omega) v1 hp2 (kp1.trans kp2)⟩
theorem scLow : FnScope ["top", "bottom", "a", "b", "c"] ["top", "bottom"] (defScope sLow) := ⟨rfl, rfl, rfl, by decide +kernel, rfl, by decide +kernel, by decide +kernel⟩
def spLow : Sp := fun vs H Q _ => ∃ n d, vs = [.int n, .int d] ∧ d ≠ 0 ∧ Bi d ∧ ∀ r H', Ext H H' → TupAt H' r (low n d) → Q (.ref r) H'
theorem ok_low {f : Addr} {fd : FuncData} (F : Fun K "_law_low" "_law_low" sLow f fd) (ab : mg "abs" = none) (it : mg "int" = none) : FnOk P w K mg base (L2.CX P w) 1 f fd ["top", "bottom"] spLow := by
  refine F.okX scLow (fun vs H Q E h => ?_) (fun cdv AA outer s H vs Q E hr h => ?_)
  · obtain ⟨n, d, rfl, _⟩ := h
    rfl
  · obtain ⟨n, d, rfl, dz, bd, k⟩ := h
    refine ⟨_, pss_cons (ps_set (i := 2) scLow.nd rfl (Or.inl rfl) (pe_callB L2.call_abs (by rfl) ab boot_abs' (pa_cons (pv 0) pa_nil)))
      (pss_cons (ps_set (i := 3) scLow.nd rfl (Or.inl rfl) (pe_callB L2.call_abs (by rfl) ab boot_abs' (pa_cons (pv 1) pa_nil)))
      (pss_cons (ps_while (passes_of rfl) (pt_cmpR L2.op_gt (pv 3) pe_int (nomark _))
        (pss_cons (ps_set (i := 4) scLow.nd rfl (Or.inl rfl) (pe_op op_modN (pe_callTy call_int1 (by rfl) it boot_int (pa_cons (pv 2) pa_nil)) (pv 3)))
        (pss_cons (ps_set (i := 2) scLow.nd rfl (Or.inl rfl) (pv 3))
        (pss_one (ps_set (i := 3) scLow.nd rfl (Or.inl rfl) (pv 4))))))
      (C8.pss_cut (ps_if (pt_cmpR L2.op_lt (pv 1) pe_int (nomark _)) (pss_one (ps_set (i := 2) scLow.nd rfl (Or.inl rfl) (pe_un L2.un_neg (pv 2)))) pss_nil)
      (pss_one (ps_ret (pe_tup (pa_cons (pe_op op_fdivZ (pv 0) (pv 2)) (pa_cons (pe_op op_fdivZ (pv 1) (pv 2)) pa_nil)))))))), ?_⟩
    refine ⟨_, rfl, _, rfl, _, rfl, _, rfl, ?_⟩
    have ea : ∀ z : Int, (if z < 0 then -z else z) = (z.natAbs : Int) := fun z => by split <;> omega
    rw [ea, ea]
    refine while_by (fun σ H2 => H2 = H ∧ ∃ (a b : Nat) (c : Option V), σ = [some (.int n), some (.int d), some (.int a), some (.int b), c] ∧ Nat.gcd a b = Nat.gcd n.natAbs d.natAbs)
      (fun (σ : L2.St) _ => match σ[3]? with | some (some (V.int b)) => b.toNat | _ => 0) ⟨rfl, _, _, none, rfl, rfl⟩ ?_ ?_
    · rintro σ H2 ⟨rfl, a, b, c, rfl, hg⟩
      refine ⟨_, rfl, _, _, rfl, rfl, _, rfl, ?_⟩
      by_cases hb : (0 : Int) < (b : Int)
      · rw [decide_eq_true hb]
        refine iteT ⟨_, rfl, .inl ⟨_, rfl, _, rfl, _, _, rfl, rfl, by omega, _, rfl, _, rfl, ⟨rfl, b, a % b, some (.int ((a : Int).fmod (b : Int))), ?_, ?_⟩, ?_⟩⟩
        · have hm : (a : Int).fmod (b : Int) = ((a % b : Nat) : Int) := by
            rw [Int.fmod_eq_emod_of_nonneg _ (Int.le_of_lt hb)]
            rfl
          show [some (V.int n), some (V.int d), some (V.int (b : Int)), some (V.int ((a : Int).fmod (b : Int))), some (V.int ((a : Int).fmod (b : Int)))] = _
          rw [hm]
        · rw [← hg, Nat.gcd_comm a b, Nat.gcd_rec b a, Nat.gcd_comm]
        · show ((a : Int).fmod (b : Int)).toNat < (b : Int).toNat
          rw [Int.fmod_eq_emod_of_nonneg _ (Int.le_of_lt hb)]
          have := Int.emod_lt_of_pos (a : Int) hb
          have := Int.emod_nonneg (a : Int) (show (b : Int) ≠ 0 by omega)
          omega
      · rw [decide_eq_false hb]
        have b0 : b = 0 := by omega
        subst b0
        rw [Nat.gcd_zero_right] at hg
        subst hg
        refine iteF ?_
        refine ⟨fun σ H3 => H3 = H2 ∧ ∃ (b c : Option V), σ = [some (.int n), some (.int d), some (.int (sg d (Nat.gcd n.natAbs d.natAbs))), b, c], ?_, ?_⟩
        · refine ⟨_, rfl, _, _, rfl, rfl, _, rfl, ?_⟩
          by_cases hn : d < 0
          · rw [decide_eq_true hn]
            refine iteT ⟨_, rfl, _, rfl, rfl, some (.int ((0 : Nat) : Int)), c, ?_⟩
            unfold sg
            rw [if_pos hn]
            rfl
          · rw [decide_eq_false hn]
            refine iteF ⟨rfl, some (.int ((0 : Nat) : Int)), c, ?_⟩
            unfold sg
            rw [if_neg hn]
        · rintro σ H3 ⟨rfl, b, c, rfl⟩
          have g := sg_ne (a := n) dz
          have gl : (sg d (Nat.gcd n.natAbs d.natAbs)).natAbs.log2 < 9000 := by
            rw [sg_abs]
            refine Nat.lt_of_lt_of_le (log2_lt (n := ((Nat.gcd n.natAbs d.natAbs : Nat) : Int)) (k := 8900) ?_ (by decide)) (by decide)
            exact Nat.lt_of_le_of_lt (Nat.gcd_le_right _ (by omega)) bd
          exact ⟨_, rfl, _, rfl, _, _, rfl, rfl, ⟨g, gl⟩, _, rfl, _, rfl, _, _, rfl, rfl, ⟨g, gl⟩, (by show 2 ≤ sizeLine; decide), fun r nr => k r _ (ext1 nr) upd_same⟩
    · rintro σ H2 Q1 Q2 hq ⟨v, e, i, j, e1, e2, kk, e3, q⟩
      exact ⟨v, e, i, j, e1, e2, kk, e3, hq _ _ q⟩
end
end Fx

set_option Elab.async false
set_option linter.all false
set_option maxRecDepth 100000
set_option maxHeartbeats 4000000
set_option exponentiation.threshold 20000
/-! What an expression gives, from any later heap. -/
namespace Fx
open PySem PySem.Spec PyProof.Rows L2 FM
/-- from every heap that holds what H0 holds, t gives a value with R, and only makes objects -/
def Gv (σ : L2.St) (H0 : Hp) (t : TE) (R : V → Hp → Prop) : Prop := ∀ H Q, Ext H0 H → (∀ v H', Ext H H' → R v H' → Q v H') → t σ H Q
def GvA (σ : L2.St) (H0 : Hp) (t : TA) (R : List V → Hp → Prop) : Prop := ∀ H Q, Ext H0 H → (∀ v H', Ext H H' → R v H' → Q v H') → t σ H Q
def Mo (R : V → Hp → Prop) : Prop := ∀ v H H', Ext H H' → R v H → R v H'
def All (R : V → Hp → Prop) (n : Nat) : List V → Hp → Prop := fun vs H => vs.length = n ∧ ∀ x ∈ vs, R x H
/-- a list of n things with R -/
def Lst (R : V → Hp → Prop) (n : Nat) : V → Hp → Prop := fun v H => ∃ l xs, v = .ref l ∧ H l = some (.lst xs) ∧ All R n xs H
theorem All.ext {R : V → Hp → Prop} {n : Nat} {vs : List V} {H H' : Hp} (m : Mo R) (h : All R n vs H) (e : Ext H H') : All R n vs H' := ⟨h.1, fun x hx => m x H H' e (h.2 x hx)⟩
theorem mo_lst {R : V → Hp → Prop} {n : Nat} (m : Mo R) : Mo (Lst R n) := fun v H H' e ⟨l, xs, h1, h2, h3⟩ => ⟨l, xs, h1, e _ _ h2, h3.ext m e⟩
section
variable {σ : L2.St} {H0 : Hp} {t t1 t2 : TE} {ta : TA} {R S1 S2 : V → Hp → Prop} {n m : Nat}
theorem Gv.imp (h : Gv σ H0 t R) (i : ∀ v H, R v H → S1 v H) : Gv σ H0 t S1 := fun H Q e k => h H Q e fun v H' e' r => k v H' e' (i v H' r)
theorem gv_c (v : V) : Gv σ H0 (tC v) (fun x _ => x = v) := fun H Q e k => k v H Ext.rfl' rfl
theorem gv_v {i : Nat} {v : V} (h : σ[i]? = some (some v)) (r : R v H0) (mo : Mo R) : Gv σ H0 (tVar i) R := fun H Q e k => ⟨v, h, k v H Ext.rfl' (mo v H0 H e r)⟩
theorem gva_nil : GvA σ H0 tNil (All R 0) := fun H Q e k => k [] H Ext.rfl' ⟨rfl, by simp⟩
theorem gva_cons (mo : Mo R) (h : Gv σ H0 t R) (h2 : GvA σ H0 ta (All R n)) : GvA σ H0 (tCons t ta) (All R (n + 1)) := fun H Q e k =>
  h H _ e fun v H1 e1 r1 => h2 H1 _ (e.trans e1) fun vs H2 e2 r2 => k (v :: vs) H2 (e1.trans e2) ⟨by simp [r2.1], fun x hx => by
    rcases List.mem_cons.mp hx with z | z
    · rw [z]; exact mo v H1 H2 e2 r1
    · exact r2.2 x z⟩
theorem gv_lst (mo : Mo R) (h : GvA σ H0 ta (All R n)) (hn : n ≤ sizeLine) : Gv σ H0 (tLst ta) (Lst R n) := fun H Q e k =>
  h H _ e fun vs H1 e1 r1 => ⟨by rw [r1.1]; exact hn, fun p np => k _ _ (e1.upd' np) ⟨p, vs, rfl, upd_same, r1.ext mo (ext1 np)⟩⟩
theorem gv_pair (mo : Mo S1) (h1 : Gv σ H0 t1 S1) (h2 : Gv σ H0 t2 S2) (mo2 : Mo S2) : Gv σ H0 (tTup (tCons t1 (tCons t2 tNil))) (fun v H => ∃ t a b, v = .ref t ∧ H t = some (.tup [a, b]) ∧ S1 a H ∧ S2 b H) := fun H Q e k =>
  h1 H _ e fun a H1 e1 r1 => h2 H1 _ (e.trans e1) fun b H2 e2 r2 => ⟨by show 2 ≤ sizeLine; decide, fun p np => k _ _ ((e1.trans e2).upd' np) ⟨p, a, b, rfl, upd_same, mo _ _ _ (e2.upd' np) r1, mo2 _ _ _ (ext1 np) r2⟩⟩
theorem gv_cat (mo : Mo R) (h1 : Gv σ H0 t1 (Lst R n)) (h2 : Gv σ H0 t2 (Lst R m)) (hn : n + m ≤ sizeLine) : Gv σ H0 (tOp rCat t1 t2) (Lst R (n + m)) := fun H Q e k =>
  h1 H _ e fun a H1 e1 r1 => h2 H1 _ (e.trans e1) fun b H2 e2 r2 => by
    obtain ⟨l, xs, rfl, hl, r1⟩ := r1
    obtain ⟨l2, ys, rfl, hl2, r2⟩ := r2
    refine ⟨l, l2, xs, ys, rfl, rfl, e2 _ _ hl, hl2, by rw [r1.1, r2.1]; exact hn, fun p np => k _ _ ((e1.trans e2).upd' np) ⟨p, _, rfl, upd_same, by rw [List.length_append, r1.1, r2.1], fun x hx => ?_⟩⟩
    rcases List.mem_append.mp hx with z | z
    · exact mo x _ _ (e2.upd' np) (r1.2 x z)
    · exact mo x _ _ (ext1 np) (r2.2 x z)
theorem gv_op {r : L2.R2} (mo : Mo S1) (h1 : Gv σ H0 t1 S1) (h2 : Gv σ H0 t2 S2) (h : ∀ x y H Q, Ext H0 H → S1 x H → S2 y H → (∀ v H', Ext H H' → R v H' → Q v H') → r x y H Q) : Gv σ H0 (tOp r t1 t2) R := fun H Q e k =>
  h1 H _ e fun a H1 e1 r1 => h2 H1 _ (e.trans e1) fun b H2 e2 r2 => h a b H2 _ ((e.trans e1).trans e2) (mo _ _ _ e2 r1) r2 fun v H' e' r' => k v H' ((e1.trans e2).trans e') r'
theorem gv_un {r : V → Hp → VK → Prop} (h1 : Gv σ H0 t1 S1) (h : ∀ x H Q, Ext H0 H → S1 x H → (∀ v H', Ext H H' → R v H' → Q v H') → r x H Q) : Gv σ H0 (tUn r t1) R := fun H Q e k =>
  h1 H _ e fun a H1 e1 r1 => h a H1 _ (e.trans e1) r1 fun v H' e' r' => k v H' (e1.trans e') r'
/-- statements -/
theorem seq_gv {i : Nat} {u : TS} {D : Ends} {H : Hp} (h : Gv σ H0 t R) (e : Ext H0 H) (k : ∀ v H', Ext H H' → R v H' → u D (σ.set i (some v)) H') : tSeq (tAsg t (gName i)) u D σ H := h H _ e k
theorem ret_gv {D : Ends} {H : Hp} (h : Gv σ H0 t R) (e : Ext H0 H) (k : ∀ v H', Ext H H' → R v H' → D.rt v H') : tRet t D σ H := h H _ e k
/-- all([.. for .. in rows]), each element True -/
theorem gv_all {K : PySem.W.Frag} {i l : Nat} {g : TG} {te : TE} {vs : List Nat} {xs : List V} (hσ : σ[i]? = some (some (.ref l))) (hl : H0 l = some (.lst xs)) (hx : All R n xs H0) (mo : Mo R) (hn : n < sizeLine)
    (step : ∀ (x : V) (H : Hp) (Q : VK) (Q' : Hp → Prop), Ext H0 H → R x H → (∀ H', Ext H H' → Q (.bl true) H') → g x (wipe σ vs) H fun σ2 H2 => wipe σ2 vs = wipe σ vs ∧ tYes σ2 H2 fun b H3 => if b = true then te σ2 H3 Q else Q' H3) :
    Gv σ H0 (tCB (rAll K) (tCons (tLc (iList K (tVar i)) g tYes te vs) tNil)) (fun v _ => v = .bl true) := by
  intro H Q e k
  have hlH := e _ _ hl
  refine ⟨_, hσ, l, rfl, ⟨_, SqL.of hlH⟩, fun D nD => ?_⟩
  have lD : l ≠ D := ne_of_none hlH nD
  refine lc_list (K := K) (a := l) (xs := xs) (fun i H2 => H2 D = some (.lst ((List.replicate i true).map V.bl)) ∧ Ext H H2) ⟨upd_same, ext1 nD⟩ (fun i H2 _ ⟨_, e2⟩ => SqL.of (e2 _ _ hlH)) ?_ ?_
  · rintro i x H2 hi ⟨hD, e2⟩
    have hil : i < n := by rw [← hx.1]; exact (List.getElem?_eq_some_iff.mp hi).1
    refine step x H2 _ _ (e.trans e2) (mo _ _ _ (e.trans e2) (hx.2 x (List.mem_of_getElem? hi))) fun H' e' => ⟨_, e' _ _ hD, ?_, ?_, ?_⟩
    · rw [List.length_map, List.length_replicate]
      exact Nat.lt_trans hil hn
    · rw [upd_same, List.replicate_succ', List.map_append]
      rfl
    · intro a o q
      rw [upd_ne (ne_of_none q nD)]
      exact e' _ _ (e2 _ _ q)
  · rintro H2 ⟨hD, e2⟩
    refine ⟨D, _, rfl, SqL.of hD, ?_⟩
    rw [show (List.replicate xs.length true).all id = true by simp]
    exact k _ _ e2 rfl
end
end Fx

set_option Elab.async false
set_option linter.all false
set_option maxRecDepth 100000
set_option maxHeartbeats 4000000
namespace Fx
open PySem PySem.Spec PyProof.Rows L2 FM
theorem set_set_comm' (σ : L2.St) {i j : Nat} (h : i ≠ j) (a b : Option V) : (σ.set i a).set j b = (σ.set j b).set i a := List.set_comm a b h
theorem wipe2 (σ : L2.St) {i j : Nat} (h : i ≠ j) (a b : Option V) : wipe (((wipe σ [i, j]).set i a).set j b) [i, j] = wipe σ [i, j] := by
  show ((((((σ.set j none).set i none).set i a).set j b).set j none).set i none) = (σ.set j none).set i none
  rw [List.set_set, List.set_set, List.set_comm a none h, List.set_set, List.set_set]
theorem wipe2_i (σ : L2.St) {i j : Nat} (h : i ≠ j) (hi : i < σ.length) (a b : Option V) : (((wipe σ [i, j]).set i a).set j b)[i]? = some a := by
  have hl : (wipe σ [i, j]).length = σ.length := wipe_length _ _
  rw [List.getElem?_set_ne (Ne.symm h), List.getElem?_set_self (by rw [hl]; exact hi)]
theorem wipe2_j (σ : L2.St) {i j : Nat} (hj : j < σ.length) (a b : Option V) : (((wipe σ [i, j]).set i a).set j b)[j]? = some b := by
  have hl : (wipe σ [i, j]).length = σ.length := wipe_length _ _
  rw [List.getElem?_set_self (by rw [List.length_set, hl]; exact hj)]
theorem wipe2_o (σ : L2.St) {i j k : Nat} (hi : k ≠ i) (hj : k ≠ j) (a b : Option V) : (((wipe σ [i, j]).set i a).set j b)[k]? = σ[k]? := by
  rw [List.getElem?_set_ne (Ne.symm hj), List.getElem?_set_ne (Ne.symm hi)]
  show ((σ.set j none).set i none)[k]? = σ[k]?
  rw [List.getElem?_set_ne (Ne.symm hi), List.getElem?_set_ne (Ne.symm hj)]
theorem wipe1 (σ : L2.St) {i : Nat} (a : Option V) : wipe ((wipe σ [i]).set i a) [i] = wipe σ [i] := by
  show (((σ.set i none).set i a).set i none) = σ.set i none
  rw [List.set_set, List.set_set]
theorem wipe1_i (σ : L2.St) {i : Nat} (hi : i < σ.length) (a : Option V) : ((wipe σ [i]).set i a)[i]? = some a := by
  have hl : (wipe σ [i]).length = σ.length := wipe_length _ _
  rw [List.getElem?_set_self (by rw [hl]; exact hi)]
theorem wipe1_o (σ : L2.St) {i k : Nat} (hi : k ≠ i) (a : Option V) : ((wipe σ [i]).set i a)[k]? = σ[k]? := by
  rw [List.getElem?_set_ne (Ne.symm hi)]
  show (σ.set i none)[k]? = σ[k]?
  rw [List.getElem?_set_ne (Ne.symm hi)]
/-- a pair with S -/
def Pr (S : V → V → Hp → Prop) : V → Hp → Prop := fun v H => ∃ t a b, v = .ref t ∧ H t = some (.tup [a, b]) ∧ S a b H
def Mo2 (S : V → V → Hp → Prop) : Prop := ∀ a b H H', Ext H H' → S a b H → S a b H'
theorem mo_pr {S : V → V → Hp → Prop} (m : Mo2 S) : Mo (Pr S) := fun _ _ _ e ⟨t, a, b, h1, h2, h3⟩ => ⟨t, a, b, h1, e _ _ h2, m _ _ _ _ e h3⟩
section
variable {σ : L2.St} {H0 : Hp} {n : Nat}
theorem gv_all2 {K : PySem.W.Frag} {i l i1 i2 : Nat} {te : TE} {xs : List V} {S : V → V → Hp → Prop} (hσ : σ[i]? = some (some (.ref l))) (hl : H0 l = some (.lst xs)) (hx : All (Pr S) n xs H0) (mo : Mo2 S) (hn : n < sizeLine) (hi : i1 ≠ i2) (l1 : i1 < σ.length) (l2 : i2 < σ.length)
    (step : ∀ (τ : L2.St) (a b : V) (H : Hp) (Q : VK), τ[i1]? = some (some a) → τ[i2]? = some (some b) → (∀ k, k ≠ i1 → k ≠ i2 → τ[k]? = σ[k]?) → Ext H0 H → S a b H → (∀ H', Ext H H' → Q (.bl true) H') → te τ H Q) :
    Gv σ H0 (tCB (rAll K) (tCons (tLc (iList K (tVar i)) (gTup K 2 (gCons (gName i1) (gCons (gName i2) gNil))) tYes te [i1, i2]) tNil)) (fun v _ => v = .bl true) :=
  gv_all hσ hl hx (mo_pr mo) hn fun x H Q Q' e ⟨t, a, b, ex, ht, hs⟩ k => by
    refine ⟨t, [a, b], ex, SqT.of ht, rfl, a, [b], rfl, b, [], rfl, rfl, wipe2 σ hi _ _, ?_⟩
    refine @iteT _ (Q' H) ?_
    exact step _ a b H Q (wipe2_i σ hi l1 _ _) (wipe2_j σ l2 _ _) (fun k h1 h2 => wipe2_o σ h1 h2 _ _) e hs k
theorem gv_all1 {K : PySem.W.Frag} {i l i1 : Nat} {te : TE} {xs : List V} {S : V → Hp → Prop} (hσ : σ[i]? = some (some (.ref l))) (hl : H0 l = some (.lst xs)) (hx : All S n xs H0) (mo : Mo S) (hn : n < sizeLine) (l1 : i1 < σ.length)
    (step : ∀ (τ : L2.St) (a : V) (H : Hp) (Q : VK), τ[i1]? = some (some a) → (∀ k, k ≠ i1 → τ[k]? = σ[k]?) → Ext H0 H → S a H → (∀ H', Ext H H' → Q (.bl true) H') → te τ H Q) :
    Gv σ H0 (tCB (rAll K) (tCons (tLc (iList K (tVar i)) (gName i1) tYes te [i1]) tNil)) (fun v _ => v = .bl true) :=
  gv_all hσ hl hx mo hn fun x H Q Q' e hs k => by
    refine ⟨wipe1 σ _, ?_⟩
    refine @iteT _ (Q' H) ?_
    exact step _ x H Q (wipe1_i σ l1 _) (fun k h1 => wipe1_o σ h1 _) e hs k
end
end Fx

set_option Elab.async false
set_option linter.all false
set_option maxRecDepth 100000
set_option maxHeartbeats 4000000
set_option exponentiation.threshold 20000
namespace Fx
open PySem PySem.Spec PyProof.Rows L2 FM
section
variable {P : Program} {w : World} {K : PySem.W.Frag} {mg : Str → Option Value} {base : Heap} {A : Adr}
theorem Bd.sgn {s n : Int} (hs : s = 1 ∨ s = -1) (h : Bd n) : Bd (s * n) := by
  unfold Bd at *
  rcases hs with rfl | rfl
  · rwa [Int.one_mul]
  · rw [Int.neg_one_mul, Int.natAbs_neg]
    exact h
theorem Bd_s {s : Int} (hs : s = 1 ∨ s = -1) : Bd s := by
  rcases hs with rfl | rfl
  · exact Bd_one
  · unfold Bd; exact Nat.one_lt_two_pow (by decide)
theorem scSum : FnScope ["p", "q", "sign"] ["p", "q", "sign"] (defScope sSum) := ⟨rfl, rfl, rfl, by decide +kernel, rfl, by decide +kernel, by decide +kernel⟩
def spSum : Sp := fun vs H Q _ => ∃ a p b q s, vs = [.ref a, .ref b, .int s] ∧ TupAt H a p ∧ TupAt H b q ∧ Prt p ∧ Prt q ∧ (s = 1 ∨ s = -1) ∧ ∀ r H', Ext H H' → TupAt H' r (low (p.1 * q.2 + s * q.1 * p.2) (p.2 * q.2)) → Q (.ref r) H'
theorem ok_sum {f : Addr} {fd : FuncData} (F : Fun K "_law_sum" "_law_sum" sSum f fd) {k : Addr} (gL : mg "_law_low" = some (.ref k)) (cL : Cal P w K mg base 1 k ["top", "bottom"] spLow) : FnOk P w K mg base (L2.CX P w) 2 f fd ["p", "q", "sign"] spSum := by
  refine F.okX scSum (fun vs H Q E h => ?_) (fun cdv AA outer s H vs Q E hr h => ?_)
  · obtain ⟨a, p, b, q, s, rfl, _⟩ := h
    rfl
  · obtain ⟨a, p, b, q, s, rfl, ha, hb, op, oq, hs, k⟩ := h
    obtain ⟨fdL, GL, bL⟩ := cL.ex
    refine ⟨_, pss_one (ps_ret (pe_call GL (hr.mono (by decide)) rfl gL cL.kp bL .nil (E := E0) passL (pa_cons (pe_op L2.op_add (pe_op op_mulW (pe_ix ix_tup (pv 0) pe_int (fun _ _ => rfl)) (pe_ix ix_tup (pv 1) pe_int (fun _ _ => rfl))) (pe_op op_mulW (pe_op op_mulW (pv 2) (pe_ix ix_tup (pv 1) pe_int (fun _ _ => rfl))) (pe_ix ix_tup (pv 0) pe_int (fun _ _ => rfl)))) (pa_cons (pe_op op_mulW (pe_ix ix_tup (pv 0) pe_int (fun _ _ => rfl)) (pe_ix ix_tup (pv 1) pe_int (fun _ _ => rfl))) pa_nil)))), ?_⟩
    exact ⟨_, rfl, _, _, _, _, rfl, rfl, SqT.of ha, rfl, _, rfl, _, _, _, _, rfl, rfl, SqT.of hb, rfl, _, _, rfl, rfl, op.b1.cm oq.b2, _, rfl, _, rfl, _, _, _, _, rfl, rfl, SqT.of hb, rfl, _, _, rfl, rfl, (Bd_s hs).cm oq.b1, _, rfl, _, _, _, _, rfl, rfl, SqT.of ha, rfl, _, _, rfl, rfl, (oq.b1.sgn hs).cm op.b2, _, _, rfl, rfl, _, rfl, _, _, _, _, rfl, rfl, SqT.of ha, rfl, _, rfl, _, _, _, _, rfl, rfl, SqT.of hb, rfl, _, _, rfl, rfl, op.b2.cm oq.b2, _, _, rfl, Int.mul_ne_zero op.ne oq.ne, op.b2.mul oq.b2, k⟩
theorem scTimes : FnScope ["p", "q"] ["p", "q"] (defScope sTimes) := ⟨rfl, rfl, rfl, by decide +kernel, rfl, by decide +kernel, by decide +kernel⟩
def spTimes : Sp := fun vs H Q _ => ∃ a p b q, vs = [.ref a, .ref b] ∧ TupAt H a p ∧ TupAt H b q ∧ Prt p ∧ Prt q ∧ ∀ r H', Ext H H' → TupAt H' r (low (p.1 * q.1) (p.2 * q.2)) → Q (.ref r) H'
theorem ok_times {f : Addr} {fd : FuncData} (F : Fun K "_law_times" "_law_times" sTimes f fd) {k : Addr} (gL : mg "_law_low" = some (.ref k)) (cL : Cal P w K mg base 1 k ["top", "bottom"] spLow) : FnOk P w K mg base (L2.CX P w) 2 f fd ["p", "q"] spTimes := by
  refine F.okX scTimes (fun vs H Q E h => ?_) (fun cdv AA outer s H vs Q E hr h => ?_)
  · obtain ⟨a, p, b, q, rfl, _⟩ := h
    rfl
  · obtain ⟨a, p, b, q, rfl, ha, hb, op, oq, k⟩ := h
    obtain ⟨fdL, GL, bL⟩ := cL.ex
    refine ⟨_, pss_one (ps_ret (pe_call GL (hr.mono (by decide)) rfl gL cL.kp bL .nil (E := E0) passL (pa_cons (pe_op op_mulW (pe_ix ix_tup (pv 0) pe_int (fun _ _ => rfl)) (pe_ix ix_tup (pv 1) pe_int (fun _ _ => rfl))) (pa_cons (pe_op op_mulW (pe_ix ix_tup (pv 0) pe_int (fun _ _ => rfl)) (pe_ix ix_tup (pv 1) pe_int (fun _ _ => rfl))) pa_nil)))), ?_⟩
    exact ⟨_, rfl, _, _, _, _, rfl, rfl, SqT.of ha, rfl, _, rfl, _, _, _, _, rfl, rfl, SqT.of hb, rfl, _, _, rfl, rfl, op.b1.cm oq.b1, _, rfl, _, _, _, _, rfl, rfl, SqT.of ha, rfl, _, rfl, _, _, _, _, rfl, rfl, SqT.of hb, rfl, _, _, rfl, rfl, op.b2.cm oq.b2, _, _, rfl, Int.mul_ne_zero op.ne oq.ne, op.b2.mul oq.b2, k⟩
theorem scPower : FnScope ["p", "k", "top", "bottom", "j"] ["p", "k"] (defScope sPower) := ⟨rfl, rfl, rfl, by decide +kernel, rfl, by decide +kernel, by decide +kernel⟩
def spPower : Sp := fun vs H Q _ => ∃ a p k b, vs = [.ref a, .int k] ∧ TupAt H a p ∧ 0 ≤ k ∧ k ≤ 64 ∧ p.1.natAbs < 2 ^ b ∧ p.2.natAbs < 2 ^ b ∧ b < 4000 ∧ b * k.toNat < 4000 ∧ ∀ r H', Ext H H' → TupAt H' r (p.1 ^ k.toNat, p.2 ^ k.toNat) → Q (.ref r) H'
theorem ok_power {f : Addr} {fd : FuncData} (F : Fun K "_law_power" "_law_power" sPower f fd) (ra : mg "range" = none) : FnOk P w K mg base (L2.CX P w) 1 f fd ["p", "k"] spPower := by
  refine F.okX scPower (fun vs H Q E h => ?_) (fun cdv AA outer s H vs Q E hr h => ?_)
  · obtain ⟨a, p, k, b, rfl, _⟩ := h
    rfl
  · obtain ⟨a, p, k, b, rfl, hA, k0, k1, b1, b2, b3, b4, kk⟩ := h
    refine ⟨_, pss_cons (ps_set (i := 2) scPower.nd rfl (Or.inl rfl) pe_int) (pss_cons (ps_set (i := 3) scPower.nd rfl (Or.inl rfl) pe_int)
      (pss_cons (ps_for (passes_of rfl) rfl (pi_range1 rfl ra (pa_cons (pv 1) pa_nil)) (pg_name (i := 4) scPower.nd rfl (Or.inl rfl))
        (pss_cons (ps_set (i := 2) scPower.nd rfl (Or.inl rfl) (pe_op op_mulW (pv 2) (pe_ix ix_tup (pv 0) pe_int (fun _ _ => rfl))))
        (pss_one (ps_set (i := 3) scPower.nd rfl (Or.inl rfl) (pe_op op_mulW (pv 3) (pe_ix ix_tup (pv 0) pe_int (fun _ _ => rfl)))))))
      (pss_one (ps_ret (pe_tup (pa_cons (pv 2) (pa_cons (pv 3) pa_nil))))))), ?_⟩
    refine ⟨_, rfl, k, rfl, by omega, by omega, for_range (lo := 0) (n := k.toNat) (fun i σ H2 => H2 = H ∧ ∃ v, σ = [some (.ref a), some (.int k), some (.int (p.1 ^ i)), some (.int (p.2 ^ i)), v]) ⟨rfl, none, by simp [Int.pow_zero]; rfl⟩ ?_ ?_⟩
    · rintro i σ H2 hi ⟨rfl, v, rfl⟩
      have bi : b * i < 4000 := Nat.lt_of_le_of_lt (Nat.mul_le_mul_left b (Nat.le_of_lt hi)) b4
      have c1 := (pow_bd b1 bi).cm (show Bd p.1 from Nat.lt_of_lt_of_le b1 (Nat.pow_le_pow_right (by decide) (Nat.le_of_lt b3)))
      have c2 := (pow_bd b2 bi).cm (show Bd p.2 from Nat.lt_of_lt_of_le b2 (Nat.pow_le_pow_right (by decide) (Nat.le_of_lt b3)))
      refine ⟨_, rfl, _, rfl, _, _, _, _, rfl, rfl, SqT.of hA, rfl, _, _, rfl, rfl, c1, _, rfl, _, rfl, _, _, _, _, rfl, rfl, SqT.of hA, rfl, _, _, rfl, rfl, c2, rfl, some (.int (0 + i)), ?_⟩
      rw [Int.pow_succ, Int.pow_succ]
      rfl
    · rintro σ H2 ⟨rfl, v, rfl⟩
      exact ⟨_, rfl, _, rfl, (by show 2 ≤ sizeLine; decide), fun r nr => kk r _ (ext1 nr) upd_same⟩
theorem scInt : FnScope ["x"] ["x"] (defScope sInt) := ⟨rfl, rfl, rfl, by decide +kernel, rfl, by decide +kernel, by decide +kernel⟩
def spInt : Sp := fun vs H Q _ => ∃ n, vs = [.int n] ∧ Q (.bl true) H
theorem ok_int {f : Addr} {fd : FuncData} (F : Fun K "_law_int" "_law_int" sInt f fd) (isi : mg "isinstance" = none) (it : mg "int" = none) (bo : mg "bool" = none) : FnOk P w K mg base (L2.CX P w) 1 f fd ["x"] spInt := by
  refine F.okX scInt (fun vs H Q E h => ?_) (fun cdv AA outer s H vs Q E hr h => ?_)
  · obtain ⟨n, rfl, _⟩ := h
    rfl
  · obtain ⟨n, rfl, k⟩ := h
    refine ⟨_, pss_one (ps_ret (pe_and (pe_callB call_isi (by rfl) isi boot_isi (pa_cons (pv 0) (pa_cons (pe_bltn (v := .ty "int") (by rfl) it boot_int rfl) pa_nil)))
      (pe_one (pe_not (pe_callB call_isi (by rfl) isi boot_isi (pa_cons (pv 0) (pa_cons (pe_bltn (v := .ty "bool") (by rfl) bo boot_bool rfl) pa_nil))))))), ?_⟩
    exact ⟨_, rfl, _, _, _, _, true, rfl, .ty "int", tyI _, kit_II, _, rfl, iteT ⟨_, rfl, _, _, _, _, false, rfl, .ty "bool", tyI _, kit_ty (by decide +kernel), _, rfl, k⟩⟩
theorem scIs : FnScope ["x", "due"] ["x", "due"] (defScope sIs) := ⟨rfl, rfl, rfl, by decide +kernel, rfl, by decide +kernel, by decide +kernel⟩
def spIs (A : Adr) : Sp := fun vs H Q _ => ∃ a p d, vs = [.ref a, .ref d] ∧ FracAt A.C H a p ∧ TupAt H d p ∧ ∀ H', Ext H H' → Q (.bl true) H'
theorem eqv_ii (a b : Int) : PyData.eqv (.tuple [.int a, .int b]) (.tuple [.int a, .int b]) = true := by simp [PyData.eqv, PyData.eqvAll]
theorem ok_is {f : Addr} {fd : FuncData} (F : Fun K "_law_is" "_law_is" sIs f fd) (T : FT K mg A) {k : Addr} (gI : mg "_law_int" = some (.ref k)) (cI : Cal P w K mg base 1 k ["x"] spInt) : FnOk P w K mg base (L2.CX P w) 2 f fd ["x", "due"] (spIs A) := by
  refine F.okX scIs (fun vs H Q E h => ?_) (fun cdv AA outer s H vs Q E hr h => ?_)
  · obtain ⟨a, p, d, rfl, _⟩ := h
    rfl
  · obtain ⟨a, p, d, rfl, ha, hd, k⟩ := h
    obtain ⟨fdI, GI, bI⟩ := cI.ex
    refine ⟨_, pss_cons (ps_if (PW.pt (pw_or (pt_not (pt_val (pe_callB call_isi (by rfl) T.isi boot_isi (pa_cons (pv 0) (pa_cons (pe_glob (v := .ref A.C) (by rfl) T.mgC rfl) pa_nil)))))
        (pw_or (pt_not (pt_val (pe_call GI (hr.mono (by decide)) rfl gI cI.kp bI .nil (E := E0) passL (pa_cons (pe_fld (pv 0) rfl) pa_nil)))) (pw_or1 (pt_not (pt_val (pe_call GI (hr.mono (by decide)) rfl gI cI.kp bI .nil (E := E0) passL (pa_cons (pe_fld (pv 0) rfl) pa_nil)))))))) (pss_one (ps_ret pe_bl)) pss_nil)
      (pss_one (ps_ret (pe_cmpR (op_eqD hr.units) (pe_tup (pa_cons (pe_fld (pv 0) rfl) (pa_cons (pe_fld (pv 0) rfl) pa_nil))) (pv 1) (nomark _)))), ?_⟩
    obtain ⟨dx, hA⟩ := id ha
    refine ⟨_, rfl, _, _, _, _, true, rfl, .own A.C, T.tyF ha, kit_CC, _, rfl, iteF ?_⟩
    refine ⟨_, rfl, _, _, _, _, _, rfl, hA, T.cl, T.nN, fr_num _, _, rfl, _, rfl, iteF ?_⟩
    refine ⟨_, rfl, _, _, _, _, _, rfl, hA, T.cl, T.nD, fr_den _, _, rfl, _, rfl, iteF ?_⟩
    refine ⟨_, rfl, _, _, _, _, _, rfl, hA, T.cl, T.nN, fr_num _, _, rfl, _, _, _, _, _, rfl, hA, T.cl, T.nD, fr_den _, (by show 2 ≤ sizeLine; decide), fun t nt => ⟨_, rfl, ?_⟩⟩
    have hd' : (upd H t (.tup [V.int p.1, V.int p.2])) d = some (.tup [V.int p.1, V.int p.2]) := ext1 nt _ _ hd
    refine ⟨_, _, .tup (SqT.of upd_same) (.cons (.int _) (.cons (.int _) .nil)), .tup (SqT.of hd') (.cons (.int _) (.cons (.int _) .nil)), rfl, rfl, ?_⟩
    rw [eqv_ii]
    exact k _ (ext1 nt)
end
end Fx

set_option Elab.async false
set_option linter.all false
set_option maxRecDepth 100000
set_option maxHeartbeats 8000000
set_option exponentiation.threshold 20000
namespace Fx
open PySem PySem.Spec PyProof.Rows L2 FM
abbrev sSums : Stmt := top 24
abbrev sPowers : Stmt := top 25
abbrev sFloors : Stmt := top 26
abbrev sDivided : Stmt := top 27
abbrev sOrder : Stmt := top 28
/-- all that is known of Frac -/
structure FA (P : Program) (w : World) (K : PySem.W.Frag) (mg : Str → Option Value) (base : Heap) (A : Adr) : Prop where
  T : FT K mg A
  M : MkF P w K mg base A
  S : StF K A
  O : Cal P w K mg base 3 A.of_ ["value"] (spOf A)
  bAdd : BinF K A.C A.add .Add
  cAdd : Cal P w K mg base 3 A.add ["self", "other"] (spB A fadd)
  rAdd : RefF K A.C A.radd .Add
  cRadd : Cal P w K mg base 4 A.radd ["self", "other"] (spB A fun p q => fadd q p)
  bSub : BinF K A.C A.sub .Sub
  cSub : Cal P w K mg base 3 A.sub ["self", "other"] (spB A fsub)
  rSub : RefF K A.C A.rsub .Sub
  cRsub : Cal P w K mg base 4 A.rsub ["self", "other"] (spB A fun p q => fsub q p)
  bMul : BinF K A.C A.mul .Mult
  cMul : Cal P w K mg base 3 A.mul ["self", "other"] (spB A fmul)
  rMul : RefF K A.C A.rmul .Mult
  cRmul : Cal P w K mg base 4 A.rmul ["self", "other"] (spB A fun p q => fmul q p)
  bFlo : BinF K A.C A.flo .FloorDiv
  cFlo : Cal P w K mg base 4 A.flo ["self", "other"] (spFlo A)
  rFlo : RefF K A.C A.rflo .FloorDiv
  cRflo : Cal P w K mg base 4 A.rflo ["self", "other"] (spRflo A)
  bMod : BinF K A.C A.mod .Mod
  cMod : Cal P w K mg base 4 A.mod ["self", "other"] (spMod A)
  rMod : RefF K A.C A.rmod .Mod
  cRmod : Cal P w K mg base 5 A.rmod ["self", "other"] (spRmod A)
  bPow : BinF K A.C A.pow .Pow
  cPow : Cal P w K mg base 3 A.pow ["self", "other"] (spPow A)
  uNeg : UnF K A.C A.neg "__neg__"
  cNeg : Cal P w K mg base 3 A.neg ["self"] (spU A fneg)
  uAbs : UnF K A.C A.abs "__abs__"
  cAbs : Cal P w K mg base 3 A.abs ["self"] (spU A fabs)
  uBool : UnF K A.C A.bool "__bool__"
  cBool : Cal P w K mg base 1 A.bool ["self"] (spBool A)
  uStr : UnF K A.C A.str "__str__"
  cStr : Cal P w K mg base 1 A.str ["self"] (spStr A)
  kEq : CmpF K A.C A.eq "__eq__"
  cEq : Cal P w K mg base 1 A.eq ["self", "other"] (spC A ceq)
  kLt : CmpF K A.C A.lt "__lt__"
  cLt : Cal P w K mg base 4 A.lt ["self", "other"] (spC A clt)
  kLe : CmpF K A.C A.le "__le__"
  cLe : Cal P w K mg base 4 A.le ["self", "other"] (spC A cle)
  kGt : CmpF K A.C A.gt "__gt__"
  cGt : Cal P w K mg base 4 A.gt ["self", "other"] (spC A cgt)
  kGe : CmpF K A.C A.ge "__ge__"
  cGe : Cal P w K mg base 4 A.ge ["self", "other"] (spC A cge)
  kNe : NeF K A.C A.eq
  mOver : Meth K A.C "over" A.over
  cOver : Cal P w K mg base 4 A.over ["self", "b"] (spOver A)
  noIn : NoIn K A.C
  ab : mg "abs" = none
  all : mg "all" = none
/-- a def of the law's own, by its name -/
def LF (P : Program) (w : World) (K : PySem.W.Frag) (mg : Str → Option Value) (base : Heap) (x : Str) (k : Nat) (ps : List Str) (sp : Sp) : Prop := ∃ f, mg x = some (.ref f) ∧ Cal P w K mg base k f ps sp
/-- a Frac, a tuple of two ints, a number, an int -/
def IsF (A : Adr) (q : Int × Int) : V → Hp → Prop := fun v H => ∃ f, v = .ref f ∧ FracAt A.C H f q
def IsT (q : Int × Int) : V → Hp → Prop := fun v H => ∃ d, v = .ref d ∧ TupAt H d q
def IsN (A : Adr) (q : Int × Int) : V → Hp → Prop := fun v H => Num A H v q
def IsI (n : Int) : V → Hp → Prop := fun v _ => v = .int n
theorem moF {A : Adr} {q : Int × Int} : Mo (IsF A q) := fun _ _ _ e ⟨f, h, g⟩ => ⟨f, h, g.ext e⟩
theorem moT {q : Int × Int} : Mo (IsT q) := fun _ _ _ e ⟨f, h, g⟩ => ⟨f, h, e _ _ g⟩
theorem moN {A : Adr} {q : Int × Int} : Mo (IsN A q) := fun _ _ _ e h => Num.ext h e
theorem moI {n : Int} : Mo (IsI n) := fun _ _ _ _ h => h
def RowS (A : Adr) : V → Hp → Prop := fun v H => ∃ t a b q, v = .ref t ∧ H t = some (.tup [a, b]) ∧ IsF A q a H ∧ IsT q b H
theorem moS {A : Adr} : Mo (RowS A) := fun _ _ _ e ⟨t, a, b, q, h1, h2, h3, h4⟩ => ⟨t, a, b, q, h1, e _ _ h2, moF _ _ _ e h3, moT _ _ _ e h4⟩
section
variable {σ : L2.St} {H0 : Hp} {t1 t2 t3 : TE} {S1 S2 S3 R : V → Hp → Prop} {A : Adr} {p q : Int × Int} {E : XK}
theorem Gv.eF (h : Gv σ H0 t1 (IsF A p)) (e : p = q) : Gv σ H0 t1 (IsF A q) := e ▸ h
theorem Gv.eT (h : Gv σ H0 t1 (IsT p)) (e : p = q) : Gv σ H0 t1 (IsT q) := e ▸ h
theorem Gv.num (h : Gv σ H0 t1 (IsF A p)) : Gv σ H0 t1 (IsN A p) := h.imp fun _ _ ⟨f, e, g⟩ => .inl ⟨f, e, g⟩
theorem Gv.inum {n : Int} (h : Gv σ H0 t1 (IsI n)) : Gv σ H0 t1 (IsN A (n, 1)) := h.imp fun _ _ e => .inr ⟨e, rfl⟩
theorem gv_row (h1 : Gv σ H0 t1 (IsF A q)) (h2 : Gv σ H0 t2 (IsT q)) : Gv σ H0 (tTup (tCons t1 (tCons t2 tNil))) (RowS A) := (gv_pair moF h1 h2 moT).imp fun _ _ ⟨t, a, b, e, h, r1, r2⟩ => ⟨t, a, b, q, e, h, r1, r2⟩
theorem gv_call1 {sp : Sp} (h1 : Gv σ H0 t1 S1) (h : ∀ x H Q, Ext H0 H → S1 x H → (∀ v H', Ext H H' → R v H' → Q v H') → sp [x] H Q E) : Gv σ H0 (tCall sp [] E (tCons t1 tNil)) R := fun H Q e k =>
  h1 H _ e fun a H1 e1 r1 => h a H1 _ (e.trans e1) r1 fun v H' e' r' => k v H' (e1.trans e') r'
theorem gv_call2 {sp : Sp} (h1 : Gv σ H0 t1 S1) (m1 : Mo S1) (h2 : Gv σ H0 t2 S2) (h : ∀ x y H Q, Ext H0 H → S1 x H → S2 y H → (∀ v H', Ext H H' → R v H' → Q v H') → sp [x, y] H Q E) : Gv σ H0 (tCall sp [] E (tCons t1 (tCons t2 tNil))) R := fun H Q e k =>
  h1 H _ e fun a H1 e1 r1 => h2 H1 _ (e.trans e1) fun b H2 e2 r2 => h a b H2 _ ((e.trans e1).trans e2) (m1 _ _ _ e2 r1) r2 fun v H' e' r' => k v H' ((e1.trans e2).trans e') r'
theorem gv_call3 {sp : Sp} (h1 : Gv σ H0 t1 S1) (m1 : Mo S1) (h2 : Gv σ H0 t2 S2) (m2 : Mo S2) (h3 : Gv σ H0 t3 S3) (h : ∀ x y z H Q, Ext H0 H → S1 x H → S2 y H → S3 z H → (∀ v H', Ext H H' → R v H' → Q v H') → sp [x, y, z] H Q E) : Gv σ H0 (tCall sp [] E (tCons t1 (tCons t2 (tCons t3 tNil)))) R := fun H Q e k =>
  h1 H _ e fun a H1 e1 r1 => h2 H1 _ (e.trans e1) fun b H2 e2 r2 => h3 H2 _ ((e.trans e1).trans e2) fun c H3 e3 r3 => h a b c H3 _ (((e.trans e1).trans e2).trans e3) (m1 _ _ _ (e2.trans e3) r1) (m2 _ _ _ e3 r2) r3 fun v H' e' r' => k v H' (((e1.trans e2).trans e3).trans e') r'
theorem gv_F {i : Nat} {a : Addr} (h : σ[i]? = some (some (.ref a))) (f : FracAt A.C H0 a p) : Gv σ H0 (tVar i) (IsF A p) := gv_v h ⟨a, rfl, f⟩ moF
theorem gv_T {i : Nat} {a : Addr} (h : σ[i]? = some (some (.ref a))) (f : TupAt H0 a p) : Gv σ H0 (tVar i) (IsT p) := gv_v h ⟨a, rfl, f⟩ moT
theorem gv_I {i : Nat} {n : Int} (h : σ[i]? = some (some (.int n))) : Gv σ H0 (tVar i) (IsI n) := gv_v h rfl moI
theorem gv_i (n : Int) : Gv σ H0 (tC (.int n)) (IsI n) := gv_c _
theorem gv_ni (n : Int) (h : Gv σ H0 t1 (IsI n)) : Gv σ H0 (tUn (rU fun i => .int (-i)) t1) (IsI (-n)) := gv_un h fun x H Q e r k => ⟨n, r, k _ H Ext.rfl' rfl⟩
theorem gv_BF {g : Int × Int → Int × Int → Int × Int} (h1 : Gv σ H0 t1 (IsF A p)) (h2 : Gv σ H0 t2 (IsN A q)) (op : Okf p) (oq : Okf q) : Gv σ H0 (tOp (rBF A g) t1 t2) (IsF A (g p q)) :=
  gv_op moF h1 h2 fun x y H Q e ⟨a, e1, f⟩ r2 k => ⟨a, p, q, e1, f, r2, op, oq, fun r H' e' hf => k _ H' e' ⟨r, rfl, hf⟩⟩
theorem gv_BR {g : Int × Int → Int × Int → Int × Int} {n : Int} (h1 : Gv σ H0 t1 (IsI n)) (h2 : Gv σ H0 t2 (IsF A q)) (bn : Bd n) (oq : Okf q) : Gv σ H0 (tOp (rBR A g) t1 t2) (IsF A (g (n, 1) q)) :=
  gv_op moI h1 h2 fun x y H Q e r1 ⟨b, e2, f⟩ k => ⟨n, b, q, r1, e2, f, bn, oq, fun r H' e' hf => k _ H' e' ⟨r, rfl, hf⟩⟩
theorem gv_sum {s : Int} (h1 : Gv σ H0 t1 (IsT p)) (h2 : Gv σ H0 t2 (IsT q)) (h3 : Gv σ H0 t3 (IsI s)) (op : Prt p) (oq : Prt q) (hs : s = 1 ∨ s = -1) : Gv σ H0 (tCall spSum [] E (tCons t1 (tCons t2 (tCons t3 tNil)))) (IsT (low (p.1 * q.2 + s * q.1 * p.2) (p.2 * q.2))) :=
  gv_call3 h1 moT h2 moT h3 fun x y z H Q e ⟨a, e1, f1⟩ ⟨b, e2, f2⟩ e3 k => ⟨a, p, b, q, s, by rw [e1, e2, e3], f1, f2, op, oq, hs, fun r H' e' f => k _ H' e' ⟨r, rfl, f⟩⟩
theorem gv_times (h1 : Gv σ H0 t1 (IsT p)) (h2 : Gv σ H0 t2 (IsT q)) (op : Prt p) (oq : Prt q) : Gv σ H0 (tCall spTimes [] E (tCons t1 (tCons t2 tNil))) (IsT (low (p.1 * q.1) (p.2 * q.2))) :=
  gv_call2 h1 moT h2 fun x y H Q e ⟨a, e1, f1⟩ ⟨b, e2, f2⟩ k => ⟨a, p, b, q, by rw [e1, e2], f1, f2, op, oq, fun r H' e' f => k _ H' e' ⟨r, rfl, f⟩⟩
theorem gv_tup {n m : Int} (h1 : Gv σ H0 t1 (IsI n)) (h2 : Gv σ H0 t2 (IsI m)) : Gv σ H0 (tTup (tCons t1 (tCons t2 tNil))) (IsT (n, m)) := (gv_pair moI h1 h2 moI).imp fun _ _ ⟨t, a, b, e, h, r1, r2⟩ => ⟨t, e, by
  cases r1
  cases r2
  exact h⟩
theorem gv_t1 {K : PySem.W.Frag} (h1 : Gv σ H0 t1 (IsT p)) : Gv σ H0 (tOp (rIxT K) t1 (tC (.int 0))) (IsI p.1) := gv_op moT h1 (gv_i 0) fun x y H Q e ⟨a, e1, f⟩ e2 k => ⟨a, _, 0, .int p.1, e1, e2, SqT.of f, rfl, k _ H Ext.rfl' rfl⟩
theorem gv_t2 {K : PySem.W.Frag} (h1 : Gv σ H0 t1 (IsT p)) : Gv σ H0 (tOp (rIxT K) t1 (tC (.int 1))) (IsI p.2) := gv_op moT h1 (gv_i 1) fun x y H Q e ⟨a, e1, f⟩ e2 k => ⟨a, _, 1, .int p.2, e1, e2, SqT.of f, rfl, k _ H Ext.rfl' rfl⟩
theorem gv_frac1 {n : Int} (h1 : Gv σ H0 t1 (IsI n)) : Gv σ H0 (tFr1 A (tCons t1 tNil)) (IsF A (n, 1)) := fun H Q e k => h1 H _ e fun v H1 e1 r1 => ⟨n, by rw [r1], fun r H' e' f => k _ H' (e1.trans e') ⟨r, rfl, f⟩⟩
theorem gv_frac0 : Gv σ H0 (tFr0 A) (IsF A (0, 1)) := fun H Q e k => fun r H' e' f => k _ H' e' ⟨r, rfl, f⟩
theorem gv_of (h1 : Gv σ H0 t1 (IsN A q)) : Gv σ H0 (tSMeth A.C (spOf A) E (tC (.ref A.C)) (tCons t1 tNil)) (IsF A q) := fun H Q e k => ⟨rfl, h1 H _ e fun v H1 e1 r1 => ⟨v, q, rfl, r1, fun r H' e' f => k _ H' (e1.trans e') ⟨r, rfl, f⟩⟩⟩
theorem gv_neg (h1 : Gv σ H0 t1 (IsF A p)) (op : Okf p) : Gv σ H0 (tUn (rUn A.C (spU A fneg) E) t1) (IsF A (fneg p)) := gv_un h1 fun x H Q e ⟨a, e1, f⟩ k => ⟨by rw [e1]; exact f.ins, a, p, by rw [e1], f, op, fun r H' e' hf => k _ H' e' ⟨r, rfl, hf⟩⟩
theorem gv_abs (h1 : Gv σ H0 t1 (IsF A p)) (op : Okf p) : Gv σ H0 (tCB (rCall1 A.C (spU A fabs) (fun _ => True) E) (tCons t1 tNil)) (IsF A (fabs p)) := fun H Q e k => h1 H _ e fun v H1 e1 ⟨a, e2, f⟩ => ⟨v, rfl, by rw [e2]; exact f.ins, a, p, by rw [e2], f, op, fun r H' e' hf => ⟨trivial, k _ H' (e1.trans e') ⟨r, rfl, hf⟩⟩⟩
theorem gv_absI {n : Int} (h1 : Gv σ H0 t1 (IsI n)) : Gv σ H0 (tCB (fun xs H Q => ∃ i, xs = [V.int i] ∧ Q (.int (if i < 0 then -i else i)) H) (tCons t1 tNil)) (IsI (n.natAbs : Int)) := fun H Q e k => h1 H _ e fun v H1 e1 r1 => ⟨n, by rw [r1], k _ H1 e1 (by show V.int _ = V.int _; congr 1; split <;> omega)⟩
end
section
variable {P : Program} {w : World} {K : PySem.W.Frag} {mg : Str → Option Value} {base : Heap} {A : Adr}
theorem scSums : FnScope ["x", "y", "n", "p", "q", "m", "z", "w", "rows", "a", "b"] ["x", "y", "n", "p", "q"] (defScope sSums) := ⟨rfl, rfl, rfl, by decide +kernel, rfl, by decide +kernel, by decide +kernel⟩
theorem boot_all : bootBuiltins "all" = some (.builtin "all") := by decide +kernel
def spSums (A : Adr) : Sp := fun vs H Q _ => ∃ x y n p q fx fy, vs = [.ref x, .ref y, .int n, .ref p, .ref q] ∧ FracAt A.C H x fx ∧ FracAt A.C H y fy ∧ TupAt H p fx ∧ TupAt H q fy ∧ Okf fx ∧ Okf fy ∧ Bd n ∧ ∀ H', Ext H H' → Q (.bl true) H'
theorem fadd1 (p : Int × Int) (q : Int × Int) : low (p.1 * q.2 + 1 * q.1 * p.2) (p.2 * q.2) = fadd p q := by unfold fadd; rw [Int.one_mul]
theorem fsub1 (p : Int × Int) (q : Int × Int) : low (p.1 * q.2 + -1 * q.1 * p.2) (p.2 * q.2) = fsub p q := by
  unfold fsub
  rw [show -1 * q.1 * p.2 = -(q.1 * p.2) by rw [Int.neg_one_mul, Int.neg_mul], ← Int.sub_eq_add_neg]
theorem ok_sums {f : Addr} {fd : FuncData} (F : Fun K "_law_sums" "_law_sums" sSums f fd) (F_ : FA P w K mg base A) (hS : LF P w K mg base "_law_sum" 2 ["p", "q", "sign"] spSum) (hT : LF P w K mg base "_law_times" 2 ["p", "q"] spTimes) (hI : LF P w K mg base "_law_is" 2 ["x", "due"] (spIs A)) :
    FnOk P w K mg base (L2.CX P w) 7 f fd ["x", "y", "n", "p", "q"] (spSums A) := by
  refine F.okX scSums (fun vs H Q E h => ?_) (fun cdv AA outer s H vs Q E hr h => ?_)
  · obtain ⟨x, y, n, p, q, fx, fy, rfl, _⟩ := h
    rfl
  · obtain ⟨x, y, n, p, q, fx, fy, rfl, hx, hy, hp, hq, ox, oy, bn, k⟩ := h
    obtain ⟨fS, gS, cS⟩ := hS
    obtain ⟨fT, gT, cT⟩ := hT
    obtain ⟨fI, gI, cI⟩ := hI
    obtain ⟨fdS, GS, bS⟩ := cS.ex
    obtain ⟨fdT, GT, bT⟩ := cT.ex
    obtain ⟨fdI, GI, bI⟩ := cI.ex
    obtain ⟨fdO, GO, bO⟩ := F_.O.ex
    obtain ⟨fdN, GN, bN⟩ := F_.cNeg.ex
    obtain ⟨fdA, GA, bA⟩ := F_.cAbs.ex
    obtain ⟨fd1, G1, b1⟩ := F_.cAdd.ex
    obtain ⟨fd2, G2, b2⟩ := F_.cRadd.ex
    refine ⟨_, pss_cons (ps_set (i := 5) scSums.nd rfl (Or.inl rfl) (pe_tup (pa_cons (pv 2) (pa_cons pe_int pa_nil))))
      (pss_cons (ps_set (i := 6) scSums.nd rfl (Or.inl rfl) (pv 0))
      (pss_cons (ps_aug (i := 6) scSums.nd rfl (Or.inl rfl) (pv 1) (iop_own F_.bAdd F_.noIn G1 (hr.mono (by decide)) b1 (E := E0) passL))
      (pss_cons (ps_set (i := 7) scSums.nd rfl (Or.inl rfl) (pv 2))
      (pss_cons (ps_aug (i := 7) scSums.nd rfl (Or.inl rfl) (pv 0) (iop_ref F_.rAdd F_.noIn G2 (hr.mono (by decide)) b2 (E := E0) passL))
      (pss_cons (ps_set (i := 8) scSums.nd rfl (Or.inl rfl) (pe_lst (pa_cons (pe_tup (pa_cons (pv 6) (pa_cons (pe_call GS (hr.mono (by decide)) rfl gS cS.kp bS .nil (E := E0) passL (pa_cons (pv 3) (pa_cons (pv 4) (pa_cons pe_int pa_nil)))) pa_nil))) (pa_cons (pe_tup (pa_cons (pv 7) (pa_cons (pe_call GS (hr.mono (by decide)) rfl gS cS.kp bS .nil (E := E0) passL (pa_cons (pv 3) (pa_cons (pv 5) (pa_cons pe_int pa_nil)))) pa_nil))) (pa_cons (pe_tup (pa_cons (pv 0) (pa_cons (pv 3) pa_nil))) (pa_cons (pe_tup (pa_cons (pv 1) (pa_cons (pv 4) pa_nil))) pa_nil)))))) (pss_cons (ps_set (i := 8) scSums.nd rfl (Or.inl rfl) (pe_op op_cat (pv 8) (pe_lst (pa_cons (pe_tup (pa_cons (pe_smeth (pe_glob (v := .ref A.C) (by rfl) F_.T.mgC rfl) F_.S.cr F_.S.sm F_.T.tC GO (hr.mono (by decide)) bO (E := E0) passL (pa_cons (pv 0) pa_nil)) (pa_cons (pv 3) pa_nil))) (pa_cons (pe_tup (pa_cons (pe_smeth (pe_glob (v := .ref A.C) (by rfl) F_.T.mgC rfl) F_.S.cr F_.S.sm F_.T.tC GO (hr.mono (by decide)) bO (E := E0) passL (pa_cons (pv 2) pa_nil)) (pa_cons (pv 5) pa_nil))) (pa_cons (pe_tup (pa_cons (pe_frac1 F_.M F_.T (hr.mono (by decide)) rfl (pa_cons (pv 2) pa_nil)) (pa_cons (pv 5) pa_nil))) (pa_cons (pe_tup (pa_cons (pe_frac0 F_.M F_.T (hr.mono (by decide)) rfl) (pa_cons (pe_tup (pa_cons pe_int (pa_cons pe_int pa_nil))) pa_nil))) pa_nil))))))) (pss_cons (ps_set (i := 8) scSums.nd rfl (Or.inl rfl) (pe_op op_cat (pv 8) (pe_lst (pa_cons (pe_tup (pa_cons (pe_op (op_BF F_.bAdd F_.cAdd (hr.mono (by decide))) (pv 0) (pv 1)) (pa_cons (pe_call GS (hr.mono (by decide)) rfl gS cS.kp bS .nil (E := E0) passL (pa_cons (pv 3) (pa_cons (pv 4) (pa_cons pe_int pa_nil)))) pa_nil))) (pa_cons (pe_tup (pa_cons (pe_op (op_BF F_.bAdd F_.cAdd (hr.mono (by decide))) (pv 0) (pv 2)) (pa_cons (pe_call GS (hr.mono (by decide)) rfl gS cS.kp bS .nil (E := E0) passL (pa_cons (pv 3) (pa_cons (pv 5) (pa_cons pe_int pa_nil)))) pa_nil))) (pa_cons (pe_tup (pa_cons (pe_op (op_BR int_add F_.rAdd F_.cRadd (hr.mono (by decide))) (pv 2) (pv 0)) (pa_cons (pe_call GS (hr.mono (by decide)) rfl gS cS.kp bS .nil (E := E0) passL (pa_cons (pv 3) (pa_cons (pv 5) (pa_cons pe_int pa_nil)))) pa_nil))) pa_nil)))))) (pss_cons (ps_set (i := 8) scSums.nd rfl (Or.inl rfl) (pe_op op_cat (pv 8) (pe_lst (pa_cons (pe_tup (pa_cons (pe_op (op_BF F_.bSub F_.cSub (hr.mono (by decide))) (pv 0) (pv 1)) (pa_cons (pe_call GS (hr.mono (by decide)) rfl gS cS.kp bS .nil (E := E0) passL (pa_cons (pv 3) (pa_cons (pv 4) (pa_cons (pe_un L2.un_neg pe_int) pa_nil)))) pa_nil))) (pa_cons (pe_tup (pa_cons (pe_op (op_BF F_.bSub F_.cSub (hr.mono (by decide))) (pv 0) (pv 2)) (pa_cons (pe_call GS (hr.mono (by decide)) rfl gS cS.kp bS .nil (E := E0) passL (pa_cons (pv 3) (pa_cons (pv 5) (pa_cons (pe_un L2.un_neg pe_int) pa_nil)))) pa_nil))) (pa_cons (pe_tup (pa_cons (pe_op (op_BR int_sub F_.rSub F_.cRsub (hr.mono (by decide))) (pv 2) (pv 0)) (pa_cons (pe_call GS (hr.mono (by decide)) rfl gS cS.kp bS .nil (E := E0) passL (pa_cons (pv 5) (pa_cons (pv 3) (pa_cons (pe_un L2.un_neg pe_int) pa_nil)))) pa_nil))) pa_nil)))))) (pss_cons (ps_set (i := 8) scSums.nd rfl (Or.inl rfl) (pe_op op_cat (pv 8) (pe_lst (pa_cons (pe_tup (pa_cons (pe_op (op_BF F_.bMul F_.cMul (hr.mono (by decide))) (pv 0) (pv 1)) (pa_cons (pe_call GT (hr.mono (by decide)) rfl gT cT.kp bT .nil (E := E0) passL (pa_cons (pv 3) (pa_cons (pv 4) pa_nil))) pa_nil))) (pa_cons (pe_tup (pa_cons (pe_op (op_BF F_.bMul F_.cMul (hr.mono (by decide))) (pv 0) (pv 2)) (pa_cons (pe_call GT (hr.mono (by decide)) rfl gT cT.kp bT .nil (E := E0) passL (pa_cons (pv 3) (pa_cons (pv 5) pa_nil))) pa_nil))) (pa_cons (pe_tup (pa_cons (pe_op (op_BR int_mul F_.rMul F_.cRmul (hr.mono (by decide))) (pv 2) (pv 0)) (pa_cons (pe_call GT (hr.mono (by decide)) rfl gT cT.kp bT .nil (E := E0) passL (pa_cons (pv 3) (pa_cons (pv 5) pa_nil))) pa_nil))) pa_nil)))))) (pss_cons (ps_set (i := 8) scSums.nd rfl (Or.inl rfl) (pe_op op_cat (pv 8) (pe_lst (pa_cons (pe_tup (pa_cons (pe_un (o_neg F_.uNeg GN (hr.mono (by decide)) bN (E := E0) passL) (pv 0)) (pa_cons (pe_tup (pa_cons (pe_un L2.un_neg (pe_ix ix_tup (pv 3) pe_int (fun _ _ => rfl))) (pa_cons (pe_ix ix_tup (pv 3) pe_int (fun _ _ => rfl)) pa_nil))) pa_nil))) (pa_cons (pe_tup (pa_cons (pe_callB (o_abs F_.uAbs GA (hr.mono (by decide)) bA (E := E0) passL) (by rfl) F_.ab boot_abs' (pa_cons (pv 0) pa_nil)) (pa_cons (pe_tup (pa_cons (pe_callB L2.call_abs (by rfl) F_.ab boot_abs' (pa_cons (pe_ix ix_tup (pv 3) pe_int (fun _ _ => rfl)) pa_nil)) (pa_cons (pe_ix ix_tup (pv 3) pe_int (fun _ _ => rfl)) pa_nil))) pa_nil))) pa_nil)))))
      (pss_one (ps_ret (pe_callB (cr_all rfl) (by rfl) F_.all boot_all (pa_cons (pe_lc (own := [("a", 9), ("b", 10)]) (g := gTup K 2 (gCons (gName 9) (gCons (gName 10) (gNil)))) rfl scSums.nd (pi_list (pv 8)) (blkOk_by (own := [("a", 9), ("b", 10)]) (N := ["x", "y", "n", "p", "q", "m", "z", "w", "rows", "a", "b"]) (sc := defScope sSums) (by decide +kernel)) (fun _ _ _ _ _ => pg_tup rfl (pgs_cons (pg_name (i := 9) scSums.nd rfl (Or.inl rfl)) (pgs_cons (pg_name (i := 10) scSums.nd rfl (Or.inl rfl)) (pgs_nil)))) (fun _ _ _ _ _ => pts_nil) (fun _ _ _ _ _ => (pe_call GI (hr.mono (by decide)) rfl gI cI.kp bI .nil (E := E0) passL (pa_cons (pv 9) (pa_cons (pv 10) pa_nil))))) pa_nil)))))))))))))), ?_⟩
    refine seq_gv (H0 := H) (gv_tup (gv_I rfl) (gv_i 1)) Ext.rfl' (fun v H1 e1 ⟨m, rv, hm⟩ => ?_)
    subst rv
    refine ⟨_, rfl, _, rfl, _, rfl, (hx.ext e1).ins, (hy.ext e1).ins, x, fx, .ref y, fy, rfl, hx.ext e1, .of (hy.ext e1), ox, oy, fun z H2 e2 hz => ?_⟩
    refine ⟨_, rfl, _, rfl, _, rfl, ⟨n, rfl⟩, (hx.ext (e1.trans e2)).ins, x, fx, .int n, (n, 1), rfl, hx.ext (e1.trans e2), .int n, ox, .int bn, fun w' H3 e3 hw => ?_⟩
    have e13 := (e1.trans e2).trans e3
    have kk : ∀ H', Ext H3 H' → Q (.bl true) H' := fun H' e => k H' (e13.trans e)
    replace hx := hx.ext e13
    replace hy := hy.ext e13
    replace hz := hz.ext e3
    have hp : TupAt H3 p fx := e13 _ _ hp
    have hq : TupAt H3 q fy := e13 _ _ hq
    have hm : TupAt H3 m (n, 1) := (e2.trans e3) _ _ hm
    have hw : FracAt A.C H3 w' (fadd fx (n, 1)) := by rw [fadd_comm]; exact hw
    have om : Okf (n, 1) := .int bn
    clear e1 e2 e3 e13 k
    refine seq_gv (H0 := H3) (gv_lst moS (gva_cons moS (gv_row (gv_F rfl hz) ((gv_sum (gv_T rfl hp) (gv_T rfl hq) (gv_i 1) ox.prt oy.prt (.inl rfl)).eT (fadd1 _ _))) (gva_cons moS (gv_row (gv_F rfl hw) ((gv_sum (gv_T rfl hp) (gv_T rfl hm) (gv_i 1) ox.prt om.prt (.inl rfl)).eT (fadd1 _ _))) (gva_cons moS (gv_row (gv_F rfl hx) (gv_T rfl hp)) (gva_cons moS (gv_row (gv_F rfl hy) (gv_T rfl hq)) gva_nil)))) (by show 4 ≤ sizeLine; decide)) Ext.rfl' (fun v0 H4 e rr => ?_)
    replace kk : ∀ H', Ext H4 H' → Q (.bl true) H' := fun H' e' => kk H' (e.trans e')
    replace hx := hx.ext e
    replace hy := hy.ext e
    replace hp : TupAt H4 p fx := e _ _ hp
    replace hq : TupAt H4 q fy := e _ _ hq
    replace hm : TupAt H4 m (n, 1) := e _ _ hm
    refine seq_gv (H0 := H4) (gv_cat moS (gv_v rfl rr (mo_lst moS)) (gv_lst moS (gva_cons moS (gv_row (gv_of (gv_F rfl hx).num) (gv_T rfl hp)) (gva_cons moS (gv_row (gv_of (gv_I rfl).inum) (gv_T rfl hm)) (gva_cons moS (gv_row (gv_frac1 (gv_I rfl)) (gv_T rfl hm)) (gva_cons moS (gv_row gv_frac0 (gv_tup (gv_i 0) (gv_i 1))) gva_nil)))) (by show 4 ≤ sizeLine; decide)) (by show 4+4 ≤ sizeLine; decide)) Ext.rfl' (fun v1 H5 e rr => ?_)
    replace kk : ∀ H', Ext H5 H' → Q (.bl true) H' := fun H' e' => kk H' (e.trans e')
    replace hx := hx.ext e
    replace hy := hy.ext e
    replace hp : TupAt H5 p fx := e _ _ hp
    replace hq : TupAt H5 q fy := e _ _ hq
    replace hm : TupAt H5 m (n, 1) := e _ _ hm
    refine seq_gv (H0 := H5) (gv_cat moS (gv_v rfl rr (mo_lst moS)) (gv_lst moS (gva_cons moS (gv_row (gv_BF (gv_F rfl hx) (gv_F rfl hy).num ox oy) ((gv_sum (gv_T rfl hp) (gv_T rfl hq) (gv_i 1) ox.prt oy.prt (.inl rfl)).eT (fadd1 _ _))) (gva_cons moS (gv_row (gv_BF (gv_F rfl hx) (gv_I rfl).inum ox om) ((gv_sum (gv_T rfl hp) (gv_T rfl hm) (gv_i 1) ox.prt om.prt (.inl rfl)).eT (fadd1 _ _))) (gva_cons moS (gv_row ((gv_BR (gv_I rfl) (gv_F rfl hx) bn ox).eF (fadd_comm _ _)) ((gv_sum (gv_T rfl hp) (gv_T rfl hm) (gv_i 1) ox.prt om.prt (.inl rfl)).eT (fadd1 _ _))) gva_nil))) (by show 3 ≤ sizeLine; decide)) (by show 8+3 ≤ sizeLine; decide)) Ext.rfl' (fun v2 H6 e rr => ?_)
    replace kk : ∀ H', Ext H6 H' → Q (.bl true) H' := fun H' e' => kk H' (e.trans e')
    replace hx := hx.ext e
    replace hy := hy.ext e
    replace hp : TupAt H6 p fx := e _ _ hp
    replace hq : TupAt H6 q fy := e _ _ hq
    replace hm : TupAt H6 m (n, 1) := e _ _ hm
    refine seq_gv (H0 := H6) (gv_cat moS (gv_v rfl rr (mo_lst moS)) (gv_lst moS (gva_cons moS (gv_row (gv_BF (gv_F rfl hx) (gv_F rfl hy).num ox oy) ((gv_sum (gv_T rfl hp) (gv_T rfl hq) (gv_ni 1 (gv_i 1)) ox.prt oy.prt (.inr rfl)).eT (fsub1 _ _))) (gva_cons moS (gv_row (gv_BF (gv_F rfl hx) (gv_I rfl).inum ox om) ((gv_sum (gv_T rfl hp) (gv_T rfl hm) (gv_ni 1 (gv_i 1)) ox.prt om.prt (.inr rfl)).eT (fsub1 _ _))) (gva_cons moS (gv_row (gv_BR (gv_I rfl) (gv_F rfl hx) bn ox) ((gv_sum (gv_T rfl hm) (gv_T rfl hp) (gv_ni 1 (gv_i 1)) om.prt ox.prt (.inr rfl)).eT (fsub1 _ _))) gva_nil))) (by show 3 ≤ sizeLine; decide)) (by show 11+3 ≤ sizeLine; decide)) Ext.rfl' (fun v3 H7 e rr => ?_)
    replace kk : ∀ H', Ext H7 H' → Q (.bl true) H' := fun H' e' => kk H' (e.trans e')
    replace hx := hx.ext e
    replace hy := hy.ext e
    replace hp : TupAt H7 p fx := e _ _ hp
    replace hq : TupAt H7 q fy := e _ _ hq
    replace hm : TupAt H7 m (n, 1) := e _ _ hm
    refine seq_gv (H0 := H7) (gv_cat moS (gv_v rfl rr (mo_lst moS)) (gv_lst moS (gva_cons moS (gv_row (gv_BF (gv_F rfl hx) (gv_F rfl hy).num ox oy) (gv_times (gv_T rfl hp) (gv_T rfl hq) ox.prt oy.prt)) (gva_cons moS (gv_row (gv_BF (gv_F rfl hx) (gv_I rfl).inum ox om) (gv_times (gv_T rfl hp) (gv_T rfl hm) ox.prt om.prt)) (gva_cons moS (gv_row ((gv_BR (gv_I rfl) (gv_F rfl hx) bn ox).eF (fmul_comm _ _)) (gv_times (gv_T rfl hp) (gv_T rfl hm) ox.prt om.prt)) gva_nil))) (by show 3 ≤ sizeLine; decide)) (by show 14+3 ≤ sizeLine; decide)) Ext.rfl' (fun v4 H8 e rr => ?_)
    replace kk : ∀ H', Ext H8 H' → Q (.bl true) H' := fun H' e' => kk H' (e.trans e')
    replace hx := hx.ext e
    replace hy := hy.ext e
    replace hp : TupAt H8 p fx := e _ _ hp
    replace hq : TupAt H8 q fy := e _ _ hq
    replace hm : TupAt H8 m (n, 1) := e _ _ hm
    refine seq_gv (H0 := H8) (gv_cat moS (gv_v rfl rr (mo_lst moS)) (gv_lst moS (gva_cons moS (gv_row (gv_neg (gv_F rfl hx) ox) (gv_tup (gv_ni _ (gv_t1 (gv_T rfl hp))) (gv_t2 (gv_T rfl hp)))) (gva_cons moS (gv_row (gv_abs (gv_F rfl hx) ox) (gv_tup (gv_absI (gv_t1 (gv_T rfl hp))) (gv_t2 (gv_T rfl hp)))) gva_nil)) (by show 2 ≤ sizeLine; decide)) (by show 17+2 ≤ sizeLine; decide)) Ext.rfl' (fun v5 H9 e rr => ?_)
    replace kk : ∀ H', Ext H9 H' → Q (.bl true) H' := fun H' e' => kk H' (e.trans e')
    replace hx := hx.ext e
    replace hy := hy.ext e
    replace hp : TupAt H9 p fx := e _ _ hp
    replace hq : TupAt H9 q fy := e _ _ hq
    replace hm : TupAt H9 m (n, 1) := e _ _ hm
    obtain ⟨l, xs, rfl, hl, hall⟩ := rr
    refine ret_gv (gv_all2 (H0 := H9) (S := fun a b H => ∃ q, IsF A q a H ∧ IsT q b H) rfl hl ⟨hall.1, fun x hx => ?_⟩ (fun a b H H' e ⟨q, h1, h2⟩ => ⟨q, moF _ _ _ e h1, moT _ _ _ e h2⟩) (by show 19 < sizeLine; decide) (by decide) (by show (9 : Nat) < 11; decide) (by show (10 : Nat) < 11; decide) ?_) Ext.rfl' (fun v H' e' rv => by rw [rv]; exact kk H' e')
    · obtain ⟨t, a, b, q, h1, h2, h3, h4⟩ := hall.2 x hx
      exact ⟨t, a, b, h1, h2, q, h3, h4⟩
    · rintro τ _ _ H' Q1 h1 h2 h3 e ⟨q', ⟨f', rfl, hf⟩, ⟨d, rfl, hd⟩⟩ k2
      exact ⟨_, h1, _, h2, f', q', d, rfl, hf, hd, fun H' e' => k2 H' e'⟩
end
end Fx

set_option Elab.async false
set_option linter.all false
set_option maxRecDepth 100000
set_option maxHeartbeats 8000000
set_option exponentiation.threshold 20000
namespace Fx
open PySem PySem.Spec PyProof.Rows L2 FM
section
variable {σ : L2.St} {H0 : Hp} {t1 t2 : TE} {A : Adr} {p : Int × Int} {E : XK}
theorem gv_pow {k : Int} {b : Nat} (h1 : Gv σ H0 t1 (IsF A p)) (h2 : Gv σ H0 t2 (IsI k)) (lo : Low p) (k0 : 0 ≤ k) (k1 : k ≤ 64) (b1 : p.1.natAbs < 2 ^ b) (b2 : p.2.natAbs < 2 ^ b) (b3 : b < 4000) (b4 : b * k.toNat < 4000) : Gv σ H0 (tOp (rOwn A.C (spPow A) E) t1 t2) (IsF A (p.1 ^ k.toNat, p.2 ^ k.toNat)) :=
  gv_op moF h1 h2 fun x y H Q e ⟨a, e1, f⟩ e2 kk => ⟨by rw [e1]; exact f.ins, .inr ⟨k, e2⟩, a, p, k, b, by rw [e1, e2], f, lo, k0, k1, b1, b2, b3, b4, fun r H' e' hf => kk _ H' e' ⟨r, rfl, hf⟩⟩
end
section
variable {P : Program} {w : World} {K : PySem.W.Frag} {mg : Str → Option Value} {base : Heap} {A : Adr}
theorem scPowers : FnScope ["x", "p", "rows", "a", "k"] ["x", "p"] (defScope sPowers) := ⟨rfl, rfl, rfl, by decide +kernel, rfl, by decide +kernel, by decide +kernel⟩
def spPowers (A : Adr) : Sp := fun vs H Q _ => ∃ x p fx, vs = [.ref x, .ref p] ∧ FracAt A.C H x fx ∧ TupAt H p fx ∧ Low fx ∧ fx.1.natAbs < 2 ^ 600 ∧ fx.2.natAbs < 2 ^ 600 ∧ ∀ H', Ext H H' → Q (.bl true) H'
theorem ok_powers {f : Addr} {fd : FuncData} (F : Fun K "_law_powers" "_law_powers" sPowers f fd) (F_ : FA P w K mg base A) (hP : LF P w K mg base "_law_power" 1 ["p", "k"] spPower) (hI : LF P w K mg base "_law_is" 2 ["x", "due"] (spIs A)) :
    FnOk P w K mg base (L2.CX P w) 7 f fd ["x", "p"] (spPowers A) := by
  refine F.okX scPowers (fun vs H Q E h => ?_) (fun cdv AA outer s H vs Q E hr h => ?_)
  · obtain ⟨x, p, fx, rfl, _⟩ := h
    rfl
  · obtain ⟨x, p, fx, rfl, hx, hp, lo, b1, b2, kk⟩ := h
    obtain ⟨fQ, gQ, cQ⟩ := hP
    obtain ⟨fI, gI, cI⟩ := hI
    obtain ⟨fdQ, GQ, bQ⟩ := cQ.ex
    obtain ⟨fdI, GI, bI⟩ := cI.ex
    obtain ⟨fdP, GP, bP⟩ := F_.cPow.ex
    refine ⟨_, pss_cons (ps_set (i := 2) scPowers.nd rfl (Or.inl rfl) (pe_lst (pa_cons (pe_tup (pa_cons (pe_op (op_own F_.bPow GP (hr.mono (by decide)) bP (E := E0) passL) (pv 0) pe_int) (pa_cons pe_int pa_nil))) (pa_cons (pe_tup (pa_cons (pe_op (op_own F_.bPow GP (hr.mono (by decide)) bP (E := E0) passL) (pv 0) pe_int) (pa_cons pe_int pa_nil))) (pa_cons (pe_tup (pa_cons (pe_op (op_own F_.bPow GP (hr.mono (by decide)) bP (E := E0) passL) (pv 0) pe_int) (pa_cons pe_int pa_nil))) (pa_cons (pe_tup (pa_cons (pe_op (op_own F_.bPow GP (hr.mono (by decide)) bP (E := E0) passL) (pv 0) pe_int) (pa_cons pe_int pa_nil))) (pa_cons (pe_tup (pa_cons (pe_op (op_own F_.bPow GP (hr.mono (by decide)) bP (E := E0) passL) (pv 0) pe_int) (pa_cons pe_int pa_nil))) (pa_cons (pe_tup (pa_cons (pe_op (op_own F_.bPow GP (hr.mono (by decide)) bP (E := E0) passL) (pv 0) pe_int) (pa_cons pe_int pa_nil))) (pa_cons (pe_tup (pa_cons (pe_op (op_own F_.bPow GP (hr.mono (by decide)) bP (E := E0) passL) (pv 0) pe_int) (pa_cons pe_int pa_nil))) pa_nil)))))))))
      (pss_one (ps_ret (pe_callB (cr_all rfl) (by rfl) F_.all boot_all (pa_cons (pe_lc (own := [("a", 3), ("k", 4)]) (g := gTup K 2 (gCons (gName 3) (gCons (gName 4) (gNil)))) rfl scPowers.nd (pi_list (pv 2)) (blkOk_by (own := [("a", 3), ("k", 4)]) (N := ["x", "p", "rows", "a", "k"]) (sc := defScope sPowers) (by decide +kernel)) (fun _ _ _ _ _ => pg_tup rfl (pgs_cons (pg_name (i := 3) scPowers.nd rfl (Or.inl rfl)) (pgs_cons (pg_name (i := 4) scPowers.nd rfl (Or.inl rfl)) (pgs_nil)))) (fun _ _ _ _ _ => pts_nil) (fun _ _ _ _ _ => (pe_call GI (hr.mono (by decide)) rfl gI cI.kp bI .nil (E := E0) passL (pa_cons (pv 3) (pa_cons (pe_call GQ (hr.mono (by decide)) rfl gQ cQ.kp bQ .nil (E := E0) passL (pa_cons (pv 1) (pa_cons (pv 4) pa_nil))) pa_nil))))) pa_nil)))), ?_⟩
    have moW2 : Mo2 (fun a b H => ∃ k : Int, 0 ≤ k ∧ k ≤ 6 ∧ IsF A (fx.1 ^ k.toNat, fx.2 ^ k.toNat) a H ∧ b = .int k) := fun a b H H' e ⟨k, h1, h2, h3, h4⟩ => ⟨k, h1, h2, moF _ _ _ e h3, h4⟩
    have moW := mo_pr moW2
    have row : ∀ k : Int, 0 ≤ k → k ≤ 6 → Gv [some (.ref x), some (.ref p), none, none, none] H (tTup (tCons (tOp (rOwn A.C (spPow A) E0) (tVar 0) (tC (.int k))) (tCons (tC (.int k)) tNil))) (Pr (fun a b H => ∃ k : Int, 0 ≤ k ∧ k ≤ 6 ∧ IsF A (fx.1 ^ k.toNat, fx.2 ^ k.toNat) a H ∧ b = .int k)) := fun k k0 k6 =>
      (gv_pair moF (gv_pow (gv_F (a := x) rfl hx) (gv_i k) lo k0 (by omega) b1 b2 (by decide) (by omega)) (gv_i k) moI).imp fun v H' ⟨t, a, b, e, h, r1, r2⟩ => ⟨t, a, b, e, h, k, k0, k6, r1, r2⟩
    refine seq_gv (H0 := H) (gv_lst moW (gva_cons moW (row 0 (by decide) (by decide)) (gva_cons moW (row 1 (by decide) (by decide)) (gva_cons moW (row 2 (by decide) (by decide)) (gva_cons moW (row 3 (by decide) (by decide)) (gva_cons moW (row 4 (by decide) (by decide)) (gva_cons moW (row 5 (by decide) (by decide)) (gva_cons moW (row 6 (by decide) (by decide)) gva_nil))))))) (by show 7 ≤ sizeLine; decide)) Ext.rfl' (fun v H1 e1 r1 => ?_)
    obtain ⟨l, xs, rfl, hl, hall⟩ := r1
    have hp1 : TupAt H1 p fx := e1 _ _ hp
    refine ret_gv (gv_all2 (H0 := H1) rfl hl hall moW2 (by show 7 < sizeLine; decide) (by decide) (by show (3 : Nat) < 5; decide) (by show (4 : Nat) < 5; decide) ?_) Ext.rfl' (fun v H' e' rv => by rw [rv]; exact kk H' (e1.trans e'))
    rintro τ _ _ H' Q1 h1 h2 h3 e ⟨k, k0, k6, ⟨f', rfl, hf⟩, rfl⟩ k2
    refine ⟨_, h1, _, (h3 1 (by decide) (by decide)).trans rfl, _, h2, p, fx, k, 600, rfl, e _ _ hp1, k0, by omega, b1, b2, by decide, ?_, fun r H2 e2 hr => ⟨f', _, r, rfl, hf.ext e2, hr, fun H3 e3 => k2 H3 (e2.trans e3)⟩⟩
    omega
theorem scFloors : FnScope ["one", "two", "p", "q", "exact", "floor", "rest", "got"] ["one", "two", "p", "q"] (defScope sFloors) := ⟨rfl, rfl, rfl, by decide +kernel, rfl, by decide +kernel, by decide +kernel⟩
def spFloors (A : Adr) : Sp := fun vs H Q _ => ∃ one two p q fp fq, vs = [one, two, .ref p, .ref q] ∧ Num A H one fp ∧ Num A H two fq ∧ ((∃ a, one = .ref a ∧ FracAt A.C H a fp) ∨ ((∃ n, one = .int n) ∧ ∃ b, two = .ref b ∧ FracAt A.C H b fq)) ∧ TupAt H p fp ∧ TupAt H q fq ∧ Oks fp ∧ Oks fq ∧ fq.1 ≠ 0 ∧ ∀ H', Ext H H' → Q (.bl true) H'
theorem iteD {c A B : Prop} [Decidable c] (h : c) (a : A) : if decide c = true then A else B := by
  rw [decide_eq_true h, if_pos rfl]
  exact a
theorem iteDF {c A B : Prop} [Decidable c] (h : ¬ c) (b : B) : if decide c = true then A else B := by
  rw [decide_eq_false h, if_neg Bool.false_ne_true]
  exact b
theorem fmod_law {p q : Int × Int} (op : Oks p) (oq : Oks q) : low (p.1 * q.2 + -1 * (q.1 * fflo p q) * p.2) (p.2 * q.2) = fmod_ p q := by
  unfold fmod_ fmul
  rw [fsub_low op.low (by dsimp only; rw [Int.mul_one]; exact oq.ok.ne)]
  dsimp only
  rw [Int.mul_one, show -1 * (q.1 * fflo p q) * p.2 = -((q.1 * fflo p q) * p.2) by rw [Int.neg_one_mul, Int.neg_mul], ← Int.sub_eq_add_neg]
theorem flo_low {p q : Int × Int} (h : p.2 * q.1 ≠ 0) : (low (p.1 * q.2) (p.2 * q.1)).1.fdiv (low (p.1 * q.2) (p.2 * q.1)).2 = fflo p q := low_floor h
theorem ok_floors {f : Addr} {fd : FuncData} (F : Fun K "_law_floors" "_law_floors" sFloors f fd) (F_ : FA P w K mg base A) (hL : LF P w K mg base "_law_low" 1 ["top", "bottom"] spLow) (hS : LF P w K mg base "_law_sum" 2 ["p", "q", "sign"] spSum) (hJ : LF P w K mg base "_law_int" 1 ["x"] spInt) (hI : LF P w K mg base "_law_is" 2 ["x", "due"] (spIs A)) :
    FnOk P w K mg base (L2.CX P w) 7 f fd ["one", "two", "p", "q"] (spFloors A) := by
  refine F.okX scFloors (fun vs H Q E h => ?_) (fun cdv AA outer s H vs Q E hr h => ?_)
  · obtain ⟨one, two, p, q, fp, fq, rfl, _⟩ := h
    rfl
  · obtain ⟨one, two, p, q, fp, fq, rfl, h1, h2, h12, hp, hq, op, oq, hz, kk⟩ := h
    obtain ⟨fL, gL, cL⟩ := hL
    obtain ⟨fS, gS, cS⟩ := hS
    obtain ⟨fJ, gJ, cJ⟩ := hJ
    obtain ⟨fI, gI, cI⟩ := hI
    obtain ⟨fdL, GL, bL⟩ := cL.ex
    obtain ⟨fdS, GS, bS⟩ := cS.ex
    obtain ⟨fdJ, GJ, bJ⟩ := cJ.ex
    obtain ⟨fdI, GI, bI⟩ := cI.ex
    obtain ⟨fd1, G1, b1⟩ := F_.cFlo.ex
    obtain ⟨fd2, G2, b2⟩ := F_.cRflo.ex
    obtain ⟨fd3, G3, b3⟩ := F_.cMod.ex
    obtain ⟨fd4, G4, b4⟩ := F_.cRmod.ex
    refine ⟨_, pss_cons (ps_set (i := 4) scFloors.nd rfl (Or.inl rfl) (pe_call GL (hr.mono (by decide)) rfl gL cL.kp bL .nil (E := E0) passL (pa_cons (pe_op op_mulW (pe_ix ix_tup (pv 2) pe_int (fun _ _ => rfl)) (pe_ix ix_tup (pv 3) pe_int (fun _ _ => rfl))) (pa_cons (pe_op op_mulW (pe_ix ix_tup (pv 2) pe_int (fun _ _ => rfl)) (pe_ix ix_tup (pv 3) pe_int (fun _ _ => rfl))) pa_nil))))
      (pss_cons (ps_set (i := 5) scFloors.nd rfl (Or.inl rfl) (pe_op op_fdivZ (pe_ix ix_tup (pv 4) pe_int (fun _ _ => rfl)) (pe_ix ix_tup (pv 4) pe_int (fun _ _ => rfl))))
      (pss_cons (ps_set (i := 6) scFloors.nd rfl (Or.inl rfl) (pe_call GS (hr.mono (by decide)) rfl gS cS.kp bS .nil (E := E0) passL (pa_cons (pv 2) (pa_cons (pe_tup (pa_cons (pe_op op_mulW (pe_ix ix_tup (pv 3) pe_int (fun _ _ => rfl)) (pv 5)) (pa_cons (pe_ix ix_tup (pv 3) pe_int (fun _ _ => rfl)) pa_nil))) (pa_cons (pe_un L2.un_neg pe_int) pa_nil)))))
      (pss_cons (ps_set (i := 7) scFloors.nd rfl (Or.inl rfl) (pe_op (OpR.or (op_own F_.bFlo G1 (hr.mono (by decide)) b1 (E := E0) passL) (op_ref int_fdiv F_.rFlo G2 (hr.mono (by decide)) b2 (E := E0) passL)) (pv 0) (pv 1)))
      (pss_one (ps_ret (pe_and (pe_call GJ (hr.mono (by decide)) rfl gJ cJ.kp bJ .nil (E := E0) passL (pa_cons (pv 7) pa_nil)) (pe_and (pe_cmpR L2.op_eq (pv 7) (pv 5) (nomark _)) (pe_one (pe_call GI (hr.mono (by decide)) rfl gI cI.kp bI .nil (E := E0) passL (pa_cons (pe_op (OpR.or (op_own F_.bMod G3 (hr.mono (by decide)) b3 (E := E0) passL) (op_ref int_mod F_.rMod G4 (hr.mono (by decide)) b4 (E := E0) passL)) (pv 0) (pv 1)) (pa_cons (pv 6) pa_nil))))))))))), ?_⟩
    have dz : fp.2 * fq.1 ≠ 0 := Int.mul_ne_zero op.ok.ne hz
    refine ⟨_, rfl, _, _, _, _, rfl, rfl, SqT.of hp, rfl, _, rfl, _, _, _, _, rfl, rfl, SqT.of hq, rfl, _, _, rfl, rfl, op.ok.b1.cm oq.ok.b2, _, rfl, _, _, _, _, rfl, rfl, SqT.of hp, rfl, _, rfl, _, _, _, _, rfl, rfl, SqT.of hq, rfl, _, _, rfl, rfl, op.ok.b2.cm oq.ok.b1, _, _, rfl, dz, op.ok.b2.mul oq.ok.b1, fun ex H1 e1 hex => ?_⟩
    have lo := low_low (a := fp.1 * fq.2) dz
    have l9 : (low (fp.1 * fq.2) (fp.2 * fq.1)).2.natAbs.log2 < 9000 := Bi.log (Nat.lt_of_le_of_lt (low_le2 dz) (op.ok.b2.mul oq.ok.b1))
    refine ⟨_, rfl, _, _, _, _, rfl, rfl, SqT.of hex, rfl, _, rfl, _, _, _, _, rfl, rfl, SqT.of hex, rfl, _, _, rfl, rfl, ⟨by have := lo.pos; omega, l9⟩, ?_⟩
    have ef := flo_low dz
    have hp1 : TupAt H1 p fp := e1 _ _ hp
    have hq1 : TupAt H1 q fq := e1 _ _ hq
    refine ⟨_, rfl, _, rfl, _, _, _, _, rfl, rfl, SqT.of hq1, rfl, _, rfl, _, _, rfl, rfl, ?_, ?_⟩
    · rw [ef]
      exact wide_mul oq.b1 (flo_b op oq hz) (by decide) (by decide) (by decide)
    refine ⟨_, rfl, _, _, _, _, rfl, rfl, SqT.of hq1, rfl, (by show 2 ≤ sizeLine; decide), fun tq ntq => ⟨_, rfl, ?_⟩⟩
    rw [ef]
    refine ⟨p, fp, tq, (fq.1 * fflo fp fq, fq.2), -1, rfl, ext1 ntq _ _ hp1, upd_same, op.ok.prt, ⟨Nat.lt_of_lt_of_le (flo_mul op oq hz) (Nat.pow_le_pow_right (by decide) (by decide)), oq.ok.b2, oq.ok.ne⟩, .inr rfl, fun rs H2 e2 hrs => ?_⟩
    have e12 : Ext H H2 := (e1.upd' ntq).trans e2
    rw [fmod_law op oq] at hrs
    have fin : ∀ H3, Ext H H3 → TupAt H3 rs (fmod_ fp fq) → ∀ r H4, Ext H3 H4 → FracAt A.C H4 r (fmod_ fp fq) → spIs A [.ref r, .ref rs] H4 Q E0 := fun H3 e3 t3 r H4 e4 h4 =>
      ⟨r, _, rs, rfl, h4, e4 _ _ t3, fun H' e' => kk H' ((e3.trans e4).trans e')⟩
    refine ⟨_, rfl, _, rfl, ?_⟩
    rcases h12 with ⟨a, rfl, ha⟩ | ⟨⟨n, rfl⟩, b, rfl, hb⟩
    · refine .inl ⟨(ha.ext e12).ins, (h2.ext e12).elim (fun ⟨b, e, f⟩ => .inl (by rw [e]; exact f.ins)) (fun e => .inr ⟨_, e.1⟩), a, fp, two, fq, rfl, ha.ext e12, h2.ext e12, op.ok, oq.ok, fun z => absurd z hz, fun _ H3 e3 => ?_⟩
      refine ⟨_, rfl, _, rfl, _, rfl, iteT ⟨_, rfl, _, rfl, rfl, _, rfl, ?_⟩⟩
      have e13 := e12.trans e3
      refine iteD (by show V.int _ = V.int _; rw [ef]) ⟨_, rfl, _, rfl, .inl ⟨(ha.ext e13).ins, (h2.ext e13).elim (fun ⟨b, e, f⟩ => .inl (by rw [e]; exact f.ins)) (fun e => .inr ⟨_, e.1⟩), a, fp, two, fq, rfl, ha.ext e13, h2.ext e13, op, oq, fun z => absurd z hz, fun _ r H4 e4 h4 => ⟨_, rfl, fin H3 e13 (e3 _ _ hrs) r H4 e4 h4⟩⟩⟩
    · have en : fp = (n, 1) := by
        rcases h1 with ⟨_, e, _⟩ | ⟨e, e'⟩
        · cases e
        · injection e with e
          rw [e]
          exact one_of e'
      subst en
      refine .inr ⟨⟨n, rfl⟩, (hb.ext e12).ins, b, fq, .int n, (n, 1), rfl, hb.ext e12, .int n, oq.ok, op.ok, fun z => absurd z hz, fun _ H3 e3 => ?_⟩
      refine ⟨_, rfl, _, rfl, _, rfl, iteT ⟨_, rfl, _, rfl, rfl, _, rfl, ?_⟩⟩
      have e13 := e12.trans e3
      refine iteD (by show V.int _ = V.int _; rw [ef]) ⟨_, rfl, _, rfl, .inr ⟨⟨n, rfl⟩, (hb.ext e13).ins, b, fq, n, rfl, hb.ext e13, oq, op, fun z => absurd z hz, fun _ r H4 e4 h4 => ⟨_, rfl, fin H3 e13 (e3 _ _ hrs) r H4 e4 h4⟩⟩⟩
end
end Fx

set_option Elab.async false
set_option linter.all false
set_option maxRecDepth 100000
set_option maxHeartbeats 8000000
set_option exponentiation.threshold 20000
namespace Fx
open PySem PySem.Spec PyProof.Rows L2 FM
section
variable {P : Program} {w : World} {K : PySem.W.Frag} {mg : Str → Option Value} {base : Heap} {A : Adr}
theorem scDiv : FnScope ["x", "y", "n", "p", "q", "m"] ["x", "y", "n", "p", "q"] (defScope sDivided) := ⟨rfl, rfl, rfl, by decide +kernel, rfl, by decide +kernel, by decide +kernel⟩
def spDiv (A : Adr) : Sp := fun vs H Q _ => ∃ x y n p q fx fy, vs = [.ref x, .ref y, .int n, .ref p, .ref q] ∧ FracAt A.C H x fx ∧ FracAt A.C H y fy ∧ TupAt H p fx ∧ TupAt H q fy ∧ Oks fx ∧ Oks fy ∧ Oks (n, 1) ∧ ∀ H', Ext H H' → Q (.bl true) H'
theorem neD {n : Int} {A B : Prop} (h1 : n ≠ 0 → A) (h2 : n = 0 → B) : if (!decide (V.int n = V.int 0)) = true then A else B := by
  by_cases h : n = 0
  · rw [show (!decide (V.int n = V.int 0)) = false by rw [h]; rfl, if_neg Bool.false_ne_true]
    exact h2 h
  · rw [show (!decide (V.int n = V.int 0)) = true by simp [h], if_pos rfl]
    exact h1 h
theorem ok_div {f : Addr} {fd : FuncData} (F : Fun K "_law_divided" "_law_divided" sDivided f fd) (F_ : FA P w K mg base A) (hF : LF P w K mg base "_law_floors" 7 ["one", "two", "p", "q"] (spFloors A)) (hL : LF P w K mg base "_law_low" 1 ["top", "bottom"] spLow) (hI : LF P w K mg base "_law_is" 2 ["x", "due"] (spIs A)) :
    FnOk P w K mg base (L2.CX P w) 8 f fd ["x", "y", "n", "p", "q"] (spDiv A) := by
  refine F.okX scDiv (fun vs H Q E h => ?_) (fun cdv AA outer s H vs Q E hr h => ?_)
  · obtain ⟨x, y, n, p, q, fx, fy, rfl, _⟩ := h
    rfl
  · obtain ⟨x, y, n, p, q, fx, fy, rfl, hx, hy, hp, hq, ox, oy, on, kk⟩ := h
    obtain ⟨fF, gF, cF⟩ := hF
    obtain ⟨fL, gL, cL⟩ := hL
    obtain ⟨fI, gI, cI⟩ := hI
    obtain ⟨fdF, GF, bF⟩ := cF.ex
    obtain ⟨fdL, GL, bL⟩ := cL.ex
    obtain ⟨fdI, GI, bI⟩ := cI.ex
    obtain ⟨fdO, GO, bO⟩ := F_.cOver.ex
    refine ⟨_, pss_cons (ps_set (i := 5) scDiv.nd rfl (Or.inl rfl) (pe_tup (pa_cons (pv 2) (pa_cons pe_int pa_nil))))
      (C8.pss_cut (ps_if (pt_cmpR L2.op_ne (pe_ix ix_tup (pv 4) pe_int (fun _ _ => rfl)) pe_int (nomark _)) (pss_one (ps_if (PW.pt (pw_or (pt_not (pt_val (pe_call GF (hr.mono (by decide)) rfl gF cF.kp bF .nil (E := E0) passL (pa_cons (pv 0) (pa_cons (pv 1) (pa_cons (pv 3) (pa_cons (pv 4) pa_nil))))))) (pw_or1 (pt_not (pt_val (pe_call GI (hr.mono (by decide)) rfl gI cI.kp bI .nil (E := E0) passL (pa_cons (pe_meth (pv 0) F_.T.cl F_.mOver GO (hr.mono (by decide)) bO .nil (E := E0) passL (pa_cons (pv 1) pa_nil)) (pa_cons (pe_call GL (hr.mono (by decide)) rfl gL cL.kp bL .nil (E := E0) passL (pa_cons (pe_op op_mulW (pe_ix ix_tup (pv 3) pe_int (fun _ _ => rfl)) (pe_ix ix_tup (pv 4) pe_int (fun _ _ => rfl))) (pa_cons (pe_op op_mulW (pe_ix ix_tup (pv 3) pe_int (fun _ _ => rfl)) (pe_ix ix_tup (pv 4) pe_int (fun _ _ => rfl))) pa_nil))) pa_nil)))))))) (pss_one (ps_ret pe_bl)) pss_nil)) pss_nil)
      (C8.pss_cut (ps_if (pt_cmpR L2.op_ne (pv 2) pe_int (nomark _)) (pss_one (ps_if (PW.pt (pw_or (pt_not (pt_val (pe_call GF (hr.mono (by decide)) rfl gF cF.kp bF .nil (E := E0) passL (pa_cons (pv 0) (pa_cons (pv 2) (pa_cons (pv 3) (pa_cons (pv 5) pa_nil))))))) (pw_or1 (pt_not (pt_val (pe_call GI (hr.mono (by decide)) rfl gI cI.kp bI .nil (E := E0) passL (pa_cons (pe_meth (pv 0) F_.T.cl F_.mOver GO (hr.mono (by decide)) bO .nil (E := E0) passL (pa_cons (pv 2) pa_nil)) (pa_cons (pe_call GL (hr.mono (by decide)) rfl gL cL.kp bL .nil (E := E0) passL (pa_cons (pe_ix ix_tup (pv 3) pe_int (fun _ _ => rfl)) (pa_cons (pe_op op_mulW (pe_ix ix_tup (pv 3) pe_int (fun _ _ => rfl)) (pv 2)) pa_nil))) pa_nil)))))))) (pss_one (ps_ret pe_bl)) pss_nil)) pss_nil)
      (pss_cons (ps_if (pt_cmpR L2.op_ne (pe_ix ix_tup (pv 3) pe_int (fun _ _ => rfl)) pe_int (nomark _)) (pss_one (ps_ret (pe_call GF (hr.mono (by decide)) rfl gF cF.kp bF .nil (E := E0) passL (pa_cons (pv 2) (pa_cons (pv 0) (pa_cons (pv 5) (pa_cons (pv 3) pa_nil))))))) pss_nil)
      (pss_one (ps_ret pe_bl))))), ?_⟩
    refine ⟨_, rfl, (by show 2 ≤ sizeLine; decide), fun m nm => ?_⟩
    refine ⟨fun σ H1 => σ = [some (.ref x), some (.ref y), some (.int n), some (.ref p), some (.ref q), some (.ref m)] ∧ Ext H H1 ∧ TupAt H1 m (n, 1), ?_, ?_⟩
    · have e0 : Ext H (upd H m (.tup [V.int n, V.int 1])) := ext1 nm
      refine ⟨_, rfl, _, _, _, _, rfl, rfl, SqT.of (e0 _ _ hq), rfl, rfl, _, rfl, neD (fun hz => ?_) (fun hz => ⟨rfl, e0, upd_same⟩)⟩
      refine ⟨_, rfl, _, rfl, _, rfl, _, rfl, .ref x, .ref y, p, q, fx, fy, rfl, .of (hx.ext e0), .of (hy.ext e0), .inl ⟨x, rfl, hx.ext e0⟩, e0 _ _ hp, e0 _ _ hq, ox, oy, hz, fun H1 e1 => ⟨_, rfl, iteF ?_⟩⟩
      have e01 := e0.trans e1
      refine ⟨_, rfl, x, (hx.ext e01).choose, fr fx, rfl, (hx.ext e01).choose_spec, fr_no _ (by decide +kernel) (by decide +kernel), _, rfl, x, fx, .ref y, fy, rfl, hx.ext e01, .of (hy.ext e01), ox.ok, oy.ok, fun z => absurd z hz, fun _ r H2 e2 hf => ?_⟩
      have e02 := e01.trans e2
      have hp2 : TupAt H2 p fx := e02 _ _ hp
      have hq2 : TupAt H2 q fy := e02 _ _ hq
      refine ⟨_, rfl, _, _, _, _, rfl, rfl, SqT.of hp2, rfl, _, rfl, _, _, _, _, rfl, rfl, SqT.of hq2, rfl, _, _, rfl, rfl, ox.ok.b1.cm oy.ok.b2, _, rfl, _, _, _, _, rfl, rfl, SqT.of hp2, rfl, _, rfl, _, _, _, _, rfl, rfl, SqT.of hq2, rfl, _, _, rfl, rfl, ox.ok.b2.cm oy.ok.b1, _, _, rfl, Int.mul_ne_zero ox.ok.ne hz, ox.ok.b2.mul oy.ok.b1, fun d H3 e3 hd => ?_⟩
      exact ⟨r, _, d, rfl, hf.ext e3, hd, fun H4 e4 => ⟨_, rfl, iteF ⟨rfl, (e02.trans e3).trans e4, ((e1.trans e2).trans (e3.trans e4)) _ _ upd_same⟩⟩⟩
    rintro σ H0 ⟨rfl, e0, hm⟩
    refine ⟨fun σ H1 => σ = [some (.ref x), some (.ref y), some (.int n), some (.ref p), some (.ref q), some (.ref m)] ∧ Ext H H1 ∧ TupAt H1 m (n, 1), ?_, ?_⟩
    · refine ⟨_, rfl, rfl, _, rfl, neD (fun hz => ?_) (fun hz => ⟨rfl, e0, hm⟩)⟩
      refine ⟨_, rfl, _, rfl, _, rfl, _, rfl, .ref x, .int n, p, m, fx, (n, 1), rfl, .of (hx.ext e0), .int n, .inl ⟨x, rfl, hx.ext e0⟩, e0 _ _ hp, hm, ox, on, hz, fun H1 e1 => ⟨_, rfl, iteF ?_⟩⟩
      have e01 := e0.trans e1
      refine ⟨_, rfl, x, (hx.ext e01).choose, fr fx, rfl, (hx.ext e01).choose_spec, fr_no _ (by decide +kernel) (by decide +kernel), _, rfl, x, fx, .int n, (n, 1), rfl, hx.ext e01, .int n, ox.ok, on.ok, fun z => absurd z hz, fun _ r H2 e2 hf => ?_⟩
      have e02 := e01.trans e2
      have hp2 : TupAt H2 p fx := e02 _ _ hp
      refine ⟨_, rfl, _, _, _, _, rfl, rfl, SqT.of hp2, rfl, _, rfl, _, _, _, _, rfl, rfl, SqT.of hp2, rfl, _, rfl, _, _, rfl, rfl, ox.ok.b2.cm on.ok.b1, _, _, rfl, Int.mul_ne_zero ox.ok.ne hz, ox.ok.b2.mul on.ok.b1, fun d H3 e3 hd => ?_⟩
      refine ⟨r, _, d, rfl, hf.ext e3, ?_, fun H4 e4 => ⟨_, rfl, iteF ⟨rfl, (e02.trans e3).trans e4, ((e1.trans e2).trans (e3.trans e4)) _ _ hm⟩⟩⟩
      unfold fover
      rw [Int.mul_one]
      exact hd
    rintro σ H1 ⟨rfl, e1, hm1⟩
    have hp1 : TupAt H1 p fx := e1 _ _ hp
    refine ⟨_, rfl, _, _, _, _, rfl, rfl, SqT.of hp1, rfl, rfl, _, rfl, neD (fun hz => ?_) (fun _ => kk _ e1)⟩
    exact ⟨_, rfl, _, rfl, _, rfl, _, rfl, .int n, .ref x, m, p, (n, 1), fx, rfl, .int n, .of (hx.ext e1), .inr ⟨⟨n, rfl⟩, x, rfl, hx.ext e1⟩, hm1, hp1, on, ox, hz, fun H2 e2 => kk _ (e1.trans e2)⟩
theorem scOrd : FnScope ["one", "two", "p", "q", "c", "got", "same"] ["one", "two", "p", "q"] (defScope sOrder) := ⟨rfl, rfl, rfl, by decide +kernel, rfl, by decide +kernel, by decide +kernel⟩
/-- the pair is a Frac and a number, or an int and a Frac -/
def Two (A : Adr) (H : Hp) (one two : V) (p q : Int × Int) : Prop := (∃ a, one = .ref a ∧ FracAt A.C H a p ∧ Num A H two q) ∨ (∃ n b, one = .int n ∧ p = (n, 1) ∧ two = .ref b ∧ FracAt A.C H b q)
theorem Two.ext {H H' : Hp} {one two : V} {p q : Int × Int} (h : Two A H one two p q) (e : Ext H H') : Two A H' one two p q := h.elim (fun ⟨a, e1, f, g⟩ => .inl ⟨a, e1, f.ext e, g.ext e⟩) (fun ⟨n, b, e1, e2, e3, f⟩ => .inr ⟨n, b, e1, e2, e3, f.ext e⟩)
theorem cmp_gv {σ : L2.St} {H0 : Hp} {i j : Nat} {one two : V} {p q : Int × Int} {g g' : Int × Int → Int × Int → Bool} {E : XK} (h1 : σ[i]? = some (some one)) (h2 : σ[j]? = some (some two)) (h : Two A H0 one two p q) (op : Okf p) (oq : Okf q) (hg : g' q p = g p q) :
    Gv σ H0 (tOp (fun x y H Q => rOwn A.C (spC A g) E x y H Q ∨ rRef A.C (spC A g') E x y H Q) (tVar i) (tVar j)) (fun v _ => v = .bl (g p q)) := fun H Q e k => ⟨_, h1, _, h2, (h.ext e).elim
  (fun ⟨a, e1, f, n⟩ => .inl ⟨by rw [e1]; exact f.ins, n.elim (fun ⟨b, e, f⟩ => .inl (by rw [e]; exact f.ins)) (fun e => .inr ⟨_, e.1⟩), a, p, two, q, by rw [e1], f, n, op, oq, fun H' e' => k _ H' e' rfl⟩)
  (fun ⟨n, b, e1, e2, e3, f⟩ => .inr ⟨⟨n, e1⟩, by rw [e3]; exact f.ins, b, q, one, p, by rw [e3], f, by rw [e1, e2]; exact .int n, oq, op, fun H' e' => k _ H' e' (by rw [hg])⟩)⟩
theorem ne_gv {σ : L2.St} {H0 : Hp} {i j : Nat} {one two : V} {p q : Int × Int} {g : Int × Int → Int × Int → Bool} {E : XK} (h1 : σ[i]? = some (some one)) (h2 : σ[j]? = some (some two)) (h : Two A H0 one two p q) (op : Okf p) (oq : Okf q) (hg : g q p = g p q) :
    Gv σ H0 (tOp (rNe A.C (spC A g) E) (tVar i) (tVar j)) (fun v _ => v = .bl (!g p q)) := fun H Q e k => ⟨_, h1, _, h2, (h.ext e).elim
  (fun ⟨a, e1, f, n⟩ => .inl ⟨by rw [e1]; exact f.ins, n.elim (fun ⟨b, e, f⟩ => .inl (by rw [e]; exact f.ins)) (fun e => .inr ⟨_, e.1⟩), a, p, two, q, by rw [e1], f, n, op, oq, fun H' e' => ⟨_, rfl, k _ H' e' rfl⟩⟩)
  (fun ⟨n, b, e1, e2, e3, f⟩ => .inr ⟨⟨n, e1⟩, by rw [e3]; exact f.ins, b, q, one, p, by rw [e3], f, by rw [e1, e2]; exact .int n, oq, op, fun H' e' => ⟨_, rfl, k _ H' e' (by rw [hg])⟩⟩)⟩
def spOrd (A : Adr) : Sp := fun vs H Q _ => ∃ one two p q fp fq, vs = [one, two, .ref p, .ref q] ∧ Two A H one two fp fq ∧ TupAt H p fp ∧ TupAt H q fq ∧ Okf fp ∧ Okf fq ∧ ∀ H', Ext H H' → Q (.bl true) H'
theorem ceq_comm (p q : Int × Int) : ceq q p = ceq p q := by
  unfold ceq
  rw [Bool.eq_iff_iff]
  simp only [decide_eq_true_eq]
  exact ⟨Eq.symm, Eq.symm⟩
def DB (l : List Bool) : PyData := .list (l.map .bool)
theorem dp_bl {H : Hp} : ∀ l : List Bool, DpAll K H (l.map V.bl) (l.map PyData.bool)
  | [] => .nil
  | b :: l => .cons (.bl b) (dp_bl l)
theorem eqv_bl : ∀ l : List Bool, PyData.eqvAll (l.map PyData.bool) (l.map PyData.bool) = true
  | [] => by simp [PyData.eqvAll]
  | b :: l => by simp [PyData.eqvAll, PyData.eqv, eqv_bl l]
theorem ok_ord {f : Addr} {fd : FuncData} (F : Fun K "_law_order" "_law_order" sOrder f fd) (F_ : FA P w K mg base A) (bo : mg "bool" = none) :
    FnOk P w K mg base (L2.CX P w) 7 f fd ["one", "two", "p", "q"] (spOrd A) := by
  refine F.okX scOrd (fun vs H Q E h => ?_) (fun cdv AA outer s H vs Q E hr h => ?_)
  · obtain ⟨one, two, p, q, fp, fq, rfl, _⟩ := h
    rfl
  · obtain ⟨one, two, p, q, fp, fq, rfl, h12, hp, hq, op, oq, kk⟩ := h
    obtain ⟨fdLt, GLt, bLt⟩ := F_.cLt.ex
    obtain ⟨fdLe, GLe, bLe⟩ := F_.cLe.ex
    obtain ⟨fdGt, GGt, bGt⟩ := F_.cGt.ex
    obtain ⟨fdGe, GGe, bGe⟩ := F_.cGe.ex
    obtain ⟨fdEq, GEq, bEq⟩ := F_.cEq.ex
    refine ⟨_, pss_cons (ps_set (i := 4) scOrd.nd rfl (Or.inl rfl) (pe_op L2.op_sub (pe_op op_mulW (pe_ix ix_tup (pv 2) pe_int (fun _ _ => rfl)) (pe_ix ix_tup (pv 3) pe_int (fun _ _ => rfl))) (pe_op op_mulW (pe_ix ix_tup (pv 3) pe_int (fun _ _ => rfl)) (pe_ix ix_tup (pv 2) pe_int (fun _ _ => rfl)))))
      (pss_cons (ps_set (i := 5) scOrd.nd rfl (Or.inl rfl) (pe_lst (pa_cons (pe_cmpR (OpR.or (op_cmp (op := .Lt) F_.kLt GLt (hr.mono (by decide)) bLt (E := E0) passL (fun _ _ => rfl)) (op_cmpR (op := .Lt) int_lt F_.kGt GGt (hr.mono (by decide)) bGt (E := E0) passL (fun _ _ => rfl))) (pv 0) (pv 1) (nomark _)) (pa_cons (pe_cmpR (OpR.or (op_cmp (op := .LtE) F_.kLe GLe (hr.mono (by decide)) bLe (E := E0) passL (fun _ _ => rfl)) (op_cmpR (op := .LtE) int_le F_.kGe GGe (hr.mono (by decide)) bGe (E := E0) passL (fun _ _ => rfl))) (pv 0) (pv 1) (nomark _)) (pa_cons (pe_cmpR (OpR.or (op_cmp (op := .Gt) F_.kGt GGt (hr.mono (by decide)) bGt (E := E0) passL (fun _ _ => rfl)) (op_cmpR (op := .Gt) int_gt F_.kLt GLt (hr.mono (by decide)) bLt (E := E0) passL (fun _ _ => rfl))) (pv 0) (pv 1) (nomark _)) (pa_cons (pe_cmpR (OpR.or (op_cmp (op := .GtE) F_.kGe GGe (hr.mono (by decide)) bGe (E := E0) passL (fun _ _ => rfl)) (op_cmpR (op := .GtE) int_ge F_.kLe GLe (hr.mono (by decide)) bLe (E := E0) passL (fun _ _ => rfl))) (pv 0) (pv 1) (nomark _)) pa_nil))))))
      (pss_cons (ps_set (i := 6) scOrd.nd rfl (Or.inl rfl) (pe_lst (pa_cons (pe_cmpR (OpR.or (op_cmp (op := .Eq) F_.kEq GEq (hr.mono (by decide)) bEq (E := E0) passL (fun _ _ => rfl)) (op_cmpR (op := .Eq) int_eq F_.kEq GEq (hr.mono (by decide)) bEq (E := E0) passL (fun _ _ => rfl))) (pv 0) (pv 1) (nomark _)) (pa_cons (pe_cmpR (o_ne F_.kNe GEq (hr.mono (by decide)) bEq (E := E0) passL) (pv 0) (pv 1) (nomark _)) pa_nil))))
      (pss_cons (ps_if (PW.pt (pw_or (pt_not (pt_val (pe_callB call_isi (by rfl) F_.T.isi boot_isi (pa_cons (pe_ix ix_list (pv 6) pe_int (fun _ _ => rfl)) (pa_cons (pe_bltn (v := .ty "bool") (by rfl) bo boot_bool rfl) pa_nil))))) (pw_or1 (pt_not (pt_val (pe_callB call_isi (by rfl) F_.T.isi boot_isi (pa_cons (pe_ix ix_list (pv 6) pe_int (fun _ _ => rfl)) (pa_cons (pe_bltn (v := .ty "bool") (by rfl) bo boot_bool rfl) pa_nil)))))))) (pss_one (ps_ret pe_bl)) pss_nil)
      (pss_one (ps_ret (pe_and (pe_cmpR (op_eqD hr.units) (pv 5) (pe_lst (pa_cons (pe_cmpR L2.op_lt (pv 4) pe_int (nomark _)) (pa_cons (pe_cmpR L2.op_le (pv 4) pe_int (nomark _)) (pa_cons (pe_cmpR L2.op_gt (pv 4) pe_int (nomark _)) (pa_cons (pe_cmpR L2.op_ge (pv 4) pe_int (nomark _)) pa_nil))))) (nomark _)) (pe_one (pe_cmpR (op_eqD hr.units) (pv 6) (pe_lst (pa_cons (pe_cmpR L2.op_eq (pv 4) pe_int (nomark _)) (pa_cons (pe_cmpR L2.op_ne (pv 4) pe_int (nomark _)) pa_nil))) (nomark _))))))))), ?_⟩
    refine ⟨_, rfl, _, _, _, _, rfl, rfl, SqT.of hp, rfl, _, rfl, _, _, _, _, rfl, rfl, SqT.of hq, rfl, _, _, rfl, rfl, op.b1.cm oq.b2, _, rfl, _, _, _, _, rfl, rfl, SqT.of hq, rfl, _, rfl, _, _, _, _, rfl, rfl, SqT.of hp, rfl, _, _, rfl, rfl, oq.b1.cm op.b2, _, _, rfl, rfl, ?_⟩
    have B : ∀ b : Bool, Mo (fun v _ => v = V.bl b) := fun b v H H' e h => h
    have cons : ∀ (b : Bool) (l : List Bool) (t : TE) (ta : TA) (σ : L2.St) (H0 : Hp), Gv σ H0 t (fun v _ => v = .bl b) → GvA σ H0 ta (fun vs _ => vs = l.map V.bl) → GvA σ H0 (tCons t ta) (fun vs _ => vs = (b :: l).map V.bl) := fun b l t ta σ H0 h1 h2 H Q e k =>
      h1 H _ e fun v H1 e1 r1 => h2 H1 _ (e.trans e1) fun vs H2 e2 r2 => k _ H2 (e1.trans e2) (by rw [r1, r2]; rfl)
    have nil : ∀ (σ : L2.St) (H0 : Hp), GvA σ H0 tNil (fun vs _ => vs = ([] : List Bool).map V.bl) := fun σ H0 H Q e k => k [] H Ext.rfl' rfl
    have lst : ∀ (l : List Bool) (ta : TA) (σ : L2.St) (H0 : Hp), l.length ≤ 4 → GvA σ H0 ta (fun vs _ => vs = l.map V.bl) → Gv σ H0 (tLst ta) (fun v H => ∃ a, v = .ref a ∧ H a = some (.lst (l.map V.bl))) := fun l ta σ H0 hl h H Q e k =>
      h H _ e fun vs H1 e1 r1 => ⟨by rw [r1, List.length_map]; exact Nat.le_trans hl (by decide), fun p np => k _ _ (e1.upd' np) ⟨p, rfl, by rw [r1]; exact upd_same⟩⟩
    refine seq_gv (H0 := H) (lst [clt fp fq, cle fp fq, cgt fp fq, cge fp fq] _ _ _ (by show 4 ≤ 4; decide) (cons _ _ _ _ _ _ (cmp_gv (p := fp) (q := fq) rfl rfl h12 op oq rfl) (cons _ _ _ _ _ _ (cmp_gv (p := fp) (q := fq) rfl rfl h12 op oq rfl) (cons _ _ _ _ _ _ (cmp_gv (p := fp) (q := fq) rfl rfl h12 op oq rfl) (cons _ _ _ _ _ _ (cmp_gv (p := fp) (q := fq) rfl rfl h12 op oq rfl) (nil _ _)))))) Ext.rfl' (fun v H1 e1 r1 => ?_)
    obtain ⟨lg, rfl, hlg⟩ := r1
    have h12' := h12.ext e1
    refine seq_gv (H0 := H1) (lst [ceq fp fq, !ceq fp fq] _ _ _ (by show 2 ≤ 4; decide) (cons _ _ _ _ _ _ (cmp_gv (p := fp) (q := fq) rfl rfl h12' op oq (ceq_comm _ _)) (cons _ _ _ _ _ _ (ne_gv (p := fp) (q := fq) rfl rfl h12' op oq (ceq_comm _ _)) (nil _ _)))) Ext.rfl' (fun v H2 e2 r2 => ?_)
    obtain ⟨ls, rfl, hls⟩ := r2
    have hlg2 := e2 _ _ hlg
    refine ⟨_, rfl, _, _, _, _, rfl, rfl, SqL.of hls, rfl, _, _, _, _, true, rfl, .ty "bool", .base (.bl _), kit_ty (by decide +kernel), _, rfl, iteF ?_⟩
    refine ⟨_, rfl, _, _, _, _, rfl, rfl, SqL.of hls, rfl, _, _, _, _, true, rfl, .ty "bool", .base (.bl _), kit_ty (by decide +kernel), _, rfl, iteF ?_⟩
    have ccmp : (fp.1 * fq.2 - fq.1 * fp.2 < 0 ↔ fp.1 * fq.2 < fq.1 * fp.2) ∧ (fp.1 * fq.2 - fq.1 * fp.2 ≤ 0 ↔ fp.1 * fq.2 ≤ fq.1 * fp.2) ∧ (0 < fp.1 * fq.2 - fq.1 * fp.2 ↔ fq.1 * fp.2 < fp.1 * fq.2) ∧ (0 ≤ fp.1 * fq.2 - fq.1 * fp.2 ↔ fq.1 * fp.2 ≤ fp.1 * fq.2) := ⟨by omega, by omega, by omega, by omega⟩
    refine ⟨_, rfl, _, rfl, _, _, rfl, rfl, _, rfl, _, _, rfl, rfl, _, rfl, _, _, rfl, rfl, _, rfl, _, _, rfl, rfl, (by show 4 ≤ sizeLine; decide), fun l3 n3 => ?_⟩
    have d1 : ∀ (c : Int), c = fp.1 * fq.2 - fq.1 * fp.2 → ([V.bl (decide (c < 0)), V.bl (decide (c ≤ 0)), V.bl (decide (0 < c)), V.bl (decide (0 ≤ c))] : List V) = [clt fp fq, cle fp fq, cgt fp fq, cge fp fq].map V.bl := by
      rintro c rfl
      simp only [clt, cle, cgt, cge, List.map, ccmp.1, ccmp.2.1, ccmp.2.2.1, ccmp.2.2.2]
    have d2 : ∀ (c : Int), c = fp.1 * fq.2 - fq.1 * fp.2 → decide (V.int c = V.int 0) = ceq fp fq := by
      rintro c rfl
      unfold ceq
      rw [Bool.eq_iff_iff]
      simp only [decide_eq_true_eq, V.int.injEq]
      exact (low_cross op.low oq.low).symm
    have eqT : ∀ l : List Bool, PyData.eqv (DB l) (DB l) = true := fun l => by
      unfold DB
      simp [PyData.eqv, eqv_bl]
    have sh : ∀ l : List Bool, l.length ≤ 4 → SeqAt.shaped (DB l) = true := fun l hl => by
      match l, hl with
      | [], _ => rfl
      | [a], _ => rfl
      | [a, b], _ => rfl
      | [a, b, c], _ => rfl
      | [a, b, c, d], _ => rfl
    refine ⟨DB [clt fp fq, cle fp fq, cgt fp fq, cge fp fq], DB [clt fp fq, cle fp fq, cgt fp fq, cge fp fq], .lst (SqL.of (ext1 n3 _ _ hlg2)) (dp_bl _), .lst (SqL.of (by rw [← d1 _ rfl]; exact upd_same)) (dp_bl _), sh _ (by show 4 ≤ 4; decide), sh _ (by show 4 ≤ 4; decide), _, rfl, ?_⟩
    rw [eqT]
    refine iteT ⟨_, rfl, _, rfl, rfl, _, rfl, rfl, (by show 2 ≤ sizeLine; decide), fun l4 n4 => ?_⟩
    refine ⟨DB [ceq fp fq, !ceq fp fq], DB [ceq fp fq, !ceq fp fq], .lst (SqL.of (((ext1 n3).upd' n4) _ _ hls)) (dp_bl _), .lst (SqL.of (by rw [← d2 _ rfl]; exact upd_same)) (dp_bl _), sh _ (by show 2 ≤ 4; decide), sh _ (by show 2 ≤ 4; decide), ?_⟩
    rw [eqT]
    exact kk _ ((e1.trans e2).trans ((ext1 n3).upd' n4))
end
end Fx

set_option Elab.async false
set_option linter.all false
set_option maxRecDepth 100000
set_option maxHeartbeats 4000000
/-! A try with several named clauses; a def that is handed the exception under way. -/
namespace Fx
open PySem PySem.Spec PyProof.Rows L2 FM
abbrev Clause := Value × Nat × (Addr → Value → Option Addr → TS)
/-- behind the suite of a named clause its name is gone -/
def Ends.gone (D : Ends) (i : Nat) : Ends := { nx := fun σ H => D.nx (σ.set i none) H, rt := D.rt, bk := fun σ H => D.bk (σ.set i none) H, ct := fun σ H => D.ct (σ.set i none) H }
def wNamed (K : PySem.W.Frag) (Wout : WX) (D : Ends) : List Clause → WX
  | [] => Wout
  | (c, i, ts) :: r => fun cls d σ H => ∃ b, PySem.W.exmOne K cls c = some b ∧ (b = true → ∀ a, H a = none → ts a cls d (Ends.gone D i) (σ.set i (some (.ref a))) H) ∧ (b = false → wNamed K Wout D r cls d σ H)
inductive Clauses (X : Cx) : List ExceptHandler → List Clause → Prop
  | nil : Clauses X [] []
  | cons {x n : Str} {i : Nat} {c : Value} {ts : Addr → Value → Option Addr → TS} {b₀ : Stmt} {suite : List Stmt} {np pos' : Pos} {hds : List ExceptHandler} {l : List Clause} (hi : X.N[i]? = some n) (hln : X.env.kindOf n = some .local) (hc : Names X x c)
      (hsu : ∀ (a : Addr) (oe : Obj) (cls : Value) (d : Option Addr) (pn : List (Addr × Obj)), Zc cls d oe → (∃ vs, oe.data = .fields vs) → PSs (X.suite a ((a, oe) :: pn)) (b₀ :: suite) (ts a cls d)) (r : Clauses X hds l) :
      Clauses X (.ExceptHandler (some (.Name x np)) (some n) (b₀ :: suite) pos' :: hds) ((c, i, ts) :: l)
section
variable {X : Cx} {body : List Stmt} {h₀ : ExceptHandler} {hds : List ExceptHandler} {l : List Clause} {pos : Pos} {tb : WX → TS} {Wout : WX}
theorem ps_try_named (hs : X.stack = X.env :: X.outer) (hf : X.env.frame = some X.env.locals) (hN : X.N.Nodup) (tk : Takes X Wout)
    (hb : ∀ (W : WX) (pn : List (Addr × Obj)) (xe : Value → Shared → Prop), Takes (X.tr pn xe) W → PassesOwn (model X.prog X.w) X.A X.env xe → PSs (X.tr pn xe) body (tb W))
    (hh : Clauses X (h₀ :: hds) l) : PS X (.Try body (h₀ :: hds) [] [] pos) (fun D σ H => tb (wNamed X.K Wout D l) D σ H) := by
  refine ⟨fun pins s σ H D I h => ?_⟩
  have ok := I.ok
  have hfr : X.A.frames = some (X.env :: X.outer) := by rw [ok.frames, hs]
  refine wpAny_Try_except ?_
  refine wpAny_mono ((hb (wNamed X.K Wout D l) (X.pn ++ pins) (fun e s₁ => wpAny (model X.prog X.w) X.A (noteFrame e X.env) (fun _ s₂ => wpAny (model X.prog X.w) X.A (setFlight e none) (fun _ s₃ =>
    wpAny (model X.prog X.w) X.A (handleBy e X.env (h₀ :: hds)) (SP X pins D) X.xe s₃) X.xe s₂) X.xe s₁) (fun u s' xx => ?_) PassesOwn.looking).run [] s σ H D (I.toTry _) h) (fun f s1 hsp => ?_) (fun e s1 he => he)
  · obtain ⟨a, B, sI, pins', σ', H', cls, d, rfl, J', nb, up, sky, na, os, ag, w⟩ := xx
    have J : Inv X pins σ' H' sI := J'.ofTry ok
    have sky' : Sky B (X.env :: X.outer) a (Zc cls d) X.env.locals s'.heap := by rw [← hs]; exact sky
    show wpAny (model X.prog X.w) X.A (noteFrame (.ref a) X.env) _ _ _
    refine Sky.land Zc.steady hfr hf sky' fun h3 fl3 up3 => ?_
    have J3 : Inv X pins σ' H' { s' with heap := h3 } := J.landed nb fl3.1 (up.trans up3) os ag
    obtain ⟨oe3, vs3, he3, hz3, hd3⟩ := fl3.there
    have nfr : a ∉ frs (X.env :: X.outer) := fun hm => by
      obtain ⟨_, o', e', hnf⟩ := fl3.2.2.1.mem hm
      rw [he3] at e'; cases e'
      exact hnf _ hd3
    have nL : a ≠ X.env.locals := fun z => nfr (List.mem_filterMap.mpr ⟨X.env, List.mem_cons_self, by rw [hf, z]⟩)
    have nF : a ∉ X.fs := fun hm => by
      obtain ⟨e, he, q⟩ := List.mem_filterMap.mp hm
      exact nfr (List.mem_filterMap.mpr ⟨e, List.mem_cons_of_mem _ he, q⟩)
    have S3 := J3.suite he3 hd3 na nL nF
    have LT : PySem.W.Looks (model X.prog X.w) h3 (typeOf (.ref a)) cls := fun A Q E s k q => wpAny_typeOf_ref (k _ _ he3) (by rw [hz3.1]; exact q)
    clear h
    generalize h₀ :: hds = hs' at hh ⊢
    induction hh with
    | nil =>
      refine wpAny_handleBy_nil ?_
      obtain ⟨k1, k2, k3, oe, vs, T, oT, ts', he, hz, hd, h1, hr⟩ := id fl3
      unfold PySem.passOn
      refine wpAny_bind (wpAny_field he hd h1 ?_)
      rw [if_neg (show ¬ ((Value.ref T == Value.none) = true) from by simp)]
      have fin : wpAny (model X.prog X.w) X.A (setFlight (.ref a) X.env.frame) (fun _ s4 => wpAny (model X.prog X.w) X.A (throw (.ref a) : Sem Flow) (SP X pins D) X.xe s4) X.xe { s' with heap := h3 } := by
        rw [hf]
        exact HandSPX.setFlight_upZ fl3 fun h4 hh4 up4 => wpAny_throw (tk _ _ ⟨a, B, sI, pins, σ', H', cls, d, rfl, J, nb, (up.trans up3).trans up4, .inr (.inr (by rw [hs]; exact hh4)), na, os, ag, w⟩)
      first
        | exact wpAny_bind (wpAny_pure (wpAny_bind fin))
        | exact wpAny_bind fin
    | @cons x n i c ts b₀ suite np pos' hds2 l2 hi hln hc hsu r ih =>
      obtain ⟨b, hb1, hyes, hno⟩ := w
      refine wpAny_handleBy_cons (codeAny_handlers_test ?_) (by intro q; cases q)
      have LM := PySem.W.exm_one (M := model X.prog X.w) (J3.kIn) LT hb1
      have test : ∀ {Q : Value → Shared → Prop} {E : Value → Shared → Prop}, Q c { s' with heap := h3 } → wpAny (model X.prog X.w) (X.A.mark (some (.ref a))) (eval (.Name x np) X.env) Q E { s' with heap := h3 } := fun {Q E} q => by
        obtain ⟨hg, hdbg, hm | ⟨hm, hv, hnn⟩⟩ := hc
        · exact ld_glob (X := X.suite a ((a, oe3) :: (X.pn ++ pins))) S3 hg hm q hdbg
        · exact ld_blt (X := X.suite a ((a, oe3) :: (X.pn ++ pins))) S3 hg hm hv q hnn hdbg
      refine test (LM.here ?_)
      cases b with
      | true =>
        refine codeAny_handlers_suite_as ?_
        refine HandSPX.lands_againZ fl3 fun h4 fl4 up4 => ?_
        have J4 : Inv X pins σ' H' { s' with heap := h4 } := J.landed nb fl4.1 ((up.trans up3).trans up4) os ag
        obtain ⟨oe4, vs4, he4, hz4, hd4⟩ := fl4.there
        have S4 := J4.suite he4 hd4 na nL nF
        refine store_ok (X := X.suite a ((a, oe4) :: (X.pn ++ pins))) (v := .ref a) S4 hN hi (.inl hln) rfl (fun s5 S5 => ?_) (.inr hln)
        refine wpAny_mono ((hsu a oe4 cls d (X.pn ++ pins) hz4 ⟨_, hd4⟩).run [] s5 _ H' _ S5 (hyes rfl a na)) (fun f s6 hsp => ?_) (fun _ _ z => False.elim z)
        cases f with
        | ret u =>
          obtain ⟨v6, σ6, H6, S6, r6, q6⟩ := hsp
          exact gone_ok (S6.unsuite ok) hN hi hln fun s7 J7 => ⟨_, _, _, J7, r6, q6⟩
        | next =>
          obtain ⟨σ6, H6, S6, q6⟩ := hsp
          exact gone_ok (S6.unsuite ok) hN hi hln fun s7 J7 => ⟨_, _, J7, q6⟩
        | brk =>
          obtain ⟨σ6, H6, S6, q6⟩ := hsp
          exact gone_ok (S6.unsuite ok) hN hi hln fun s7 J7 => ⟨_, _, J7, q6⟩
        | cont =>
          obtain ⟨σ6, H6, S6, q6⟩ := hsp
          exact gone_ok (S6.unsuite ok) hN hi hln fun s7 J7 => ⟨_, _, J7, q6⟩
      | false =>
        show wpAny _ X.A (handleBy (.ref a) X.env hds2) _ _ _
        exact ih (hno rfl)
  · cases f with
    | next =>
      obtain ⟨σ', H', J', q⟩ := hsp
      exact wpAny_execs_nil ⟨σ', H', J'.ofTry ok, q⟩
    | brk => exact hsp.imp fun _ ⟨_, J', q⟩ => ⟨_, J'.ofTry ok, q⟩
    | cont => exact hsp.imp fun _ ⟨_, J', q⟩ => ⟨_, J'.ofTry ok, q⟩
    | ret u => exact hsp.imp fun _ ⟨_, _, J', r, q⟩ => ⟨_, _, J'.ofTry ok, r, q⟩
/-- what a callee lets out of a try's body is taken, for frames of the right length -/
theorem passes_len {W : WX} {E : XK} (tk : Takes X W) (hW : ∀ cls d σ H, σ.length = X.N.length → E cls d H → W cls d σ H) : Passes (L2.CX X.prog X.w) X E :=
  fun _ σ _ _ e s' I c => tk e s' (XE.of_call I (fun cls d H' h => hW cls d σ H' I.len h) c)
end
/-! ### isinstance of an exception of an own class, with or without fields -/
section
variable {X : Cx} {a D : Addr} {oe : Obj} {d : Option Addr}
/-- its dict, where it has one, is known -/
def Dk (H : Hp) (d : Option Addr) : Prop := d = none ∨ ∃ dd fs, d = some dd ∧ H dd = some (.xd fs)
def rIsX (K : PySem.W.Frag) (D a : Addr) (d : Option Addr) : List V → Hp → VK → Prop := fun xs H Q => ∃ (c : V) (cv : Value) (b : Bool), xs = [.ref a, c] ∧ (∀ u, RelV c u → u = cv) ∧ PySem.W.kitOne K (.ref D) cv = some b ∧ Dk H d ∧ Q (.bl b) H
theorem call_isX (C : ExcC X.K D) (hin : (a, oe) ∈ X.pn) (hz : Zc (.ref D) d oe) (hf : ∃ vs, oe.data = .fields vs) : CallR X (.builtin "isinstance") (rIsX X.K D a d) := by
  intro pins s σ H xs us Q I r h
  obtain ⟨c, cv, b, rfl, hcv, e, hd, q⟩ := h
  cases r with
  | cons rx rr =>
    cases rr with
    | cons rt rr =>
      cases rr
      cases rx
      have ec := hcv _ rt
      subst ec
      obtain ⟨hget, _⟩ := I.pin (a, oe) (List.mem_append_left _ hin)
      obtain ⟨vs, hv⟩ := hf
      obtain ⟨cd, hcd, _⟩ := PySem.W.any_some C.hd
      have nc : PySem.W.notCls oe = true := by unfold PySem.W.notCls; rw [hv] <;> rfl
      have fin : ∀ od, PySem.W.InstAt s.heap a oe D od → wpAny (model X.prog X.w) X.A (call (.builtin "isinstance") _) (EP X pins σ Q) X.xe s := fun od J =>
        PySem.W.kia_one (PySem.W.kitx_exc (od := od) (by rw [hcd]; rfl) C.hg C.hk C.hs C.ha C.hn C.ht C.hm) I.kIn J e (fun z => nomatch z) fun tk => ⟨.bl b, H, I.kept (t' := tk) fun _ _ z => z, rfl, q⟩
      rcases hd with rfl | ⟨dd, fs, rfl, hx⟩
      · exact fin none ⟨hget, hz.1, nc, by rw [hz.2]; trivial⟩
      · obtain ⟨mA, hns, hr⟩ := I.hok dd _ hx
        obtain ⟨od, ho, hl⟩ := lookIn_ns hns
        exact fin (some od) ⟨hget, hz.1, nc, by rw [hz.2]; exact ho⟩
end
/-! ### a def that is handed the exception under way -/
structure FnZ (P : Program) (w : World) (K : PySem.W.Frag) (mg : Str → Option Value) (base : Heap) (k : Nat) (f : Addr) (fd : FuncData) (ps : List Str) (sp : Addr → Value → Option Addr → Sp) : Prop where
  len : ∀ a cls d vs H Q E, sp a cls d vs H Q E → vs.length = ps.length
  run : ∀ (A : Around) (outer : List Env) (s : Shared) (H : Hp) (args : Args) (us : List Value) (vs : List V) (Q : VK) (p : Addr × Obj) (cls : Value) (d : Option Addr), L2H.RoomH k A → Zc cls d p.2 → (∃ vs, p.2.data = .fields vs) → L2H.PinOk outer H s p → Env0 P w K mg base A outer s H → BindsTo s fd args (ps.zip us) → Vals vs us → sp p.1 cls d vs H Q E0 →
    codeAny (model P w) A (.call (.ref f) args) (CR (L2.CX P w) outer P w H s Q E0) s
theorem fn_ofZ {P : Program} {w : World} {K : PySem.W.Frag} {mg : Str → Option Value} {base : Heap} {k : Nat} {f : Addr} {name qual : Str} {params : Arguments} {body : List Stmt} {scope : Scope} {dV kV doc pm cdv ct oc : Value} {an od : Option Addr}
    {osl : Array (Option Value)} {N ps : List Str} {sp : Addr → Value → Option Addr → Sp} (lk : K.lookup f = some ⟨oc, od, .func (PySem.W.fnOf name qual params body scope dV kV doc pm an cdv ct), osl⟩) (hcd : PySem.W.codeIn K cdv qual = true) (S : FnScope N ps scope)
    (len : ∀ a cls d vs H Q E, sp a cls d vs H Q E → vs.length = ps.length)
    (hbody : ∀ (A : Around) (outer : List Env) (s : Shared) (H : Hp) (vs : List V) (Q : VK) (p : Addr × Obj) (cls : Value) (d : Option Addr), Zc cls d p.2 → (∃ vs, p.2.data = .fields vs) → L2H.RoomH k (A.deeper (envOfC qual scope s.heap.objs.size f cdv)) → sp p.1 cls d vs H Q E0 →
      ∃ t, PSs (L2H.cxH (L2.CX P w) P w K mg base N qual scope f cdv A outer s H E0 p) body t ∧ t { nx := fun _ H' => Q .non H', rt := Q } (L2.start N vs) H) :
    FnZ P w K mg base (k + 1) f (PySem.W.fnOf name qual params body scope dV kV doc pm an cdv ct) ps sp := by
  refine ⟨len, fun A outer s H args us vs Q p cls d hr hz hf hpin e0 hb r hsp => ?_⟩
  have hl := len _ _ _ _ _ _ _ hsp
  have KX : K.In s.heap := e0.mod.kin.keeps fun b o e => (e0.bs b o e).1
  have lim : s.heap.NoLimit := e0.mod.nolimit.keeps fun b o e => (e0.bs b o e).1
  have hkind : ∀ y ∈ ps.zip us, scope.names.lookup y.1 = some .local ∨ (scope.names.lookup y.1 = some .cell ∧ ((cellsFrom (s.heap.objs.size + 1) scope.names []).lookup y.1).isSome = true) := fun ⟨n, v⟩ hy =>
    (S.par n (List.of_mem_zip hy).1).imp id fun q => ⟨q, PySem.W.cellsFrom_some _ _ _ (.inl q)⟩
  refine codeAny_call_function hr.depth (KX _ _ lk) rfl S.co S.gen rfl (PySem.W.codeRec_of KX hcd) (hb _ _ _ _ ?_)
  refine wpAny_newFunctionEnv_cells S.kind hkind fun env he s1 x => ?_
  subst he
  refine ⟨lim.keeps x.toInCall.keep, codeAny_func ?_⟩
  obtain ⟨t, ht, hq⟩ := hbody A outer s H vs Q p cls d hz hf (hr.deeper _) hsp
  refine wpAny_mono (ht.run [] s1 (L2.start N vs) H _ (L2H.inv_startH S hpin e0 hl r x) hq) (fun fl s' hs => ?_) fun e s' hs => hs
  cases fl with
  | ret u =>
    obtain ⟨v, σ', H', J, rv, q⟩ := hs
    exact ⟨v, H', J.os, J.bare, J.base, J.hok, rv, q⟩
  | next =>
    obtain ⟨σ', H', J, q⟩ := hs
    exact ⟨.non, H', J.os, J.bare, J.base, J.hok, rfl, q⟩
  | brk =>
    obtain ⟨_, _, _, q⟩ := hs
    exact False.elim q
  | cont =>
    obtain ⟨_, _, _, q⟩ := hs
    exact False.elim q
section
variable {X : Cx} {k : Nat} {f a : Addr} {oe : Obj} {cls : Value} {d : Option Addr} {fd : FuncData} {ps : List Str} {sp : Addr → Value → Option Addr → Sp} {x : Str} {q pos : Pos} {e : Expr} {es : List Expr} {t : TA}
theorem pe_callZ (F : FnZ X.prog X.w X.K X.mg X.base k f fd ps sp) (hr : L2H.RoomH k X.A) (hin : (a, oe) ∈ X.pn) (hz : Zc cls d oe) (hf : ∃ vs, oe.data = .fields vs) (hg : Gl X x) (hm : X.mg x = some (.ref f)) (hk : PySem.W.keepIn X.K (.ref f) = true) (hb : Binds X.K fd ps [])
    (ha : PA X (e :: es) t) (hdb : (x == ("__debug__" : Str)) = false := by decide) (he : starEach (e :: es) X.env = (false, eval e X.env) :: starEach es X.env := by rfl) (hpl : (backTo pos (starEach es X.env)).any (·.1) = false := by rfl) :
    PE X (.Call (.Name x q) (e :: es) [] pos) (fun σ H Q => t σ H fun vs H1 => sp a cls d vs H1 Q E0) := by
  refine ⟨fun pins s σ H Q I h => ?_⟩
  refine wpAny_Call_Name_kw (ld_glob I hg hm ?_ hdb)
  refine PySem.W.callWith_K (h₀ := X.base) I.ok.mod.kin hk (thn (ha.run pos pins s σ H _ I h) fun us s1 ⟨vs, H1, I1, r, q⟩ => ⟨I1.kIn, ?_⟩) he hpl
  have hl : us.length = ps.length := by rw [← r.length]; exact F.len _ _ _ _ _ _ _ q
  have b := hb s1 us I1.kIn (by rw [List.append_nil]; exact hl)
  rw [List.append_nil] at b
  have P1 := I1.pin (a, oe) (List.mem_append_left _ hin)
  have hpin : L2H.PinOk X.stack H1 s1 (a, oe) := ⟨P1.1, P1.2.1, fun hm => (List.mem_cons.mp (I1.stkSub a hm)).elim P1.2.2.1 P1.2.2.2.1, P1.2.2.2.2⟩
  refine wpAny_call (codeAny_mono (F.run X.A X.stack s1 H1 ⟨us, []⟩ us vs Q (a, oe) cls d hr hz hf hpin I1.env0 b r q) fun r s' hq => ?_)
  cases r with
  | error e =>
    obtain ⟨_, _, _, _, _, _, _, _, _, _, _, _, w⟩ := hq
    exact w.elim
  | ok fl =>
    cases fl with
    | ret u => exact I1.after hq
    | next => exact False.elim hq
    | brk => exact False.elim hq
    | cont => exact False.elim hq
end
end Fx

set_option Elab.async false
set_option linter.all false
set_option maxRecDepth 100000
set_option maxHeartbeats 4000000
set_option exponentiation.threshold 20000
namespace Fx
open PySem PySem.Spec PyProof.Rows L2 FM
theorem boot_VE : bootBuiltins "ValueError" = some (.type "ValueError") := by decide +kernel
abbrev sSort : Stmt := top 29
abbrev sTold : Stmt := top 30
/-- what the walk asks of the exceptions of the text -/
structure XA (K : PySem.W.Frag) (mg : Str → Option Value) (A : Adr) (Mm : Addr) : Prop where
  gT : mg "BadText" = some (.ref A.T)
  gB : mg "BadCount" = some (.ref A.B)
  gM : mg "Mismatch" = some (.ref Mm)
  gW : mg "WebError" = some (.ref A.W)
  ve : mg "ValueError" = none
  eZ : ExcC K A.Z
  eT : ExcC K A.T
  zW : PySem.W.kitOne K (.ref A.Z) (.ref A.W) = some true
  zV : PySem.W.kitOne K (.ref A.Z) (.type "ValueError") = some true
  zZ : PySem.W.kitOne K (.ref A.Z) (.ref A.Z) = some true
  zT : PySem.W.kitOne K (.ref A.Z) (.ref A.T) = some false
  zB : PySem.W.kitOne K (.ref A.Z) (.ref A.B) = some false
  zM : PySem.W.kitOne K (.ref A.Z) (.ref Mm) = some false
  tW : PySem.W.kitOne K (.ref A.T) (.ref A.W) = some true
  tV : PySem.W.kitOne K (.ref A.T) (.type "ValueError") = some true
  tZ : PySem.W.kitOne K (.ref A.T) (.ref A.Z) = some false
  tT : PySem.W.kitOne K (.ref A.T) (.ref A.T) = some true
  tB : PySem.W.kitOne K (.ref A.T) (.ref A.B) = some false
  tM : PySem.W.kitOne K (.ref A.T) (.ref Mm) = some false
  xZ : PySem.W.exmOne K (.ref A.Z) (.ref A.Z) = some true
  xTZ : PySem.W.exmOne K (.ref A.T) (.ref A.Z) = some false
  xT : PySem.W.exmOne K (.ref A.T) (.ref A.T) = some true
  xf : XfC K A.T
  xn : PySem.W.findIn K (.ref A.T) "text" = some none
/-- a def that is handed the exception, with its promise -/
structure CalZ (P : Program) (w : World) (K : PySem.W.Frag) (mg : Str → Option Value) (base : Heap) (k : Nat) (f : Addr) (ps : List Str) (sp : Addr → Value → Option Addr → Sp) : Prop where
  ex : ∃ fd, FnZ P w K mg base k f fd ps sp ∧ Binds K fd ps []
  kp : PySem.W.keepIn K (.ref f) = true
section
variable {P : Program} {w : World} {K : PySem.W.Frag} {mg : Str → Option Value} {base : Heap} {A : Adr} {Mm : Addr}
def spSort (A : Adr) (a : Addr) (cls : Value) (d : Option Addr) : Sp := fun vs H Q _ => vs = [.ref a] ∧ ∃ z : Bool, cls = .ref (if z = true then A.Z else A.T) ∧ Dk H d ∧ ∀ r H', Ext H H' → H' r = some (.lst [.bl z, .bl (!z), .bl false, .bl false]) → Q (.ref r) H'
theorem scSort : FnScope ["e"] ["e"] (defScope sSort) := ⟨rfl, rfl, rfl, by decide +kernel, rfl, by decide +kernel, by decide +kernel⟩
theorem ok_sort {f : Addr} {fd : FuncData} (F : Fun K "_law_sort" "_law_sort" sSort f fd) (T : FT K mg A) (X_ : XA K mg A Mm) : FnZ P w K mg base 1 f fd ["e"] (spSort A) := by
  obtain ⟨oc, od, kV, doc, pm, an, cdv, ct, osl, rfl, lk, hcd⟩ := F.ex
  refine fn_ofZ lk hcd scSort (fun a cls d vs H Q E h => ?_) (fun AA outer s H vs Q p cls d hz hf hr h => ?_)
  · obtain ⟨rfl, _⟩ := h
    rfl
  · obtain ⟨rfl, z, rfl, hd, kk⟩ := h
    obtain ⟨D, eD, hD, kW, kV, kZ, kT, kB, kM⟩ : ∃ D, ExcC K D ∧ (if z = true then A.Z else A.T) = D ∧ PySem.W.kitOne K (.ref D) (.ref A.W) = some true ∧ PySem.W.kitOne K (.ref D) (.type "ValueError") = some true ∧ PySem.W.kitOne K (.ref D) (.ref A.Z) = some z ∧ PySem.W.kitOne K (.ref D) (.ref A.T) = some (!z) ∧ PySem.W.kitOne K (.ref D) (.ref A.B) = some false ∧ PySem.W.kitOne K (.ref D) (.ref Mm) = some false := by
      cases z
      · exact ⟨A.T, X_.eT, rfl, X_.tW, X_.tV, X_.tZ, X_.tT, X_.tB, X_.tM⟩
      · exact ⟨A.Z, X_.eZ, rfl, X_.zW, X_.zV, X_.zZ, X_.zT, X_.zB, X_.zM⟩
    rw [hD] at hz
    refine ⟨_, pss_cons (ps_if (PW.pt (pw_or (pt_not (pt_val (pe_callB (call_isX (a := p.1) (oe := p.2) eD List.mem_cons_self hz hf) (by rfl) T.isi boot_isi (pa_cons (pv 0) (pa_cons (pe_glob (v := .ref A.W) (by rfl) X_.gW rfl) pa_nil)))))
        (pw_or1 (pt_not (pt_val (pe_callB (call_isX (a := p.1) (oe := p.2) eD List.mem_cons_self hz hf) (by rfl) T.isi boot_isi (pa_cons (pv 0) (pa_cons (pe_bltn (v := .ty "ValueError") (by rfl) X_.ve boot_VE rfl) pa_nil)))))))) (pss_one ps_never) pss_nil)
      (pss_one (ps_ret (pe_lst (pa_cons (pe_callB (call_isX (a := p.1) (oe := p.2) eD List.mem_cons_self hz hf) (by rfl) T.isi boot_isi (pa_cons (pv 0) (pa_cons (pe_glob (v := .ref A.Z) (by rfl) T.gZ rfl) pa_nil)))
        (pa_cons (pe_callB (call_isX (a := p.1) (oe := p.2) eD List.mem_cons_self hz hf) (by rfl) T.isi boot_isi (pa_cons (pv 0) (pa_cons (pe_glob (v := .ref A.T) (by rfl) X_.gT rfl) pa_nil)))
        (pa_cons (pe_callB (call_isX (a := p.1) (oe := p.2) eD List.mem_cons_self hz hf) (by rfl) T.isi boot_isi (pa_cons (pv 0) (pa_cons (pe_glob (v := .ref A.B) (by rfl) X_.gB rfl) pa_nil)))
        (pa_cons (pe_callB (call_isX (a := p.1) (oe := p.2) eD List.mem_cons_self hz hf) (by rfl) T.isi boot_isi (pa_cons (pv 0) (pa_cons (pe_glob (v := .ref Mm) (by rfl) X_.gM rfl) pa_nil))) pa_nil))))))), ?_⟩
    refine ⟨_, rfl, _, _, _, rfl, fun u z => z, kW, hd, _, rfl, iteF ?_⟩
    refine ⟨_, rfl, _, _, _, rfl, fun u z => z, kV, hd, _, rfl, iteF ?_⟩
    refine ⟨_, rfl, _, _, _, rfl, fun u z => z, kZ, hd, ?_⟩
    refine ⟨_, rfl, _, _, _, rfl, fun u z => z, kT, hd, ?_⟩
    refine ⟨_, rfl, _, _, _, rfl, fun u z => z, kB, hd, ?_⟩
    refine ⟨_, rfl, _, _, _, rfl, fun u z => z, kM, hd, ?_⟩
    exact ⟨by show 4 ≤ sizeLine; decide, fun r nr => kk r _ (ext1 nr) upd_same⟩
end
/-! ### told -/
section
variable {X : Cx} {A : Adr} {e e2 : Expr} {p pos : Pos} {t : TA} {E : XK}
/-- Frac(n, 0) -/
def tFrZ (A : Adr) (E : XK) (t : TA) : TE := fun σ H _ => t σ H fun vs H1 => (∃ n, vs = [.int n, .int 0]) ∧ ∀ H', Ext H1 H' → E (.ref A.Z) none H'
theorem pe_fracZ (m : MkF X.prog X.w X.K X.mg X.base A) (T : FT X.K X.mg A) (hr : Room 2 X.A) (hx : Passes (L2.CX X.prog X.w) X E) (hg : Gl X "Frac") (ha : PA X [e, e2] t)
    (he : starEach [e, e2] X.env = (false, eval e X.env) :: starEach [e2] X.env := by rfl) (hpl : (backTo pos (starEach [e2] X.env)).any (·.1) = false := by rfl) : PE X (.Call (.Name "Frac" p) [e, e2] [] pos) (tFrZ A E t) := by
  obtain ⟨fd, F, hb, _⟩ := m.ex
  refine ⟨fun pins s σ H Q I h => ?_⟩
  refine wpAny_Call_Name_kw (ld_glob I hg T.mgC ?_ (by decide))
  refine PySem.W.callWith_K (h₀ := X.base) I.ok.mod.kin m.mkc.kp (thn (ha.run pos pins s σ H _ I h) fun us s1 ⟨vs, H1, I1, r, q⟩ => ⟨I1.kIn, ?_⟩) he hpl
  obtain ⟨⟨n, rfl⟩, k⟩ := q
  exact run_make m.mkc F hr hb .nil (E := E) hx I1 r fun x dx nx ndx nex => ⟨x, dx, n, 0, rfl, upd_same, by unfold Bi; exact Nat.two_pow_pos _, fun _ => k _ (made_ext2 nx ndx), fun z => absurd rfl z⟩
end
/-- what lets read raise -/
def Bad (t : Str) : Prop := ∀ p : Int × Int, Low p → p.1.natAbs < 10 ^ 60 → p.2.natAbs < 10 ^ 60 → t ≠ wr p
def spRead (A : Adr) : Sp := fun vs H Q E => ∃ t, vs = [.str t] ∧ t.length ≤ 5000 ∧ ((∃ p, Low p ∧ p.1.natAbs < 10 ^ 60 ∧ p.2.natAbs < 10 ^ 60 ∧ t = wr p ∧ ∀ r H', Ext H H' → FracAt A.C H' r p → Q (.ref r) H') ∨
  (Bad t ∧ ∀ dd H', Ext H H' → H' dd = some (.xd [("text", .str t)]) → E (.ref A.T) (some dd) H'))
def ZeroIn (A : Adr) (H : Hp) (w : Int) (one two : V) : Prop :=
  (w = 0 ∧ (∃ n, one = .int n) ∧ two = .int 0) ∨ ((w = 1 ∨ w = 2) ∧ ∃ p q, Two A H one two p q ∧ Oks p ∧ Oks q ∧ q.1 = 0) ∨ (w = 3 ∧ ∃ a p q, one = .ref a ∧ FracAt A.C H a p ∧ Num A H two q ∧ Okf p ∧ Okf q ∧ q.1 = 0)
def Told (r : Addr) (z : Bool) (s t : Str) : Hp → Prop := fun H => ∃ l, H r = some (.tup [.str s, .ref l, .str t]) ∧ H l = some (.lst [.bl z, .bl (!z), .bl false, .bl false])
def spTold (A : Adr) : Sp := fun vs H Q _ => ∃ w one two, vs = [.int w, one, two] ∧ ((ZeroIn A H w one two ∧ ∀ r H', Ext H H' → Told r true "zero" "" H' → Q (.ref r) H') ∨
  (w = 4 ∧ ∃ t, one = .str t ∧ t.length ≤ 5000 ∧ Bad t ∧ ∀ r H', Ext H H' → Told r false "text" t H' → Q (.ref r) H'))
def tSrt (A : Adr) (a : Addr) (cls : Value) (d : Option Addr) : TE := fun σ H Q => tCons (tVar 4) tNil σ H fun vs H1 => spSort A a cls d vs H1 Q E0
def tZero (A : Adr) : Addr → Value → Option Addr → TS := fun a cls d => tRet (tTup (tCons (tC (.str "zero")) (tCons (tSrt A a cls d) (tCons (tC (.str "")) tNil))))
def tText (A : Adr) : Addr → Value → Option Addr → TS := fun a cls d => tRet (tTup (tCons (tC (.str "text")) (tCons (tSrt A a cls d) (tCons (tXf a cls d A.T "text" (tVar 4)) tNil))))
theorem zero_ok {A : Adr} {a : Addr} {D : Ends} {σ : L2.St} {H : Hp} (h : σ[4]? = some (some (.ref a))) (k : ∀ r H', Ext H H' → Told r true "zero" "" H' → D.rt (.ref r) H') : tZero A a (.ref A.Z) none D σ H :=
  ⟨_, h, rfl, true, rfl, .inl rfl, fun l H2 e2 hl => ⟨by show 3 ≤ sizeLine; decide, fun r nr => k r _ (e2.upd' nr) ⟨l, upd_same, ext1 nr _ _ hl⟩⟩⟩
theorem text_ok {A : Adr} {a dd : Addr} {t : Str} {D : Ends} {σ : L2.St} {H : Hp} (h : σ[4]? = some (some (.ref a))) (hx : H dd = some (.xd [("text", .str t)])) (k : ∀ r H', Ext H H' → Told r false "text" t H' → D.rt (.ref r) H') : tText A a (.ref A.T) (some dd) D σ H :=
  ⟨_, h, rfl, false, rfl, .inr ⟨dd, _, rfl, hx⟩, fun l H2 e2 hl => ⟨_, h, rfl, rfl, dd, _, .str t, rfl, e2 _ _ hx, by simp [List.lookup], by show 3 ≤ sizeLine; decide, fun r nr => k r _ (e2.upd' nr) ⟨l, upd_same, ext1 nr _ _ hl⟩⟩⟩
def EW (W : WX) : XK := fun cls d H => ∀ σ, σ.length = 5 → W cls d σ H
section
variable {P : Program} {w : World} {K : PySem.W.Frag} {mg : Str → Option Value} {base : Heap} {A : Adr} {Mm : Addr}
theorem scTold : FnScope ["what", "one", "two", "got", "e"] ["what", "one", "two"] (defScope sTold) := ⟨rfl, rfl, rfl, by decide +kernel, rfl, by decide +kernel, by decide +kernel⟩
theorem roomH_mark {k : Nat} {A : Around} {v : Option Value} (r : Room k A) : L2H.RoomH k (A.mark v) := ⟨r.dp, r.un⟩
theorem ok_told {f : Addr} {fd : FuncData} (F : Fun K "_law_told" "_law_told" sTold f fd) (F_ : FA P w K mg base A) (X_ : XA K mg A Mm) (smR : SMet K A.C (.type "type") "read" A.pRead A.read) (cR : Cal P w K mg base 6 A.read ["text"] (spRead A))
    (hS : ∃ f, mg "_law_sort" = some (.ref f) ∧ CalZ P w K mg base 1 f ["e"] (spSort A)) :
    FnOk P w K mg base (L2.CX P w) 8 f fd ["what", "one", "two"] (spTold A) := by
  refine F.okX scTold (fun vs H Q E h => ?_) (fun cdv AA outer s H vs Q E hr h => ?_)
  · obtain ⟨w', one, two, rfl, _⟩ := h
    rfl
  · obtain ⟨w', one, two, rfl, h⟩ := h
    obtain ⟨fS, gS, cS⟩ := hS
    obtain ⟨fdS, GS, bS⟩ := cS.ex
    obtain ⟨fdR, GR, bR⟩ := cR.ex
    obtain ⟨fdF, GF, bF⟩ := F_.cFlo.ex
    obtain ⟨fdG, GG, bG⟩ := F_.cRflo.ex
    obtain ⟨fdM, GM, bM⟩ := F_.cMod.ex
    obtain ⟨fdN, GN, bN⟩ := F_.cRmod.ex
    obtain ⟨fdO, GO, bO⟩ := F_.cOver.ex
    have pas : ∀ {X : Cx} {W : WX}, X.N.length = 5 → Takes X W → Passes (L2.CX X.prog X.w) X (EW W) := fun hN tk => passes_len tk fun _ _ σ _ hl h => h σ (hl.trans hN)
    refine ⟨_, pss_cons (ps_try_named (l := [(.ref A.Z, 4, tZero A), (.ref A.T, 4, tText A)]) rfl rfl scTold.nd (takes_of rfl rfl rfl rfl)
      (fun W pn xe tk po => (pss_one (ps_if (pt_cmpR L2.op_eq (pv 0) pe_int (nomark _)) (pss_one (ps_set (i := 3) scTold.nd rfl (Or.inl rfl) (pe_fracZ F_.M F_.T (hr.mono (by decide)) (E := EW W) (pas rfl tk) rfl (pa_cons (pv 1) (pa_cons (pv 2) pa_nil))))) (pss_one (ps_if (pt_cmpR L2.op_eq (pv 0) pe_int (nomark _)) (pss_one (ps_set (i := 3) scTold.nd rfl (Or.inl rfl) (pe_op (OpR.or (op_own F_.bFlo GF (hr.mono (by decide)) bF (E := EW W) (pas rfl tk)) (op_ref int_fdiv F_.rFlo GG (hr.mono (by decide)) bG (E := EW W) (pas rfl tk))) (pv 1) (pv 2)))) (pss_one (ps_if (pt_cmpR L2.op_eq (pv 0) pe_int (nomark _)) (pss_one (ps_set (i := 3) scTold.nd rfl (Or.inl rfl) (pe_op (OpR.or (op_own F_.bMod GM (hr.mono (by decide)) bM (E := EW W) (pas rfl tk)) (op_ref int_mod F_.rMod GN (hr.mono (by decide)) bN (E := EW W) (pas rfl tk))) (pv 1) (pv 2)))) (pss_one (ps_if (pt_cmpR L2.op_eq (pv 0) pe_int (nomark _)) (pss_one (ps_set (i := 3) scTold.nd rfl (Or.inl rfl) (pe_meth (pv 1) F_.T.cl F_.mOver GO (hr.mono (by decide)) bO .nil (E := EW W) (pas rfl tk) (pa_cons (pv 2) pa_nil)))) (pss_one (ps_set (i := 3) scTold.nd rfl (Or.inl rfl) (pe_smeth (pe_glob (v := .ref A.C) (by rfl) F_.T.mgC rfl) F_.S.cr smR F_.T.tC GR (hr.mono (by decide)) bR (E := EW W) (pas rfl tk) (pa_cons (pv 1) pa_nil)))))))))))))
      (Clauses.cons (i := 4) rfl rfl ⟨rfl, by decide, .inl F_.T.gZ⟩ (fun a oe cls d pn hz hf => (pss_one (ps_ret (pe_tup (pa_cons pe_str (pa_cons (pe_callZ GS (L2H.RoomH.mono (roomH_mark hr) (by decide)) List.mem_cons_self hz hf (by rfl) gS cS.kp bS (pa_cons (pv 4) pa_nil)) (pa_cons pe_str pa_nil))))))) (Clauses.cons (i := 4) rfl rfl ⟨rfl, by decide, .inl X_.gT⟩ (fun a oe cls d pn hz hf => (pss_one (ps_ret (pe_tup (pa_cons pe_str (pa_cons (pe_callZ GS (L2H.RoomH.mono (roomH_mark hr) (by decide)) List.mem_cons_self hz hf (by rfl) gS cS.kp bS (pa_cons (pv 4) pa_nil)) (pa_cons (pe_xf X_.xf X_.xn hz hf (pv 4)) pa_nil))))))) .nil)))
      (pss_one ps_never), ?_⟩
    have z : ∀ (Wo : WX) (D : Ends), D.rt = Q → (∀ r H', Ext H H' → Told r true "zero" "" H' → Q (.ref r) H') → ∀ H1, Ext H H1 → EW (wNamed K Wo D [(.ref A.Z, 4, tZero A), (.ref A.T, 4, tText A)]) (.ref A.Z) none H1 := fun Wo D hD kk H1 e1 σ hl =>
      ⟨true, X_.xZ, fun _ a na => zero_ok (List.getElem?_set_self (by omega)) (fun r H' e' ht => by
        show D.rt _ _
        rw [hD]
        exact kk r H' (e1.trans e') ht), fun z => nomatch z⟩
    rcases h with ⟨hz, kk⟩ | ⟨rfl, t, rfl, hlen, hb, kk⟩
    · rcases hz with ⟨rfl, ⟨n, rfl⟩, rfl⟩ | ⟨hw, p, q, h2, op, oq, hq⟩ | ⟨rfl, a, p, q, rfl, ha, hy, op, oq, hq⟩
      · exact ⟨_, rfl, rfl, _, rfl, iteD rfl ⟨_, rfl, _, rfl, ⟨n, rfl⟩, fun H' e' => z _ _ rfl kk H' e'⟩⟩
      · rcases hw with rfl | rfl
        · refine ⟨_, rfl, rfl, _, rfl, iteDF (by decide) ⟨_, rfl, rfl, _, rfl, iteD rfl ⟨_, rfl, _, rfl, ?_⟩⟩⟩
          rcases h2 with ⟨a, e1, f, nq⟩ | ⟨n, b, e1, e2, e3, f⟩
          · exact .inl ⟨by rw [e1]; exact f.ins, nq.elim (fun ⟨b, e, f⟩ => .inl (by rw [e]; exact f.ins)) (fun e => .inr ⟨_, e.1⟩), a, p, two, q, by rw [e1], f, nq, op.ok, oq.ok, fun _ H' e' => z _ _ rfl kk H' e', fun h => absurd hq h⟩
          · exact .inr ⟨⟨n, e1⟩, by rw [e3]; exact f.ins, b, q, one, p, by rw [e3], f, by rw [e1, e2]; exact .int n, oq.ok, op.ok, fun _ H' e' => z _ _ rfl kk H' e', fun h => absurd hq h⟩
        · refine ⟨_, rfl, rfl, _, rfl, iteDF (by decide) ⟨_, rfl, rfl, _, rfl, iteDF (by decide) ⟨_, rfl, rfl, _, rfl, iteD rfl ⟨_, rfl, _, rfl, ?_⟩⟩⟩⟩
          rcases h2 with ⟨a, e1, f, nq⟩ | ⟨n, b, e1, e2, e3, f⟩
          · exact .inl ⟨by rw [e1]; exact f.ins, nq.elim (fun ⟨b, e, f⟩ => .inl (by rw [e]; exact f.ins)) (fun e => .inr ⟨_, e.1⟩), a, p, two, q, by rw [e1], f, nq, op, oq, fun _ H' e' => z _ _ rfl kk H' e', fun h => absurd hq h⟩
          · exact .inr ⟨⟨n, e1⟩, by rw [e3]; exact f.ins, b, q, n, by rw [e3, e1], f, oq, by rw [← e2]; exact op, fun _ H' e' => z _ _ rfl kk H' e', fun h => absurd hq h⟩
      · obtain ⟨dx, hA⟩ := id ha
        exact ⟨_, rfl, rfl, _, rfl, iteDF (by decide) ⟨_, rfl, rfl, _, rfl, iteDF (by decide) ⟨_, rfl, rfl, _, rfl, iteDF (by decide) ⟨_, rfl, rfl, _, rfl, iteD rfl ⟨_, rfl, a, dx, fr p, rfl, hA, fr_no _ (by decide +kernel) (by decide +kernel), _, rfl, a, p, two, q, rfl, ha, hy, op, oq, fun _ H' e' => z _ _ rfl kk H' e', fun h => absurd hq h⟩⟩⟩⟩⟩
    · refine ⟨_, rfl, rfl, _, rfl, iteDF (by decide) ⟨_, rfl, rfl, _, rfl, iteDF (by decide) ⟨_, rfl, rfl, _, rfl, iteDF (by decide) ⟨_, rfl, rfl, _, rfl, iteDF (by decide) ⟨rfl, _, rfl, t, rfl, hlen, .inr ⟨hb, fun dd H1 e1 hx σ hl => ?_⟩⟩⟩⟩⟩⟩
      exact ⟨false, X_.xTZ, fun z => (nomatch z), fun _ => ⟨true, X_.xT, fun _ a na => text_ok (List.getElem?_set_self (by omega)) hx (fun r H' e' ht => kk r H' (e1.trans e') ht), fun z => nomatch z⟩⟩
end
end Fx

set_option Elab.async false
set_option linter.all false
set_option maxRecDepth 100000
set_option maxHeartbeats 4000000
set_option exponentiation.threshold 20000
namespace Fx
open PySem PySem.Spec PyProof.Rows L2 FM
abbrev sZeros : Stmt := top 31
/-- exactly v, the heap untouched -/
def Giv (σ : L2.St) (t : TE) (v : V) : Prop := ∀ H Q, Q v H → t σ H Q
theorem giv_c {σ : L2.St} {v : V} : Giv σ (tC v) v := fun _ _ q => q
theorem giv_v {σ : L2.St} {i : Nat} {v : V} (h : σ[i]? = some (some v)) : Giv σ (tVar i) v := fun _ _ q => ⟨v, h, q⟩
/-- a triple with S -/
def Tr (S : V → V → V → Hp → Prop) : V → Hp → Prop := fun v H => ∃ t a b c, v = .ref t ∧ H t = some (.tup [a, b, c]) ∧ S a b c H
def Mo3 (S : V → V → V → Hp → Prop) : Prop := ∀ a b c H H', Ext H H' → S a b c H → S a b c H'
theorem mo_tr {S : V → V → V → Hp → Prop} (m : Mo3 S) : Mo (Tr S) := fun _ _ _ e ⟨t, a, b, c, h1, h2, h3⟩ => ⟨t, a, b, c, h1, e _ _ h2, m _ _ _ _ _ e h3⟩
section
variable {σ : L2.St} {H0 : Hp} {t1 t2 t3 : TE} {n : Nat}
theorem gv_tr {S : V → V → V → Hp → Prop} {a b c : V} (mo : Mo3 S) (h1 : Giv σ t1 a) (h2 : Giv σ t2 b) (h3 : Giv σ t3 c) (s : S a b c H0) : Gv σ H0 (tTup (tCons t1 (tCons t2 (tCons t3 tNil)))) (Tr S) := fun H Q e k =>
  h1 H _ (h2 H _ (h3 H _ ⟨by show 3 ≤ sizeLine; decide, fun p np => k _ _ (ext1 np) ⟨p, a, b, c, rfl, upd_same, mo _ _ _ _ _ (e.trans (ext1 np)) s⟩⟩))
theorem wipe3 (σ : L2.St) {i j k : Nat} (a b c : Option V) : wipe ((((wipe σ [i, j, k]).set i a).set j b).set k c) [i, j, k] = wipe σ [i, j, k] := by
  refine List.ext_getElem? fun m => ?_
  by_cases h1 : m ∈ [i, j, k]
  · have g : ∀ τ : L2.St, (wipe τ [i, j, k])[m]? = if m < τ.length then some none else none := fun τ => by
      simp only [wipe, List.getElem?_set, List.length_set]
      simp only [List.mem_cons, List.not_mem_nil, or_false] at h1
      rcases h1 with rfl | rfl | rfl
      · simp
      · by_cases e : i = m <;> simp [e]
      · by_cases e : i = m <;> by_cases e' : j = m <;> simp [e, e']
    rw [g, g]
    simp [wipe]
  · rw [wipe_out h1, wipe_out h1]
    simp only [List.mem_cons, List.not_mem_nil, or_false, not_or] at h1
    rw [List.getElem?_set_ne (Ne.symm h1.2.2), List.getElem?_set_ne (Ne.symm h1.2.1), List.getElem?_set_ne (Ne.symm h1.1)]
    exact wipe_out (by simp [h1.1, h1.2.1, h1.2.2])
/-- all([.. for a, b, c in rows]), each element True -/
theorem gv_all3 {K : PySem.W.Frag} {i l i1 i2 i3 : Nat} {te : TE} {xs : List V} {S : V → V → V → Hp → Prop} (hσ : σ[i]? = some (some (.ref l))) (hl : H0 l = some (.lst xs)) (hx : All (Tr S) n xs H0) (mo : Mo3 S) (hn : n < sizeLine) (h12 : i1 ≠ i2) (h13 : i1 ≠ i3) (h23 : i2 ≠ i3) (l1 : i1 < σ.length) (l2 : i2 < σ.length) (l3 : i3 < σ.length)
    (step : ∀ (τ : L2.St) (a b c : V) (H : Hp) (Q : VK), τ[i1]? = some (some a) → τ[i2]? = some (some b) → τ[i3]? = some (some c) → (∀ k, k ≠ i1 → k ≠ i2 → k ≠ i3 → τ[k]? = σ[k]?) → Ext H0 H → S a b c H → (∀ H', Ext H H' → Q (.bl true) H') → te τ H Q) :
    Gv σ H0 (tCB (rAll K) (tCons (tLc (iList K (tVar i)) (gTup K 3 (gCons (gName i1) (gCons (gName i2) (gCons (gName i3) gNil)))) tYes te [i1, i2, i3]) tNil)) (fun v _ => v = .bl true) :=
  gv_all hσ hl hx (mo_tr mo) hn fun x H Q Q' e ⟨t, a, b, c, ex, ht, hs⟩ k => by
    have hlen : (wipe σ [i1, i2, i3]).length = σ.length := wipe_length _ _
    refine ⟨t, [a, b, c], ex, SqT.of ht, rfl, a, [b, c], rfl, b, [c], rfl, c, [], rfl, rfl, wipe3 σ _ _ _, ?_⟩
    refine @iteT _ (Q' H) ?_
    refine step _ a b c H Q ?_ ?_ ?_ (fun k h1 h2 h3 => ?_) e hs k
    · rw [List.getElem?_set_ne (Ne.symm h13), List.getElem?_set_ne (Ne.symm h12), List.getElem?_set_self (by rw [hlen]; exact l1)]
    · rw [List.getElem?_set_ne (Ne.symm h23), List.getElem?_set_self (by rw [List.length_set, hlen]; exact l2)]
    · rw [List.getElem?_set_self (by rw [List.length_set, List.length_set, hlen]; exact l3)]
    · rw [List.getElem?_set_ne (Ne.symm h3), List.getElem?_set_ne (Ne.symm h2), List.getElem?_set_ne (Ne.symm h1)]
      exact wipe_out (by simp [h1, h2, h3])
end
section
variable {P : Program} {w : World} {K : PySem.W.Frag} {mg : Str → Option Value} {base : Heap} {A : Adr} {Mm : Addr}
def DT (z : Bool) (s t : Str) : PyData := .tuple [.str s, .list ([z, !z, false, false].map .bool), .str t]
theorem Told.dp {H : Hp} {r : Addr} {z : Bool} {s t : Str} (h : Told r z s t H) : Dp K H (.ref r) (DT z s t) := let ⟨l, h1, h2⟩ := h
  .tup (SqT.of h1) (.cons (.str s) (.cons (.lst (SqL.of h2) (dp_bl [z, !z, false, false])) (.cons (.str t) .nil)))
theorem Told.ext {H H' : Hp} {r : Addr} {z : Bool} {s t : Str} (h : Told r z s t H) (e : Ext H H') : Told r z s t H' := let ⟨l, h1, h2⟩ := h; ⟨l, e _ _ h1, e _ _ h2⟩
theorem dt_eqv (z : Bool) (s t : Str) : PyData.eqv (DT z s t) (DT z s t) = true := by
  unfold DT
  simp [PyData.eqv, PyData.eqvAll]
theorem dt_sh (z : Bool) {s t : Str} (hs : PyData.strOk s = true) (ht : PyData.strOk t = true) : SeqAt.shaped (DT z s t) = true := by
  unfold SeqAt.shaped DT
  simp [PyData.canLay0, PyData.canLayAll0, PyData.depth, PyData.depthAll, hs, ht]
theorem ok_zero : PyData.strOk "zero" = true := by decide +kernel
theorem ok_none : PyData.strOk "" = true := by decide +kernel
theorem op_eqK {X : Cx} {K : PySem.W.Frag} (hK : X.K = K) (hu : X.A.units + 64 < cLine) : OpR X (compareOp .Eq) (rEqD K) := hK ▸ op_eqD hu
theorem ZeroIn.ext {H H' : Hp} {w : Int} {one two : V} (h : ZeroIn A H w one two) (e : Ext H H') : ZeroIn A H' w one two := h.elim .inl fun h => .inr (h.elim (fun ⟨h1, p, q, h2, h3⟩ => .inl ⟨h1, p, q, h2.ext e, h3⟩) fun ⟨h1, a, p, q, h2, h3, h4, h5⟩ => .inr ⟨h1, a, p, q, h2, h3.ext e, h4.ext e, h5⟩)
def RowZ (A : Adr) : V → V → V → Hp → Prop := fun a b c H => ∃ w, a = .int w ∧ ZeroIn A H w b c
theorem mo_rowZ : Mo3 (RowZ A) := fun _ _ _ _ _ e ⟨w, h1, h2⟩ => ⟨w, h1, h2.ext e⟩
def spZeros (A : Adr) : Sp := fun vs H Q _ => ∃ x n fx, vs = [.ref x, .int n] ∧ FracAt A.C H x fx ∧ Oks fx ∧ Oks (n, 1) ∧ ∀ H', Ext H H' → Q (.bl true) H'
theorem oks0 : Oks (0, 1) := ⟨lowInt 0, Nat.two_pow_pos _, Nat.one_lt_two_pow (by decide)⟩
theorem scZeros : FnScope ["x", "n", "none", "rows", "due", "what", "one", "two"] ["x", "n"] (defScope sZeros) := ⟨rfl, rfl, rfl, by decide +kernel, rfl, by decide +kernel, by decide +kernel⟩
theorem ok_zeros {f : Addr} {fd : FuncData} (F : Fun K "_law_zeros" "_law_zeros" sZeros f fd) (F_ : FA P w K mg base A) (hT : LF P w K mg base "_law_told" 8 ["what", "one", "two"] (spTold A)) :
    FnOk P w K mg base (L2.CX P w) 9 f fd ["x", "n"] (spZeros A) := by
  refine F.okX scZeros (fun vs H Q E h => ?_) (fun cdv AA outer s H vs Q E hr h => ?_)
  · obtain ⟨x, n, fx, rfl, _⟩ := h
    rfl
  · obtain ⟨x, n, fx, rfl, hx, ox, on, kk⟩ := h
    obtain ⟨fT, gT, cT⟩ := hT
    obtain ⟨fdT, GT, bT⟩ := cT.ex
    refine ⟨_, pss_cons (ps_set (i := 2) scZeros.nd rfl (Or.inl rfl) (pe_frac0 F_.M F_.T (hr.mono (by decide)) rfl))
      (pss_cons (ps_set (i := 3) scZeros.nd rfl (Or.inl rfl) (pe_lst (pa_cons (pe_tup (pa_cons pe_int (pa_cons (pv 1) (pa_cons pe_int pa_nil)))) (pa_cons (pe_tup (pa_cons pe_int (pa_cons pe_int (pa_cons pe_int pa_nil)))) (pa_cons (pe_tup (pa_cons pe_int (pa_cons (pv 0) (pa_cons (pv 2) pa_nil)))) (pa_cons (pe_tup (pa_cons pe_int (pa_cons (pv 0) (pa_cons pe_int pa_nil)))) (pa_cons (pe_tup (pa_cons pe_int (pa_cons (pv 1) (pa_cons (pv 2) pa_nil)))) (pa_cons (pe_tup (pa_cons pe_int (pa_cons (pv 0) (pa_cons (pv 2) pa_nil)))) (pa_cons (pe_tup (pa_cons pe_int (pa_cons (pv 0) (pa_cons pe_int pa_nil)))) (pa_cons (pe_tup (pa_cons pe_int (pa_cons (pv 1) (pa_cons (pv 2) pa_nil)))) pa_nil))))))))))
      (pss_cons (ps_set (i := 3) scZeros.nd rfl (Or.inl rfl) (pe_op op_cat (pv 3) (pe_lst (pa_cons (pe_tup (pa_cons pe_int (pa_cons (pv 0) (pa_cons (pv 2) pa_nil)))) (pa_cons (pe_tup (pa_cons pe_int (pa_cons (pv 0) (pa_cons pe_int pa_nil)))) pa_nil)))))
      (pss_cons (ps_set (i := 4) scZeros.nd rfl (Or.inr rfl) (pe_tup (pa_cons pe_str (pa_cons (pe_lst (pa_cons pe_bl (pa_cons pe_bl (pa_cons pe_bl (pa_cons pe_bl pa_nil))))) (pa_cons pe_str pa_nil)))))
      (pss_one (ps_ret (pe_callB (cr_all rfl) (by rfl) F_.all boot_all (pa_cons (pe_lc (own := [("what", 5), ("one", 6), ("two", 7)]) (g := gTup K 3 (gCons (gName 5) (gCons (gName 6) (gCons (gName 7) gNil)))) rfl scZeros.nd (pi_list (pv 3)) (blkOk_by (own := [("what", 5), ("one", 6), ("two", 7)]) (N := ["x", "n", "none", "rows", "due", "what", "one", "two"]) (sc := defScope sZeros) (by decide +kernel)) (fun _ _ _ _ _ => pg_tup rfl (pgs_cons (pg_name (i := 5) scZeros.nd rfl (Or.inl rfl)) (pgs_cons (pg_name (i := 6) scZeros.nd rfl (Or.inl rfl)) (pgs_cons (pg_name (i := 7) scZeros.nd rfl (Or.inl rfl)) (pgs_nil))))) (fun _ _ _ _ _ => pts_nil) (fun _ _ _ _ _ => pe_cmpR (op_eqK (K := K) rfl hr.units) (pe_call GT (hr.mono (by decide)) rfl gT cT.kp bT .nil (E := E0) passL (pa_cons (pv 5) (pa_cons (pv 6) (pa_cons (pv 7) pa_nil)))) (pv 4) (nomark _))) pa_nil))))))), ?_⟩
    refine seq_gv (H0 := H) gv_frac0 Ext.rfl' (fun v H1 e1 r1 => ?_)
    obtain ⟨z, rfl, hz⟩ := r1
    have hx1 := hx.ext e1
    have moZ := mo_tr (mo_rowZ (A := A))
    refine seq_gv (H0 := H1) (gv_lst moZ (gva_cons moZ (gv_tr mo_rowZ giv_c (giv_v rfl) giv_c ⟨0, rfl, .inl ⟨rfl, ⟨_, rfl⟩, rfl⟩⟩) (gva_cons moZ (gv_tr mo_rowZ giv_c giv_c giv_c ⟨0, rfl, .inl ⟨rfl, ⟨_, rfl⟩, rfl⟩⟩) (gva_cons moZ (gv_tr mo_rowZ giv_c (giv_v rfl) (giv_v rfl) ⟨1, rfl, .inr (.inl ⟨.inl rfl, ⟨fx, (0, 1), .inl ⟨x, rfl, hx1, .of hz⟩, ox, oks0, rfl⟩⟩)⟩) (gva_cons moZ (gv_tr mo_rowZ giv_c (giv_v rfl) giv_c ⟨1, rfl, .inr (.inl ⟨.inl rfl, ⟨fx, (0, 1), .inl ⟨x, rfl, hx1, .int 0⟩, ox, oks0, rfl⟩⟩)⟩) (gva_cons moZ (gv_tr mo_rowZ giv_c (giv_v rfl) (giv_v rfl) ⟨1, rfl, .inr (.inl ⟨.inl rfl, ⟨(n, 1), (0, 1), .inr ⟨n, z, rfl, rfl, rfl, hz⟩, on, oks0, rfl⟩⟩)⟩) (gva_cons moZ (gv_tr mo_rowZ giv_c (giv_v rfl) (giv_v rfl) ⟨2, rfl, .inr (.inl ⟨.inr rfl, ⟨fx, (0, 1), .inl ⟨x, rfl, hx1, .of hz⟩, ox, oks0, rfl⟩⟩)⟩) (gva_cons moZ (gv_tr mo_rowZ giv_c (giv_v rfl) giv_c ⟨2, rfl, .inr (.inl ⟨.inr rfl, ⟨fx, (0, 1), .inl ⟨x, rfl, hx1, .int 0⟩, ox, oks0, rfl⟩⟩)⟩) (gva_cons moZ (gv_tr mo_rowZ giv_c (giv_v rfl) (giv_v rfl) ⟨2, rfl, .inr (.inl ⟨.inr rfl, ⟨(n, 1), (0, 1), .inr ⟨n, z, rfl, rfl, rfl, hz⟩, on, oks0, rfl⟩⟩)⟩) gva_nil)))))))) (by show 8 ≤ sizeLine; decide)) Ext.rfl' (fun v1 H2 e2 r2 => ?_)
    have hx2 := hx1.ext e2
    have hz2 := hz.ext e2
    refine seq_gv (H0 := H2) (gv_cat moZ (gv_v rfl r2 (mo_lst moZ)) (gv_lst moZ (gva_cons moZ (gv_tr mo_rowZ giv_c (giv_v rfl) (giv_v rfl) ⟨3, rfl, .inr (.inr ⟨rfl, x, fx, (0, 1), rfl, hx2, .of hz2, ox.ok, oks0.ok, rfl⟩)⟩) (gva_cons moZ (gv_tr mo_rowZ giv_c (giv_v rfl) giv_c ⟨3, rfl, .inr (.inr ⟨rfl, x, fx, (0, 1), rfl, hx2, .int 0, ox.ok, oks0.ok, rfl⟩)⟩) gva_nil)) (by show 2 ≤ sizeLine; decide)) (by show 8 + 2 ≤ sizeLine; decide)) Ext.rfl' (fun v2 H3 e3 r3 => ?_)
    obtain ⟨l, xs, rfl, hl, hall⟩ := r3
    refine ⟨by show 4 ≤ sizeLine; decide, fun dl ndl => ⟨by show 3 ≤ sizeLine; decide, fun dt ndt => ?_⟩⟩
    have e4 : Ext H3 (upd (upd H3 dl (.lst [V.bl true, V.bl false, V.bl false, V.bl false])) dt (.tup [V.str "zero", V.ref dl, V.str ""])) := (ext1 ndl).upd' ndt
    have hdue : Told dt true "zero" "" (upd (upd H3 dl (.lst [V.bl true, V.bl false, V.bl false, V.bl false])) dt (.tup [V.str "zero", V.ref dl, V.str ""])) := ⟨dl, upd_same, ext1 ndt _ _ upd_same⟩
    generalize hH : upd (upd H3 dl (.lst [V.bl true, V.bl false, V.bl false, V.bl false])) dt (.tup [V.str "zero", V.ref dl, V.str ""]) = H4 at e4 hdue ⊢
    refine ret_gv (gv_all3 (H0 := H4) rfl (e4 _ _ hl) (hall.ext moZ e4) mo_rowZ (by show 8 + 2 < sizeLine; decide) (by decide) (by decide) (by decide) (by show (5 : Nat) < 8; decide) (by show (6 : Nat) < 8; decide) (by show (7 : Nat) < 8; decide) ?_) Ext.rfl' (fun v H' e' rv => by rw [rv]; exact kk H' (((e1.trans e2).trans e3).trans (e4.trans e')))
    rintro τ _ b c H' Q1 h1 h2 h3 h4 e ⟨wt, rfl, hzi⟩ k2
    refine ⟨_, h1, _, h2, _, h3, wt, b, c, rfl, .inl ⟨hzi, fun r H5 e5 ht => ⟨_, (h4 4 (by decide) (by decide) (by decide)).trans rfl, _, _, ht.dp, (hdue.ext (e.trans e5)).dp, dt_sh _ ok_zero ok_none, dt_sh _ ok_zero ok_none, ?_⟩⟩⟩
    rw [dt_eqv]
    exact k2 H5 e5
end
end Fx

set_option Elab.async false
set_option linter.all false
set_option maxRecDepth 100000
set_option maxHeartbeats 4000000
set_option exponentiation.threshold 20000
/-! The written forms, in signs. -/
namespace Fx
open PySem PySem.Spec PyProof.Rows L2 FM NumText TL
/-- the signs of an int -/
def sgL (n : Int) : List Nat := if n < 0 then 45 :: numL n.natAbs else numL n.natAbs
def wrL (p : Int × Int) : List Nat := if p.2 = 1 then sgL p.1 else sgL p.1 ++ 47 :: sgL p.2
theorem sgL_pos {n : Int} (h : 0 ≤ n) : sgL n = numL n.natAbs := by unfold sgL; rw [if_neg (by omega)]
theorem sgL_neg {n : Int} (h : n < 0) : sgL n = 45 :: numL n.natAbs := by unfold sgL; rw [if_pos h]
theorem tl_wi (n : Int) : tl (wi n) = sgL n := by
  show tl (Str.ofString (toString n)) = _
  match n with
  | .ofNat m =>
    show tl (Str.ofString (toString ((m : Nat) : Int))) = sgL ((m : Nat) : Int)
    rw [sgL_pos (Int.natCast_nonneg m)]
    exact tl_num m
  | .negSucc m =>
    rw [sgL_neg (Int.negSucc_lt_zero m), tl_ofString]
    have e : toString (Int.negSucc m) = "-" ++ toString (m + 1) := rfl
    rw [e]
    have e2 : tl (Str.ofString (toString (m + 1))) = numL (m + 1) := tl_num (m + 1)
    rw [tl_ofString] at e2
    rw [String.toList_append, List.map_append, e2]
    rfl
theorem tl_wr (p : Int × Int) : tl (wr p) = wrL p := by
  unfold wr wrL
  split
  · exact tl_wi _
  · rw [tl_append, tl_append, tl_append, tl_wi, tl_wi]
    rw [show tl Str.empty = [] from rfl, show tl ("/" : Str) = [47] by decide +kernel]
    simp
theorem sgL_ne (n : Int) : sgL n ≠ [] := by
  unfold sgL
  split
  · simp
  · exact numL_ne _
theorem sgL_chars (n : Int) : ∀ c ∈ sgL n, c = 45 ∨ (48 ≤ c ∧ c ≤ 57) := fun c hc => by
  unfold sgL at hc
  split at hc
  · rcases List.mem_cons.mp hc with e | h
    · exact .inl e
    · exact .inr (numL_digits _ c h)
  · exact .inr (numL_digits _ c hc)
theorem sgL_free (n : Int) : 47 ∉ sgL n := fun h => by have := sgL_chars n 47 h; omega
theorem numL_last (n : Nat) : ∃ l d, numL n = l ++ [d] ∧ 48 ≤ d ∧ d ≤ 57 := by
  have h := List.dropLast_concat_getLast (numL_ne n)
  exact ⟨_, _, h.symm, numL_digits n _ (List.getLast_mem _)⟩
theorem sgL_last (n : Int) : ∃ l d, sgL n = l ++ [d] ∧ 48 ≤ d ∧ d ≤ 57 := by
  obtain ⟨l, d, e, h⟩ := numL_last n.natAbs
  unfold sgL
  split
  · exact ⟨45 :: l, d, by rw [e]; rfl, h⟩
  · exact ⟨l, d, e, h⟩
theorem numL_zero {n : Nat} {r : List Nat} (h : numL n = 48 :: r) : n = 0 := by
  induction n using Nat.strongRecOn generalizing r with
  | _ n ih =>
    by_cases hn : n < 10
    · rw [numL_lt hn] at h
      injection h with h _
      omega
    · rw [numL_step (by omega)] at h
      cases e : numL (n / 10) with
      | nil => exact absurd e (numL_ne _)
      | cons c l =>
        rw [e] at h
        injection h with h1 _
        subst h1
        have := ih (n / 10) (by omega) e
        omega
theorem numL_head (n : Nat) : ∃ c r, numL n = c :: r ∧ 48 ≤ c ∧ c ≤ 57 := by
  cases e : numL n with
  | nil => exact absurd e (numL_ne n)
  | cons c r => exact ⟨c, r, rfl, numL_digits n c (by rw [e]; exact List.mem_cons_self)⟩
theorem sgL_inj {m n : Int} (h : sgL m = sgL n) : m = n := by
  obtain ⟨c, r, e, h1⟩ := numL_head m.natAbs
  obtain ⟨c', r', e', h1'⟩ := numL_head n.natAbs
  unfold sgL at h
  split at h <;> split at h
  · injection h with _ h
    have := numL_inj h
    omega
  · rw [e'] at h
    injection h with h _
    omega
  · rw [e] at h
    injection h with h _
    omega
  · have := numL_inj h
    omega
theorem app_cons_inj {a a' b b' : List Nat} {s : Nat} (h1 : s ∉ a) (h2 : s ∉ a') (h : a ++ s :: b = a' ++ s :: b') : a = a' ∧ b = b' := by
  induction a generalizing a' with
  | nil =>
    cases a' with
    | nil => exact ⟨rfl, by injection h⟩
    | cons c l =>
      injection h with h3 _
      exact absurd (by rw [h3]; exact List.mem_cons_self) h2
  | cons c l ih =>
    cases a' with
    | nil =>
      injection h with h3 _
      exact absurd (by rw [← h3]; exact List.mem_cons_self) h1
    | cons c' l' =>
      injection h with h3 h4
      obtain ⟨r1, r2⟩ := ih (fun z => h1 (List.mem_cons_of_mem _ z)) (fun z => h2 (List.mem_cons_of_mem _ z)) h4
      exact ⟨by rw [h3, r1], r2⟩
theorem wrL_chars (p : Int × Int) : ∀ c ∈ wrL p, c = 45 ∨ c = 47 ∨ (48 ≤ c ∧ c ≤ 57) := fun c hc => by
  unfold wrL at hc
  split at hc
  · have := sgL_chars _ c hc
    omega
  · rcases List.mem_append.mp hc with h | h
    · have := sgL_chars _ c h
      omega
    · rcases List.mem_cons.mp h with e | h
      · omega
      · have := sgL_chars _ c h
        omega
theorem wrL_last (p : Int × Int) : ∃ l d, wrL p = l ++ [d] ∧ 48 ≤ d ∧ d ≤ 57 := by
  unfold wrL
  split
  · exact sgL_last _
  · obtain ⟨l, d, e, h⟩ := sgL_last p.2
    exact ⟨sgL p.1 ++ 47 :: l, d, by rw [e]; simp, h⟩
/-- where the text has a slash -/
theorem wrL_cut {p : Int × Int} {a b : List Nat} (h : wrL p = a ++ 47 :: b) (ha : 47 ∉ a) : p.2 ≠ 1 ∧ sgL p.1 = a ∧ sgL p.2 = b := by
  unfold wrL at h
  split at h
  · exact absurd (h ▸ (by simp : 47 ∈ a ++ 47 :: b)) (sgL_free _)
  · exact ⟨by assumption, app_cons_inj (sgL_free _) ha h⟩
/-- where it has none -/
theorem wrL_one {p : Int × Int} {a : List Nat} (h : wrL p = a) (ha : 47 ∉ a) : p.2 = 1 ∧ sgL p.1 = a := by
  unfold wrL at h
  split at h
  · exact ⟨by assumption, h⟩
  · exact absurd (h ▸ (by simp : 47 ∈ sgL p.1 ++ 47 :: sgL p.2)) ha
theorem wrL_head (p : Int × Int) : ∃ r, wrL p = sgL p.1 ++ r ∧ (r = [] ∨ ∃ r', r = 47 :: r') := by
  unfold wrL
  split
  · exact ⟨[], by simp, .inl rfl⟩
  · exact ⟨_, rfl, .inr ⟨_, rfl⟩⟩
theorem wrL_inj {p q : Int × Int} (h : wrL p = wrL q) : p = q := by
  by_cases h2 : q.2 = 1
  · have e : wrL q = sgL q.1 := by unfold wrL; rw [if_pos h2]
    obtain ⟨a, b⟩ := wrL_one (h.trans e) (sgL_free _)
    exact Prod.ext (sgL_inj b) (a.trans h2.symm)
  · have e : wrL q = sgL q.1 ++ 47 :: sgL q.2 := by unfold wrL; rw [if_neg h2]
    obtain ⟨_, a, b⟩ := wrL_cut (h.trans e) (sgL_free _)
    exact Prod.ext (sgL_inj a) (sgL_inj b)
theorem wr_inj {p q : Int × Int} (h : wr p = wr q) : p = q := wrL_inj (by rw [← tl_wr, ← tl_wr, h])
/-! ### reading -/
def dgs (l : List Nat) : Bool := decide (1 ≤ l.length) && decide (l.length ≤ 60) && l.all fun c => decide (48 ≤ c) && decide (c ≤ 57)
theorem dgs_iff {l : List Nat} : dgs l = true ↔ 1 ≤ l.length ∧ l.length ≤ 60 ∧ AllDigits l := by
  unfold dgs AllDigits
  simp [and_assoc]
def strip : List Nat → List Nat
  | 45 :: r => r
  | l => l
def valL : List Nat → Int
  | 45 :: r => -(digitsVal r : Int)
  | l => (digitsVal l : Int)
/-- what is read, ahead of lowest terms: the parts above and below the first slash -/
def parse (a : List Nat) (b : Option (List Nat)) : Option (Int × Int) := match b with
  | none => if dgs (strip a) = true then some (valL a, 1) else none
  | some b => if (dgs (strip a) && dgs b) = true then some (valL a, (digitsVal b : Int)) else none
theorem fold_lt (l : List Nat) (h : AllDigits l) : ∀ k, l.foldl (fun acc c => acc * 10 + (c - 48)) k < (k + 1) * 10 ^ l.length := by
  induction l with
  | nil => intro k; simp
  | cons c l ih =>
    intro k
    have hc := h c List.mem_cons_self
    have := ih h.tail (k * 10 + (c - 48))
    rw [List.foldl_cons, List.length_cons, Nat.pow_succ]
    refine Nat.lt_of_lt_of_le this ?_
    have e : (k + 1) * (10 ^ l.length * 10) = ((k + 1) * 10) * 10 ^ l.length := by rw [Nat.mul_comm (10 ^ l.length) 10, Nat.mul_assoc]
    rw [e]
    exact Nat.mul_le_mul_right _ (by omega)
theorem digitsVal_lt {l : List Nat} (h : dgs l = true) : digitsVal l < 10 ^ 60 := by
  obtain ⟨_, h2, h3⟩ := dgs_iff.mp h
  have := fold_lt l h3 0
  unfold digitsVal
  rw [Nat.zero_add, Nat.one_mul] at this
  exact Nat.lt_of_lt_of_le this (Nat.pow_le_pow_right (by decide) h2)
theorem valL_abs (l : List Nat) : (valL l).natAbs = digitsVal (strip l) := by
  unfold valL strip
  split <;> omega
theorem strip_sgL (n : Int) : strip (sgL n) = numL n.natAbs := by
  unfold sgL
  split
  · rfl
  · obtain ⟨c, r, e, h1, h2⟩ := numL_head n.natAbs
    rw [e]
    unfold strip
    split
    · rename_i q
      injection q with q _
      omega
    · rfl
theorem valL_sgL (n : Int) : valL (sgL n) = n := by
  unfold sgL
  split
  · show -((digitsVal (numL n.natAbs) : Nat) : Int) = n
    rw [numL_val]
    omega
  · obtain ⟨c, r, e, h1, h2⟩ := numL_head n.natAbs
    have hv := numL_val n.natAbs
    rw [e] at hv ⊢
    unfold valL
    split
    · rename_i q
      injection q with q _
      omega
    · rw [hv]
      omega
theorem dgs_num {n : Nat} (h : n < 10 ^ 60) : dgs (numL n) = true := dgs_iff.mpr ⟨by
  have := numL_ne n
  cases e : numL n with
  | nil => exact absurd e this
  | cons c r => simp, numL_len (by decide) h, numL_digits n⟩
/-- the parts of a written form -/
theorem parse_wr {p : Int × Int} (lo : Low p) (h1 : p.1.natAbs < 10 ^ 60) (h2 : p.2.natAbs < 10 ^ 60) {a b : List Nat} {sl : Bool} (h : wrL p = if sl = true then a ++ 47 :: b else a) (ha : 47 ∉ a) : parse a (if sl = true then some b else none) = some p := by
  cases sl with
  | false =>
    obtain ⟨e1, e2⟩ := wrL_one h ha
    subst e2
    show (if dgs (strip (sgL p.1)) = true then some (valL (sgL p.1), (1 : Int)) else none) = some p
    rw [strip_sgL, if_pos (dgs_num h1), valL_sgL, ← e1]
  | true =>
    obtain ⟨e1, e2, e3⟩ := wrL_cut h ha
    subst e2 e3
    have lp := lo.pos
    have e4 : sgL p.2 = numL p.2.natAbs := sgL_pos (Int.le_of_lt lp)
    show (if (dgs (strip (sgL p.1)) && dgs (sgL p.2)) = true then some (valL (sgL p.1), (digitsVal (sgL p.2) : Int)) else none) = some p
    rw [strip_sgL, e4, dgs_num h1, dgs_num h2, if_pos (by decide), valL_sgL, numL_val]
    have : (p.2.natAbs : Int) = p.2 := by omega
    rw [this]
end Fx

set_option Elab.async false
set_option linter.all false
set_option maxRecDepth 100000
set_option maxHeartbeats 4000000
set_option exponentiation.threshold 20000
namespace Fx
open PySem PySem.Spec PyProof.Rows L2 FM NumText TL
abbrev sRdb : Stmt := top 12
abbrev sBad : Stmt := inClass (top 4) 0
/-! ### cuts, in signs -/
theorem par_cut : ∀ (l acc x y : List Nat), par [47] acc l = some (x, y) → ∃ a, x = acc ++ a ∧ l = a ++ 47 :: y ∧ 47 ∉ a := by
  intro l
  induction l with
  | nil => intro acc x y h; cases h
  | cons c r ih =>
    intro acc x y h
    cases e : pre [47] (c :: r) with
    | true =>
      rw [par_hit e] at h
      injection h with h
      injection h with h1 h2
      have ec : c = 47 := by simpa [pre] using e
      exact ⟨[], by rw [List.append_nil, h1], by rw [ec, ← h2]; rfl, by simp⟩
    | false =>
      rw [par_miss e] at h
      obtain ⟨a, h1, h2, h3⟩ := ih _ _ _ h
      have ec : c ≠ 47 := fun z => by rw [z] at e; simp [pre] at e
      exact ⟨c :: a, by rw [h1, List.append_assoc]; rfl, by rw [h2]; rfl, fun z => (List.mem_cons.mp z).elim (fun z => ec z.symm) h3⟩
theorem par_no : ∀ (l acc : List Nat), par [47] acc l = none → 47 ∉ l := by
  intro l
  induction l with
  | nil => intro acc _; simp
  | cons c r ih =>
    intro acc h
    cases e : pre [47] (c :: r) with
    | true => rw [par_hit e] at h; cases h
    | false =>
      rw [par_miss e] at h
      have ec : c ≠ 47 := fun z => by rw [z] at e; simp [pre] at e
      exact fun z => (List.mem_cons.mp z).elim (fun z => ec z.symm) (ih _ h)
theorem tl_slash : tl ("/" : Str) = [47] := by decide +kernel
theorem tl_dash : tl ("-" : Str) = [45] := by decide +kernel
def slS (s : Bool) : Str := if s = true then "/" else Str.empty
theorem part_of (t : Str) : ∃ (s : Bool) (a b : Str), Txt.partition t "/" = (a, slS s, b) ∧ 47 ∉ tl a ∧ tl t = if s = true then tl a ++ 47 :: tl b else tl a := by
  have h := partition_par t "/" (by rw [tl_slash]; simp)
  rw [tl_slash] at h
  cases e : par [47] [] (tl t) with
  | none =>
    rw [e] at h
    exact ⟨false, t, Str.empty, h, par_no _ _ e, rfl⟩
  | some p =>
    obtain ⟨x, y⟩ := p
    rw [e] at h
    obtain ⟨a, h1, h2, h3⟩ := par_cut _ _ _ _ e
    rw [List.nil_append] at h1
    subst h1
    exact ⟨true, ⟨x.toArray⟩, ⟨y.toArray⟩, h, h3, h2⟩
theorem starts_dash (z : Str) : Txt.startswith z "-" = pre [45] (tl z) := by
  have h := at_iff (x := z) (y := "-") (by rw [tl_dash]; simp) 0
  rw [tl_dash, List.drop_zero] at h
  rw [Bool.eq_iff_iff, ← h]
  unfold Txt.startswith
  rw [Bool.and_eq_true, decide_eq_true_iff]
  rfl
def stripS (z : Str) : Str := ⟨(strip (tl z)).toArray⟩
theorem cut1 {z : Str} (h : pre [45] (tl z) = true) : cutS z (some 1) none = stripS z := by
  have e : ∃ r, tl z = 45 :: r := by
    cases q : tl z with
    | nil => rw [q] at h; cases h
    | cons c r =>
      rw [q] at h
      have ec : c = 45 := by simpa [pre] using h
      exact ⟨r, by rw [ec]⟩
  obtain ⟨r, e⟩ := e
  have hl := len_tl z
  rw [e, List.length_cons] at hl
  refine ext_tl ?_
  show ((tl z).drop (HT.sIx z.length 0 (some ((1 : Nat) : Int)))).take (HT.sIx z.length z.length none - HT.sIx z.length 0 (some ((1 : Nat) : Int))) = strip (tl z)
  rw [HT.sIx_none, HT.sIx_nat, Nat.min_eq_left (by omega), e]
  show r.take (z.length - 1) = r
  exact List.take_of_length_le (by omega)
theorem nocut {z : Str} (h : pre [45] (tl z) = false) : z = stripS z := by
  refine ext_tl ?_
  show tl z = strip (tl z)
  unfold strip
  split
  · rename_i q
    rw [q] at h
    simp [pre] at h
  · rfl
/-! ### _readable -/
section
variable {P : Program} {w : World} {K : PySem.W.Frag} {mg : Str → Option Value} {base : Heap} {A : Adr} {Mm : Addr}
def spRdb : Sp := fun vs H Q _ => ∃ z, vs = [.str z] ∧ z.length ≤ 10000 ∧ ∀ H', Ext H H' → Q (.bl (dgs (tl z))) H'
theorem scRdb : FnScope ["digits", "digit"] ["digits"] (defScope sRdb) := ⟨rfl, rfl, rfl, by decide +kernel, rfl, by decide +kernel, by decide +kernel⟩
def tenS : Str := "0123456789"
theorem ten_mem {c : Nat} : decide (c ∈ tenS.cps.toList) = (decide (48 ≤ c) && decide (c ≤ 57)) := by
  have e : tenS.cps.toList = [48, 49, 50, 51, 52, 53, 54, 55, 56, 57] := by decide +kernel
  rw [e, Bool.eq_iff_iff]
  simp only [decide_eq_true_eq, Bool.and_eq_true, List.mem_cons, List.not_mem_nil, or_false]
  omega
theorem boot_len : bootBuiltins "len" = some (.builtin "len") := by decide +kernel
theorem ok_rdb {f : Addr} {fd : FuncData} (F : Fun K "_readable" "_readable" sRdb f fd) (T : FT K mg A) (S : StF K A) (ln : mg "len" = none) (al : mg "all" = none) (cv : ∃ u, ClX.CVal K A.C (.type "type") "MOST_DIGITS" (.int 60) u) :
    FnOk P w K mg base (L2.CX P w) 1 f fd ["digits"] spRdb := by
  obtain ⟨u, cv⟩ := cv
  refine F.okX scRdb (fun vs H Q E h => ?_) (fun cdv AA outer s H vs Q E hr h => ?_)
  · obtain ⟨z, rfl, _⟩ := h
    rfl
  · obtain ⟨z, rfl, hz, kk⟩ := h
    refine ⟨_, pss_cons (ps_if (pt_not (pt_chain L2.op_le L2.op_le pe_int (pe_callB call_len_str (by rfl) ln boot_len (pa_cons (pv 0) pa_nil)) (ClX.pe_cval (pe_glob (v := .ref A.C) (by rfl) T.mgC rfl)))) (pss_one (ps_ret pe_bl)) pss_nil)
      (pss_one (ps_ret (pe_callB (cr_all rfl) (by rfl) al boot_all (pa_cons (pe_lc (own := [("digit", 1)]) (g := gName 1) rfl scRdb.nd (pi_str (pv 0)) (blkOk_by (own := [("digit", 1)]) (N := ["digits", "digit"]) (sc := defScope sRdb) (by decide +kernel)) (fun _ _ _ _ _ => pg_name (i := 1) scRdb.nd rfl (Or.inl rfl)) (fun _ _ _ _ _ => pts_nil) (fun _ _ _ _ _ => pe_cmpR op_in_sign (pv 1) pe_str (by with_unfolding_all rfl))) pa_nil)))), ?_⟩
    have hsz : z.length ≤ sizeLine := by rw [sizeLine_eq]; omega
    have ez : (z.length : Nat) = (tl z).length := len_tl z
    refine ⟨_, rfl, z, rfl, hsz, _, _, rfl, rfl, _, rfl, ?_⟩
    by_cases h1 : (1 : Int) ≤ (z.length : Int)
    · rw [decide_eq_true h1]
      refine iteT ⟨_, _, _, _, rfl, S.cr, cv, _, _, rfl, rfl, _, rfl, ?_⟩
      by_cases h2 : (z.length : Int) ≤ 60
      · rw [decide_eq_true h2]
        refine iteF ?_
        refine ⟨_, rfl, z, rfl, fun D nD => ?_⟩
        refine lc_it (walk_str (z := z)) (fun i H2 => H2 D = some (.lst ((((tl z).take i).map fun c => decide (c ∈ tenS.cps.toList)).map V.bl)) ∧ Ext H H2) ⟨upd_same, ext1 nD⟩ (fun _ _ _ _ => trivial) ?_ ?_
        · rintro i x H2 H3 hi ⟨hD, e2⟩ ⟨rfl, c, hc, rfl⟩
          refine ⟨wipe1 _ _, @iteT _ True ⟨_, rfl, c, tenS, rfl, rfl, _, hD, ?_, ?_, ?_⟩⟩
          · rw [List.length_map, List.length_map, List.length_take, sizeLine_eq]
            omega
          · rw [upd_same]
            have hc' : (tl z)[i]? = some c := by rw [← hc]; exact (Array.getElem?_toList).symm ▸ rfl
            rw [List.take_add_one, hc', List.map_append, List.map_append]
            rfl
          · intro a o q
            rw [upd_ne (ne_of_none q nD)]
            exact e2 _ _ q
        · rintro H2 ⟨hD, e2⟩
          refine ⟨D, _, rfl, SqL.of hD, ?_⟩
          have e : (((tl z).take z.cps.size).map fun c => decide (c ∈ tenS.cps.toList)).all id = dgs (tl z) := by
            rw [List.take_of_length_le (by rw [← ez]; exact Nat.le_refl _), List.all_map]
            unfold dgs
            rw [decide_eq_true (show 1 ≤ (tl z).length by omega), decide_eq_true (show (tl z).length ≤ 60 by omega)]
            simp only [Bool.true_and]
            congr 1
            funext c
            exact ten_mem
          rw [e]
          exact kk _ e2
      · rw [decide_eq_false h2]
        refine iteT ?_
        have e : dgs (tl z) = false := by
          unfold dgs
          rw [decide_eq_false (show ¬ (tl z).length ≤ 60 by omega)]
          simp
        rw [e] at kk
        exact kk _ Ext.rfl'
    · rw [decide_eq_false h1]
      refine iteF ⟨_, rfl, iteT ?_⟩
      have e : dgs (tl z) = false := by
        unfold dgs
        rw [decide_eq_false (show ¬ 1 ≤ (tl z).length by omega)]
        simp
      rw [e] at kk
      exact kk _ Ext.rfl'
/-! ### BadText(text) -/
def spBad (C : Addr) : Sp := fun vs H Q _ => ∃ x t, vs = [.ref x, .str t] ∧ H x = some (exo x C none) ∧ ∀ dx, H dx = none → dx ≠ x → Q .non (upd (upd H dx (exd dx [("text", .str t)])) x (exo x C (some dx)))
theorem scBad : FnScope ["self", "text"] ["self", "text"] (defScope sBad) := ⟨rfl, rfl, rfl, by decide +kernel, rfl, by decide +kernel, by decide +kernel⟩
theorem ok_bad {C : Addr} {f : Addr} {fd : FuncData} (F : Fun K "__init__" "BadText.__init__" sBad f fd) (T : OexC K C) (no : PySem.W.findIn K (.ref C) "text" = some none) : FnOk P w K mg base (L2.CX P w) 1 f fd ["self", "text"] (spBad C) := by
  refine F.okX scBad (fun vs H Q E h => ?_) (fun cdv AA outer s H vs Q E hr h => ?_)
  · obtain ⟨x, t, rfl, _⟩ := h
    rfl
  · obtain ⟨x, t, rfl, hx, kk⟩ := h
    refine ⟨_, pss_one (ps_ost (pv 0) (pv 1)), ?_⟩
    exact ⟨_, rfl, _, rfl, x, C, rfl, T, no, .inl ⟨hx, fun dx nd ne => kk dx nd ne⟩⟩
end
end Fx

set_option Elab.async false
set_option linter.all false
set_option maxRecDepth 100000
set_option maxHeartbeats 8000000
set_option exponentiation.threshold 20000
namespace Fx
open PySem PySem.Spec PyProof.Rows L2 FM NumText TL
abbrev sRead : Stmt := inClass (top 9) 24
theorem ifNT {b : Bool} {A B : Prop} (h : b = false) (a : A) : if (!b) = true then A else B := by
  subst h
  exact a
theorem ifNF {b : Bool} {A B : Prop} (h : b = true) (x : B) : if (!b) = true then A else B := by
  subst h
  exact x
theorem int_val {a : Str} (h : dgs (strip (tl a)) = true) : intText? a = some (valL (tl a)) := by
  obtain ⟨h1, h2, h3⟩ := dgs_iff.mp h
  have hl := len_tl a
  by_cases e : ∃ r, tl a = 45 :: r
  · obtain ⟨r, e⟩ := e
    rw [e] at h1 h2 h3 hl ⊢
    have hs : strip (45 :: r) = r := rfl
    rw [hs] at h1 h2 h3
    exact intText_neg e h3 (by intro z; rw [z] at h1; simp at h1) (by rw [hl, List.length_cons]; omega)
  · have hs : strip (tl a) = tl a := by
      unfold strip
      split
      · rename_i r q
        exact absurd ⟨r, q⟩ e
      · rfl
    have hv : valL (tl a) = (digitsVal (tl a) : Int) := by
      unfold valL
      split
      · rename_i r q
        exact absurd ⟨r, q⟩ e
      · rfl
    rw [hs] at h1 h2 h3
    rw [hv]
    exact intText_digits h3 (by intro z; rw [show tl a = [] from z] at h1; simp at h1) (by omega)
theorem int_dg {b : Str} (h : dgs (tl b) = true) : intText? b = some (digitsVal (tl b) : Int) := by
  obtain ⟨h1, h2, h3⟩ := dgs_iff.mp h
  have hl := len_tl b
  exact intText_digits h3 (by intro z; rw [show tl b = [] from z] at h1; simp at h1) (by omega)
theorem sl_tru {K : PySem.W.Frag} {H : Hp} : ∀ s : Bool, TruV K (.str (slS s)) H s
  | true => ⟨by decide +kernel, by decide +kernel⟩
  | false => ⟨by decide +kernel, by decide +kernel⟩
theorem len_strip {a : Str} (h : dgs (strip (tl a)) = true) : a.length ≤ 61 := by
  obtain ⟨h1, h2, h3⟩ := dgs_iff.mp h
  rw [len_tl a]
  unfold strip at h2
  split at h2
  · rename_i r q
    rw [q, List.length_cons]
    omega
  · omega
theorem pow60 : 10 ^ 60 ≤ 2 ^ 200 := by decide +kernel
theorem bi60 {d : Int} (h : d.natAbs < 10 ^ 60) : Bi d := Nat.lt_of_lt_of_le h (Nat.le_trans pow60 (Nat.pow_le_pow_right (by decide) (by decide)))
theorem oks60 {p : Int × Int} (lo : Low p) (h1 : p.1.natAbs < 10 ^ 60) (h2 : p.2.natAbs < 10 ^ 60) : Oks p :=
  ⟨lo, Nat.lt_of_lt_of_le h1 (Nat.le_trans pow60 (Nat.pow_le_pow_right (by decide) (by decide))), Nat.lt_of_lt_of_le h2 (Nat.le_trans pow60 (Nat.pow_le_pow_right (by decide) (by decide)))⟩
theorem raise_ok {C : Addr} {σ : L2.St} {H H1 : Hp} {t : Str} {E : XK} (h0 : σ[0]? = some (some (.str t))) (e : Ext H H1) (hE : ∀ dd H', Ext H H' → H' dd = some (.xd [("text", .str t)]) → E (.ref C) (some dd) H') :
    tMkO C (spBad C) [] (tCons (tVar 0) tNil) σ H1 E := by
  refine ⟨_, h0, by show 1 ≤ 1000; decide, fun a na => ⟨a, t, rfl, upd_same, fun dx ndx ne => ⟨rfl, dx, _, upd_same, by rw [upd_ne ne]; exact upd_same, ?_, hE dx _ ?_ upd_same⟩⟩⟩
  · rw [upd_ne ne] at ndx
    exact ndx
  · rw [upd_ne ne] at ndx
    intro b u hb
    have hb1 := e _ _ hb
    have n1 : b ≠ a := fun z => by rw [z, na] at hb1; cases hb1
    have n2 : b ≠ dx := fun z => by rw [z, ndx] at hb1; cases hb1
    rw [upd_ne n2, del_ne n1, upd_ne n1, upd_ne n2, upd_ne n1]
    exact hb1
section
variable {P : Program} {w : World} {K : PySem.W.Frag} {mg : Str → Option Value} {base : Heap} {A : Adr} {Mm : Addr}
theorem scRead : FnScope ["text", "above", "slash", "below", "digits", "den", "value"] ["text"] (defScope sRead) := ⟨rfl, rfl, rfl, by decide +kernel, rfl, by decide +kernel, by decide +kernel⟩
/-- what read asks of the text -/
structure RdF (P : Program) (w : World) (K : PySem.W.Frag) (mg : Str → Option Value) (base : Heap) (A : Adr) : Prop where
  ox : OexC K A.T
  init : ∃ fI, PySem.W.findIn K (.ref A.T) "__init__" = some (some (.ref fI)) ∧ PySem.W.typeIn K (.ref fI) = some (.type "function") ∧ Cal P w K mg base 1 fI ["self", "text"] (spBad A.T)
  gT : mg "BadText" = some (.ref A.T)
  gR : mg "_readable" = some (.ref A.rdb)
  cR : Cal P w K mg base 1 A.rdb ["digits"] spRdb
  st : mg "str" = none
theorem ok_read {f : Addr} {fd : FuncData} (F : FunD K "read" "Frac.read" (defArgs sRead) (defBody sRead) (defScope sRead) [] [] f fd) (F_ : FA P w K mg base A) (R : RdF P w K mg base A) :
    FnOk P w K mg base (L2.CX P w) 6 f fd ["text"] (spRead A) := by
  refine F.ok scRead (fun vs H Q E h => ?_) (fun cdv AA outer s H vs Q E hr h => ?_)
  · obtain ⟨t, rfl, _⟩ := h
    rfl
  · obtain ⟨t, rfl, hlen, h⟩ := h
    obtain ⟨fI, iC, tI, cI⟩ := R.init
    obtain ⟨fdI, GI, bI⟩ := cI.ex
    obtain ⟨fdR, GR, bR⟩ := R.cR.ex
    obtain ⟨fdS, GS, bS⟩ := F_.cStr.ex
    refine ⟨_, pss_cons (ps_asg (pe_partition (pv 0) pe_str) (pg_tup rfl (pgs_cons (pg_name (i := 1) scRead.nd rfl (Or.inl rfl)) (pgs_cons (pg_name (i := 2) scRead.nd rfl (Or.inl rfl)) (pgs_cons (pg_name (i := 3) scRead.nd rfl (Or.inl rfl)) pgs_nil)))))
      (C8.pss_cut (ps_set (i := 4) scRead.nd rfl (Or.inl rfl) (pe_ifExp (pt_val (pe_m1 PySem.F.slot_str_startswith PySem.F.type_str_startswith mt_startswith (pv 1) pe_str)) (pe_slice sl_str (pv 1) (po_some pe_int) po_none) (pv 1)))
      (C8.pss_cut (ps_if (PW.pt (pw_or (pt_not (pt_val (pe_call GR (hr.mono (by decide)) rfl R.gR R.cR.kp bR .nil (E := E0) passL (pa_cons (pv 4) pa_nil)))) (pw_or1 (PW.pt (pw_and (pt_truth (pv 2) (by intro _; rfl)) (pw_and1 (pt_not (pt_val (pe_call GR (hr.mono (by decide)) rfl R.gR R.cR.kp bR .nil (E := E0) passL (pa_cons (pv 3) pa_nil)))))))))) (pss_one (ps_raise rfl (takes_of rfl rfl rfl rfl) (pmk_oex R.ox iC tI GI (hr.mono (by decide)) bI .nil passL rfl R.gT (pa_cons (pv 0) pa_nil)))) pss_nil)
      (C8.pss_cut (ps_set (i := 5) scRead.nd rfl (Or.inl rfl) (pe_ifExp (pt_truth (pv 2) (by intro _; rfl)) (pe_callTy call_int_str (by rfl) F_.T.int0 boot_int (pa_cons (pv 3) pa_nil)) pe_int))
      (pss_cons (ps_if (pt_cmpR L2.op_eq (pv 5) pe_int (nomark _)) (pss_one (ps_raise rfl (takes_of rfl rfl rfl rfl) (pmk_oex R.ox iC tI GI (hr.mono (by decide)) bI .nil passL rfl R.gT (pa_cons (pv 0) pa_nil)))) pss_nil)
      (pss_cons (ps_set (i := 6) scRead.nd rfl (Or.inl rfl) (pe_frac2 F_.M F_.T (hr.mono (by decide)) rfl (pa_cons (pe_callTy call_int_str (by rfl) F_.T.int0 boot_int (pa_cons (pv 1) pa_nil)) (pa_cons (pv 5) pa_nil))))
      (pss_cons (ps_if (pt_cmpR L2.op_ne (pe_callTy (o_str F_.uStr GS (hr.mono (by decide)) bS (E := E0) passL) (by rfl) R.st boot_str (pa_cons (pv 6) pa_nil)) (pv 0) (nomark _)) (pss_one (ps_raise rfl (takes_of rfl rfl rfl rfl) (pmk_oex R.ox iC tI GI (hr.mono (by decide)) bI .nil passL rfl R.gT (pa_cons (pv 0) pa_nil)))) pss_nil)
      (pss_one (ps_ret (pv 6))))))))), ?_⟩
    obtain ⟨sb, a, b, hpt, ha, htl⟩ := part_of t
    have hT := len_tl t
    have hA : a.length ≤ 5000 := by
      rw [len_tl a]
      cases sb
      · rw [if_neg Bool.false_ne_true] at htl
        rw [← htl]
        omega
      · rw [if_pos rfl] at htl
        have := congrArg List.length htl
        rw [List.length_append] at this
        omega
    have hB : sb = true → b.length ≤ 5000 := fun z => by
      rw [len_tl b]
      rw [z, if_pos rfl] at htl
      have := congrArg List.length htl
      rw [List.length_append, List.length_cons] at this
      omega
    have sz : ∀ n : Nat, n ≤ 5000 → n ≤ sizeLine := fun n h => by rw [sizeLine_eq]; omega
    have hraise : (∀ q, parse (tl a) (if sb = true then some (tl b) else none) = some q → q.2 ≠ 0 → wr (low q.1 q.2) ≠ t) → ∀ dd H', Ext H H' → H' dd = some (.xd [("text", .str t)]) → E (.ref A.T) (some dd) H' := fun hn => by
      rcases h with ⟨p, lo, b1, b2, et, _⟩ | ⟨_, hE⟩
      · have hp := parse_wr lo b1 b2 (sl := sb) (a := tl a) (b := tl b) (by rw [← tl_wr, ← et]; exact htl) ha
        have lp := lo.pos
        exact absurd (by rw [low_self lo, et]) (hn p hp (by omega))
      · exact hE
    have hret : ∀ q, parse (tl a) (if sb = true then some (tl b) else none) = some q → q.2 ≠ 0 → q.1.natAbs < 10 ^ 60 → q.2.natAbs < 10 ^ 60 → wr (low q.1 q.2) = t → ∀ r H', Ext H H' → FracAt A.C H' r (low q.1 q.2) → Q (.ref r) H' := fun q hq hz c1 c2 hw => by
      rcases h with ⟨p, lo, b1, b2, et, kk⟩ | ⟨hb, _⟩
      · rw [wr_inj (hw.trans et)]
        exact kk
      · exact absurd hw.symm (hb _ (low_low hz) (Nat.lt_of_le_of_lt (low_le1 hz) c1) (Nat.lt_of_le_of_lt (low_le2 hz) c2))
    have hS : (stripS a).length ≤ 10000 := by
      rw [len_tl (stripS a)]
      show (strip (tl a)).length ≤ 10000
      have := len_tl a
      unfold strip
      split
      · rename_i r q
        rw [q, List.length_cons] at this
        omega
      · omega
    refine ⟨_, rfl, ⟨_, rfl⟩, t, "/", rfl, rfl, by decide +kernel, sz _ (by omega), fun p np => ?_⟩
    rw [hpt]
    have e1 : Ext H (upd H p (.tup [.str a, .str (slS sb), .str b])) := ext1 np
    refine ⟨p, _, rfl, SqT.of upd_same, rfl, _, _, rfl, _, _, rfl, _, _, rfl, rfl, ?_⟩
    refine ⟨fun σ H1 => σ = [some (.str t), some (.str a), some (.str (slS sb)), some (.str b), some (.str (stripS a)), none, none] ∧ Ext H H1, ?_, ?_⟩
    · refine ⟨_, rfl, ⟨_, rfl⟩, a, "-", rfl, rfl, _, rfl, ?_⟩
      rw [starts_dash]
      cases hp : pre [45] (tl a) with
      | true =>
        refine iteT ⟨_, rfl, 1, rfl, a, rfl, sz _ hA, ?_⟩
        rw [cut1 hp]
        exact ⟨rfl, e1⟩
      | false =>
        refine iteF ⟨_, rfl, ?_⟩
        exact ⟨by rw [← nocut hp]; rfl, e1⟩
    rintro σ H1 ⟨rfl, e1⟩
    refine ⟨fun σ H1 => σ = [some (.str t), some (.str a), some (.str (slS sb)), some (.str b), some (.str (stripS a)), none, none] ∧ Ext H H1 ∧ dgs (strip (tl a)) = true ∧ (sb = true → dgs (tl b) = true), ?_, ?_⟩
    · refine ⟨_, rfl, stripS a, rfl, hS, fun H2 e2 => ⟨_, rfl, ?_⟩⟩
      have e12 := e1.trans e2
      cases D1 : dgs (strip (tl a)) with
      | false =>
        refine ifNT D1 (iteT (raise_ok rfl e12 (hraise fun q hq => ?_)))
        unfold parse at hq
        cases sb
        · simp [D1] at hq
        · simp [D1] at hq
      | true =>
        refine ifNF D1 ⟨_, rfl, sb, sl_tru sb, ?_⟩
        cases sb with
        | false => exact iteF (iteF ⟨rfl, e12, rfl, fun z => nomatch z⟩)
        | true =>
          refine iteT ⟨_, rfl, b, rfl, Nat.le_trans (hB rfl) (by decide), fun H3 e3 => ⟨_, rfl, ?_⟩⟩
          cases D2 : dgs (tl b) with
          | false =>
            refine ifNT rfl (raise_ok rfl (e12.trans e3) (hraise fun q hq => ?_))
            unfold parse at hq
            simp [D1, D2] at hq
          | true => exact ifNF rfl ⟨rfl, e12.trans e3, rfl, fun _ => rfl⟩
    rintro σ H2 ⟨rfl, e2, D1, D2⟩
    refine ⟨fun σ H1 => ∃ d : Int, σ = [some (.str t), some (.str a), some (.str (slS sb)), some (.str b), some (.str (stripS a)), some (.int d), none] ∧ Ext H H1 ∧ parse (tl a) (if sb = true then some (tl b) else none) = some (valL (tl a), d) ∧ d.natAbs < 10 ^ 60, ?_, ?_⟩
    · refine ⟨_, rfl, sb, sl_tru sb, ?_⟩
      cases sb with
      | false =>
        refine iteF ⟨1, rfl, e2, ?_, by decide +kernel⟩
        show (if dgs (strip (tl a)) = true then some (valL (tl a), (1 : Int)) else none) = _
        rw [if_pos D1]
      | true =>
        have d2 := D2 rfl
        refine iteT ⟨_, rfl, b, _, rfl, int_dg d2, ?_, ⟨_, rfl, e2, ?_, ?_⟩⟩
        · obtain ⟨_, h2, _⟩ := dgs_iff.mp d2
          rw [len_tl b]
          omega
        · show (if (dgs (strip (tl a)) && dgs (tl b)) = true then some (valL (tl a), (digitsVal (tl b) : Int)) else none) = _
          rw [D1, d2, if_pos (by decide)]
        · have := digitsVal_lt d2
          omega
    rintro σ H3 ⟨d, rfl, e3, hpar, hd⟩
    have hn : (valL (tl a)).natAbs < 10 ^ 60 := by
      rw [valL_abs]
      exact digitsVal_lt D1
    by_cases hz : d = 0
    · refine ⟨_, rfl, rfl, _, rfl, iteD (by rw [hz]) (raise_ok rfl e3 (hraise fun q hq hq2 => ?_))⟩
      rw [hpar] at hq
      injection hq with hq
      rw [← hq] at hq2
      exact absurd hz hq2
    refine ⟨_, rfl, rfl, _, rfl, iteDF (by intro z; injection z with z; exact hz z) ?_⟩
    refine ⟨_, rfl, a, _, rfl, int_val D1, by have := len_strip D1; omega, _, rfl, _, _, rfl, hz, bi60 hd, fun r H4 e4 hf => ?_⟩
    have e34 := e3.trans e4
    refine ⟨_, rfl, _, rfl, hf.ins, r, _, rfl, hf, oks60 (low_low hz) (Nat.lt_of_le_of_lt (low_le1 hz) hn) (Nat.lt_of_le_of_lt (low_le2 hz) hd), ⟨_, rfl⟩, _, rfl, rfl, _, rfl, ?_⟩
    by_cases hw : wr (low (valL (tl a)) d) = t
    · rw [decide_eq_true (by rw [hw])]
      exact iteF ⟨_, rfl, hret _ hpar hz hn hd hw r H4 e34 hf⟩
    · rw [decide_eq_false (by intro z; injection z with z; exact hw z)]
      refine iteT (raise_ok rfl e34 (hraise fun q hq hq2 => ?_))
      rw [hpar] at hq
      injection hq with hq
      rw [← hq]
      exact hw
end
end Fx

set_option Elab.async false
set_option linter.all false
set_option maxRecDepth 100000
set_option maxHeartbeats 4000000
set_option exponentiation.threshold 20000
/-! Texts that are no written form. -/
namespace Fx
open PySem PySem.Spec PyProof.Rows L2 FM NumText TL
def BadL (l : List Nat) : Prop := ∀ q : Int × Int, Low q → wrL q ≠ l
theorem bad_of {t : Str} {l : List Nat} (h : tl t = l) (b : BadL l) : Bad t := fun p lo _ _ e => b p lo (by rw [← tl_wr, ← e, h])
theorem badC {l : List Nat} {c : Nat} (hc : c ∈ l) (h : c ≠ 45 ∧ c ≠ 47 ∧ (c < 48 ∨ 57 < c)) : BadL l := fun q _ e => by
  rw [← e] at hc
  have := wrL_chars q c hc
  omega
theorem badLast {l : List Nat} {d : Nat} (h : d < 48 ∨ 57 < d) : BadL (l ++ [d]) := fun q _ e => by
  obtain ⟨l', d', e', h1, h2⟩ := wrL_last q
  rw [e] at e'
  have := (List.append_inj' e' rfl).2
  injection this with this _
  omega
theorem wrL_ne (p : Int × Int) : wrL p ≠ [] := fun e => by
  obtain ⟨l', d', e', h1, h2⟩ := wrL_last p
  rw [e] at e'
  simp at e'
theorem bad0 {l : List Nat} (hl : l ≠ []) : BadL (48 :: l) := fun q lo e => by
  obtain ⟨r, h, _⟩ := wrL_head q
  rw [e] at h
  have z : q.1 = 0 := by
    unfold sgL at h
    split at h
    · injection h with h _
      omega
    · cases hn : numL q.1.natAbs with
      | nil => exact absurd hn (numL_ne _)
      | cons c l' =>
        rw [hn] at h
        injection h with h1 _
        subst h1
        have := numL_zero hn
        omega
  have c := lo.cop
  have p := lo.pos
  rw [z] at c
  simp only [Int.natAbs_zero, Nat.gcd_zero_left] at c
  have h2 : q.2 = 1 := by omega
  unfold wrL at e
  rw [if_pos h2, z] at e
  have e0 : sgL 0 = [48] := by decide +kernel
  rw [e0] at e
  injection e with _ e
  exact hl e.symm
theorem sgL_posH {n : Int} (h : 0 < n) : ∃ c r, sgL n = c :: r ∧ 49 ≤ c ∧ c ≤ 57 := by
  obtain ⟨c, r, e, h1, h2⟩ := numL_head n.natAbs
  refine ⟨c, r, by rw [sgL_pos (Int.le_of_lt h)]; exact e, ?_, h2⟩
  have : c ≠ 48 := fun z => by
    rw [z] at e
    have := numL_zero e
    omega
  omega
theorem badBelow {a b : List Nat} {c : Nat} (ha : 47 ∉ a) (hc : c < 49 ∨ 57 < c) : BadL (a ++ 47 :: c :: b) := fun q lo e => by
  obtain ⟨_, _, h⟩ := wrL_cut e ha
  obtain ⟨c', r, e', h1, h2⟩ := sgL_posH lo.pos
  rw [e'] at h
  injection h with h _
  omega
theorem badOne {a : List Nat} (ha : 47 ∉ a) : BadL (a ++ [47, 49]) := fun q lo e => by
  obtain ⟨h1, _, h⟩ := wrL_cut e ha
  have e1 : sgL 1 = [49] := by decide +kernel
  exact h1 (sgL_inj (h.trans e1.symm))
theorem badHead {l : List Nat} : BadL (47 :: l) := fun q lo e => by
  obtain ⟨_, h, _⟩ := wrL_cut (a := []) e (by simp)
  exact sgL_ne _ h
theorem badTwo {a b : List Nat} (ha : 47 ∉ a) (hb : 47 ∈ b) : BadL (a ++ 47 :: b) := fun q lo e => by
  obtain ⟨_, _, h⟩ := wrL_cut e ha
  rw [← h] at hb
  exact sgL_free _ hb
theorem badTwice {n d : Int} : BadL (sgL (2 * n) ++ 47 :: sgL (2 * d)) := fun q lo e => by
  obtain ⟨_, h1, h2⟩ := wrL_cut e (sgL_free _)
  have e1 := sgL_inj h1
  have e2 := sgL_inj h2
  have c := lo.cop
  have d1 : 2 ∣ Nat.gcd q.1.natAbs q.2.natAbs := Nat.dvd_gcd (by omega) (by omega)
  rw [c] at d1
  omega
theorem badDash {p : Int × Int} (hp : p.1 ≤ 0) : BadL (45 :: wrL p) := fun q lo e => by
  obtain ⟨r, h, _⟩ := wrL_head q
  obtain ⟨r', h', _⟩ := wrL_head p
  rw [e] at h
  obtain ⟨c, l, ec, c1, c2⟩ := numL_head q.1.natAbs
  unfold sgL at h
  split at h
  · rename_i hq
    rw [List.cons_append] at h
    injection h with _ h
    rw [h', ec] at h
    unfold sgL at h
    split at h
    · injection h with h _
      omega
    · have z : p.1 = 0 := by omega
      have e0 : numL p.1.natAbs = [48] := by rw [z]; decide +kernel
      rw [e0] at h
      injection h with h _
      rw [← h] at ec
      have := numL_zero ec
      omega
  · rw [ec] at h
    injection h with h _
    omega
/-- too many digits -/
theorem badLong1 {t : Str} {l : List Nat} (h : tl t = l) (hs : 47 ∉ l) (hl : 62 ≤ l.length ∨ (61 ≤ l.length ∧ l.head? ≠ some 45)) : Bad t := fun p lo b1 b2 e => by
  have e' : wrL p = l := by rw [← tl_wr, ← e, h]
  obtain ⟨_, e2⟩ := wrL_one e' hs
  have n := numL_len (k := 60) (by decide) b1
  unfold sgL at e2
  split at e2
  · rw [← e2, List.length_cons, List.head?_cons] at hl
    rcases hl with hl | hl
    · omega
    · exact hl.2 rfl
  · rw [e2] at n
    omega
theorem badLong2 {t : Str} {a b : List Nat} (h : tl t = a ++ 47 :: b) (ha : 47 ∉ a) (hl : 61 ≤ b.length) : Bad t := fun p lo b1 b2 e => by
  have e' : wrL p = a ++ 47 :: b := by rw [← tl_wr, ← e, h]
  obtain ⟨_, _, e2⟩ := wrL_cut e' ha
  have n := numL_len (k := 60) (by decide) b2
  rw [sgL_pos (Int.le_of_lt lo.pos)] at e2
  rw [e2] at n
  omega
/-- .. and of a size -/
structure BadT (z : Str) : Prop where
  bad : Bad z
  len : z.length ≤ 5000
  ok : PyData.strOk z = true
theorem strOk_of {z : Str} {l : List Nat} (h : tl z = l) (hc : ∀ c ∈ l, c < 128) : PyData.strOk z = true := by
  unfold PyData.strOk
  rw [← Array.all_toList]
  show (tl z).all _ = true
  rw [h, List.all_eq_true]
  intro c hm
  have := hc c hm
  exact decide_eq_true (by omega)
theorem badT {z : Str} {l : List Nat} (h : tl z = l) (hb : BadL l) (hlen : l.length ≤ 5000) (hc : ∀ c ∈ l, c < 128) : BadT z := ⟨bad_of h hb, by rw [len_tl z, h]; exact hlen, strOk_of h hc⟩
theorem sgL_len {n : Int} {k : Nat} (hk : 0 < k) (h : n.natAbs < 10 ^ k) : (sgL n).length ≤ k + 1 := by
  have := numL_len hk h
  unfold sgL
  split
  · rw [List.length_cons]
    omega
  · omega
theorem sgL_lt (n : Int) : ∀ c ∈ sgL n, c < 128 := fun c h => by have := sgL_chars n c h; omega
theorem wrL_lt (p : Int × Int) : ∀ c ∈ wrL p, c < 128 := fun c h => by have := wrL_chars p c h; omega
theorem wrL_len {p : Int × Int} {k : Nat} (hk : 0 < k) (h1 : p.1.natAbs < 10 ^ k) (h2 : p.2.natAbs < 10 ^ k) : (wrL p).length ≤ 2 * k + 3 := by
  have a := sgL_len hk h1
  have b := sgL_len hk h2
  unfold wrL
  split
  · omega
  · rw [List.length_append, List.length_cons]
    omega
end Fx

set_option Elab.async false
set_option linter.all false
set_option maxRecDepth 100000
set_option maxHeartbeats 4000000
set_option exponentiation.threshold 20000
namespace Fx
open PySem PySem.Spec PyProof.Rows L2 FM NumText TL
abbrev sWrit : Stmt := top 32
abbrev sPut : Stmt := top 33
abbrev sSpoilt : Stmt := top 34
theorem tl_apps (x y : Str) : tl (x ++ y) = tl x ++ tl y := tl_append x y
theorem wr_eq (p : Int × Int) (h : p.2 ≠ 1) : wi p.1 ++ "/" ++ wi p.2 = wr p := by
  refine ext_tl ?_
  rw [tl_wr, tl_append, tl_append, tl_wi, tl_wi, tl_slash]
  unfold wrL
  rw [if_neg h]
  simp
theorem wi_logs {n : Int} (h : n.natAbs < 10 ^ 32) : n.natAbs.log2 < 1920 := by
  have e : 10 ^ 32 ≤ 2 ^ 200 := by decide +kernel
  exact Nat.lt_of_lt_of_le (log2_lt (n := n) (k := 200) (Nat.lt_of_lt_of_le h e) (by decide)) (by decide)
theorem wi_lens {n : Int} (h : n.natAbs < 10 ^ 32) : (wi n).length ≤ 33 := by
  rw [len_tl (wi n), tl_wi]
  exact sgL_len (by decide) h
/-- small parts -/
structure Sml (p : Int × Int) : Prop where
  low : Low p
  b1 : p.1.natAbs < 10 ^ 31
  b2 : p.2.natAbs < 10 ^ 31
theorem Sml.c1 {p : Int × Int} (h : Sml p) : p.1.natAbs < 10 ^ 32 := Nat.lt_of_lt_of_le h.b1 (Nat.pow_le_pow_right (by decide) (by decide))
theorem Sml.c2 {p : Int × Int} (h : Sml p) : p.2.natAbs < 10 ^ 32 := Nat.lt_of_lt_of_le h.b2 (Nat.pow_le_pow_right (by decide) (by decide))
section
variable {P : Program} {w : World} {K : PySem.W.Frag} {mg : Str → Option Value} {base : Heap} {A : Adr} {Mm : Addr}
def spWrit : Sp := fun vs H Q _ => ∃ p q, vs = [.ref p] ∧ TupAt H p q ∧ Sml q ∧ Q (.str (wr q)) H
theorem scWrit : FnScope ["p"] ["p"] (defScope sWrit) := ⟨rfl, rfl, rfl, by decide +kernel, rfl, by decide +kernel, by decide +kernel⟩
theorem ok_writ {f : Addr} {fd : FuncData} (F : Fun K "_law_written" "_law_written" sWrit f fd) (st : mg "str" = none) : FnOk P w K mg base (L2.CX P w) 1 f fd ["p"] spWrit := by
  refine F.okX scWrit (fun vs H Q E h => ?_) (fun cdv AA outer s H vs Q E hr h => ?_)
  · obtain ⟨p, q, rfl, _⟩ := h
    rfl
  · obtain ⟨p, q, rfl, hp, sm, kk⟩ := h
    refine ⟨_, pss_cons (ps_if (pt_cmpR L2.op_eq (pe_ix ix_tup (pv 0) pe_int (fun _ _ => rfl)) pe_int (nomark _)) (pss_one (ps_ret (pe_callTy call_str_int (by rfl) st boot_str (pa_cons (pe_ix ix_tup (pv 0) pe_int (fun _ _ => rfl)) pa_nil)))) pss_nil)
      (pss_one (ps_ret (pe_op L2.op_add_str (pe_op L2.op_add_str (pe_callTy call_str_int (by rfl) st boot_str (pa_cons (pe_ix ix_tup (pv 0) pe_int (fun _ _ => rfl)) pa_nil)) pe_str) (pe_callTy call_str_int (by rfl) st boot_str (pa_cons (pe_ix ix_tup (pv 0) pe_int (fun _ _ => rfl)) pa_nil))))), ?_⟩
    refine ⟨_, rfl, _, _, _, _, rfl, rfl, SqT.of hp, rfl, rfl, _, rfl, ?_⟩
    have l1 := wi_lens sm.c1
    have l2 := wi_lens sm.c2
    have l3 : ("/" : Str).length = 1 := rfl
    by_cases h1 : q.2 = 1
    · rw [decide_eq_true (by rw [h1])]
      refine iteT ⟨_, rfl, _, _, _, _, rfl, rfl, SqT.of hp, rfl, _, rfl, wi_logs sm.c1, ?_⟩
      unfold wr at kk
      rw [if_pos h1] at kk
      exact kk
    · rw [decide_eq_false (by intro z; injection z with z; exact h1 z)]
      refine iteF ⟨_, rfl, _, _, _, _, rfl, rfl, SqT.of hp, rfl, _, rfl, wi_logs sm.c1, _, _, rfl, rfl, ?_, _, rfl, _, _, _, _, rfl, rfl, SqT.of hp, rfl, _, rfl, wi_logs sm.c2, _, _, rfl, rfl, ?_, ?_⟩
      · rw [sizeLine_eq, l3]
        show (wi q.1).length + 1 ≤ _
        omega
      · rw [sizeLine_eq, app_len, l3]
        show (wi q.1).length + 1 + (wi q.2).length ≤ _
        omega
      · rw [← wr_eq q h1] at kk
        exact kk
def spPut : Sp := fun vs H Q _ => ∃ (t : Str) (k : Nat) (s : Str), vs = [.str t, .int (k : Int), .str s] ∧ t.length ≤ 5000 ∧ s.length ≤ 10 ∧ ∀ z : Str, tl z = (tl t).take k ++ tl s ++ (tl t).drop k → Q (.str z) H
theorem scPut : FnScope ["text", "place", "sign"] ["text", "place", "sign"] (defScope sPut) := ⟨rfl, rfl, rfl, by decide +kernel, rfl, by decide +kernel, by decide +kernel⟩
theorem tl_head (z : Str) (k : Nat) : tl (cutS z none (some (k : Int))) = (tl z).take k := by
  show ((tl z).drop (HT.sIx z.length 0 none)).take (HT.sIx z.length z.length (some ((k : Nat) : Int)) - HT.sIx z.length 0 none) = _
  rw [HT.sIx_none, HT.sIx_nat, Nat.sub_zero, List.drop_zero]
  have h := len_tl z
  by_cases hk : k ≤ z.length
  · rw [Nat.min_eq_left hk]
  · rw [Nat.min_eq_right (by omega), List.take_of_length_le (by omega), List.take_of_length_le (by omega)]
theorem tl_rest (z : Str) (k : Nat) : tl (cutS z (some (k : Int)) none) = (tl z).drop k := by
  show ((tl z).drop (HT.sIx z.length 0 (some ((k : Nat) : Int)))).take (HT.sIx z.length z.length none - HT.sIx z.length 0 (some ((k : Nat) : Int))) = _
  rw [HT.sIx_none, HT.sIx_nat]
  have h := len_tl z
  by_cases hk : k ≤ z.length
  · rw [Nat.min_eq_left hk, List.take_of_length_le (by rw [List.length_drop]; omega)]
  · rw [Nat.min_eq_right (by omega), List.drop_eq_nil_of_le (by omega), List.drop_eq_nil_of_le (by omega)]
    simp
theorem ok_put {f : Addr} {fd : FuncData} (F : Fun K "_law_put" "_law_put" sPut f fd) : FnOk P w K mg base (L2.CX P w) 1 f fd ["text", "place", "sign"] spPut := by
  refine F.okX scPut (fun vs H Q E h => ?_) (fun cdv AA outer s H vs Q E hr h => ?_)
  · obtain ⟨t, k, s, rfl, _⟩ := h
    rfl
  · obtain ⟨t, k, s, rfl, ht, hs, kk⟩ := h
    refine ⟨_, pss_one (ps_ret (pe_op L2.op_add_str (pe_op L2.op_add_str (pe_slice sl_str (pv 0) po_none (po_some (pv 1))) (pv 2)) (pe_slice sl_str (pv 0) (po_some (pv 1)) po_none))), ?_⟩
    have c1 := cutS_length t none (some (k : Int))
    have c2 := cutS_length t (some (k : Int)) none
    have hz : t.length ≤ sizeLine := by rw [sizeLine_eq]; omega
    refine ⟨_, rfl, _, rfl, _, rfl, t, rfl, hz, _, rfl, _, _, rfl, rfl, ?_, _, rfl, _, rfl, _, rfl, t, rfl, hz, _, _, rfl, rfl, ?_, kk _ ?_⟩
    · rw [sizeLine_eq]
      omega
    · rw [sizeLine_eq, app_len]
      omega
    · rw [tl_append, tl_append, tl_head, tl_rest]
/-! ### spoilt -/
theorem two_mul {n : Int} (h : n.natAbs < 10 ^ 32) : CMulW 2 n := Bd.cm (by unfold Bd; exact Nat.lt_of_lt_of_le (by decide : (2 : Int).natAbs < 2 ^ 2) (Nat.pow_le_pow_right (by decide) (by decide))) (Nat.lt_of_lt_of_le h (Nat.le_trans (by decide +kernel : 10 ^ 32 ≤ 2 ^ 200) (Nat.pow_le_pow_right (by decide) (by decide))))
theorem nem {m n : Int} (h : 10 ≤ m) (h2 : n < 10) : ¬ (V.int m = V.int n) := fun z => by
  injection z with z
  omega
def spSpoilt : Sp := fun vs H Q _ => ∃ (p : Addr) (q : Int × Int) (m : Int) (k : Nat), vs = [.ref p, .int m, .int (k : Int)] ∧ TupAt H p q ∧ Sml q ∧ 0 ≤ m ∧ m < 16 ∧ ∀ z H', Ext H H' → BadT z → Q (.str z) H'
theorem scSpoilt : FnScope ["p", "mode", "place", "text", "top"] ["p", "mode", "place"] (defScope sSpoilt) := ⟨rfl, rfl, rfl, by decide +kernel, rfl, by decide +kernel, by decide +kernel⟩
theorem ok_spoilt {f : Addr} {fd : FuncData} (F : Fun K "_law_spoilt" "_law_spoilt" sSpoilt f fd) (st : mg "str" = none) (hW : LF P w K mg base "_law_written" 1 ["p"] spWrit) (hP : LF P w K mg base "_law_put" 1 ["text", "place", "sign"] spPut) :
    FnOk P w K mg base (L2.CX P w) 2 f fd ["p", "mode", "place"] spSpoilt := by
  refine F.okX scSpoilt (fun vs H Q E h => ?_) (fun cdv AA outer s H vs Q E hr h => ?_)
  · obtain ⟨p, q, m, k, rfl, _⟩ := h
    rfl
  · obtain ⟨p, q, m, k, rfl, hp, sm, m0, m16, kk⟩ := h
    obtain ⟨fW, gW, cW⟩ := hW
    obtain ⟨fP, gP, cP⟩ := hP
    obtain ⟨fdW, GW, bW⟩ := cW.ex
    obtain ⟨fdP, GP, bP⟩ := cP.ex
    refine ⟨_, (pss_cons (ps_set (i := 3) scSpoilt.nd rfl (Or.inl rfl) (pe_call GW (hr.mono (by decide)) rfl gW cW.kp bW .nil (E := E0) passL (pa_cons (pv 0) pa_nil))) (pss_cons (ps_set (i := 4) scSpoilt.nd rfl (Or.inl rfl) (pe_callTy call_str_int (by rfl) st boot_str (pa_cons (pe_ix ix_tup (pv 0) pe_int (fun _ _ => rfl)) pa_nil))) (pss_cons (ps_if (pt_cmpR L2.op_eq (pv 1) pe_int (nomark _)) (pss_one (ps_ret (pe_op L2.op_add_str pe_str (pv 3)))) pss_nil) (pss_cons (ps_if (PW.pt (pw_and (pt_cmpR L2.op_eq (pv 1) pe_int (nomark _)) (pw_and1 (pt_cmpR L2.op_eq (pe_ix ix_tup (pv 0) pe_int (fun _ _ => rfl)) pe_int (nomark _))))) (pss_one (ps_ret (pe_op L2.op_add_str (pv 3) pe_str))) pss_nil) (pss_cons (ps_if (pt_cmpR L2.op_eq (pv 1) pe_int (nomark _)) (pss_one (ps_ret (pe_op L2.op_add_str (pe_op L2.op_add_str (pv 4) pe_str) (pe_callTy call_str_int (by rfl) st boot_str (pa_cons (pe_ix ix_tup (pv 0) pe_int (fun _ _ => rfl)) pa_nil))))) pss_nil) (pss_cons (ps_if (pt_cmpR L2.op_eq (pv 1) pe_int (nomark _)) (pss_one (ps_ret (pe_op L2.op_add_str pe_str (pv 3)))) pss_nil) (pss_cons (ps_if (pt_cmpR L2.op_eq (pv 1) pe_int (nomark _)) (pss_one (ps_ret (pe_op L2.op_add_str (pv 3) pe_str))) pss_nil) (pss_cons (ps_if (pt_cmpR L2.op_eq (pv 1) pe_int (nomark _)) (pss_one (ps_ret (pe_op L2.op_add_str pe_str (pv 3)))) pss_nil) (pss_cons (ps_if (pt_cmpR L2.op_eq (pv 1) pe_int (nomark _)) (pss_one (ps_ret (pe_op L2.op_add_str (pv 3) pe_str))) pss_nil) (pss_cons (ps_if (pt_cmpR L2.op_eq (pv 1) pe_int (nomark _)) (pss_one (ps_ret (pe_op L2.op_add_str (pe_op L2.op_add_str (pe_callTy call_str_int (by rfl) st boot_str (pa_cons (pe_op op_mulW pe_int (pe_ix ix_tup (pv 0) pe_int (fun _ _ => rfl))) pa_nil)) pe_str) (pe_callTy call_str_int (by rfl) st boot_str (pa_cons (pe_op op_mulW pe_int (pe_ix ix_tup (pv 0) pe_int (fun _ _ => rfl))) pa_nil))))) pss_nil) (pss_cons (ps_if (PW.pt (pw_and (pt_cmpR L2.op_eq (pv 1) pe_int (nomark _)) (pw_and1 (pt_cmpR L2.op_le (pe_ix ix_tup (pv 0) pe_int (fun _ _ => rfl)) pe_int (nomark _))))) (pss_one (ps_ret (pe_op L2.op_add_str pe_str (pv 3)))) pss_nil) (pss_cons (ps_if (pt_cmpR L2.op_eq (pv 1) pe_int (nomark _)) (pss_one (ps_ret (pe_op L2.op_add_str (pv 3) pe_str))) pss_nil) (pss_cons (ps_if (pt_cmpR L2.op_eq (pv 1) pe_int (nomark _)) (pss_one (ps_ret (pe_op L2.op_add_str (pv 4) pe_str))) pss_nil) (pss_cons (ps_if (pt_cmpR L2.op_eq (pv 1) pe_int (nomark _)) (pss_one (ps_ret (pe_op L2.op_add_str (pe_op L2.op_add_str (pv 4) pe_str) (pe_callTy call_str_int (by rfl) st boot_str (pa_cons (pe_ix ix_tup (pv 0) pe_int (fun _ _ => rfl)) pa_nil))))) pss_nil) (pss_one (ps_ret (pe_call GP (hr.mono (by decide)) rfl gP cP.kp bP .nil (E := E0) passL (pa_cons (pv 3) (pa_cons (pv 2) (pa_cons (pe_ix ix_list (pe_lst (pa_cons pe_str (pa_cons pe_str (pa_cons pe_str (pa_cons pe_str (pa_cons pe_str (pa_cons pe_str pa_nil))))))) (pe_op L2.op_sub (pv 1) pe_int) (fun _ _ => rfl)) pa_nil)))))))))))))))))))), ?_⟩
    have lw : (wrL q).length ≤ 65 := wrL_len (by decide) sm.b1 sm.b2
    have lW : (wr q).length ≤ 65 := by rw [len_tl (wr q), tl_wr]; exact lw
    have l1 : (sgL q.1).length ≤ 32 := sgL_len (by decide) sm.b1
    have l2 : (sgL q.2).length ≤ 32 := sgL_len (by decide) sm.b2
    have lT : (wi q.1).length ≤ 32 := by rw [len_tl (wi q.1), tl_wi]; exact l1
    have lB : (wi q.2).length ≤ 32 := by rw [len_tl (wi q.2), tl_wi]; exact l2
    have d1 : (2 * q.1).natAbs < 10 ^ 32 := by have := sm.b1; omega
    have d2 : (2 * q.2).natAbs < 10 ^ 32 := by have := sm.b2; omega
    have ld1 := wi_lens d1
    have ld2 := wi_lens d2
    have wl := wrL_lt q
    have s1 := sgL_lt q.1
    have s2 := sgL_lt q.2
    have n32 : ∀ n : Nat, n ≤ 1000 → n ≤ sizeLine := fun n h => by rw [sizeLine_eq]; omega
    refine ⟨_, rfl, p, q, rfl, hp, sm, _, rfl, _, _, _, _, rfl, rfl, SqT.of hp, rfl, _, rfl, wi_logs sm.c1, ?_⟩
    have mm : m = 0 ∨ m = 1 ∨ m = 2 ∨ m = 3 ∨ m = 4 ∨ m = 5 ∨ m = 6 ∨ m = 7 ∨ m = 8 ∨ m = 9 ∨ 10 ≤ m := by omega
    rcases mm with rfl | rfl | rfl | rfl | rfl | rfl | rfl | rfl | rfl | rfl | hm
    · refine ⟨_, rfl, rfl, _, rfl, iteD rfl ⟨_, rfl, _, _, rfl, rfl, n32 _ ?_, kk _ _ Ext.rfl' (badT (l := 48 :: wrL q) ?_ (bad0 (wrL_ne q)) ?_ ?_)⟩⟩
      · show ("0" : Str).length + (wr q).length ≤ 1000
        have : ("0" : Str).length = 1 := rfl
        omega
      · rw [tl_append, tl_wr]
        rfl
      · simp only [List.length_cons, List.length_append, List.length_nil]
        omega
      · intro c hc
        rcases List.mem_cons.mp hc with z | z
        · rw [z]
          decide
        · exact wl c z
    · by_cases h1 : q.2 = 1
      · have ew : wrL q = sgL q.1 := by unfold wrL; rw [if_pos h1]
        refine ⟨_, rfl, rfl, _, rfl, iteDF (by decide) ⟨_, rfl, rfl, _, rfl, iteD rfl ⟨_, rfl, _, _, _, _, rfl, rfl, SqT.of hp, rfl, rfl, _, rfl, iteD (by rw [h1]) ⟨_, rfl, _, _, rfl, rfl, n32 _ ?_, kk _ _ Ext.rfl' (badT (l := wrL q ++ [47, 49]) ?_ (by rw [ew]; exact badOne (sgL_free _)) ?_ ?_)⟩⟩⟩⟩
        · show (wr q).length + ("/1" : Str).length ≤ 1000
          have : ("/1" : Str).length = 2 := rfl
          omega
        · rw [tl_append, tl_wr]
          rfl
        · simp only [List.length_cons, List.length_append, List.length_nil]
          omega
        · intro c hc
          rcases List.mem_append.mp hc with z | z
          · exact wl c z
          · simp only [List.mem_cons, List.not_mem_nil, or_false] at z
            omega
      · refine ⟨_, rfl, rfl, _, rfl, iteDF (by decide) ⟨_, rfl, rfl, _, rfl, iteD rfl ⟨_, rfl, _, _, _, _, rfl, rfl, SqT.of hp, rfl, rfl, _, rfl, iteDF (by intro z; injection z with z; exact h1 z) ⟨_, rfl, rfl, _, rfl, iteD rfl ⟨_, rfl, _, _, rfl, rfl, n32 _ ?_, _, rfl, _, _, _, _, rfl, rfl, SqT.of hp, rfl, _, rfl, wi_logs sm.c2, _, _, rfl, rfl, n32 _ ?_, kk _ _ Ext.rfl' (badT (l := sgL q.1 ++ 47 :: 48 :: sgL q.2) ?_ (badBelow (sgL_free _) (by decide)) ?_ ?_)⟩⟩⟩⟩⟩
        · show (wi q.1).length + ("/0" : Str).length ≤ 1000
          have : ("/0" : Str).length = 2 := rfl
          omega
        · show (wi q.1 ++ ("/0" : Str)).length + (wi q.2).length ≤ 1000
          have : ("/0" : Str).length = 2 := rfl
          rw [app_len]
          omega
        · show tl ((wi q.1) ++ ("/0" : Str) ++ (wi q.2)) = _
          rw [tl_append, tl_append, tl_wi, tl_wi, show tl ("/0" : Str) = [47, 48] by decide +kernel]
          simp
        · simp only [List.length_cons, List.length_append, List.length_nil]
          have := len_tl (wi (2 * q.1))
          have := len_tl (wi (2 * q.2))
          rw [tl_wi] at *
          omega
        · intro c hc
          simp only [List.mem_append, List.mem_cons] at hc
          rcases hc with z | z | z
          · exact s1 c z
          · omega
          · first
              | (rcases z with z | z
                 · omega
                 · exact s2 c z)
              | exact s2 c z
    · refine ⟨_, rfl, rfl, _, rfl, iteDF (by decide) ⟨_, rfl, rfl, _, rfl, iteDF (by decide) (iteF ⟨_, rfl, rfl, _, rfl, iteDF (by decide) ⟨_, rfl, rfl, _, rfl, iteD rfl ⟨_, rfl, _, _, rfl, rfl, n32 _ ?_, kk _ _ Ext.rfl' (badT (l := 43 :: wrL q) ?_ (badC (c := 43) List.mem_cons_self (by decide)) ?_ ?_)⟩⟩⟩)⟩⟩
      · show ("+" : Str).length + (wr q).length ≤ 1000
        have : ("+" : Str).length = 1 := rfl
        omega
      · rw [tl_append, tl_wr]
        rfl
      · simp only [List.length_cons, List.length_append, List.length_nil]
        omega
      · intro c hc
        rcases List.mem_cons.mp hc with z | z
        · rw [z]
          decide
        · exact wl c z
    · refine ⟨_, rfl, rfl, _, rfl, iteDF (by decide) ⟨_, rfl, rfl, _, rfl, iteDF (by decide) (iteF ⟨_, rfl, rfl, _, rfl, iteDF (by decide) ⟨_, rfl, rfl, _, rfl, iteDF (by decide) ⟨_, rfl, rfl, _, rfl, iteD rfl ⟨_, rfl, _, _, rfl, rfl, n32 _ ?_, kk _ _ Ext.rfl' (badT (l := wrL q ++ [10]) ?_ (badLast (by decide)) ?_ ?_)⟩⟩⟩⟩)⟩⟩
      · show (wr q).length + ("\n" : Str).length ≤ 1000
        have : ("\n" : Str).length = 1 := rfl
        omega
      · rw [tl_append, tl_wr]
        rfl
      · simp only [List.length_cons, List.length_append, List.length_nil]
        omega
      · intro c hc
        rcases List.mem_append.mp hc with z | z
        · exact wl c z
        · simp only [List.mem_cons, List.not_mem_nil, or_false] at z
          omega
    · refine ⟨_, rfl, rfl, _, rfl, iteDF (by decide) ⟨_, rfl, rfl, _, rfl, iteDF (by decide) (iteF ⟨_, rfl, rfl, _, rfl, iteDF (by decide) ⟨_, rfl, rfl, _, rfl, iteDF (by decide) ⟨_, rfl, rfl, _, rfl, iteDF (by decide) ⟨_, rfl, rfl, _, rfl, iteD rfl ⟨_, rfl, _, _, rfl, rfl, n32 _ ?_, kk _ _ Ext.rfl' (badT (l := 47 :: wrL q) ?_ badHead ?_ ?_)⟩⟩⟩⟩⟩)⟩⟩
      · show ("/" : Str).length + (wr q).length ≤ 1000
        have : ("/" : Str).length = 1 := rfl
        omega
      · rw [tl_append, tl_wr]
        rfl
      · simp only [List.length_cons, List.length_append, List.length_nil]
        omega
      · intro c hc
        rcases List.mem_cons.mp hc with z | z
        · rw [z]
          decide
        · exact wl c z
    · refine ⟨_, rfl, rfl, _, rfl, iteDF (by decide) ⟨_, rfl, rfl, _, rfl, iteDF (by decide) (iteF ⟨_, rfl, rfl, _, rfl, iteDF (by decide) ⟨_, rfl, rfl, _, rfl, iteDF (by decide) ⟨_, rfl, rfl, _, rfl, iteDF (by decide) ⟨_, rfl, rfl, _, rfl, iteDF (by decide) ⟨_, rfl, rfl, _, rfl, iteD rfl ⟨_, rfl, _, _, rfl, rfl, n32 _ ?_, kk _ _ Ext.rfl' (badT (l := wrL q ++ [47]) ?_ (badLast (by decide)) ?_ ?_)⟩⟩⟩⟩⟩⟩)⟩⟩
      · show (wr q).length + ("/" : Str).length ≤ 1000
        have : ("/" : Str).length = 1 := rfl
        omega
      · rw [tl_append, tl_wr]
        rfl
      · simp only [List.length_cons, List.length_append, List.length_nil]
        omega
      · intro c hc
        rcases List.mem_append.mp hc with z | z
        · exact wl c z
        · simp only [List.mem_cons, List.not_mem_nil, or_false] at z
          omega
    · refine ⟨_, rfl, rfl, _, rfl, iteDF (by decide) ⟨_, rfl, rfl, _, rfl, iteDF (by decide) (iteF ⟨_, rfl, rfl, _, rfl, iteDF (by decide) ⟨_, rfl, rfl, _, rfl, iteDF (by decide) ⟨_, rfl, rfl, _, rfl, iteDF (by decide) ⟨_, rfl, rfl, _, rfl, iteDF (by decide) ⟨_, rfl, rfl, _, rfl, iteDF (by decide) ⟨_, rfl, rfl, _, rfl, iteD rfl ⟨_, rfl, _, _, _, _, rfl, rfl, SqT.of hp, rfl, _, _, rfl, rfl, (two_mul sm.c1), _, rfl, wi_logs d1, _, _, rfl, rfl, n32 _ ?_, _, rfl, _, _, _, _, rfl, rfl, SqT.of hp, rfl, _, _, rfl, rfl, (two_mul sm.c2), _, rfl, wi_logs d2, _, _, rfl, rfl, n32 _ ?_, kk _ _ Ext.rfl' (badT (l := sgL (2 * q.1) ++ 47 :: sgL (2 * q.2)) ?_ badTwice ?_ ?_)⟩⟩⟩⟩⟩⟩⟩)⟩⟩
      · show (wi (2 * q.1)).length + ("/" : Str).length ≤ 1000
        have : ("/" : Str).length = 1 := rfl
        omega
      · show (wi (2 * q.1) ++ ("/" : Str)).length + (wi (2 * q.2)).length ≤ 1000
        have : ("/" : Str).length = 1 := rfl
        rw [app_len]
        omega
      · show tl ((wi (2 * q.1)) ++ ("/" : Str) ++ (wi (2 * q.2))) = _
        rw [tl_append, tl_append, tl_wi, tl_wi, show tl ("/" : Str) = [47] by decide +kernel]
        simp
      · simp only [List.length_cons, List.length_append, List.length_nil]
        have := len_tl (wi (2 * q.1))
        have := len_tl (wi (2 * q.2))
        rw [tl_wi] at *
        omega
      · intro c hc
        simp only [List.mem_append, List.mem_cons] at hc
        rcases hc with z | z | z
        · exact sgL_lt (2 * q.1) c z
        · omega
        · first
            | (rcases z with z | z
               · omega
               · exact sgL_lt (2 * q.2) c z)
            | exact sgL_lt (2 * q.2) c z
    · by_cases h1 : q.1 ≤ 0
      · refine ⟨_, rfl, rfl, _, rfl, iteDF (by decide) ⟨_, rfl, rfl, _, rfl, iteDF (by decide) (iteF ⟨_, rfl, rfl, _, rfl, iteDF (by decide) ⟨_, rfl, rfl, _, rfl, iteDF (by decide) ⟨_, rfl, rfl, _, rfl, iteDF (by decide) ⟨_, rfl, rfl, _, rfl, iteDF (by decide) ⟨_, rfl, rfl, _, rfl, iteDF (by decide) ⟨_, rfl, rfl, _, rfl, iteDF (by decide) ⟨_, rfl, rfl, _, rfl, iteD rfl ⟨_, rfl, _, _, _, _, rfl, rfl, SqT.of hp, rfl, _, _, rfl, rfl, _, rfl, iteD h1 ⟨_, rfl, _, _, rfl, rfl, n32 _ ?_, kk _ _ Ext.rfl' (badT (l := 45 :: wrL q) ?_ (badDash h1) ?_ ?_)⟩⟩⟩⟩⟩⟩⟩⟩⟩)⟩⟩
        · show ("-" : Str).length + (wr q).length ≤ 1000
          have : ("-" : Str).length = 1 := rfl
          omega
        · rw [tl_append, tl_wr]
          rfl
        · simp only [List.length_cons]
          omega
        · intro c hc
          rcases List.mem_cons.mp hc with z | z
          · rw [z]
            decide
          · exact wl c z
      · refine ⟨_, rfl, rfl, _, rfl, iteDF (by decide) ⟨_, rfl, rfl, _, rfl, iteDF (by decide) (iteF ⟨_, rfl, rfl, _, rfl, iteDF (by decide) ⟨_, rfl, rfl, _, rfl, iteDF (by decide) ⟨_, rfl, rfl, _, rfl, iteDF (by decide) ⟨_, rfl, rfl, _, rfl, iteDF (by decide) ⟨_, rfl, rfl, _, rfl, iteDF (by decide) ⟨_, rfl, rfl, _, rfl, iteDF (by decide) ⟨_, rfl, rfl, _, rfl, iteD rfl ⟨_, rfl, _, _, _, _, rfl, rfl, SqT.of hp, rfl, _, _, rfl, rfl, _, rfl, iteDF h1 ⟨_, rfl, rfl, _, rfl, iteD rfl ⟨_, rfl, _, _, rfl, rfl, n32 _ ?_, kk _ _ Ext.rfl' (badT (l := wrL q ++ [45]) ?_ (badLast (by decide)) ?_ ?_)⟩⟩⟩⟩⟩⟩⟩⟩⟩⟩)⟩⟩
        · show (wr q).length + ("-" : Str).length ≤ 1000
          have : ("-" : Str).length = 1 := rfl
          omega
        · rw [tl_append, tl_wr]
          rfl
        · simp only [List.length_cons, List.length_append, List.length_nil]
          omega
        · intro c hc
          rcases List.mem_append.mp hc with z | z
          · exact wl c z
          · simp only [List.mem_cons, List.not_mem_nil, or_false] at z
            omega
    · refine ⟨_, rfl, rfl, _, rfl, iteDF (by decide) ⟨_, rfl, rfl, _, rfl, iteDF (by decide) (iteF ⟨_, rfl, rfl, _, rfl, iteDF (by decide) ⟨_, rfl, rfl, _, rfl, iteDF (by decide) ⟨_, rfl, rfl, _, rfl, iteDF (by decide) ⟨_, rfl, rfl, _, rfl, iteDF (by decide) ⟨_, rfl, rfl, _, rfl, iteDF (by decide) ⟨_, rfl, rfl, _, rfl, iteDF (by decide) ⟨_, rfl, rfl, _, rfl, iteDF (by decide) (iteF ⟨_, rfl, rfl, _, rfl, iteDF (by decide) ⟨_, rfl, rfl, _, rfl, iteD rfl ⟨_, rfl, _, _, rfl, rfl, n32 _ ?_, kk _ _ Ext.rfl' (badT (l := sgL q.1 ++ 47 :: 48 :: []) ?_ (badBelow (sgL_free _) (by decide)) ?_ ?_)⟩⟩⟩)⟩⟩⟩⟩⟩⟩⟩)⟩⟩
      · show (wi q.1).length + ("/0" : Str).length ≤ 1000
        have : ("/0" : Str).length = 2 := rfl
        omega
      · rw [tl_append]
        show tl (wi q.1) ++ _ = _
        rw [tl_wi]
        rfl
      · simp only [List.length_cons, List.length_append, List.length_nil]
        omega
      · intro c hc
        rcases List.mem_append.mp hc with z | z
        · exact s1 c z
        · simp only [List.mem_cons, List.not_mem_nil, or_false] at z
          omega
    · refine ⟨_, rfl, rfl, _, rfl, iteDF (by decide) ⟨_, rfl, rfl, _, rfl, iteDF (by decide) (iteF ⟨_, rfl, rfl, _, rfl, iteDF (by decide) ⟨_, rfl, rfl, _, rfl, iteDF (by decide) ⟨_, rfl, rfl, _, rfl, iteDF (by decide) ⟨_, rfl, rfl, _, rfl, iteDF (by decide) ⟨_, rfl, rfl, _, rfl, iteDF (by decide) ⟨_, rfl, rfl, _, rfl, iteDF (by decide) ⟨_, rfl, rfl, _, rfl, iteDF (by decide) (iteF ⟨_, rfl, rfl, _, rfl, iteDF (by decide) ⟨_, rfl, rfl, _, rfl, iteDF (by decide) ⟨_, rfl, rfl, _, rfl, iteD rfl ⟨_, rfl, _, _, rfl, rfl, n32 _ ?_, _, rfl, _, _, _, _, rfl, rfl, SqT.of hp, rfl, _, rfl, wi_logs sm.c2, _, _, rfl, rfl, n32 _ ?_, kk _ _ Ext.rfl' (badT (l := sgL q.1 ++ 47 :: 45 :: sgL q.2) ?_ (badBelow (sgL_free _) (by decide)) ?_ ?_)⟩⟩⟩⟩)⟩⟩⟩⟩⟩⟩⟩)⟩⟩
      · show (wi q.1).length + ("/-" : Str).length ≤ 1000
        have : ("/-" : Str).length = 2 := rfl
        omega
      · show (wi q.1 ++ ("/-" : Str)).length + (wi q.2).length ≤ 1000
        have : ("/-" : Str).length = 2 := rfl
        rw [app_len]
        omega
      · show tl ((wi q.1) ++ ("/-" : Str) ++ (wi q.2)) = _
        rw [tl_append, tl_append, tl_wi, tl_wi, show tl ("/-" : Str) = [47, 45] by decide +kernel]
        simp
      · simp only [List.length_cons, List.length_append, List.length_nil]
        have := len_tl (wi (2 * q.1))
        have := len_tl (wi (2 * q.2))
        rw [tl_wi] at *
        omega
      · intro c hc
        simp only [List.mem_append, List.mem_cons] at hc
        rcases hc with z | z | z
        · exact s1 c z
        · omega
        · first
            | (rcases z with z | z
               · omega
               · exact s2 c z)
            | exact s2 c z
    · refine ⟨_, rfl, rfl, _, rfl, iteDF (nem hm (by decide)) ⟨_, rfl, rfl, _, rfl, iteDF (nem hm (by decide)) (iteF ⟨_, rfl, rfl, _, rfl, iteDF (nem hm (by decide)) ⟨_, rfl, rfl, _, rfl, iteDF (nem hm (by decide)) ⟨_, rfl, rfl, _, rfl, iteDF (nem hm (by decide)) ⟨_, rfl, rfl, _, rfl, iteDF (nem hm (by decide)) ⟨_, rfl, rfl, _, rfl, iteDF (nem hm (by decide)) ⟨_, rfl, rfl, _, rfl, iteDF (nem hm (by decide)) ⟨_, rfl, rfl, _, rfl, iteDF (nem hm (by decide)) (iteF ⟨_, rfl, rfl, _, rfl, iteDF (nem hm (by decide)) ⟨_, rfl, rfl, _, rfl, iteDF (nem hm (by decide)) ⟨_, rfl, rfl, _, rfl, iteDF (nem hm (by decide)) ?_⟩⟩⟩)⟩⟩⟩⟩⟩⟩⟩)⟩⟩
      refine ⟨_, rfl, _, rfl, by show 6 ≤ sizeLine; decide, fun l nl => ?_⟩
      have hl : upd H l (.lst [V.str " ", V.str "_", V.str "a", V.str ".", V.str "+", V.str "\n"]) l = some (.lst [V.str " ", V.str "_", V.str "a", V.str ".", V.str "+", V.str "\n"]) := upd_same
      obtain ⟨s', c, hs, hc, hcc⟩ : ∃ (s' : Str) (c : Nat), atI ([V.str " ", V.str "_", V.str "a", V.str ".", V.str "+", V.str "\n"] : List V) (m - 10) = some (V.str s') ∧ tl s' = [c] ∧ (c ≠ 45 ∧ c ≠ 47 ∧ (c < 48 ∨ 57 < c)) ∧ c < 128 := by
        have hmm : m = 10 ∨ m = 11 ∨ m = 12 ∨ m = 13 ∨ m = 14 ∨ m = 15 := by omega
        rcases hmm with rfl | rfl | rfl | rfl | rfl | rfl
        · exact ⟨" ", 32, rfl, by decide +kernel, by decide⟩
        · exact ⟨"_", 95, rfl, by decide +kernel, by decide⟩
        · exact ⟨"a", 97, rfl, by decide +kernel, by decide⟩
        · exact ⟨".", 46, rfl, by decide +kernel, by decide⟩
        · exact ⟨"+", 43, rfl, by decide +kernel, by decide⟩
        · exact ⟨"\n", 10, rfl, by decide +kernel, by decide⟩
      have hls : s'.length = 1 := by rw [len_tl s', hc]; rfl
      refine ⟨_, rfl, _, _, rfl, rfl, l, _, m - 10, .str s', rfl, rfl, SqL.of hl, ?_, wr q, k, s', rfl, Nat.le_trans lW (by decide), by omega, fun z hz => kk _ _ (ext1 nl) (badT hz (badC (c := c) ?_ hcc.1) ?_ ?_)⟩
      · exact hs
      · rw [hc]
        simp
      · rw [hc, tl_wr]
        simp only [List.length_append, List.length_take, List.length_drop, List.length_cons, List.length_nil]
        omega
      · intro x hx
        rw [hc, tl_wr] at hx
        simp only [List.mem_append, List.mem_singleton] at hx
        rcases hx with (h | h) | h
        · exact wl x (List.mem_of_mem_take h)
        · omega
        · exact wl x (List.mem_of_mem_drop h)
end
end Fx

set_option Elab.async false
set_option linter.all false
set_option maxRecDepth 100000
set_option maxHeartbeats 8000000
set_option exponentiation.threshold 20000
namespace Fx
open PySem PySem.Spec PyProof.Rows L2 FM NumText TL
abbrev sTexts : Stmt := top 35
def nn : Str := Txt.mul "9" 60
def most : Int := (10 : Int) ^ (60 : Int).toNat - 1
theorem tl_nn : tl nn = List.replicate 60 57 := by decide +kernel
theorem wr_of {t : Str} {p : Int × Int} (h : tl t = wrL p) : t = wr p := ext_tl (by rw [h, tl_wr])
theorem good1 : nn = wr (most, 1) := wr_of (by decide +kernel)
theorem good2 : ("-" : Str) ++ nn ++ "/1" ++ Txt.mul "0" 59 = wr (-most, (10 : Int) ^ (59 : Int).toNat) := wr_of (by decide +kernel)
theorem good3 : ("1/" : Str) ++ nn = wr (1, most) := wr_of (by decide +kernel)
theorem bads0 : BadT "2/4" := badT (l := sgL (2 * 1) ++ 47 :: sgL (2 * 2)) (by decide +kernel) (by show BadL (sgL (2 * 1) ++ 47 :: sgL (2 * 2)); exact badTwice) (by decide +kernel) (by decide +kernel)
theorem bads1 : BadT "3/1" := badT (l := [51] ++ [47, 49]) (by decide +kernel) (badOne (by decide)) (by decide +kernel) (by decide +kernel)
theorem bads2 : BadT "-0" := badT (l := 45 :: wrL (0, 1)) (by decide +kernel) (badDash (p := (0, 1)) (by decide)) (by decide +kernel) (by decide +kernel)
theorem bads3 : BadT "+1" := badT (l := [43, 49]) (by decide +kernel) (badC (c := 43) List.mem_cons_self (by decide)) (by decide +kernel) (by decide +kernel)
theorem bads4 : BadT "01" := badT (l := 48 :: [49]) (by decide +kernel) (bad0 (by decide)) (by decide +kernel) (by decide +kernel)
theorem bads5 : BadT "1/0" := badT (l := [49] ++ 47 :: 48 :: []) (by decide +kernel) (badBelow (by decide) (by decide)) (by decide +kernel) (by decide +kernel)
theorem bads6 : BadT "1/-2" := badT (l := [49] ++ 47 :: 45 :: [50]) (by decide +kernel) (badBelow (by decide) (by decide)) (by decide +kernel) (by decide +kernel)
theorem bads7 : BadT " 1" := badT (l := [32, 49]) (by decide +kernel) (badC (c := 32) List.mem_cons_self (by decide)) (by decide +kernel) (by decide +kernel)
theorem bads8 : BadT "1 " := badT (l := [49, 32]) (by decide +kernel) (badC (c := 32) (by decide) (by decide)) (by decide +kernel) (by decide +kernel)
theorem bads9 : BadT "1//2" := badT (l := [49] ++ 47 :: [47, 50]) (by decide +kernel) (badTwo (by decide) (by decide)) (by decide +kernel) (by decide +kernel)
theorem bads10 : BadT "1/2/3" := badT (l := [49] ++ 47 :: [50, 47, 51]) (by decide +kernel) (badTwo (by decide) (by decide)) (by decide +kernel) (by decide +kernel)
theorem badsE : BadT Str.empty := badT (l := []) rfl (fun q _ e => wrL_ne q e) (by decide) (by decide)
theorem badsD : BadT "-" := badT (l := [] ++ [45]) (by decide +kernel) (badLast (by decide)) (by decide) (by decide)
theorem badsL1 : BadT (("1" : Str) ++ Txt.mul "0" 60) :=
  have e : tl (("1" : Str) ++ Txt.mul "0" 60) = 49 :: List.replicate 60 48 := by decide +kernel
  ⟨badLong1 e (by decide +kernel) (.inr ⟨by decide +kernel, by decide +kernel⟩), by rw [len_tl (("1" : Str) ++ Txt.mul "0" 60), e]; decide +kernel, strOk_of e (by decide +kernel)⟩
theorem badsL2 : BadT (("-" : Str) ++ nn ++ "1") :=
  have e : tl (("-" : Str) ++ nn ++ "1") = 45 :: (List.replicate 60 57 ++ [49]) := by decide +kernel
  ⟨badLong1 e (by decide +kernel) (.inl (by decide +kernel)), by rw [len_tl (("-" : Str) ++ nn ++ "1"), e]; decide +kernel, strOk_of e (by decide +kernel)⟩
theorem badsL3 : BadT (("1/" : Str) ++ nn ++ "1") :=
  have e : tl (("1/" : Str) ++ nn ++ "1") = [49] ++ 47 :: (List.replicate 60 57 ++ [49]) := by decide +kernel
  ⟨badLong2 e (by decide +kernel) (by decide +kernel), by rw [len_tl (("1/" : Str) ++ nn ++ "1"), e]; decide +kernel, strOk_of e (by decide +kernel)⟩
theorem mul60 {z : Str} (h : z.length = 1) {n : Nat} (hn : n ≤ 60) (h0 : 1 < n) : MulOk z (n : Int) := by
  refine ⟨?_, fun _ _ => ?_, fun _ _ => ?_⟩
  · have : ∀ n : Nat, n < 61 → (decide (((n : Nat) : Int) < -(2 ^ 63 : Int)) || decide (((n : Nat) : Int) ≥ 2 ^ 63)) = false := by decide +kernel
    exact this n (by omega)
  · rw [h]
    have : ∀ n : Nat, n < 61 → ¬ (((1 : Nat) : Int) > (2 ^ 63 - 1) / ((n : Nat) : Int)) ∨ n = 0 := by decide +kernel
    rcases this n (by omega) with z | z
    · exact z
    · omega
  · rw [h]
    have : ∀ n : Nat, n < 61 → PySem.Builtin.Str.tooLong (1 * n) = false := by decide +kernel
    simpa using this n (by omega)
section
variable {σ : L2.St} {H0 : Hp} {t1 t2 : TE} {a b : Str} {n m : Int}
theorem Giv.gv {v : V} (h : Giv σ t1 v) : Gv σ H0 t1 (fun x _ => x = v) := fun H Q e k => h H Q (k v H Ext.rfl' rfl)
theorem giv_add (h1 : Giv σ t1 (.str a)) (h2 : Giv σ t2 (.str b)) (hl : a.length + b.length ≤ 1000) : Giv σ (tOp (fun x y H Q => ∃ i j, x = .str i ∧ y = .str j ∧ i.length + j.length ≤ sizeLine ∧ Q (.str (i ++ j)) H) t1 t2) (.str (a ++ b)) := fun H Q q =>
  h1 H _ (h2 H _ ⟨a, b, rfl, rfl, by rw [sizeLine_eq]; omega, q⟩)
theorem giv_mul (h1 : Giv σ t1 (.str a)) (h2 : Giv σ t2 (.int n)) (hk : MulOk a n) : Giv σ (tOp (fun x y H Q => ∃ z n, x = .str z ∧ y = .int n ∧ MulOk z n ∧ Q (.str (Txt.mul z n)) H) t1 t2) (.str (Txt.mul a n)) := fun H Q q =>
  h1 H _ (h2 H _ ⟨a, n, rfl, rfl, hk, q⟩)
theorem giv_pow (h1 : Giv σ t1 (.int n)) (h2 : Giv σ t2 (.int m)) (hc : CPow n m) : Giv σ (tOp (rI CPow fun i j => .int (i ^ j.toNat)) t1 t2) (.int (n ^ m.toNat)) := fun H Q q => h1 H _ (h2 H _ ⟨n, m, rfl, rfl, hc, q⟩)
theorem giv_neg (h1 : Giv σ t1 (.int n)) : Giv σ (tUn (rU fun i => .int (-i)) t1) (.int (-n)) := fun H Q q => h1 H _ ⟨n, rfl, q⟩
end
section
variable {P : Program} {w : World} {K : PySem.W.Frag} {mg : Str → Option Value} {base : Heap} {A : Adr} {Mm : Addr}
/-- a text and the numbers that it tells -/
def SG : V → V → Hp → Prop := fun a b H => ∃ t q, a = .str t ∧ IsT q b H ∧ t.length ≤ 5000 ∧ Low q ∧ q.1.natAbs < 10 ^ 60 ∧ q.2.natAbs < 10 ^ 60 ∧ t = wr q
theorem mo_sg : Mo2 SG := fun _ _ _ _ e ⟨t, q, h1, h2, h3⟩ => ⟨t, q, h1, moT _ _ _ e h2, h3⟩
def SB : V → Hp → Prop := fun v _ => ∃ z, v = .str z ∧ BadT z
theorem mo_sb : Mo SB := fun _ _ _ _ h => h
theorem gv_sb {σ : L2.St} {H0 : Hp} {t1 : TE} {z : Str} (h : Giv σ t1 (.str z)) (b : BadT z) : Gv σ H0 t1 SB := fun H Q e k => h H Q (k _ H Ext.rfl' ⟨z, rfl, b⟩)
theorem gv_sg {σ : L2.St} {H0 : Hp} {t1 t2 t3 : TE} {t : Str} {n d : Int} (h : Giv σ t1 (.str t)) (h2 : Giv σ t2 (.int n)) (h3 : Giv σ t3 (.int d)) (c1 : t.length ≤ 5000) (lo : Low (n, d)) (b1 : n.natAbs < 10 ^ 60) (b2 : d.natAbs < 10 ^ 60) (e : t = wr (n, d)) :
    Gv σ H0 (tTup (tCons t1 (tCons (tTup (tCons t2 (tCons t3 tNil))) tNil))) (Pr SG) :=
  (gv_pair (fun _ _ _ _ h => h) h.gv (gv_tup (n := n) (m := d) h2.gv h3.gv) moT).imp fun v H ⟨r, a, b, ev, hr, ea, hb⟩ => ⟨r, a, b, ev, hr, t, (n, d), ea, hb, c1, lo, b1, b2, e⟩
theorem gv_spoilt {σ : L2.St} {H0 : Hp} {E : XK} {i j l : Nat} {p : Addr} {q : Int × Int} {m : Int} {k : Nat} (h1 : σ[i]? = some (some (.ref p))) (h2 : σ[j]? = some (some (.int m))) (h3 : σ[l]? = some (some (.int (k : Int)))) (hp : TupAt H0 p q) (sm : Sml q) (m0 : 0 ≤ m) (m16 : m < 16) :
    Gv σ H0 (tCall spSpoilt [] E (tCons (tVar i) (tCons (tVar j) (tCons (tVar l) tNil)))) SB := fun H Q e k2 => ⟨_, h1, _, h2, _, h3, p, q, m, k, rfl, e _ _ hp, sm, m0, m16, fun z H9 e9 b9 => k2 _ H9 e9 ⟨z, rfl, b9⟩⟩
def spTexts (A : Adr) : Sp := fun vs H Q _ => ∃ (x p : Addr) (q : Int × Int) (m : Int) (k : Nat), vs = [.ref x, .ref p, .int m, .int (k : Int)] ∧ FracAt A.C H x q ∧ TupAt H p q ∧ Sml q ∧ 0 ≤ m ∧ m < 16 ∧ ∀ H', Ext H H' → Q (.bl true) H'
theorem scTexts : FnScope ["x", "p", "mode", "place", "text", "got", "nines", "most", "good", "bad", "a", "b"] ["x", "p", "mode", "place"] (defScope sTexts) := ⟨rfl, rfl, rfl, by decide +kernel, rfl, by decide +kernel, by decide +kernel⟩
theorem ok_texts {f : Addr} {fd : FuncData} (F : Fun K "_law_texts" "_law_texts" sTexts f fd) (F_ : FA P w K mg base A) (st : mg "str" = none) (smR : SMet K A.C (.type "type") "read" A.pRead A.read) (cR : Cal P w K mg base 6 A.read ["text"] (spRead A))
    (hW : LF P w K mg base "_law_written" 1 ["p"] spWrit) (hP : LF P w K mg base "_law_spoilt" 2 ["p", "mode", "place"] spSpoilt) (hI : LF P w K mg base "_law_is" 2 ["x", "due"] (spIs A)) (hT : LF P w K mg base "_law_told" 8 ["what", "one", "two"] (spTold A)) :
    FnOk P w K mg base (L2.CX P w) 9 f fd ["x", "p", "mode", "place"] (spTexts A) := by
  refine F.okX scTexts (fun vs H Q E h => ?_) (fun cdv AA outer s H vs Q E hr h => ?_)
  · obtain ⟨x, p, q, m, k, rfl, _⟩ := h
    rfl
  · obtain ⟨x, p, q, m, k, rfl, hx, hp, sm, m0, m16, kk⟩ := h
    obtain ⟨fW, gW, cW⟩ := hW
    obtain ⟨fP, gP, cP⟩ := hP
    obtain ⟨fI, gI, cI⟩ := hI
    obtain ⟨fT, gT, cT⟩ := hT
    obtain ⟨fdW, GW, bW⟩ := cW.ex
    obtain ⟨fdP, GP, bP⟩ := cP.ex
    obtain ⟨fdI, GI, bI⟩ := cI.ex
    obtain ⟨fdT, GT, bT⟩ := cT.ex
    obtain ⟨fdR, GR, bR⟩ := cR.ex
    obtain ⟨fdS, GS, bS⟩ := F_.cStr.ex
    refine ⟨_, pss_cons (ps_set (i := 4) scTexts.nd rfl (Or.inl rfl) (pe_call GW (hr.mono (by decide)) rfl gW cW.kp bW .nil (E := E0) passL (pa_cons (pv 1) pa_nil)))
      (pss_cons (ps_set (i := 5) scTexts.nd rfl (Or.inl rfl) (pe_callTy (o_str F_.uStr GS (hr.mono (by decide)) bS (E := E0) passL) (by rfl) st boot_str (pa_cons (pv 0) pa_nil)))
      (pss_cons (ps_if (PW.pt (pw_or (pt_not (pt_val (pe_callB call_isi (by rfl) F_.T.isi boot_isi (pa_cons (pv 5) (pa_cons (pe_bltn (v := .ty "str") (by rfl) st boot_str rfl) pa_nil))))) (pw_or (pt_cmpR L2.op_ne (pv 5) (pv 4) (nomark _)) (pw_or1 (pt_not (pt_val (pe_call GI (hr.mono (by decide)) rfl gI cI.kp bI .nil (E := E0) passL (pa_cons (pe_smeth (pe_glob (v := .ref A.C) (by rfl) F_.T.mgC rfl) F_.S.cr smR F_.T.tC GR (hr.mono (by decide)) bR (E := E0) passL (pa_cons (pv 4) pa_nil)) (pa_cons (pv 1) pa_nil))))))))) (pss_one (ps_ret pe_bl)) pss_nil)
      (pss_cons (ps_set (i := 6) scTexts.nd rfl (Or.inl rfl) (pe_op op_mulS pe_str pe_int))
      (pss_cons (ps_set (i := 7) scTexts.nd rfl (Or.inl rfl) (pe_op L2.op_sub (pe_op L2.op_pow pe_int pe_int) pe_int))
      (pss_cons (ps_set (i := 8) scTexts.nd rfl (Or.inl rfl) (pe_lst (pa_cons (pe_tup (pa_cons (pv 6) (pa_cons (pe_tup (pa_cons (pv 7) (pa_cons pe_int pa_nil))) pa_nil))) (pa_cons (pe_tup (pa_cons (pe_op L2.op_add_str (pe_op L2.op_add_str (pe_op L2.op_add_str pe_str (pv 6)) pe_str) (pe_op op_mulS pe_str pe_int)) (pa_cons (pe_tup (pa_cons (pe_un L2.un_neg (pv 7)) (pa_cons (pe_op L2.op_pow pe_int pe_int) pa_nil))) pa_nil))) (pa_cons (pe_tup (pa_cons (pe_op L2.op_add_str pe_str (pv 6)) (pa_cons (pe_tup (pa_cons pe_int (pa_cons (pv 7) pa_nil))) pa_nil))) pa_nil)))))
      (pss_cons (ps_if (pt_not (pt_val (pe_callB (cr_all rfl) (by rfl) F_.all boot_all (pa_cons (pe_lc (own := [("a", 10), ("b", 11)]) (g := gTup K 2 (gCons (gName 10) (gCons (gName 11) gNil))) rfl scTexts.nd (pi_list (pv 8)) (blkOk_by (own := [("a", 10), ("b", 11)]) (N := ["x", "p", "mode", "place", "text", "got", "nines", "most", "good", "bad", "a", "b"]) (sc := defScope sTexts) (by decide +kernel)) (fun _ _ _ _ _ => pg_tup rfl (pgs_cons (pg_name (i := 10) scTexts.nd rfl (Or.inl rfl)) (pgs_cons (pg_name (i := 11) scTexts.nd rfl (Or.inl rfl)) (pgs_nil)))) (fun _ _ _ _ _ => pts_nil) (fun _ _ _ _ _ => (pe_call GI (hr.mono (by decide)) rfl gI cI.kp bI .nil (E := E0) passL (pa_cons (pe_smeth (pe_glob (v := .ref A.C) (by rfl) F_.T.mgC rfl) F_.S.cr smR F_.T.tC GR (hr.mono (by decide)) bR (E := E0) passL (pa_cons (pv 10) pa_nil)) (pa_cons (pv 11) pa_nil))))) pa_nil)))) (pss_one (ps_ret pe_bl)) pss_nil)
      (pss_cons (ps_set (i := 9) scTexts.nd rfl (Or.inl rfl) (pe_lst (pa_cons (pe_call GP (hr.mono (by decide)) rfl gP cP.kp bP .nil (E := E0) passL (pa_cons (pv 1) (pa_cons (pv 2) (pa_cons (pv 3) pa_nil)))) (pa_cons pe_str (pa_cons pe_str (pa_cons (pe_op L2.op_add_str pe_str (pe_op op_mulS pe_str pe_int)) (pa_cons (pe_op L2.op_add_str (pe_op L2.op_add_str pe_str (pv 6)) pe_str) (pa_cons (pe_op L2.op_add_str (pe_op L2.op_add_str pe_str (pv 6)) pe_str) pa_nil))))))))
      (pss_cons (ps_set (i := 9) scTexts.nd rfl (Or.inl rfl) (pe_op op_cat (pv 9) (pe_lst (pa_cons pe_str (pa_cons pe_str (pa_cons pe_str (pa_cons pe_str (pa_cons pe_str (pa_cons pe_str (pa_cons pe_str (pa_cons pe_str (pa_cons pe_str (pa_cons pe_str (pa_cons pe_str pa_nil))))))))))))))
      (pss_one (ps_ret (pe_callB (cr_all rfl) (by rfl) F_.all boot_all (pa_cons (pe_lc (own := [("a", 10)]) (g := gName 10) rfl scTexts.nd (pi_list (pv 9)) (blkOk_by (own := [("a", 10)]) (N := ["x", "p", "mode", "place", "text", "got", "nines", "most", "good", "bad", "a", "b"]) (sc := defScope sTexts) (by decide +kernel)) (fun _ _ _ _ _ => pg_name (i := 10) scTexts.nd rfl (Or.inl rfl)) (fun _ _ _ _ _ => pts_nil) (fun _ _ _ _ _ => pe_cmpR (op_eqK (K := K) rfl hr.units) (pe_call GT (hr.mono (by decide)) rfl gT cT.kp bT .nil (E := E0) passL (pa_cons pe_int (pa_cons (pv 10) (pa_cons pe_int pa_nil)))) (pe_tup (pa_cons pe_str (pa_cons (pe_lst (pa_cons pe_bl (pa_cons pe_bl (pa_cons pe_bl (pa_cons pe_bl pa_nil))))) (pa_cons (pv 10) pa_nil)))) (nomark _))) pa_nil)))))))))))), ?_⟩
    have c60 : ∀ n : Int, n.natAbs < 10 ^ 31 → n.natAbs < 10 ^ 60 := fun n h => Nat.lt_of_lt_of_le h (Nat.pow_le_pow_right (by decide) (by decide))
    have hw5 : (wr q).length ≤ 5000 := by
      rw [len_tl (wr q), tl_wr]
      exact Nat.le_trans (wrL_len (by decide) sm.b1 sm.b2) (by decide)
    have hpow : CPow 10 60 := ⟨by decide, by decide, by decide⟩
    refine ⟨_, rfl, p, q, rfl, hp, sm, ?_⟩
    refine ⟨_, rfl, _, rfl, hx.ins, x, q, rfl, hx, oks60 sm.low (c60 _ sm.b1) (c60 _ sm.b2), ⟨_, rfl⟩, ?_⟩
    refine ⟨_, rfl, _, _, _, _, true, rfl, .ty "str", .base (.str _), kit_ty (by decide +kernel), _, rfl, iteF ?_⟩
    refine ⟨_, rfl, _, rfl, rfl, _, rfl, ?_⟩
    rw [decide_eq_true rfl]
    refine iteF ?_
    refine ⟨rfl, _, rfl, wr q, rfl, hw5, .inl ⟨q, sm.low, c60 _ sm.b1, c60 _ sm.b2, rfl, fun r H1 e1 hf => ?_⟩⟩
    refine ⟨_, rfl, r, q, p, rfl, hf, e1 _ _ hp, fun H2 e2 => ⟨_, rfl, iteF ?_⟩⟩
    have e02 := e1.trans e2
    refine ⟨"9", 60, rfl, rfl, mul60 (n := 60) rfl (by decide) (by decide), ?_⟩
    refine ⟨10, 60, rfl, rfl, hpow, _, _, rfl, rfl, ?_⟩
    have moG := mo_pr mo_sg
    have hnl : nn.length = 60 := by rw [len_tl nn, tl_nn]; rfl
    refine seq_gv (H0 := H2) (gv_lst (R := Pr SG) (n := 3) moG (gva_cons moG (gv_sg (t := nn) (n := most) (d := 1) (giv_v rfl) (giv_v rfl) giv_c (by omega) (lowInt _) (by decide +kernel) (by decide +kernel) good1) (gva_cons moG (gv_sg (giv_add (giv_add (giv_add (b := nn) giv_c (giv_v rfl) (by rw [hnl]; decide)) giv_c (by rw [app_len, hnl]; decide)) (giv_mul giv_c giv_c (mul60 (n := 59) rfl (by decide) (by decide))) (by decide +kernel)) (giv_neg (n := most) (giv_v rfl)) (giv_pow giv_c giv_c ⟨by decide, by decide, by decide⟩) (by decide +kernel) ⟨by decide +kernel, by decide +kernel⟩ (by decide +kernel) (by decide +kernel) good2) (gva_cons moG (gv_sg (giv_add (b := nn) giv_c (giv_v rfl) (by rw [hnl]; decide)) giv_c (giv_v (v := .int most) rfl) (by decide +kernel) ⟨by decide +kernel, by decide +kernel⟩ (by decide +kernel) (by decide +kernel) good3) gva_nil))) (by show 3 ≤ sizeLine; decide)) Ext.rfl' (fun v H3 e3 r3 => ?_)
    obtain ⟨l, xs, rfl, hl, hall⟩ := r3
    refine gv_all2 (H0 := H3) (n := 3) rfl hl hall mo_sg (by show 3 < sizeLine; decide) (by decide) (by show (10 : Nat) < 12; decide) (by show (11 : Nat) < 12; decide) ?_ H3 _ Ext.rfl' (fun v H4 e4 rv => ?_)
    · rintro τ _ _ H' Q1 h1 h2 h3 e ⟨t, qt, rfl, ⟨d, rfl, hd⟩, hl5, lo, b1, b2, et⟩ k2
      refine ⟨rfl, _, h1, t, rfl, hl5, .inl ⟨qt, lo, b1, b2, et, fun r H5 e5 hf => ?_⟩⟩
      exact ⟨_, h2, r, qt, d, rfl, hf, e5 _ _ hd, fun H6 e6 => k2 H6 (e5.trans e6)⟩
    subst rv
    refine ⟨_, rfl, iteF ?_⟩
    have e04 := (e02.trans e3).trans e4
    have hp4 : TupAt H4 p q := e04 _ _ hp
    refine seq_gv (H0 := H4) (gv_lst (R := SB) (n := 6) mo_sb (gva_cons mo_sb (gv_spoilt rfl rfl rfl hp4 sm m0 m16) (gva_cons mo_sb (gv_sb giv_c badsE) (gva_cons mo_sb (gv_sb giv_c badsD) (gva_cons mo_sb (gv_sb (giv_add giv_c (giv_mul giv_c giv_c (mul60 (n := 60) rfl (by decide) (by decide))) (by decide +kernel)) badsL1) (gva_cons mo_sb (gv_sb (giv_add (giv_add (b := nn) giv_c (giv_v rfl) (by rw [hnl]; decide)) giv_c (by rw [app_len, hnl]; decide)) badsL2) (gva_cons mo_sb (gv_sb (giv_add (giv_add (b := nn) giv_c (giv_v rfl) (by rw [hnl]; decide)) giv_c (by rw [app_len, hnl]; decide)) badsL3) gva_nil)))))) (by show 6 ≤ sizeLine; decide)) Ext.rfl' (fun v1 H5 e5 r5 => ?_)
    refine seq_gv (H0 := H5) (gv_cat mo_sb (gv_v rfl r5 (mo_lst mo_sb)) (gv_lst (R := SB) (n := 11) mo_sb (gva_cons mo_sb (gv_sb giv_c bads0) (gva_cons mo_sb (gv_sb giv_c bads1) (gva_cons mo_sb (gv_sb giv_c bads2) (gva_cons mo_sb (gv_sb giv_c bads3) (gva_cons mo_sb (gv_sb giv_c bads4) (gva_cons mo_sb (gv_sb giv_c bads5) (gva_cons mo_sb (gv_sb giv_c bads6) (gva_cons mo_sb (gv_sb giv_c bads7) (gva_cons mo_sb (gv_sb giv_c bads8) (gva_cons mo_sb (gv_sb giv_c bads9) (gva_cons mo_sb (gv_sb giv_c bads10) gva_nil))))))))))) (by show 11 ≤ sizeLine; decide)) (by show 6 + 11 ≤ sizeLine; decide)) Ext.rfl' (fun v2 H6 e6 r6 => ?_)
    obtain ⟨l6, xs6, rfl, hl6, hall6⟩ := r6
    refine ret_gv (gv_all1 (H0 := H6) rfl hl6 hall6 mo_sb (by show 6 + 11 < sizeLine; decide) (by show (10 : Nat) < 12; decide) ?_) Ext.rfl' (fun v H' e' rv => by rw [rv]; exact kk H' (((e04.trans e5).trans e6).trans e'))
    rintro τ _ H' Q1 h1 h3 e ⟨t, rfl, hb⟩ k2
    refine ⟨_, h1, 4, _, _, rfl, .inr ⟨rfl, t, rfl, hb.len, hb.bad, fun r H7 e7 ht => ?_⟩⟩
    refine ⟨by show 4 ≤ sizeLine; decide, fun dl ndl => ⟨_, h1, by show 3 ≤ sizeLine; decide, fun dt ndt => ?_⟩⟩
    have e8 : Ext H7 (upd (upd H7 dl (.lst [V.bl false, V.bl true, V.bl false, V.bl false])) dt (.tup [V.str "text", V.ref dl, V.str t])) := (ext1 ndl).upd' ndt
    have hdue : Told dt false "text" t (upd (upd H7 dl (.lst [V.bl false, V.bl true, V.bl false, V.bl false])) dt (.tup [V.str "text", V.ref dl, V.str t])) := ⟨dl, upd_same, ext1 ndt _ _ upd_same⟩
    refine ⟨_, _, (ht.ext e8).dp, hdue.dp, dt_sh _ (by decide +kernel) hb.ok, dt_sh _ (by decide +kernel) hb.ok, ?_⟩
    rw [dt_eqv]
    exact k2 _ (e7.trans e8)
end
end Fx

set_option Elab.async false
set_option linter.all false
set_option maxRecDepth 100000
set_option maxHeartbeats 8000000
set_option exponentiation.threshold 20000
namespace Fx
open PySem PySem.Spec PyProof.Rows L2 FM NumText TL
abbrev sLaw : Stmt := top 36
theorem iteB {b : Bool} {A B : Prop} (h1 : A) (h2 : B) : if b = true then A else B := by
  cases b
  · exact h2
  · exact h1
theorem op_neK {X : Cx} {K : PySem.W.Frag} (hK : X.K = K) (hu : X.A.units + 64 < cLine) : OpR X (compareOp .NotEq) (rNeD K) := hK ▸ op_neD hu
theorem e31 : (10 : Nat) ^ 31 ≤ 2 ^ 200 := by decide +kernel
theorem bd31 {n : Int} (h : n.natAbs < 10 ^ 31) : Bd n := Nat.lt_of_lt_of_le h (Nat.le_trans e31 (Nat.pow_le_pow_right (by decide) (by decide)))
theorem bi31 {n : Int} (h : n.natAbs < 10 ^ 31) : Bi n := Nat.lt_of_lt_of_le h (Nat.le_trans e31 (Nat.pow_le_pow_right (by decide) (by decide)))
theorem Sml.oks {p : Int × Int} (h : Sml p) : Oks p := ⟨h.low, Nat.lt_of_lt_of_le h.b1 (Nat.le_trans e31 (Nat.pow_le_pow_right (by decide) (by decide))), Nat.lt_of_lt_of_le h.b2 (Nat.le_trans e31 (Nat.pow_le_pow_right (by decide) (by decide)))⟩
theorem low_sml {a b : Int} (hb : b ≠ 0) (h1 : a.natAbs < 10 ^ 31) (h2 : b.natAbs < 10 ^ 31) : Sml (low a b) := ⟨low_low hb, Nat.lt_of_le_of_lt (low_le1 hb) h1, Nat.lt_of_le_of_lt (low_le2 hb) h2⟩
theorem sml_int {n : Int} (h : n.natAbs < 10 ^ 31) : Sml (n, 1) := ⟨lowInt n, h, by show (1 : Int).natAbs < 10 ^ 31; decide⟩
theorem e30 : E30 = (10 : Int) ^ 30 := by decide +kernel
theorem ab30 {n : Int} (h1 : -E30 < n) (h2 : n < E30) : n.natAbs < 10 ^ 30 := by
  unfold E30 at h1 h2
  omega
theorem ab31 {n : Int} (h : n.natAbs < 10 ^ 30 + 3) : n.natAbs < 10 ^ 31 := by omega
/-- what stands through the checks -/
structure Held (A : Adr) (r p q x y w : Addr) (fp fq fw : Int × Int) (H : Hp) : Prop where
  r : PoolAt H r
  p : TupAt H p fp
  q : TupAt H q fq
  x : FracAt A.C H x fp
  y : FracAt A.C H y fq
  w : TupAt H w fw
theorem Held.ext {A : Adr} {r p q x y w : Addr} {fp fq fw : Int × Int} {H H' : Hp} (h : Held A r p q x y w fp fq fw H) (e : Ext H H') : Held A r p q x y w fp fq fw H' := ⟨h.r.ext e, e _ _ h.p, e _ _ h.q, h.x.ext e, h.y.ext e, e _ _ h.w⟩
theorem ne_tup {H : Hp} {r p : Addr} {q : Int × Int} (h : PoolAt H r) (h2 : TupAt H p q) : p ≠ r := fun z => by
  obtain ⟨c, cs, i, cur, m, h1, _⟩ := h
  unfold TupAt at h2
  rw [z, h1] at h2
  cases h2
theorem ne_frac {A : Adr} {H : Hp} {r p : Addr} {q : Int × Int} (h : PoolAt H r) (h2 : FracAt A.C H p q) : p ≠ r := fun z => by
  obtain ⟨c, cs, i, cur, m, h1, _⟩ := h
  obtain ⟨dx, h2⟩ := h2
  rw [z, h1] at h2
  cases h2
theorem FracAt.kp {A : Adr} {H H' : Hp} {r p : Addr} {q : Int × Int} (h2 : FracAt A.C H p q) (h : PoolAt H r) (k : Kp r H H') : FracAt A.C H' p q := let ⟨dx, h3⟩ := h2; ⟨dx, k _ _ h3 (ne_frac h ⟨dx, h3⟩)⟩
theorem TupAt.kp {H H' : Hp} {r p : Addr} {q : Int × Int} (h2 : TupAt H p q) (h : PoolAt H r) (k : Kp r H H') : TupAt H' p q := k _ _ h2 (ne_tup h h2)
theorem Held.kp {A : Adr} {r p q x y w : Addr} {fp fq fw : Int × Int} {H H' : Hp} (h : Held A r p q x y w fp fq fw H) (k : Kp r H H') (hr : PoolAt H' r) : Held A r p q x y w fp fq fw H' := ⟨hr, h.p.kp h.r k, h.q.kp h.r k, h.x.kp h.r k, h.y.kp h.r k, h.w.kp h.r k⟩
theorem dp3 {K : PySem.W.Frag} {H : Hp} {t : Addr} {a b c : Bool} (h : H t = some (.tup [.bl a, .bl b, .bl c])) : Dp K H (.ref t) (.tuple [.bool a, .bool b, .bool c]) := .tup (SqT.of h) (.cons (.bl a) (.cons (.bl b) (.cons (.bl c) .nil)))
theorem b3_eqv (a b c : Bool) : PyData.eqv (.tuple [.bool a, .bool b, .bool c]) (.tuple [.bool a, .bool b, .bool c]) = true := by simp [PyData.eqv, PyData.eqvAll]
theorem b3_sh (a b c : Bool) : SeqAt.shaped (.tuple [.bool a, .bool b, .bool c]) = true := by
  unfold SeqAt.shaped
  simp [PyData.canLay0, PyData.canLayAll0, PyData.depth, PyData.depthAll]
theorem ne0 (n : Int) : (!decide (V.int n = V.int 0)) = decide (n ≠ 0) := by
  rw [Bool.eq_iff_iff]
  simp
section
variable {P : Program} {w : World} {K : PySem.W.Frag} {mg : Str → Option Value} {base : Heap} {A : Adr} {Mm : Addr}
def spLaw (K : PySem.W.Frag) : Sp := fun vs H Q _ => ∃ (a : Addr) (ns : List Int), vs = [.ref a] ∧ SqL K H a (ns.map V.int) ∧ ns.length ≤ 63 ∧ ∀ H', Q (.bl true) H'
theorem scLaw : FnScope ["script", "pool", "case", "a", "b", "c", "d", "n", "s", "p", "q", "x", "y", "few", "mode", "place"] ["script"] (defScope sLaw) := ⟨rfl, rfl, rfl, by decide +kernel, rfl, by decide +kernel, by decide +kernel⟩
theorem ok_law {f : Addr} {fd : FuncData} (F : Fun K "law" "law" sLaw f fd) (F_ : FA P w K mg base A) (bo : mg "bool" = none) (ln : mg "len" = none) (cv : ∃ u, ClX.CVal K A.C (.type "type") "MOST_DIGITS" (.int 60) u)
    (hPo : LF P w K mg base "_law_pool" 1 ["script"] (spPool K)) (hPk : LF P w K mg base "_law_pick" 1 ["pool", "many"] spPick) (hTo : LF P w K mg base "_law_top" 3 ["pool"] spTop) (hSi : LF P w K mg base "_law_size" 2 ["pool"] spSize) (hLo : LF P w K mg base "_law_low" 1 ["top", "bottom"] spLow) (hSu : LF P w K mg base "_law_sums" 7 ["x", "y", "n", "p", "q"] (spSums A)) (hPw : LF P w K mg base "_law_powers" 7 ["x", "p"] (spPowers A)) (hDi : LF P w K mg base "_law_divided" 8 ["x", "y", "n", "p", "q"] (spDiv A)) (hIs : LF P w K mg base "_law_is" 2 ["x", "due"] (spIs A)) (hPr : LF P w K mg base "_law_power" 1 ["p", "k"] spPower) (hOr : LF P w K mg base "_law_order" 7 ["one", "two", "p", "q"] (spOrd A)) (hZe : LF P w K mg base "_law_zeros" 9 ["x", "n"] (spZeros A)) (hWr : LF P w K mg base "_law_written" 1 ["p"] spWrit) (hTe : LF P w K mg base "_law_texts" 9 ["x", "p", "mode", "place"] (spTexts A)) (hIn : LF P w K mg base "_law_int" 1 ["x"] spInt) :
    FnOk P w K mg base (L2.CX P w) 10 f fd ["script"] (spLaw K) := by
  obtain ⟨u60, cv⟩ := cv
  refine F.okX scLaw (fun vs H Q E h => ?_) (fun cdv AA outer s H vs Q E hr h => ?_)
  · obtain ⟨a, ns, rfl, _⟩ := h
    rfl
  · obtain ⟨a0, ns, rfl, hS, hlen, kk⟩ := h
    obtain ⟨fPo, gPo, cPo⟩ := hPo
    obtain ⟨fdPo, GPo, bPo⟩ := cPo.ex
    obtain ⟨fPk, gPk, cPk⟩ := hPk
    obtain ⟨fdPk, GPk, bPk⟩ := cPk.ex
    obtain ⟨fTo, gTo, cTo⟩ := hTo
    obtain ⟨fdTo, GTo, bTo⟩ := cTo.ex
    obtain ⟨fSi, gSi, cSi⟩ := hSi
    obtain ⟨fdSi, GSi, bSi⟩ := cSi.ex
    obtain ⟨fLo, gLo, cLo⟩ := hLo
    obtain ⟨fdLo, GLo, bLo⟩ := cLo.ex
    obtain ⟨fSu, gSu, cSu⟩ := hSu
    obtain ⟨fdSu, GSu, bSu⟩ := cSu.ex
    obtain ⟨fPw, gPw, cPw⟩ := hPw
    obtain ⟨fdPw, GPw, bPw⟩ := cPw.ex
    obtain ⟨fDi, gDi, cDi⟩ := hDi
    obtain ⟨fdDi, GDi, bDi⟩ := cDi.ex
    obtain ⟨fIs, gIs, cIs⟩ := hIs
    obtain ⟨fdIs, GIs, bIs⟩ := cIs.ex
    obtain ⟨fPr, gPr, cPr⟩ := hPr
    obtain ⟨fdPr, GPr, bPr⟩ := cPr.ex
    obtain ⟨fOr, gOr, cOr⟩ := hOr
    obtain ⟨fdOr, GOr, bOr⟩ := cOr.ex
    obtain ⟨fZe, gZe, cZe⟩ := hZe
    obtain ⟨fdZe, GZe, bZe⟩ := cZe.ex
    obtain ⟨fWr, gWr, cWr⟩ := hWr
    obtain ⟨fdWr, GWr, bWr⟩ := cWr.ex
    obtain ⟨fTe, gTe, cTe⟩ := hTe
    obtain ⟨fdTe, GTe, bTe⟩ := cTe.ex
    obtain ⟨fIn, gIn, cIn⟩ := hIn
    obtain ⟨fdIn, GIn, bIn⟩ := cIn.ex
    obtain ⟨fdBo, GBo, bBo⟩ := F_.cBool.ex
    obtain ⟨fdNg, GNg, bNg⟩ := F_.cNeg.ex
    obtain ⟨fdFp, GFp, bFp⟩ := F_.cPow.ex
    refine ⟨_, (pss_cons (ps_set (i := 1) scLaw.nd rfl (Or.inl rfl) (pe_call GPo (hr.mono (by decide)) rfl gPo cPo.kp bPo .nil (E := E0) passL (pa_cons (pv 0) pa_nil)))
      (pss_cons (ps_set (i := 2) scLaw.nd rfl (Or.inl rfl) (pe_call GPk (hr.mono (by decide)) rfl gPk cPk.kp bPk .nil (E := E0) passL (pa_cons (pv 1) (pa_cons pe_int pa_nil))))
      (pss_cons (ps_set (i := 3) scLaw.nd rfl (Or.inl rfl) (pe_call GTo (hr.mono (by decide)) rfl gTo cTo.kp bTo .nil (E := E0) passL (pa_cons (pv 1) pa_nil)))
      (pss_cons (ps_set (i := 4) scLaw.nd rfl (Or.inl rfl) (pe_op L2.op_add pe_int (pe_call GSi (hr.mono (by decide)) rfl gSi cSi.kp bSi .nil (E := E0) passL (pa_cons (pv 1) pa_nil))))
      (pss_cons (ps_set (i := 5) scLaw.nd rfl (Or.inl rfl) (pe_call GTo (hr.mono (by decide)) rfl gTo cTo.kp bTo .nil (E := E0) passL (pa_cons (pv 1) pa_nil)))
      (pss_cons (ps_set (i := 6) scLaw.nd rfl (Or.inl rfl) (pe_op L2.op_add pe_int (pe_call GSi (hr.mono (by decide)) rfl gSi cSi.kp bSi .nil (E := E0) passL (pa_cons (pv 1) pa_nil))))
      (pss_cons (ps_set (i := 7) scLaw.nd rfl (Or.inl rfl) (pe_call GTo (hr.mono (by decide)) rfl gTo cTo.kp bTo .nil (E := E0) passL (pa_cons (pv 1) pa_nil)))
      (C8.pss_cut (ps_if (pt_cmpR L2.op_lt (pe_callB L2.call_abs (by rfl) F_.ab boot_abs' (pa_cons (pv 5) pa_nil)) pe_int (nomark _)) (pss_one (ps_set (i := 5) scLaw.nd rfl (Or.inl rfl) (pe_op L2.op_sub (pv 5) pe_int))) pss_nil)
      (C8.pss_cut (ps_if (PW.pt (pw_or (pt_cmpR L2.op_eq (pv 2) pe_int (nomark _)) (pw_or1 (pt_cmpR L2.op_eq (pv 2) pe_int (nomark _))))) (pss_cons (ps_set (i := 5) scLaw.nd rfl (Or.inl rfl) (pe_ix ix_list (pe_lst (pa_cons (pv 3) (pa_cons (pe_un L2.un_neg (pv 3)) pa_nil))) (pe_op L2.op_sub (pv 2) pe_int) (fun _ _ => rfl))) (pss_one (ps_set (i := 6) scLaw.nd rfl (Or.inl rfl) (pv 4)))) pss_nil)
      (C8.pss_cut (ps_if (pt_cmpR L2.op_eq (pv 2) pe_int (nomark _)) (pss_one (ps_set (i := 5) scLaw.nd rfl (Or.inl rfl) pe_int)) pss_nil)
      (C8.pss_cut (ps_if (pt_cmpR L2.op_eq (pv 2) pe_int (nomark _)) (pss_one (ps_set (i := 7) scLaw.nd rfl (Or.inl rfl) pe_int)) pss_nil)
      (C8.pss_cut (ps_if (pt_cmpR L2.op_eq (pv 2) pe_int (nomark _)) (pss_one (ps_set (i := 7) scLaw.nd rfl (Or.inl rfl) (pe_op op_fdivZ (pv 3) (pv 4)))) pss_nil)
      (C8.pss_cut (ps_if (pt_cmpR L2.op_eq (pv 2) pe_int (nomark _)) (pss_cons (ps_set (i := 5) scLaw.nd rfl (Or.inl rfl) (pv 7)) (pss_one (ps_set (i := 6) scLaw.nd rfl (Or.inl rfl) pe_int))) pss_nil)
      (pss_cons (ps_set (i := 8) scLaw.nd rfl (Or.inl rfl) pe_int)
      (C8.pss_cut (ps_if (PW.pt (pw_and (pt_cmpR L2.op_lt (pe_callB L2.call_abs (by rfl) F_.ab boot_abs' (pa_cons (pv 3) pa_nil)) (pe_op L2.op_pow pe_int pe_int) (nomark _)) (pw_and1 (pt_cmpR L2.op_lt (pv 4) (pe_op L2.op_pow pe_int pe_int) (nomark _))))) (pss_one (ps_set (i := 8) scLaw.nd rfl (Or.inl rfl) (pe_ix ix_list (pe_lst (pa_cons pe_int (pa_cons (pe_un L2.un_neg pe_int) (pa_cons pe_int (pa_cons (pe_un L2.un_neg pe_int) (pa_cons pe_int (pa_cons (pe_un L2.un_neg pe_int) pa_nil))))))) (pe_call GPk (hr.mono (by decide)) rfl gPk cPk.kp bPk .nil (E := E0) passL (pa_cons (pv 1) (pa_cons pe_int pa_nil))) (fun _ _ => rfl)))) pss_nil)
      (pss_cons (ps_set (i := 9) scLaw.nd rfl (Or.inl rfl) (pe_call GLo (hr.mono (by decide)) rfl gLo cLo.kp bLo .nil (E := E0) passL (pa_cons (pv 3) (pa_cons (pv 4) pa_nil))))
      (pss_cons (ps_set (i := 10) scLaw.nd rfl (Or.inl rfl) (pe_call GLo (hr.mono (by decide)) rfl gLo cLo.kp bLo .nil (E := E0) passL (pa_cons (pv 5) (pa_cons (pv 6) pa_nil))))
      (pss_cons (ps_set (i := 11) scLaw.nd rfl (Or.inl rfl) (pe_frac2 F_.M F_.T (hr.mono (by decide)) rfl (pa_cons (pe_op op_mulW (pv 8) (pv 3)) (pa_cons (pe_op op_mulW (pv 8) (pv 4)) pa_nil))))
      (pss_cons (ps_set (i := 12) scLaw.nd rfl (Or.inl rfl) (pe_frac2 F_.M F_.T (hr.mono (by decide)) rfl (pa_cons (pv 5) (pa_cons (pv 6) pa_nil))))
      (C8.pss_cut (ps_set (i := 13) scLaw.nd rfl (Or.inl rfl) (pe_call GLo (hr.mono (by decide)) rfl gLo cLo.kp bLo .nil (E := E0) passL (pa_cons (pe_op L2.op_sub (pe_call GPk (hr.mono (by decide)) rfl gPk cPk.kp bPk .nil (E := E0) passL (pa_cons (pv 1) (pa_cons pe_int pa_nil))) pe_int) (pa_cons (pe_op L2.op_add pe_int (pe_call GPk (hr.mono (by decide)) rfl gPk cPk.kp bPk .nil (E := E0) passL (pa_cons (pv 1) (pa_cons pe_int pa_nil)))) pa_nil))))
      (C8.pss_cut (ps_if (PW.pt (pw_or (pt_not (pt_val (pe_call GSu (hr.mono (by decide)) rfl gSu cSu.kp bSu .nil (E := E0) passL (pa_cons (pv 11) (pa_cons (pv 12) (pa_cons (pv 7) (pa_cons (pv 9) (pa_cons (pv 10) pa_nil)))))))) (pw_or (pt_not (pt_val (pe_call GPw (hr.mono (by decide)) rfl gPw cPw.kp bPw .nil (E := E0) passL (pa_cons (pv 11) (pa_cons (pv 9) pa_nil))))) (pw_or1 (pt_not (pt_val (pe_call GDi (hr.mono (by decide)) rfl gDi cDi.kp bDi .nil (E := E0) passL (pa_cons (pv 11) (pa_cons (pv 12) (pa_cons (pv 7) (pa_cons (pv 9) (pa_cons (pv 10) pa_nil)))))))))))) (pss_one (ps_ret pe_bl)) pss_nil)
      (C8.pss_cut (ps_if (pt_not (pt_val (pe_call GIs (hr.mono (by decide)) rfl gIs cIs.kp bIs .nil (E := E0) passL (pa_cons (pe_op (op_own F_.bPow GFp (hr.mono (by decide)) bFp (E := E0) passL) (pe_frac2 F_.M F_.T (hr.mono (by decide)) rfl (pa_cons (pe_ix ix_tup (pv 13) pe_int (fun _ _ => rfl)) (pa_cons (pe_ix ix_tup (pv 13) pe_int (fun _ _ => rfl)) pa_nil))) pe_int) (pa_cons (pe_call GPr (hr.mono (by decide)) rfl gPr cPr.kp bPr .nil (E := E0) passL (pa_cons (pv 13) (pa_cons pe_int pa_nil))) pa_nil))))) (pss_one (ps_ret pe_bl)) pss_nil)
      (C8.pss_cut (ps_if (PW.pt (pw_or (pt_not (pt_val (pe_call GOr (hr.mono (by decide)) rfl gOr cOr.kp bOr .nil (E := E0) passL (pa_cons (pv 11) (pa_cons (pv 12) (pa_cons (pv 9) (pa_cons (pv 10) pa_nil))))))) (pw_or (pt_not (pt_val (pe_call GOr (hr.mono (by decide)) rfl gOr cOr.kp bOr .nil (E := E0) passL (pa_cons (pv 11) (pa_cons (pv 7) (pa_cons (pv 9) (pa_cons (pe_tup (pa_cons (pv 7) (pa_cons pe_int pa_nil))) pa_nil))))))) (pw_or1 (pt_not (pt_val (pe_call GOr (hr.mono (by decide)) rfl gOr cOr.kp bOr .nil (E := E0) passL (pa_cons (pv 7) (pa_cons (pv 11) (pa_cons (pe_tup (pa_cons (pv 7) (pa_cons pe_int pa_nil))) (pa_cons (pv 9) pa_nil))))))))))) (pss_one (ps_ret pe_bl)) pss_nil)
      (C8.pss_cut (ps_if (PW.pt (pw_or (pt_not (pt_val (pe_call GOr (hr.mono (by decide)) rfl gOr cOr.kp bOr .nil (E := E0) passL (pa_cons (pv 12) (pa_cons (pv 11) (pa_cons (pv 10) (pa_cons (pv 9) pa_nil))))))) (pw_or (pt_not (pt_val (pe_call GOr (hr.mono (by decide)) rfl gOr cOr.kp bOr .nil (E := E0) passL (pa_cons (pv 11) (pa_cons (pv 11) (pa_cons (pv 9) (pa_cons (pv 9) pa_nil))))))) (pw_or1 (pt_not (pt_val (pe_call GOr (hr.mono (by decide)) rfl gOr cOr.kp bOr .nil (E := E0) passL (pa_cons (pe_frac1 F_.M F_.T (hr.mono (by decide)) rfl (pa_cons (pv 7) pa_nil)) (pa_cons (pv 7) (pa_cons (pe_tup (pa_cons (pv 7) (pa_cons pe_int pa_nil))) (pa_cons (pe_tup (pa_cons (pv 7) (pa_cons pe_int pa_nil))) pa_nil))))))))))) (pss_one (ps_ret pe_bl)) pss_nil)
      (C8.pss_cut (ps_if (PW.pt (pw_or (pt_cmpR (op_neK (K := K) rfl hr.units) (pe_tup (pa_cons (pe_callTy (o_bool F_.uBool GBo (hr.mono (by decide)) bBo (E := E0) passL) (by rfl) bo boot_bool (pa_cons (pv 11) pa_nil)) (pa_cons (pe_callTy (o_bool F_.uBool GBo (hr.mono (by decide)) bBo (E := E0) passL) (by rfl) bo boot_bool (pa_cons (pv 12) pa_nil)) (pa_cons (pe_callTy (o_bool F_.uBool GBo (hr.mono (by decide)) bBo (E := E0) passL) (by rfl) bo boot_bool (pa_cons (pe_un (o_neg F_.uNeg GNg (hr.mono (by decide)) bNg (E := E0) passL) (pv 11)) pa_nil)) pa_nil)))) (pe_tup (pa_cons (pe_cmpR L2.op_ne (pe_ix ix_tup (pv 9) pe_int (fun _ _ => rfl)) pe_int (nomark _)) (pa_cons (pe_cmpR L2.op_ne (pe_ix ix_tup (pv 10) pe_int (fun _ _ => rfl)) pe_int (nomark _)) (pa_cons (pe_cmpR L2.op_ne (pe_ix ix_tup (pv 9) pe_int (fun _ _ => rfl)) pe_int (nomark _)) pa_nil)))) (nomark _)) (pw_or1 (pt_not (pt_val (pe_call GZe (hr.mono (by decide)) rfl gZe cZe.kp bZe .nil (E := E0) passL (pa_cons (pv 11) (pa_cons (pv 7) pa_nil)))))))) (pss_one (ps_ret pe_bl)) pss_nil)
      (pss_cons (ps_set (i := 14) scLaw.nd rfl (Or.inl rfl) (pe_call GPk (hr.mono (by decide)) rfl gPk cPk.kp bPk .nil (E := E0) passL (pa_cons (pv 1) (pa_cons pe_int pa_nil))))
      (pss_cons (ps_set (i := 15) scLaw.nd rfl (Or.inl rfl) (pe_call GPk (hr.mono (by decide)) rfl gPk cPk.kp bPk .nil (E := E0) passL (pa_cons (pv 1) (pa_cons (pe_op L2.op_add pe_int (pe_callB call_len_str (by rfl) ln boot_len (pa_cons (pe_call GWr (hr.mono (by decide)) rfl gWr cWr.kp bWr .nil (E := E0) passL (pa_cons (pv 9) pa_nil)) pa_nil))) pa_nil))))
      (pss_cons (ps_if (PW.pt (pw_or (pt_not (pt_val (pe_call GTe (hr.mono (by decide)) rfl gTe cTe.kp bTe .nil (E := E0) passL (pa_cons (pv 11) (pa_cons (pv 9) (pa_cons (pv 14) (pa_cons (pv 15) pa_nil))))))) (pw_or (pt_not (pt_val (pe_call GIn (hr.mono (by decide)) rfl gIn cIn.kp bIn .nil (E := E0) passL (pa_cons (ClX.pe_cval (pe_glob (v := .ref A.C) (by rfl) F_.T.mgC rfl)) pa_nil)))) (pw_or1 (pt_cmpR L2.op_ne (ClX.pe_cval (pe_glob (v := .ref A.C) (by rfl) F_.T.mgC rfl)) pe_int (nomark _)))))) (pss_one (ps_ret pe_bl)) pss_nil)
      (pss_one (ps_ret (pe_and (pe_call GIs (hr.mono (by decide)) rfl gIs cIs.kp bIs .nil (E := E0) passL (pa_cons (pv 11) (pa_cons (pv 9) pa_nil))) (pe_one (pe_call GIs (hr.mono (by decide)) rfl gIs cIs.kp bIs .nil (E := E0) passL (pa_cons (pv 12) (pa_cons (pv 10) pa_nil))))))))))))))))))))))))))))))))))), ?_⟩
    have L9 : ∀ n : Int, n.natAbs < 10 ^ 31 → n.natAbs.log2 < 9000 := fun n h => (bi31 h).log
    refine ⟨_, rfl, a0, ns, rfl, hS, hlen, fun r H1 _ _ hp1 => ?_⟩
    refine ⟨_, rfl, r, 8, rfl, hp1, by decide, by decide +kernel, fun cs H2 cs0 cs8 hp2 _ => ?_⟩
    refine ⟨_, rfl, r, rfl, hp2, fun a H3 a1 a2 hp3 _ => ?_⟩
    refine ⟨_, rfl, r, rfl, hp3, fun b' H4 b1 b2 hp4 _ => ⟨_, _, rfl, rfl, ?_⟩⟩
    refine ⟨_, rfl, r, rfl, hp4, fun c0 H5 c1 c2 hp5 _ => ?_⟩
    refine ⟨_, rfl, r, rfl, hp5, fun d' H6 d1 d2 hp6 _ => ⟨_, _, rfl, rfl, ?_⟩⟩
    refine ⟨_, rfl, r, rfl, hp6, fun n0 H7 n1 n2 hp7 _ => ?_⟩
    have ha : a.natAbs < 10 ^ 30 := ab30 a1 a2
    have hc0 : c0.natAbs < 10 ^ 30 := ab30 c1 c2
    have hn0 : n0.natAbs < 10 ^ 30 := ab30 n1 n2
    have hb : 0 < 1 + b' ∧ (1 + b').natAbs < 10 ^ 31 := by unfold E30 at b2; omega
    have hd0 : 0 < 1 + d' ∧ (1 + d').natAbs < 10 ^ 31 := by unfold E30 at d2; omega
    have ha' : a.natAbs < 10 ^ 31 := by omega
    obtain ⟨b, eb⟩ : ∃ b, b = 1 + b' := ⟨_, rfl⟩
    obtain ⟨dd, ed⟩ : ∃ d, d = 1 + d' := ⟨_, rfl⟩
    rw [← eb] at hb
    rw [← ed] at hd0
    refine ⟨(fun σ H1 => ∃ c d n : Int, σ = [some (.ref a0), some (.ref r), some (.int cs), some (.int a), some (.int b), some (.int c), some (.int d), some (.int n), none, none, none, none, none, none, none, none] ∧ PoolAt H1 r ∧ c.natAbs < 10 ^ 31 ∧ 0 < d ∧ d.natAbs < 10 ^ 31 ∧ n.natAbs < 10 ^ 31), ?_, ?_⟩
    · refine ⟨_, rfl, c0, rfl, _, _, rfl, rfl, _, rfl, iteB ⟨_, rfl, _, _, rfl, rfl, ⟨c0 - 2, dd, n0, by subst eb ed; rfl, hp7, by omega, hd0.1, hd0.2, by omega⟩⟩ ⟨c0, dd, n0, by subst eb ed; rfl, hp7, by omega, hd0.1, hd0.2, by omega⟩⟩
    clear hp1 hp2 hp3 hp4 hp5 hp6 hp7 hS
    rintro σ G1 ⟨c, d, n, rfl, hp, hc, hd, hd', hn⟩
    refine ⟨(fun σ H1 => ∃ c d n : Int, σ = [some (.ref a0), some (.ref r), some (.int cs), some (.int a), some (.int b), some (.int c), some (.int d), some (.int n), none, none, none, none, none, none, none, none] ∧ PoolAt H1 r ∧ c.natAbs < 10 ^ 31 ∧ 0 < d ∧ d.natAbs < 10 ^ 31 ∧ n.natAbs < 10 ^ 31), ?_, ?_⟩
    · by_cases q1 : cs = 1
      · subst q1
        exact ⟨_, rfl, rfl, _, rfl, iteD rfl (iteT ⟨_, rfl, _, rfl, _, rfl, by show 2 ≤ sizeLine; decide, fun l nl => ⟨_, rfl, _, _, rfl, rfl, l, _, _, .int a, rfl, rfl, SqL.of upd_same, rfl, _, rfl, ⟨a, b, n, rfl, hp.ext (ext1 nl), ha', hb.1, hb.2, hn⟩⟩⟩)⟩
      · by_cases q2 : cs = 2
        · subst q2
          exact ⟨_, rfl, rfl, _, rfl, iteDF (by decide) ⟨_, rfl, rfl, _, rfl, iteD rfl ⟨_, rfl, _, rfl, _, rfl, by show 2 ≤ sizeLine; decide, fun l nl => ⟨_, rfl, _, _, rfl, rfl, l, _, _, .int (-a), rfl, rfl, SqL.of upd_same, rfl, _, rfl, ⟨-a, b, n, rfl, hp.ext (ext1 nl), by omega, hb.1, hb.2, hn⟩⟩⟩⟩⟩
        · exact ⟨_, rfl, rfl, _, rfl, iteDF (by intro z; injection z with z; exact q1 z) ⟨_, rfl, rfl, _, rfl, iteDF (by intro z; injection z with z; exact q2 z) ⟨c, d, n, rfl, hp, hc, hd, hd', hn⟩⟩⟩
    clear hp hc hd hd' hn
    rintro σ G2 ⟨c, d, n, rfl, hp, hc, hd, hd', hn⟩
    refine ⟨(fun σ H1 => ∃ c d n : Int, σ = [some (.ref a0), some (.ref r), some (.int cs), some (.int a), some (.int b), some (.int c), some (.int d), some (.int n), none, none, none, none, none, none, none, none] ∧ PoolAt H1 r ∧ c.natAbs < 10 ^ 31 ∧ 0 < d ∧ d.natAbs < 10 ^ 31 ∧ n.natAbs < 10 ^ 31), ⟨_, rfl, rfl, _, rfl, iteB ⟨0, d, n, rfl, hp, by decide, hd, hd', hn⟩ ⟨c, d, n, rfl, hp, hc, hd, hd', hn⟩⟩, ?_⟩
    clear hp hc hd hd' hn
    rintro σ G3 ⟨c, d, n, rfl, hp, hc, hd, hd', hn⟩
    refine ⟨(fun σ H1 => ∃ c d n : Int, σ = [some (.ref a0), some (.ref r), some (.int cs), some (.int a), some (.int b), some (.int c), some (.int d), some (.int n), none, none, none, none, none, none, none, none] ∧ PoolAt H1 r ∧ c.natAbs < 10 ^ 31 ∧ 0 < d ∧ d.natAbs < 10 ^ 31 ∧ n.natAbs < 10 ^ 31), ⟨_, rfl, rfl, _, rfl, iteB ⟨c, d, 0, rfl, hp, hc, hd, hd', by decide⟩ ⟨c, d, n, rfl, hp, hc, hd, hd', hn⟩⟩, ?_⟩
    clear hp hc hd hd' hn
    rintro σ G4 ⟨c, d, n, rfl, hp, hc, hd, hd', hn⟩
    refine ⟨(fun σ H1 => ∃ c d n : Int, σ = [some (.ref a0), some (.ref r), some (.int cs), some (.int a), some (.int b), some (.int c), some (.int d), some (.int n), none, none, none, none, none, none, none, none] ∧ PoolAt H1 r ∧ c.natAbs < 10 ^ 31 ∧ 0 < d ∧ d.natAbs < 10 ^ 31 ∧ n.natAbs < 10 ^ 31), ⟨_, rfl, rfl, _, rfl, iteB ⟨_, rfl, _, rfl, a, b, rfl, rfl, ⟨by omega, L9 b hb.2⟩, ⟨c, d, a.fdiv b, rfl, hp, hc, hd, hd', Nat.lt_of_le_of_lt (fdiv_le a b (by omega)) ha'⟩⟩ ⟨c, d, n, rfl, hp, hc, hd, hd', hn⟩⟩, ?_⟩
    clear hp hc hd hd' hn
    rintro σ G5 ⟨c, d, n, rfl, hp, hc, hd, hd', hn⟩
    refine ⟨(fun σ H1 => ∃ c d n : Int, σ = [some (.ref a0), some (.ref r), some (.int cs), some (.int a), some (.int b), some (.int c), some (.int d), some (.int n), none, none, none, none, none, none, none, none] ∧ PoolAt H1 r ∧ c.natAbs < 10 ^ 31 ∧ 0 < d ∧ d.natAbs < 10 ^ 31 ∧ n.natAbs < 10 ^ 31), ⟨_, rfl, rfl, _, rfl, iteB ⟨_, rfl, ⟨n, 1, n, rfl, hp, hn, by decide, by decide, hn⟩⟩ ⟨c, d, n, rfl, hp, hc, hd, hd', hn⟩⟩, ?_⟩
    clear hp hc hd hd' hn
    rintro σ G6 ⟨c, d, n, rfl, hp, hc, hd, hd', hn⟩
    refine ⟨fun σ H1 => ∃ s : Int, σ = [some (.ref a0), some (.ref r), some (.int cs), some (.int a), some (.int b), some (.int c), some (.int d), some (.int n), some (.int s), none, none, none, none, none, none, none] ∧ PoolAt H1 r ∧ s ≠ 0 ∧ s.natAbs < 10, ?_, ?_⟩
    · have hpow : CPow 10 28 := ⟨by decide, by decide, by decide⟩
      refine ⟨_, rfl, a, rfl, 10, 28, rfl, rfl, hpow, _, _, rfl, rfl, _, rfl, iteB ⟨_, rfl, 10, 28, rfl, rfl, hpow, _, _, rfl, rfl, _, rfl, iteB ?_ ⟨1, rfl, hp, by decide, by decide⟩⟩ (iteF ⟨1, rfl, hp, by decide, by decide⟩)⟩
      refine ⟨_, rfl, _, rfl, _, rfl, by show 6 ≤ sizeLine; decide, fun l nl => ?_⟩
      refine ⟨_, rfl, r, 6, rfl, hp.ext (ext1 nl), by decide, by decide +kernel, fun k H8 k0 k6 hp8 kp8 => ?_⟩
      have hl := kp8 l _ upd_same (fun z => by
        obtain ⟨c', cs', i', cur', m', h1, _⟩ := hp
        rw [← z, nl] at h1
        cases h1)
      have hk : k = 0 ∨ k = 1 ∨ k = 2 ∨ k = 3 ∨ k = 4 ∨ k = 5 := by omega
      rcases hk with rfl | rfl | rfl | rfl | rfl | rfl
      · exact ⟨l, _, _, .int 1, rfl, rfl, SqL.of hl, rfl, ⟨1, rfl, hp8, by decide, by decide⟩⟩
      · exact ⟨l, _, _, .int (-1), rfl, rfl, SqL.of hl, rfl, ⟨-1, rfl, hp8, by decide, by decide⟩⟩
      · exact ⟨l, _, _, .int 2, rfl, rfl, SqL.of hl, rfl, ⟨2, rfl, hp8, by decide, by decide⟩⟩
      · exact ⟨l, _, _, .int (-3), rfl, rfl, SqL.of hl, rfl, ⟨-3, rfl, hp8, by decide, by decide⟩⟩
      · exact ⟨l, _, _, .int 6, rfl, rfl, SqL.of hl, rfl, ⟨6, rfl, hp8, by decide, by decide⟩⟩
      · exact ⟨l, _, _, .int (-9), rfl, rfl, SqL.of hl, rfl, ⟨-9, rfl, hp8, by decide, by decide⟩⟩
    clear hp
    rintro σ G7 ⟨s, rfl, hp, hs, hs'⟩
    have hb0 : b ≠ 0 := by omega
    have hd0' : d ≠ 0 := by omega
    have bs : Bd s := by unfold Bd; exact Nat.lt_of_lt_of_le hs' (Nat.le_trans (by decide : 10 ≤ 2 ^ 4) (Nat.pow_le_pow_right (by decide) (by decide)))
    have smp : Sml (low a b) := low_sml hb0 ha' hb.2
    have smq : Sml (low c d) := low_sml hd0' hc hd'
    refine ⟨_, rfl, _, rfl, a, b, rfl, hb0, bi31 hb.2, fun p J1 j1 hP => ?_⟩
    refine ⟨_, rfl, _, rfl, c, d, rfl, hd0', bi31 hd', fun q J2 j2 hQ => ?_⟩
    refine ⟨_, rfl, _, rfl, _, _, rfl, rfl, bs.cm (bd31 ha'), _, rfl, _, rfl, _, _, rfl, rfl, bs.cm (bd31 hb.2), s * a, s * b, rfl, Int.mul_ne_zero hs hb0, Bd.mul bs (bd31 hb.2), fun x J3 j3 hX => ?_⟩
    rw [Int.mul_comm s a, Int.mul_comm s b, low_scale hb0 hs] at hX
    refine ⟨_, rfl, _, rfl, c, d, rfl, hd0', bi31 hd', fun y J4 j4 hY => ?_⟩
    have hp4 : PoolAt J4 r := hp.ext (((j1.trans j2).trans j3).trans j4)
    generalize hfp : low a b = fp at hP hX smp
    generalize hfq : low c d = fq at hQ hY smq
    have hP4 : TupAt J4 p fp := ((j2.trans j3).trans j4) _ _ hP
    have hQ4 : TupAt J4 q fq := (j3.trans j4) _ _ hQ
    have hX4 := hX.ext j4
    refine ⟨fun σ H1 => ∃ few ff, σ = [some (.ref a0), some (.ref r), some (.int cs), some (.int a), some (.int b), some (.int c), some (.int d), some (.int n), some (.int s), some (.ref p), some (.ref q), some (.ref x), some (.ref y), some (.ref few), none, none] ∧ Held A r p q x y few fp fq ff H1 ∧ Low ff ∧ ff.1.natAbs < 2 ^ 4 ∧ ff.2.natAbs < 2 ^ 4, ?_, ?_⟩
    · refine ⟨_, rfl, r, 9, rfl, hp4, by decide, by decide +kernel, fun k1 J5 k10 k19 hp5 kp5 => ⟨_, _, rfl, rfl, ?_⟩⟩
      refine ⟨_, rfl, r, 6, rfl, hp5, by decide, by decide +kernel, fun k2 J6 k20 k26 hp6 kp6 => ⟨_, _, rfl, rfl, ?_⟩⟩
      have kp : Kp r J4 J6 := kp5.trans kp6
      have z2 : (1 : Int) + k2 ≠ 0 := by omega
      refine ⟨k1 - 4, 1 + k2, rfl, z2, bi31 (by omega), fun few J7 j7 hW => ?_⟩
      have l1 : (low (k1 - 4) (1 + k2)).1.natAbs ≤ (k1 - 4).natAbs := low_le1 z2
      have l2 : (low (k1 - 4) (1 + k2)).2.natAbs ≤ (1 + k2).natAbs := low_le2 z2
      refine ⟨few, low (k1 - 4) (1 + k2), rfl, ⟨hp6.ext j7, j7 _ _ (hP4.kp hp4 kp), j7 _ _ (hQ4.kp hp4 kp), (hX4.kp hp4 kp).ext j7, (hY.kp hp4 kp).ext j7, hW⟩, low_low z2, ?_, ?_⟩
      · omega
      · omega
    clear hP hQ hX hY hP4 hQ4 hX4 hp hp4 j1 j2 j3 j4
    rintro σ K1 ⟨few, ff, rfl, hh, lo, f1, f2⟩
    have on : Oks (n, 1) := (sml_int hn).oks
    have op := smp.oks
    have oq := smq.oks
    have b600 : ∀ n : Int, n.natAbs < 10 ^ 31 → n.natAbs < 2 ^ 600 := fun n h => Nat.lt_of_lt_of_le h (Nat.le_trans e31 (Nat.pow_le_pow_right (by decide) (by decide)))
    refine ⟨(fun σ H1 => σ = [some (.ref a0), some (.ref r), some (.int cs), some (.int a), some (.int b), some (.int c), some (.int d), some (.int n), some (.int s), some (.ref p), some (.ref q), some (.ref x), some (.ref y), some (.ref few), none, none] ∧ Held A r p q x y few fp fq ff H1), ?_, ?_⟩
    · refine ⟨_, rfl, _, rfl, _, rfl, _, rfl, _, rfl, x, y, n, p, q, fp, fq, rfl, hh.x, hh.y, hh.p, hh.q, op.ok, oq.ok, bd31 hn, fun L1 l1 => ⟨_, rfl, iteF ?_⟩⟩
      replace hh := hh.ext l1
      refine ⟨_, rfl, _, rfl, x, p, fp, rfl, hh.x, hh.p, smp.low, b600 _ smp.b1, b600 _ smp.b2, fun L2 l2 => ⟨_, rfl, iteF ?_⟩⟩
      replace hh := hh.ext l2
      exact ⟨_, rfl, _, rfl, _, rfl, _, rfl, _, rfl, x, y, n, p, q, fp, fq, rfl, hh.x, hh.y, hh.p, hh.q, op, oq, on, fun L3 l3 => ⟨_, rfl, iteF ⟨rfl, hh.ext l3⟩⟩⟩
    rintro σ K2 ⟨rfl, hh⟩
    refine ⟨(fun σ H1 => σ = [some (.ref a0), some (.ref r), some (.int cs), some (.int a), some (.int b), some (.int c), some (.int d), some (.int n), some (.int s), some (.ref p), some (.ref q), some (.ref x), some (.ref y), some (.ref few), none, none] ∧ Held A r p q x y few fp fq ff H1), ?_, ?_⟩
    · have nz : ff.2 ≠ 0 := by have := lo.pos; omega
      refine ⟨_, rfl, _, _, _, _, rfl, rfl, SqT.of hh.w, rfl, _, rfl, _, _, _, _, rfl, rfl, SqT.of hh.w, rfl, ff.1, ff.2, rfl, nz, bi31 (Nat.lt_of_lt_of_le f2 (by decide)), fun g M1 m1 hg => ?_⟩
      have hg : FracAt A.C M1 g ff := by
        have e := low_self lo
        rw [e] at hg
        exact hg
      refine ⟨hg.ins, .inr ⟨64, rfl⟩, g, ff, 64, 4, rfl, hg, lo, by decide, by decide, f1, f2, by decide, by decide, fun g2 M2 m2 hg2 => ?_⟩
      refine ⟨_, rfl, few, ff, 64, 4, rfl, (m1.trans m2) _ _ hh.w, by decide, by decide, f1, f2, by decide, by decide, fun d M3 m3 hd => ?_⟩
      exact ⟨g2, _, d, rfl, hg2.ext m3, hd, fun M4 m4 => ⟨_, rfl, iteF ⟨rfl, hh.ext (((m1.trans m2).trans m3).trans m4)⟩⟩⟩
    rintro σ K3 ⟨rfl, hh⟩
    refine ⟨(fun σ H1 => σ = [some (.ref a0), some (.ref r), some (.int cs), some (.int a), some (.int b), some (.int c), some (.int d), some (.int n), some (.int s), some (.ref p), some (.ref q), some (.ref x), some (.ref y), some (.ref few), none, none] ∧ Held A r p q x y few fp fq ff H1), ?_, ?_⟩
    · refine ⟨_, rfl, _, rfl, _, rfl, _, rfl, .ref x, .ref y, p, q, fp, fq, rfl, .inl ⟨x, rfl, hh.x, .of hh.y⟩, hh.p, hh.q, op.ok, oq.ok, fun L1 l1 => ⟨_, rfl, iteF ?_⟩⟩
      replace hh := hh.ext l1
      refine ⟨_, rfl, _, rfl, _, rfl, _, rfl, by show 2 ≤ sizeLine; decide, fun t nt => ?_⟩
      replace hh := hh.ext (ext1 (o := .tup [V.int n, V.int 1]) nt)
      refine ⟨.ref x, .int n, p, t, fp, (n, 1), rfl, .inl ⟨x, rfl, hh.x, .int n⟩, hh.p, upd_same, op.ok, on.ok, fun L2 l2 => ⟨_, rfl, iteF ?_⟩⟩
      replace hh := hh.ext l2
      refine ⟨_, rfl, _, rfl, _, rfl, by show 2 ≤ sizeLine; decide, fun t nt => ⟨_, rfl, ?_⟩⟩
      replace hh := hh.ext (ext1 (o := .tup [V.int n, V.int 1]) nt)
      exact ⟨.int n, .ref x, t, p, (n, 1), fp, rfl, .inr ⟨n, x, rfl, rfl, rfl, hh.x⟩, upd_same, hh.p, on.ok, op.ok, fun L3 l3 => ⟨_, rfl, iteF ⟨rfl, hh.ext l3⟩⟩⟩
    rintro σ K4 ⟨rfl, hh⟩
    refine ⟨(fun σ H1 => σ = [some (.ref a0), some (.ref r), some (.int cs), some (.int a), some (.int b), some (.int c), some (.int d), some (.int n), some (.int s), some (.ref p), some (.ref q), some (.ref x), some (.ref y), some (.ref few), none, none] ∧ Held A r p q x y few fp fq ff H1), ?_, ?_⟩
    · refine ⟨_, rfl, _, rfl, _, rfl, _, rfl, .ref y, .ref x, q, p, fq, fp, rfl, .inl ⟨y, rfl, hh.y, .of hh.x⟩, hh.q, hh.p, oq.ok, op.ok, fun L1 l1 => ⟨_, rfl, iteF ?_⟩⟩
      replace hh := hh.ext l1
      refine ⟨_, rfl, _, rfl, _, rfl, _, rfl, .ref x, .ref x, p, p, fp, fp, rfl, .inl ⟨x, rfl, hh.x, .of hh.x⟩, hh.p, hh.p, op.ok, op.ok, fun L2 l2 => ⟨_, rfl, iteF ?_⟩⟩
      replace hh := hh.ext l2
      refine ⟨_, rfl, n, rfl, fun z M1 m1 hz => ⟨_, rfl, _, rfl, by show 2 ≤ sizeLine; decide, fun t nt => ⟨_, rfl, by show 2 ≤ sizeLine; decide, fun t2 nt2 => ?_⟩⟩⟩
      have ee : Ext M1 (upd (upd M1 t (.tup [V.int n, V.int 1])) t2 (.tup [V.int n, V.int 1])) := (ext1 nt).upd' nt2
      exact ⟨.ref z, .int n, t, t2, (n, 1), (n, 1), rfl, .inl ⟨z, rfl, hz.ext ee, .int n⟩, ext1 nt2 _ _ upd_same, upd_same, on.ok, on.ok, fun L3 l3 => ⟨_, rfl, iteF ⟨rfl, hh.ext ((m1.trans ee).trans l3)⟩⟩⟩
    rintro σ K5 ⟨rfl, hh⟩
    refine ⟨(fun σ H1 => σ = [some (.ref a0), some (.ref r), some (.int cs), some (.int a), some (.int b), some (.int c), some (.int d), some (.int n), some (.int s), some (.ref p), some (.ref q), some (.ref x), some (.ref y), some (.ref few), none, none] ∧ Held A r p q x y few fp fq ff H1), ?_, ?_⟩
    · refine ⟨_, rfl, .ref x, rfl, hh.x.ins, x, fp, rfl, hh.x, _, rfl, ?_⟩
      refine ⟨_, rfl, .ref y, rfl, hh.y.ins, y, fq, rfl, hh.y, _, rfl, ?_⟩
      refine ⟨_, rfl, hh.x.ins, x, fp, rfl, hh.x, op.ok, fun z M1 m1 hz => ⟨.ref z, rfl, hz.ins, z, fneg fp, rfl, hz, _, rfl, by show 3 ≤ sizeLine; decide, fun t nt => ?_⟩⟩
      replace hh := (hh.ext m1).ext (ext1 (o := .tup [V.bl (decide (fp.1 ≠ 0)), V.bl (decide (fq.1 ≠ 0)), V.bl (decide ((fneg fp).1 ≠ 0))]) nt)
      refine ⟨_, rfl, _, _, _, _, rfl, rfl, SqT.of hh.p, rfl, rfl, _, rfl, _, _, _, _, rfl, rfl, SqT.of hh.q, rfl, rfl, _, rfl, _, _, _, _, rfl, rfl, SqT.of hh.p, rfl, rfl, by show 3 ≤ sizeLine; decide, fun t2 nt2 => ?_⟩
      have en : decide ((fneg fp).1 ≠ 0) = decide (fp.1 ≠ 0) := by
        unfold fneg
        rw [Bool.eq_iff_iff]
        simp
      have h1 := dp3 (K := K) (ext1 (o := .tup [V.bl (!decide (V.int fp.1 = V.int 0)), V.bl (!decide (V.int fq.1 = V.int 0)), V.bl (!decide (V.int fp.1 = V.int 0))]) nt2 _ _ (upd_same : upd M1 t (.tup [V.bl (decide (fp.1 ≠ 0)), V.bl (decide (fq.1 ≠ 0)), V.bl (decide ((fneg fp).1 ≠ 0))]) t = _))
      have h2 := dp3 (K := K) (upd_same : upd (upd M1 t (.tup [V.bl (decide (fp.1 ≠ 0)), V.bl (decide (fq.1 ≠ 0)), V.bl (decide ((fneg fp).1 ≠ 0))])) t2 (.tup [V.bl (!decide (V.int fp.1 = V.int 0)), V.bl (!decide (V.int fq.1 = V.int 0)), V.bl (!decide (V.int fp.1 = V.int 0))]) t2 = _)
      refine ⟨_, _, h1, h2, b3_sh _ _ _, b3_sh _ _ _, _, rfl, ?_⟩
      replace hh := hh.ext (ext1 (o := .tup [V.bl (!decide (V.int fp.1 = V.int 0)), V.bl (!decide (V.int fq.1 = V.int 0)), V.bl (!decide (V.int fp.1 = V.int 0))]) nt2)
      rw [ne0, ne0, en] at hh ⊢
      refine ifNF (b3_eqv _ _ _) ?_
      exact ⟨_, rfl, _, rfl, x, n, fp, rfl, hh.x, op, on, fun L1 l1 => ⟨_, rfl, iteF ⟨rfl, hh.ext l1⟩⟩⟩
    rintro σ K6 ⟨rfl, hh⟩
    refine ⟨_, rfl, r, 16, rfl, hh.r, by decide, by decide +kernel, fun m N1 m0 m16 hpN kpN => ?_⟩
    replace hh := hh.kp kpN hpN
    have lw : (wr fp).length ≤ 65 := by rw [len_tl (wr fp), tl_wr]; exact wrL_len (by decide) smp.b1 smp.b2
    refine ⟨_, rfl, _, rfl, p, fp, rfl, hh.p, smp, wr fp, rfl, by rw [sizeLine_eq]; omega, _, _, rfl, rfl, r, _, rfl, hh.r, by omega, ?_, fun k N2 k0 k1 hp2 kp2 => ?_⟩
    · have h70 : ∀ m : Nat, m < 70 → ((1 : Int) + (m : Int)).natAbs.log2 < 9000 := by decide +kernel
      exact h70 _ (by omega)
    replace hh := hh.kp kp2 hp2
    have ek : k = ((k.toNat : Nat) : Int) := by omega
    refine ⟨_, rfl, _, rfl, _, rfl, _, rfl, x, p, fp, m, k.toNat, congrArg (fun z => [V.ref x, V.ref p, V.int m, V.int z]) ek, hh.x, hh.p, smp, m0, m16, fun N3 e3 => ⟨_, rfl, iteF ?_⟩⟩
    replace hh := hh.ext e3
    refine ⟨A.C, _, _, _, rfl, F_.S.cr, cv, 60, rfl, ⟨_, rfl, iteF ?_⟩⟩
    refine ⟨A.C, _, _, _, rfl, F_.S.cr, cv, rfl, _, rfl, ifNF (decide_eq_true rfl) ?_⟩
    exact ⟨_, rfl, _, rfl, x, fp, p, rfl, hh.x, hh.p, fun N4 e4 => ⟨true, rfl, iteT ⟨_, rfl, _, rfl, y, fq, q, rfl, hh.y.ext e4, e4 _ _ hh.q, fun N5 e5 => kk N5⟩⟩⟩
end
end Fx

set_option Elab.async false
set_option linter.all false
set_option maxRecDepth 100000
set_option maxHeartbeats 8000000
set_option exponentiation.threshold 20000
namespace Fx
open PySem PySem.Spec PyProof.Rows L2 FM NumText TL
theorem kit_to {K : PySem.W.Frag} {D C : Addr} {b : Bool} (i : PySem.W.isClsIn K C = true) (t : PySem.W.typeIn K (.ref C) = some (.type "type")) (s : PySem.W.subIn K (.ref D) (.ref C) = some b) (ss : PySem.W.subIn K (.ref D) (.ref D) = some true) : PySem.W.kitOne K (.ref D) (.ref C) = some b := by
  unfold PySem.W.kitOne PySem.W.kitCls
  by_cases e : (Value.ref D == Value.ref C) = true
  · rw [if_pos e]
    have e' : Value.ref D = Value.ref C := beq_iff_eq.mp e
    rw [← e', ss] at s
    exact s
  · rw [if_neg e]
    have e2 : (PySem.W.clsIn K C).isSome = true := i
    simp only [e2, t, beq_self_eq_true, Bool.and_self, if_true]
    exact s
theorem kit_tv {K : PySem.W.Frag} {D : Addr} (s : PySem.W.subIn K (.ref D) (.type "ValueError") = some true) : PySem.W.kitOne K (.ref D) (.type "ValueError") = some true := by
  have m : PySem.W.kitMeta "ValueError" = true := by decide +kernel
  unfold PySem.W.kitOne PySem.W.kitCls
  rw [if_neg (by intro z; cases beq_iff_eq.mp z)]
  simp only [m, if_true]
  exact s
theorem d_add : PySem.dunder Operator.Add.info.2 = ("__add__" : Str) := by decide +kernel
theorem dr_add : dunderR Operator.Add.info.2 = ("__radd__" : Str) := by decide +kernel
theorem d_sub : PySem.dunder Operator.Sub.info.2 = ("__sub__" : Str) := by decide +kernel
theorem dr_sub : dunderR Operator.Sub.info.2 = ("__rsub__" : Str) := by decide +kernel
theorem d_mul : PySem.dunder Operator.Mult.info.2 = ("__mul__" : Str) := by decide +kernel
theorem dr_mul : dunderR Operator.Mult.info.2 = ("__rmul__" : Str) := by decide +kernel
theorem d_flo : PySem.dunder Operator.FloorDiv.info.2 = ("__floordiv__" : Str) := by decide +kernel
theorem dr_flo : dunderR Operator.FloorDiv.info.2 = ("__rfloordiv__" : Str) := by decide +kernel
theorem d_mod : PySem.dunder Operator.Mod.info.2 = ("__mod__" : Str) := by decide +kernel
theorem dr_mod : dunderR Operator.Mod.info.2 = ("__rmod__" : Str) := by decide +kernel
theorem d_pow : PySem.dunder Operator.Pow.info.2 = ("__pow__" : Str) := by decide +kernel
theorem dr_pow : dunderR Operator.Pow.info.2 = ("__rpow__" : Str) := by decide +kernel
theorem all_core {l : PySem.W.OpenLaw} {w : World} {K : PySem.W.Frag} {h : Heap} {mg : Str → Option Value} {fa Mm : Addr} {A : Adr} (X : K.In h) (G : h.Ns mainGlobals mg) (hfa : mg "law" = some (.ref fa))
    {tkP tkM tk0 tk1 : Tok} {nmC bsC nsC qC hdC snC sbC abC coC dlC} {oi_add oj_add : Option Value} {oi_sub oj_sub : Option Value} {oi_mul oj_mul : Option Value} {oi_flo oj_flo : Option Value} {oi_mod oj_mod : Option Value} {oi_pow oj_pow : Option Value} {nmT qT NT bsT bmT snT sbT abT coT ddT k0T k1T k2T k3T k5T} {fI : Addr} {odI anI : Option Addr} {slI : Array (Option Value)} {ocI kVI dcI pmI cdI ctI : Value} {Td : Addr} {ocTd : Value} {odTd : Option Addr} {nTd : Nat} {slTd : Array (Option Value)} {od_init an_init : Option Addr} {sl_init : Array (Option Value)} {oc_init kV_init dc_init pm_init cd_init ct_init : Value} {od_add an_add : Option Addr} {sl_add : Array (Option Value)} {oc_add kV_add dc_add pm_add cd_add ct_add : Value} {od_radd an_radd : Option Addr} {sl_radd : Array (Option Value)} {oc_radd kV_radd dc_radd pm_radd cd_radd ct_radd : Value} {od_sub an_sub : Option Addr} {sl_sub : Array (Option Value)} {oc_sub kV_sub dc_sub pm_sub cd_sub ct_sub : Value} {od_rsub an_rsub : Option Addr} {sl_rsub : Array (Option Value)} {oc_rsub kV_rsub dc_rsub pm_rsub cd_rsub ct_rsub : Value} {od_mul an_mul : Option Addr} {sl_mul : Array (Option Value)} {oc_mul kV_mul dc_mul pm_mul cd_mul ct_mul : Value} {od_rmul an_rmul : Option Addr} {sl_rmul : Array (Option Value)} {oc_rmul kV_rmul dc_rmul pm_rmul cd_rmul ct_rmul : Value} {od_flo an_flo : Option Addr} {sl_flo : Array (Option Value)} {oc_flo kV_flo dc_flo pm_flo cd_flo ct_flo : Value} {od_rflo an_rflo : Option Addr} {sl_rflo : Array (Option Value)} {oc_rflo kV_rflo dc_rflo pm_rflo cd_rflo ct_rflo : Value} {od_mod an_mod : Option Addr} {sl_mod : Array (Option Value)} {oc_mod kV_mod dc_mod pm_mod cd_mod ct_mod : Value} {od_rmod an_rmod : Option Addr} {sl_rmod : Array (Option Value)} {oc_rmod kV_rmod dc_rmod pm_rmod cd_rmod ct_rmod : Value} {od_pow an_pow : Option Addr} {sl_pow : Array (Option Value)} {oc_pow kV_pow dc_pow pm_pow cd_pow ct_pow : Value} {od_neg an_neg : Option Addr} {sl_neg : Array (Option Value)} {oc_neg kV_neg dc_neg pm_neg cd_neg ct_neg : Value} {od_abs an_abs : Option Addr} {sl_abs : Array (Option Value)} {oc_abs kV_abs dc_abs pm_abs cd_abs ct_abs : Value} {od_bool an_bool : Option Addr} {sl_bool : Array (Option Value)} {oc_bool kV_bool dc_bool pm_bool cd_bool ct_bool : Value} {od_eq an_eq : Option Addr} {sl_eq : Array (Option Value)} {oc_eq kV_eq dc_eq pm_eq cd_eq ct_eq : Value} {od_lt an_lt : Option Addr} {sl_lt : Array (Option Value)} {oc_lt kV_lt dc_lt pm_lt cd_lt ct_lt : Value} {od_le an_le : Option Addr} {sl_le : Array (Option Value)} {oc_le kV_le dc_le pm_le cd_le ct_le : Value} {od_gt an_gt : Option Addr} {sl_gt : Array (Option Value)} {oc_gt kV_gt dc_gt pm_gt cd_gt ct_gt : Value} {od_ge an_ge : Option Addr} {sl_ge : Array (Option Value)} {oc_ge kV_ge dc_ge pm_ge cd_ge ct_ge : Value} {od_str an_str : Option Addr} {sl_str : Array (Option Value)} {oc_str kV_str dc_str pm_str cd_str ct_str : Value} {od_over an_over : Option Addr} {sl_over : Array (Option Value)} {oc_over kV_over dc_over pm_over cd_over ct_over : Value} {rest_of_ : List Value} {od_of_ an_of_ : Option Addr} {sl_of_ : Array (Option Value)} {oc_of_ kV_of_ dc_of_ pm_of_ cd_of_ ct_of_ : Value} {rest_read : List Value} {od_read an_read : Option Addr} {sl_read : Array (Option Value)} {oc_read kV_read dc_read pm_read cd_read ct_read : Value} {od_isnum an_isnum : Option Addr} {sl_isnum : Array (Option Value)} {oc_isnum kV_isnum dc_isnum pm_isnum cd_isnum ct_isnum : Value} {od_wq an_wq : Option Addr} {sl_wq : Array (Option Value)} {oc_wq kV_wq dc_wq pm_wq cd_wq ct_wq : Value} {od_rdb an_rdb : Option Addr} {sl_rdb : Array (Option Value)} {oc_rdb kV_rdb dc_rdb pm_rdb cd_rdb ct_rdb : Value} {fPo : Addr} {odPo_ anPo_ : Option Addr} {slPo_ : Array (Option Value)} {ocPo_ kVPo_ dcPo_ pmPo_ cdPo_ ctPo_ : Value} {fPk : Addr} {odPk_ anPk_ : Option Addr} {slPk_ : Array (Option Value)} {ocPk_ kVPk_ dcPk_ pmPk_ cdPk_ ctPk_ : Value} {fSi : Addr} {odSi_ anSi_ : Option Addr} {slSi_ : Array (Option Value)} {ocSi_ kVSi_ dcSi_ pmSi_ cdSi_ ctSi_ : Value} {fTo : Addr} {odTo_ anTo_ : Option Addr} {slTo_ : Array (Option Value)} {ocTo_ kVTo_ dcTo_ pmTo_ cdTo_ ctTo_ : Value} {fLo : Addr} {odLo_ anLo_ : Option Addr} {slLo_ : Array (Option Value)} {ocLo_ kVLo_ dcLo_ pmLo_ cdLo_ ctLo_ : Value} {fSm : Addr} {odSm_ anSm_ : Option Addr} {slSm_ : Array (Option Value)} {ocSm_ kVSm_ dcSm_ pmSm_ cdSm_ ctSm_ : Value} {fTm : Addr} {odTm_ anTm_ : Option Addr} {slTm_ : Array (Option Value)} {ocTm_ kVTm_ dcTm_ pmTm_ cdTm_ ctTm_ : Value} {fPr : Addr} {odPr_ anPr_ : Option Addr} {slPr_ : Array (Option Value)} {ocPr_ kVPr_ dcPr_ pmPr_ cdPr_ ctPr_ : Value} {fIn : Addr} {odIn_ anIn_ : Option Addr} {slIn_ : Array (Option Value)} {ocIn_ kVIn_ dcIn_ pmIn_ cdIn_ ctIn_ : Value} {fIs : Addr} {odIs_ anIs_ : Option Addr} {slIs_ : Array (Option Value)} {ocIs_ kVIs_ dcIs_ pmIs_ cdIs_ ctIs_ : Value} {fSu : Addr} {odSu_ anSu_ : Option Addr} {slSu_ : Array (Option Value)} {ocSu_ kVSu_ dcSu_ pmSu_ cdSu_ ctSu_ : Value} {fPw : Addr} {odPw_ anPw_ : Option Addr} {slPw_ : Array (Option Value)} {ocPw_ kVPw_ dcPw_ pmPw_ cdPw_ ctPw_ : Value} {fFl : Addr} {odFl_ anFl_ : Option Addr} {slFl_ : Array (Option Value)} {ocFl_ kVFl_ dcFl_ pmFl_ cdFl_ ctFl_ : Value} {fDi : Addr} {odDi_ anDi_ : Option Addr} {slDi_ : Array (Option Value)} {ocDi_ kVDi_ dcDi_ pmDi_ cdDi_ ctDi_ : Value} {fOr : Addr} {odOr_ anOr_ : Option Addr} {slOr_ : Array (Option Value)} {ocOr_ kVOr_ dcOr_ pmOr_ cdOr_ ctOr_ : Value} {fSo : Addr} {odSo_ anSo_ : Option Addr} {slSo_ : Array (Option Value)} {ocSo_ kVSo_ dcSo_ pmSo_ cdSo_ ctSo_ : Value} {fTl : Addr} {odTl_ anTl_ : Option Addr} {slTl_ : Array (Option Value)} {ocTl_ kVTl_ dcTl_ pmTl_ cdTl_ ctTl_ : Value} {fZe : Addr} {odZe_ anZe_ : Option Addr} {slZe_ : Array (Option Value)} {ocZe_ kVZe_ dcZe_ pmZe_ cdZe_ ctZe_ : Value} {fWr : Addr} {odWr_ anWr_ : Option Addr} {slWr_ : Array (Option Value)} {ocWr_ kVWr_ dcWr_ pmWr_ cdWr_ ctWr_ : Value} {fPt : Addr} {odPt_ anPt_ : Option Addr} {slPt_ : Array (Option Value)} {ocPt_ kVPt_ dcPt_ pmPt_ cdPt_ ctPt_ : Value} {fSp : Addr} {odSp_ anSp_ : Option Addr} {slSp_ : Array (Option Value)} {ocSp_ kVSp_ dcSp_ pmSp_ cdSp_ ctSp_ : Value} {fTe : Addr} {odTe_ anTe_ : Option Addr} {slTe_ : Array (Option Value)} {ocTe_ kVTe_ dcTe_ pmTe_ cdTe_ ctTe_ : Value} {fLa : Addr} {odLa_ anLa_ : Option Addr} {slLa_ : Array (Option Value)} {ocLa_ kVLa_ dcLa_ pmLa_ cdLa_ ctLa_ : Value}
    (aC : PySem.W.nsIn K mainGlobals "Frac" = some (some (.ref A.C)))
    (aZ : PySem.W.nsIn K mainGlobals "DivisionByZero" = some (some (.ref A.Z)))
    (aT : PySem.W.nsIn K mainGlobals "BadText" = some (some (.ref A.T)))
    (aB : PySem.W.nsIn K mainGlobals "BadCount" = some (some (.ref A.B)))
    (aW : PySem.W.nsIn K mainGlobals "WebError" = some (some (.ref A.W)))
    (aM : PySem.W.nsIn K mainGlobals "Mismatch" = some (some (.ref Mm)))
    (agcd : PySem.W.nsIn K mainGlobals "gcd" = some (some (.builtin "math.gcd")))
    (amp : PySem.W.nsIn K mainGlobals "MOST_POWER" = some (some (.int 64 tkP)))
    (n_isinstance : PySem.W.nsIn K mainGlobals "isinstance" = some none)
    (n_int : PySem.W.nsIn K mainGlobals "int" = some none)
    (n_all : PySem.W.nsIn K mainGlobals "all" = some none)
    (n_abs : PySem.W.nsIn K mainGlobals "abs" = some none)
    (n_bool : PySem.W.nsIn K mainGlobals "bool" = some none)
    (n_len : PySem.W.nsIn K mainGlobals "len" = some none)
    (n_str : PySem.W.nsIn K mainGlobals "str" = some none)
    (n_range : PySem.W.nsIn K mainGlobals "range" = some none)
    (n_ValueError : PySem.W.nsIn K mainGlobals "ValueError" = some none)
    (pg : PySem.W.plainGet K A.C Str.empty = true)
    (hd : PySem.W.hasDictIn K A.C = true)
    (po : PySem.W.plainOver K A.C = true)
    (sa : PySem.W.findIn K (.ref A.C) "__setattr__" = some (some (.builtin "object.__setattr__")))
    (mk : PySem.W.makesIn K A.C = true)
    (kc : PySem.W.keepIn K (.ref A.C) = true)
    (nN : PySem.W.findIn K (.ref A.C) "num" = some none)
    (nD : PySem.W.findIn K (.ref A.C) "den" = some none)
    (ca : PySem.W.findIn K (.ref A.C) "__class__" = some (some (.builtin "object.__class__")))
    (cg : PySem.W.specialIn K (.builtin "object.__class__") "__get__" = some (some (.builtin "getset_descriptor.__get__")))
    (ct : PySem.W.takesIn K (.builtin "object.__class__") = some true)
    (cm : PySem.W.mroIn K A.C (.type "object") = some true)
    (isC : PySem.W.isClsIn K A.C = true)
    (tC : PySem.W.typeIn K (.ref A.C) = some (.type "type"))
    (su1 : PySem.W.subIn K (.ref A.C) (.type "int") = some false)
    (su2 : PySem.W.subIn K (.type "int") (.ref A.C) = some false)
    (sf : PySem.W.selfFirst K A.C = true)
    (lC : PySem.W.clsIn K A.C = some { name := nmC, bases := bsC, mro := [(.ref A.C), .type "object"], ns := nsC, qualname := qC, hasDict := hdC, slotNames := snC, subclasses := sbC, abstract := abC, collection := coC, hasDel := dlC })
    (ne : PySem.W.findIn K (.ref A.C) "__ne__" = some (some (.builtin "object.__ne__")))
    (rdC : PySem.W.readsIn K A.C (.type "type") = true)
    (gaC : PySem.W.specialIn K (.ref A.C) "__getattribute__" = some (some (.builtin "type.__getattribute__")))
    (iaC : PySem.W.findIn K (.ref A.C) "__iadd__" = some none)
    (iaO : PySem.W.findIn K (.type "object") "__iadd__" = some none)
    (iaI : PySem.W.findIn K (.type "int") "__iadd__" = some none)
    (rpw : PySem.W.findIn K (.ref A.C) "__rpow__" = some none)
    (md : PySem.W.findCls K (.ref A.C) (.type "type") "MOST_DIGITS" = some (.val (.int 60 tkM)))
    (i1add : PySem.W.findIn K (.type "int") "__add__" = some oi_add)
    (i2add : PySem.W.findIn K (.type "int") "__radd__" = some oj_add)
    (i1sub : PySem.W.findIn K (.type "int") "__sub__" = some oi_sub)
    (i2sub : PySem.W.findIn K (.type "int") "__rsub__" = some oj_sub)
    (i1mul : PySem.W.findIn K (.type "int") "__mul__" = some oi_mul)
    (i2mul : PySem.W.findIn K (.type "int") "__rmul__" = some oj_mul)
    (i1flo : PySem.W.findIn K (.type "int") "__floordiv__" = some oi_flo)
    (i2flo : PySem.W.findIn K (.type "int") "__rfloordiv__" = some oj_flo)
    (i1mod : PySem.W.findIn K (.type "int") "__mod__" = some oi_mod)
    (i2mod : PySem.W.findIn K (.type "int") "__rmod__" = some oj_mod)
    (i1pow : PySem.W.findIn K (.type "int") "__pow__" = some oi_pow)
    (i2pow : PySem.W.findIn K (.type "int") "__rpow__" = some oj_pow)
    (xgZ : PySem.W.findIn K (.ref A.Z) "__getattribute__" = some (some (.builtin "BaseException.__getattribute__")))
    (xkZ : PySem.W.findIn K (.ref A.Z) "__getattr__" = some none)
    (xsZ : PySem.W.subIn K (.ref A.Z) (.type "BaseException") = some true)
    (xhZ : PySem.W.hasDictIn K A.Z = true)
    (xaZ : PySem.W.findIn K (.ref A.Z) "__class__" = some (some (.builtin "object.__class__")))
    (xmZ : PySem.W.mroIn K A.Z (.type "object") = some true)
    (xtZ : PySem.W.typeIn K (.ref A.Z) = some (.type "type"))
    (xeZ : PySem.W.keepIn K (.ref A.Z) = true)
    (xvZ : PySem.W.subIn K (.ref A.Z) (.type "ValueError") = some true)
    (xwZ : PySem.W.subIn K (.ref A.Z) (.ref A.Z) = some true)
    (xWZ : PySem.W.subIn K (.ref A.Z) (.ref A.W) = some true)
    (xBZ : PySem.W.subIn K (.ref A.Z) (.ref A.B) = some false)
    (xMZ : PySem.W.subIn K (.ref A.Z) (.ref Mm) = some false)
    (xgT : PySem.W.findIn K (.ref A.T) "__getattribute__" = some (some (.builtin "BaseException.__getattribute__")))
    (xkT : PySem.W.findIn K (.ref A.T) "__getattr__" = some none)
    (xsT : PySem.W.subIn K (.ref A.T) (.type "BaseException") = some true)
    (xhT : PySem.W.hasDictIn K A.T = true)
    (xaT : PySem.W.findIn K (.ref A.T) "__class__" = some (some (.builtin "object.__class__")))
    (xmT : PySem.W.mroIn K A.T (.type "object") = some true)
    (xtT : PySem.W.typeIn K (.ref A.T) = some (.type "type"))
    (xeT : PySem.W.keepIn K (.ref A.T) = true)
    (xvT : PySem.W.subIn K (.ref A.T) (.type "ValueError") = some true)
    (xwT : PySem.W.subIn K (.ref A.T) (.ref A.T) = some true)
    (xWT : PySem.W.subIn K (.ref A.T) (.ref A.W) = some true)
    (xBT : PySem.W.subIn K (.ref A.T) (.ref A.B) = some false)
    (xMT : PySem.W.subIn K (.ref A.T) (.ref Mm) = some false)
    (xZT : PySem.W.subIn K (.ref A.Z) (.ref A.T) = some false)
    (xTZ : PySem.W.subIn K (.ref A.T) (.ref A.Z) = some false)
    (kkZ : PySem.W.isClsIn K A.Z = true)
    (kkT : PySem.W.isClsIn K A.T = true)
    (kkW : PySem.W.isClsIn K A.W = true)
    (ktW : PySem.W.typeIn K (.ref A.W) = some (.type "type"))
    (kkB : PySem.W.isClsIn K A.B = true)
    (ktB : PySem.W.typeIn K (.ref A.B) = some (.type "type"))
    (kkM : PySem.W.isClsIn K Mm = true)
    (ktM : PySem.W.typeIn K (.ref Mm) = some (.type "type"))
    (xZ : PySem.W.excIn K A.Z [.type "ValueError", .type "Exception", .type "BaseException", .type "object"] "ValueError.__new__" = true)
    (xlT : K.lookup A.T = some (excClassObj nmT qT A.T NT bsT bmT true snT sbT abT coT ddT k0T k1T k2T k3T k5T "ValueError.__new__"))
    (reT : PySem.HandSPX.refsVE bmT = true)
    (saT : PySem.W.findIn K (.ref A.T) "__setattr__" = some (some (.builtin "object.__setattr__")))
    (xnT : PySem.W.findIn K (.ref A.T) "text" = some none)
    (iT : PySem.W.findIn K (.ref A.T) "__init__" = some (some (.ref fI)))
    (tI : PySem.W.typeIn K (.ref fI) = some (.type "function"))
    (lI : K.lookup fI = some ⟨ocI, odI, .func (PySem.W.fnOf "__init__" "BadText.__init__" (defArgs sBad) (defBody sBad) (defScope sBad) .none kVI dcI pmI anI cdI ctI), slI⟩)
    (cI : PySem.W.codeIn K cdI "BadText.__init__" = true)
    (kI : PySem.W.keepIn K (.ref fI) = true)
    (a_init : PySem.W.findIn K (.ref A.C) "__init__" = some (some (.ref A.init)))
    (i_init : PySem.W.isFn K (.ref A.init) = true)
    (l_init : K.lookup A.init = some ⟨oc_init, od_init, .func (PySem.W.fnOf "__init__" "Frac.__init__" (defArgs sInit) (defBody sInit) (defScope sInit) (.ref Td) kV_init dc_init pm_init an_init cd_init ct_init), sl_init⟩)
    (c_init : PySem.W.codeIn K cd_init "Frac.__init__" = true)
    (k_init : PySem.W.keepIn K (.ref A.init) = true)
    (lTd : K.lookup Td = some ⟨ocTd, odTd, .seq [.int 0 tk0, .int 1 tk1].toArray nTd, slTd⟩)
    (a_add : PySem.W.findIn K (.ref A.C) "__add__" = some (some (.ref A.add)))
    (i_add : PySem.W.isFn K (.ref A.add) = true)
    (l_add : K.lookup A.add = some ⟨oc_add, od_add, .func (PySem.W.fnOf "__add__" "Frac.__add__" (defArgs sAdd) (defBody sAdd) (defScope sAdd) .none kV_add dc_add pm_add an_add cd_add ct_add), sl_add⟩)
    (c_add : PySem.W.codeIn K cd_add "Frac.__add__" = true)
    (k_add : PySem.W.keepIn K (.ref A.add) = true)
    (a_radd : PySem.W.findIn K (.ref A.C) "__radd__" = some (some (.ref A.radd)))
    (i_radd : PySem.W.isFn K (.ref A.radd) = true)
    (l_radd : K.lookup A.radd = some ⟨oc_radd, od_radd, .func (PySem.W.fnOf "__radd__" "Frac.__radd__" (defArgs sRadd) (defBody sRadd) (defScope sRadd) .none kV_radd dc_radd pm_radd an_radd cd_radd ct_radd), sl_radd⟩)
    (c_radd : PySem.W.codeIn K cd_radd "Frac.__radd__" = true)
    (k_radd : PySem.W.keepIn K (.ref A.radd) = true)
    (a_sub : PySem.W.findIn K (.ref A.C) "__sub__" = some (some (.ref A.sub)))
    (i_sub : PySem.W.isFn K (.ref A.sub) = true)
    (l_sub : K.lookup A.sub = some ⟨oc_sub, od_sub, .func (PySem.W.fnOf "__sub__" "Frac.__sub__" (defArgs sSub) (defBody sSub) (defScope sSub) .none kV_sub dc_sub pm_sub an_sub cd_sub ct_sub), sl_sub⟩)
    (c_sub : PySem.W.codeIn K cd_sub "Frac.__sub__" = true)
    (k_sub : PySem.W.keepIn K (.ref A.sub) = true)
    (a_rsub : PySem.W.findIn K (.ref A.C) "__rsub__" = some (some (.ref A.rsub)))
    (i_rsub : PySem.W.isFn K (.ref A.rsub) = true)
    (l_rsub : K.lookup A.rsub = some ⟨oc_rsub, od_rsub, .func (PySem.W.fnOf "__rsub__" "Frac.__rsub__" (defArgs sRsub) (defBody sRsub) (defScope sRsub) .none kV_rsub dc_rsub pm_rsub an_rsub cd_rsub ct_rsub), sl_rsub⟩)
    (c_rsub : PySem.W.codeIn K cd_rsub "Frac.__rsub__" = true)
    (k_rsub : PySem.W.keepIn K (.ref A.rsub) = true)
    (a_mul : PySem.W.findIn K (.ref A.C) "__mul__" = some (some (.ref A.mul)))
    (i_mul : PySem.W.isFn K (.ref A.mul) = true)
    (l_mul : K.lookup A.mul = some ⟨oc_mul, od_mul, .func (PySem.W.fnOf "__mul__" "Frac.__mul__" (defArgs sMul) (defBody sMul) (defScope sMul) .none kV_mul dc_mul pm_mul an_mul cd_mul ct_mul), sl_mul⟩)
    (c_mul : PySem.W.codeIn K cd_mul "Frac.__mul__" = true)
    (k_mul : PySem.W.keepIn K (.ref A.mul) = true)
    (a_rmul : PySem.W.findIn K (.ref A.C) "__rmul__" = some (some (.ref A.rmul)))
    (i_rmul : PySem.W.isFn K (.ref A.rmul) = true)
    (l_rmul : K.lookup A.rmul = some ⟨oc_rmul, od_rmul, .func (PySem.W.fnOf "__rmul__" "Frac.__rmul__" (defArgs sRmul) (defBody sRmul) (defScope sRmul) .none kV_rmul dc_rmul pm_rmul an_rmul cd_rmul ct_rmul), sl_rmul⟩)
    (c_rmul : PySem.W.codeIn K cd_rmul "Frac.__rmul__" = true)
    (k_rmul : PySem.W.keepIn K (.ref A.rmul) = true)
    (a_flo : PySem.W.findIn K (.ref A.C) "__floordiv__" = some (some (.ref A.flo)))
    (i_flo : PySem.W.isFn K (.ref A.flo) = true)
    (l_flo : K.lookup A.flo = some ⟨oc_flo, od_flo, .func (PySem.W.fnOf "__floordiv__" "Frac.__floordiv__" (defArgs sFlo) (defBody sFlo) (defScope sFlo) .none kV_flo dc_flo pm_flo an_flo cd_flo ct_flo), sl_flo⟩)
    (c_flo : PySem.W.codeIn K cd_flo "Frac.__floordiv__" = true)
    (k_flo : PySem.W.keepIn K (.ref A.flo) = true)
    (a_rflo : PySem.W.findIn K (.ref A.C) "__rfloordiv__" = some (some (.ref A.rflo)))
    (i_rflo : PySem.W.isFn K (.ref A.rflo) = true)
    (l_rflo : K.lookup A.rflo = some ⟨oc_rflo, od_rflo, .func (PySem.W.fnOf "__rfloordiv__" "Frac.__rfloordiv__" (defArgs sRflo) (defBody sRflo) (defScope sRflo) .none kV_rflo dc_rflo pm_rflo an_rflo cd_rflo ct_rflo), sl_rflo⟩)
    (c_rflo : PySem.W.codeIn K cd_rflo "Frac.__rfloordiv__" = true)
    (k_rflo : PySem.W.keepIn K (.ref A.rflo) = true)
    (a_mod : PySem.W.findIn K (.ref A.C) "__mod__" = some (some (.ref A.mod)))
    (i_mod : PySem.W.isFn K (.ref A.mod) = true)
    (l_mod : K.lookup A.mod = some ⟨oc_mod, od_mod, .func (PySem.W.fnOf "__mod__" "Frac.__mod__" (defArgs sMod) (defBody sMod) (defScope sMod) .none kV_mod dc_mod pm_mod an_mod cd_mod ct_mod), sl_mod⟩)
    (c_mod : PySem.W.codeIn K cd_mod "Frac.__mod__" = true)
    (k_mod : PySem.W.keepIn K (.ref A.mod) = true)
    (a_rmod : PySem.W.findIn K (.ref A.C) "__rmod__" = some (some (.ref A.rmod)))
    (i_rmod : PySem.W.isFn K (.ref A.rmod) = true)
    (l_rmod : K.lookup A.rmod = some ⟨oc_rmod, od_rmod, .func (PySem.W.fnOf "__rmod__" "Frac.__rmod__" (defArgs sRmod) (defBody sRmod) (defScope sRmod) .none kV_rmod dc_rmod pm_rmod an_rmod cd_rmod ct_rmod), sl_rmod⟩)
    (c_rmod : PySem.W.codeIn K cd_rmod "Frac.__rmod__" = true)
    (k_rmod : PySem.W.keepIn K (.ref A.rmod) = true)
    (a_pow : PySem.W.findIn K (.ref A.C) "__pow__" = some (some (.ref A.pow)))
    (i_pow : PySem.W.isFn K (.ref A.pow) = true)
    (l_pow : K.lookup A.pow = some ⟨oc_pow, od_pow, .func (PySem.W.fnOf "__pow__" "Frac.__pow__" (defArgs sPow) (defBody sPow) (defScope sPow) .none kV_pow dc_pow pm_pow an_pow cd_pow ct_pow), sl_pow⟩)
    (c_pow : PySem.W.codeIn K cd_pow "Frac.__pow__" = true)
    (k_pow : PySem.W.keepIn K (.ref A.pow) = true)
    (a_neg : PySem.W.findIn K (.ref A.C) "__neg__" = some (some (.ref A.neg)))
    (i_neg : PySem.W.isFn K (.ref A.neg) = true)
    (l_neg : K.lookup A.neg = some ⟨oc_neg, od_neg, .func (PySem.W.fnOf "__neg__" "Frac.__neg__" (defArgs sNeg) (defBody sNeg) (defScope sNeg) .none kV_neg dc_neg pm_neg an_neg cd_neg ct_neg), sl_neg⟩)
    (c_neg : PySem.W.codeIn K cd_neg "Frac.__neg__" = true)
    (k_neg : PySem.W.keepIn K (.ref A.neg) = true)
    (a_abs : PySem.W.findIn K (.ref A.C) "__abs__" = some (some (.ref A.abs)))
    (i_abs : PySem.W.isFn K (.ref A.abs) = true)
    (l_abs : K.lookup A.abs = some ⟨oc_abs, od_abs, .func (PySem.W.fnOf "__abs__" "Frac.__abs__" (defArgs sAbs) (defBody sAbs) (defScope sAbs) .none kV_abs dc_abs pm_abs an_abs cd_abs ct_abs), sl_abs⟩)
    (c_abs : PySem.W.codeIn K cd_abs "Frac.__abs__" = true)
    (k_abs : PySem.W.keepIn K (.ref A.abs) = true)
    (a_bool : PySem.W.findIn K (.ref A.C) "__bool__" = some (some (.ref A.bool)))
    (i_bool : PySem.W.isFn K (.ref A.bool) = true)
    (l_bool : K.lookup A.bool = some ⟨oc_bool, od_bool, .func (PySem.W.fnOf "__bool__" "Frac.__bool__" (defArgs sBool) (defBody sBool) (defScope sBool) .none kV_bool dc_bool pm_bool an_bool cd_bool ct_bool), sl_bool⟩)
    (c_bool : PySem.W.codeIn K cd_bool "Frac.__bool__" = true)
    (k_bool : PySem.W.keepIn K (.ref A.bool) = true)
    (a_eq : PySem.W.findIn K (.ref A.C) "__eq__" = some (some (.ref A.eq)))
    (i_eq : PySem.W.isFn K (.ref A.eq) = true)
    (l_eq : K.lookup A.eq = some ⟨oc_eq, od_eq, .func (PySem.W.fnOf "__eq__" "Frac.__eq__" (defArgs sEq) (defBody sEq) (defScope sEq) .none kV_eq dc_eq pm_eq an_eq cd_eq ct_eq), sl_eq⟩)
    (c_eq : PySem.W.codeIn K cd_eq "Frac.__eq__" = true)
    (k_eq : PySem.W.keepIn K (.ref A.eq) = true)
    (a_lt : PySem.W.findIn K (.ref A.C) "__lt__" = some (some (.ref A.lt)))
    (i_lt : PySem.W.isFn K (.ref A.lt) = true)
    (l_lt : K.lookup A.lt = some ⟨oc_lt, od_lt, .func (PySem.W.fnOf "__lt__" "Frac.__lt__" (defArgs sLt) (defBody sLt) (defScope sLt) .none kV_lt dc_lt pm_lt an_lt cd_lt ct_lt), sl_lt⟩)
    (c_lt : PySem.W.codeIn K cd_lt "Frac.__lt__" = true)
    (k_lt : PySem.W.keepIn K (.ref A.lt) = true)
    (a_le : PySem.W.findIn K (.ref A.C) "__le__" = some (some (.ref A.le)))
    (i_le : PySem.W.isFn K (.ref A.le) = true)
    (l_le : K.lookup A.le = some ⟨oc_le, od_le, .func (PySem.W.fnOf "__le__" "Frac.__le__" (defArgs sLe) (defBody sLe) (defScope sLe) .none kV_le dc_le pm_le an_le cd_le ct_le), sl_le⟩)
    (c_le : PySem.W.codeIn K cd_le "Frac.__le__" = true)
    (k_le : PySem.W.keepIn K (.ref A.le) = true)
    (a_gt : PySem.W.findIn K (.ref A.C) "__gt__" = some (some (.ref A.gt)))
    (i_gt : PySem.W.isFn K (.ref A.gt) = true)
    (l_gt : K.lookup A.gt = some ⟨oc_gt, od_gt, .func (PySem.W.fnOf "__gt__" "Frac.__gt__" (defArgs sGt) (defBody sGt) (defScope sGt) .none kV_gt dc_gt pm_gt an_gt cd_gt ct_gt), sl_gt⟩)
    (c_gt : PySem.W.codeIn K cd_gt "Frac.__gt__" = true)
    (k_gt : PySem.W.keepIn K (.ref A.gt) = true)
    (a_ge : PySem.W.findIn K (.ref A.C) "__ge__" = some (some (.ref A.ge)))
    (i_ge : PySem.W.isFn K (.ref A.ge) = true)
    (l_ge : K.lookup A.ge = some ⟨oc_ge, od_ge, .func (PySem.W.fnOf "__ge__" "Frac.__ge__" (defArgs sGe) (defBody sGe) (defScope sGe) .none kV_ge dc_ge pm_ge an_ge cd_ge ct_ge), sl_ge⟩)
    (c_ge : PySem.W.codeIn K cd_ge "Frac.__ge__" = true)
    (k_ge : PySem.W.keepIn K (.ref A.ge) = true)
    (a_str : PySem.W.findIn K (.ref A.C) "__str__" = some (some (.ref A.str)))
    (i_str : PySem.W.isFn K (.ref A.str) = true)
    (l_str : K.lookup A.str = some ⟨oc_str, od_str, .func (PySem.W.fnOf "__str__" "Frac.__str__" (defArgs sStr) (defBody sStr) (defScope sStr) .none kV_str dc_str pm_str an_str cd_str ct_str), sl_str⟩)
    (c_str : PySem.W.codeIn K cd_str "Frac.__str__" = true)
    (k_str : PySem.W.keepIn K (.ref A.str) = true)
    (a_over : PySem.W.findIn K (.ref A.C) "over" = some (some (.ref A.over)))
    (i_over : PySem.W.isFn K (.ref A.over) = true)
    (l_over : K.lookup A.over = some ⟨oc_over, od_over, .func (PySem.W.fnOf "over" "Frac.over" (defArgs sOver) (defBody sOver) (defScope sOver) .none kV_over dc_over pm_over an_over cd_over ct_over), sl_over⟩)
    (c_over : PySem.W.codeIn K cd_over "Frac.over" = true)
    (k_over : PySem.W.keepIn K (.ref A.over) = true)
    (a_of_ : PySem.W.findCls K (.ref A.C) (.type "type") "of" = some (.get (.builtin "staticmethod.__get__") (.ref A.pOf) .none (.ref A.C)))
    (r_of_ : PySem.W.recIn K A.pOf "staticmethod" = some (.ref A.of_ :: rest_of_))
    (l_of_ : K.lookup A.of_ = some ⟨oc_of_, od_of_, .func (PySem.W.fnOf "of" "Frac.of" (defArgs sOf) (defBody sOf) (defScope sOf) .none kV_of_ dc_of_ pm_of_ an_of_ cd_of_ ct_of_), sl_of_⟩)
    (c_of_ : PySem.W.codeIn K cd_of_ "Frac.of" = true)
    (k_of_ : PySem.W.keepIn K (.ref A.of_) = true)
    (a_read : PySem.W.findCls K (.ref A.C) (.type "type") "read" = some (.get (.builtin "staticmethod.__get__") (.ref A.pRead) .none (.ref A.C)))
    (r_read : PySem.W.recIn K A.pRead "staticmethod" = some (.ref A.read :: rest_read))
    (l_read : K.lookup A.read = some ⟨oc_read, od_read, .func (PySem.W.fnOf "read" "Frac.read" (defArgs sRead) (defBody sRead) (defScope sRead) .none kV_read dc_read pm_read an_read cd_read ct_read), sl_read⟩)
    (c_read : PySem.W.codeIn K cd_read "Frac.read" = true)
    (k_read : PySem.W.keepIn K (.ref A.read) = true)
    (a_isnum : PySem.W.nsIn K mainGlobals "is_number" = some (some (.ref A.isnum)))
    (l_isnum : K.lookup A.isnum = some ⟨oc_isnum, od_isnum, .func (PySem.W.fnOf "is_number" "is_number" (defArgs sIsNum) (defBody sIsNum) (defScope sIsNum) .none kV_isnum dc_isnum pm_isnum an_isnum cd_isnum ct_isnum), sl_isnum⟩)
    (c_isnum : PySem.W.codeIn K cd_isnum "is_number" = true)
    (k_isnum : PySem.W.keepIn K (.ref A.isnum) = true)
    (a_wq : PySem.W.nsIn K mainGlobals "_whole_quotient" = some (some (.ref A.wq)))
    (l_wq : K.lookup A.wq = some ⟨oc_wq, od_wq, .func (PySem.W.fnOf "_whole_quotient" "_whole_quotient" (defArgs sWq) (defBody sWq) (defScope sWq) .none kV_wq dc_wq pm_wq an_wq cd_wq ct_wq), sl_wq⟩)
    (c_wq : PySem.W.codeIn K cd_wq "_whole_quotient" = true)
    (k_wq : PySem.W.keepIn K (.ref A.wq) = true)
    (a_rdb : PySem.W.nsIn K mainGlobals "_readable" = some (some (.ref A.rdb)))
    (l_rdb : K.lookup A.rdb = some ⟨oc_rdb, od_rdb, .func (PySem.W.fnOf "_readable" "_readable" (defArgs sRdb) (defBody sRdb) (defScope sRdb) .none kV_rdb dc_rdb pm_rdb an_rdb cd_rdb ct_rdb), sl_rdb⟩)
    (c_rdb : PySem.W.codeIn K cd_rdb "_readable" = true)
    (k_rdb : PySem.W.keepIn K (.ref A.rdb) = true)
    (aPo_ : PySem.W.nsIn K mainGlobals "_law_pool" = some (some (.ref fPo)))
    (lPo_ : K.lookup fPo = some ⟨ocPo_, odPo_, .func (PySem.W.fnOf "_law_pool" "_law_pool" (defArgs sPool) (defBody sPool) (defScope sPool) .none kVPo_ dcPo_ pmPo_ anPo_ cdPo_ ctPo_), slPo_⟩)
    (cPo_ : PySem.W.codeIn K cdPo_ "_law_pool" = true)
    (kPo_ : PySem.W.keepIn K (.ref fPo) = true)
    (aPk_ : PySem.W.nsIn K mainGlobals "_law_pick" = some (some (.ref fPk)))
    (lPk_ : K.lookup fPk = some ⟨ocPk_, odPk_, .func (PySem.W.fnOf "_law_pick" "_law_pick" (defArgs sPick) (defBody sPick) (defScope sPick) .none kVPk_ dcPk_ pmPk_ anPk_ cdPk_ ctPk_), slPk_⟩)
    (cPk_ : PySem.W.codeIn K cdPk_ "_law_pick" = true)
    (kPk_ : PySem.W.keepIn K (.ref fPk) = true)
    (aSi_ : PySem.W.nsIn K mainGlobals "_law_size" = some (some (.ref fSi)))
    (lSi_ : K.lookup fSi = some ⟨ocSi_, odSi_, .func (PySem.W.fnOf "_law_size" "_law_size" (defArgs sSize) (defBody sSize) (defScope sSize) .none kVSi_ dcSi_ pmSi_ anSi_ cdSi_ ctSi_), slSi_⟩)
    (cSi_ : PySem.W.codeIn K cdSi_ "_law_size" = true)
    (kSi_ : PySem.W.keepIn K (.ref fSi) = true)
    (aTo_ : PySem.W.nsIn K mainGlobals "_law_top" = some (some (.ref fTo)))
    (lTo_ : K.lookup fTo = some ⟨ocTo_, odTo_, .func (PySem.W.fnOf "_law_top" "_law_top" (defArgs sTop) (defBody sTop) (defScope sTop) .none kVTo_ dcTo_ pmTo_ anTo_ cdTo_ ctTo_), slTo_⟩)
    (cTo_ : PySem.W.codeIn K cdTo_ "_law_top" = true)
    (kTo_ : PySem.W.keepIn K (.ref fTo) = true)
    (aLo_ : PySem.W.nsIn K mainGlobals "_law_low" = some (some (.ref fLo)))
    (lLo_ : K.lookup fLo = some ⟨ocLo_, odLo_, .func (PySem.W.fnOf "_law_low" "_law_low" (defArgs sLow) (defBody sLow) (defScope sLow) .none kVLo_ dcLo_ pmLo_ anLo_ cdLo_ ctLo_), slLo_⟩)
    (cLo_ : PySem.W.codeIn K cdLo_ "_law_low" = true)
    (kLo_ : PySem.W.keepIn K (.ref fLo) = true)
    (aSm_ : PySem.W.nsIn K mainGlobals "_law_sum" = some (some (.ref fSm)))
    (lSm_ : K.lookup fSm = some ⟨ocSm_, odSm_, .func (PySem.W.fnOf "_law_sum" "_law_sum" (defArgs sSum) (defBody sSum) (defScope sSum) .none kVSm_ dcSm_ pmSm_ anSm_ cdSm_ ctSm_), slSm_⟩)
    (cSm_ : PySem.W.codeIn K cdSm_ "_law_sum" = true)
    (kSm_ : PySem.W.keepIn K (.ref fSm) = true)
    (aTm_ : PySem.W.nsIn K mainGlobals "_law_times" = some (some (.ref fTm)))
    (lTm_ : K.lookup fTm = some ⟨ocTm_, odTm_, .func (PySem.W.fnOf "_law_times" "_law_times" (defArgs sTimes) (defBody sTimes) (defScope sTimes) .none kVTm_ dcTm_ pmTm_ anTm_ cdTm_ ctTm_), slTm_⟩)
    (cTm_ : PySem.W.codeIn K cdTm_ "_law_times" = true)
    (kTm_ : PySem.W.keepIn K (.ref fTm) = true)
    (aPr_ : PySem.W.nsIn K mainGlobals "_law_power" = some (some (.ref fPr)))
    (lPr_ : K.lookup fPr = some ⟨ocPr_, odPr_, .func (PySem.W.fnOf "_law_power" "_law_power" (defArgs sPower) (defBody sPower) (defScope sPower) .none kVPr_ dcPr_ pmPr_ anPr_ cdPr_ ctPr_), slPr_⟩)
    (cPr_ : PySem.W.codeIn K cdPr_ "_law_power" = true)
    (kPr_ : PySem.W.keepIn K (.ref fPr) = true)
    (aIn_ : PySem.W.nsIn K mainGlobals "_law_int" = some (some (.ref fIn)))
    (lIn_ : K.lookup fIn = some ⟨ocIn_, odIn_, .func (PySem.W.fnOf "_law_int" "_law_int" (defArgs sInt) (defBody sInt) (defScope sInt) .none kVIn_ dcIn_ pmIn_ anIn_ cdIn_ ctIn_), slIn_⟩)
    (cIn_ : PySem.W.codeIn K cdIn_ "_law_int" = true)
    (kIn_ : PySem.W.keepIn K (.ref fIn) = true)
    (aIs_ : PySem.W.nsIn K mainGlobals "_law_is" = some (some (.ref fIs)))
    (lIs_ : K.lookup fIs = some ⟨ocIs_, odIs_, .func (PySem.W.fnOf "_law_is" "_law_is" (defArgs sIs) (defBody sIs) (defScope sIs) .none kVIs_ dcIs_ pmIs_ anIs_ cdIs_ ctIs_), slIs_⟩)
    (cIs_ : PySem.W.codeIn K cdIs_ "_law_is" = true)
    (kIs_ : PySem.W.keepIn K (.ref fIs) = true)
    (aSu_ : PySem.W.nsIn K mainGlobals "_law_sums" = some (some (.ref fSu)))
    (lSu_ : K.lookup fSu = some ⟨ocSu_, odSu_, .func (PySem.W.fnOf "_law_sums" "_law_sums" (defArgs sSums) (defBody sSums) (defScope sSums) .none kVSu_ dcSu_ pmSu_ anSu_ cdSu_ ctSu_), slSu_⟩)
    (cSu_ : PySem.W.codeIn K cdSu_ "_law_sums" = true)
    (kSu_ : PySem.W.keepIn K (.ref fSu) = true)
    (aPw_ : PySem.W.nsIn K mainGlobals "_law_powers" = some (some (.ref fPw)))
    (lPw_ : K.lookup fPw = some ⟨ocPw_, odPw_, .func (PySem.W.fnOf "_law_powers" "_law_powers" (defArgs sPowers) (defBody sPowers) (defScope sPowers) .none kVPw_ dcPw_ pmPw_ anPw_ cdPw_ ctPw_), slPw_⟩)
    (cPw_ : PySem.W.codeIn K cdPw_ "_law_powers" = true)
    (kPw_ : PySem.W.keepIn K (.ref fPw) = true)
    (aFl_ : PySem.W.nsIn K mainGlobals "_law_floors" = some (some (.ref fFl)))
    (lFl_ : K.lookup fFl = some ⟨ocFl_, odFl_, .func (PySem.W.fnOf "_law_floors" "_law_floors" (defArgs sFloors) (defBody sFloors) (defScope sFloors) .none kVFl_ dcFl_ pmFl_ anFl_ cdFl_ ctFl_), slFl_⟩)
    (cFl_ : PySem.W.codeIn K cdFl_ "_law_floors" = true)
    (kFl_ : PySem.W.keepIn K (.ref fFl) = true)
    (aDi_ : PySem.W.nsIn K mainGlobals "_law_divided" = some (some (.ref fDi)))
    (lDi_ : K.lookup fDi = some ⟨ocDi_, odDi_, .func (PySem.W.fnOf "_law_divided" "_law_divided" (defArgs sDivided) (defBody sDivided) (defScope sDivided) .none kVDi_ dcDi_ pmDi_ anDi_ cdDi_ ctDi_), slDi_⟩)
    (cDi_ : PySem.W.codeIn K cdDi_ "_law_divided" = true)
    (kDi_ : PySem.W.keepIn K (.ref fDi) = true)
    (aOr_ : PySem.W.nsIn K mainGlobals "_law_order" = some (some (.ref fOr)))
    (lOr_ : K.lookup fOr = some ⟨ocOr_, odOr_, .func (PySem.W.fnOf "_law_order" "_law_order" (defArgs sOrder) (defBody sOrder) (defScope sOrder) .none kVOr_ dcOr_ pmOr_ anOr_ cdOr_ ctOr_), slOr_⟩)
    (cOr_ : PySem.W.codeIn K cdOr_ "_law_order" = true)
    (kOr_ : PySem.W.keepIn K (.ref fOr) = true)
    (aSo_ : PySem.W.nsIn K mainGlobals "_law_sort" = some (some (.ref fSo)))
    (lSo_ : K.lookup fSo = some ⟨ocSo_, odSo_, .func (PySem.W.fnOf "_law_sort" "_law_sort" (defArgs sSort) (defBody sSort) (defScope sSort) .none kVSo_ dcSo_ pmSo_ anSo_ cdSo_ ctSo_), slSo_⟩)
    (cSo_ : PySem.W.codeIn K cdSo_ "_law_sort" = true)
    (kSo_ : PySem.W.keepIn K (.ref fSo) = true)
    (aTl_ : PySem.W.nsIn K mainGlobals "_law_told" = some (some (.ref fTl)))
    (lTl_ : K.lookup fTl = some ⟨ocTl_, odTl_, .func (PySem.W.fnOf "_law_told" "_law_told" (defArgs sTold) (defBody sTold) (defScope sTold) .none kVTl_ dcTl_ pmTl_ anTl_ cdTl_ ctTl_), slTl_⟩)
    (cTl_ : PySem.W.codeIn K cdTl_ "_law_told" = true)
    (kTl_ : PySem.W.keepIn K (.ref fTl) = true)
    (aZe_ : PySem.W.nsIn K mainGlobals "_law_zeros" = some (some (.ref fZe)))
    (lZe_ : K.lookup fZe = some ⟨ocZe_, odZe_, .func (PySem.W.fnOf "_law_zeros" "_law_zeros" (defArgs sZeros) (defBody sZeros) (defScope sZeros) .none kVZe_ dcZe_ pmZe_ anZe_ cdZe_ ctZe_), slZe_⟩)
    (cZe_ : PySem.W.codeIn K cdZe_ "_law_zeros" = true)
    (kZe_ : PySem.W.keepIn K (.ref fZe) = true)
    (aWr_ : PySem.W.nsIn K mainGlobals "_law_written" = some (some (.ref fWr)))
    (lWr_ : K.lookup fWr = some ⟨ocWr_, odWr_, .func (PySem.W.fnOf "_law_written" "_law_written" (defArgs sWrit) (defBody sWrit) (defScope sWrit) .none kVWr_ dcWr_ pmWr_ anWr_ cdWr_ ctWr_), slWr_⟩)
    (cWr_ : PySem.W.codeIn K cdWr_ "_law_written" = true)
    (kWr_ : PySem.W.keepIn K (.ref fWr) = true)
    (aPt_ : PySem.W.nsIn K mainGlobals "_law_put" = some (some (.ref fPt)))
    (lPt_ : K.lookup fPt = some ⟨ocPt_, odPt_, .func (PySem.W.fnOf "_law_put" "_law_put" (defArgs sPut) (defBody sPut) (defScope sPut) .none kVPt_ dcPt_ pmPt_ anPt_ cdPt_ ctPt_), slPt_⟩)
    (cPt_ : PySem.W.codeIn K cdPt_ "_law_put" = true)
    (kPt_ : PySem.W.keepIn K (.ref fPt) = true)
    (aSp_ : PySem.W.nsIn K mainGlobals "_law_spoilt" = some (some (.ref fSp)))
    (lSp_ : K.lookup fSp = some ⟨ocSp_, odSp_, .func (PySem.W.fnOf "_law_spoilt" "_law_spoilt" (defArgs sSpoilt) (defBody sSpoilt) (defScope sSpoilt) .none kVSp_ dcSp_ pmSp_ anSp_ cdSp_ ctSp_), slSp_⟩)
    (cSp_ : PySem.W.codeIn K cdSp_ "_law_spoilt" = true)
    (kSp_ : PySem.W.keepIn K (.ref fSp) = true)
    (aTe_ : PySem.W.nsIn K mainGlobals "_law_texts" = some (some (.ref fTe)))
    (lTe_ : K.lookup fTe = some ⟨ocTe_, odTe_, .func (PySem.W.fnOf "_law_texts" "_law_texts" (defArgs sTexts) (defBody sTexts) (defScope sTexts) .none kVTe_ dcTe_ pmTe_ anTe_ cdTe_ ctTe_), slTe_⟩)
    (cTe_ : PySem.W.codeIn K cdTe_ "_law_texts" = true)
    (kTe_ : PySem.W.keepIn K (.ref fTe) = true)
    (aLa_ : PySem.W.nsIn K mainGlobals "law" = some (some (.ref fLa)))
    (lLa_ : K.lookup fLa = some ⟨ocLa_, odLa_, .func (PySem.W.fnOf "law" "law" (defArgs sLaw) (defBody sLaw) (defScope sLaw) .none kVLa_ dcLa_ pmLa_ anLa_ cdLa_ ctLa_), slLa_⟩)
    (cLa_ : PySem.W.codeIn K cdLa_ "law" = true)
    (kLa_ : PySem.W.keepIn K (.ref fLa) = true) :
    ∃ fd : FuncData, (∀ (s : Shared) (v : Value), BindsTo s fd ⟨[v], []⟩ [("script", v)]) ∧ ∀ base : Heap, K.In base → base.Ns mainGlobals mg → FnOk l.prog w K mg base (L2.CX l.prog w) 10 fa fd ["script"] (spLaw K) := by
  have e := hfa.symm.trans (PySem.W.mg_of X G aLa_)
  cases e
  have g : ∀ {x : Str} {v : Value}, PySem.W.nsIn K mainGlobals x = some (some v) → mg x = some v := fun q => PySem.W.mg_of X G q
  have gn : ∀ {x : Str}, PySem.W.nsIn K mainGlobals x = some none → mg x = none := fun q => PySem.W.mg_none_of X G q
  have T : FT K mg A := { cl := ⟨pg, hd, po, sa⟩, nN := nN, nD := nD, mgC := g aC, gcd := g agcd, gZ := g aZ, xZ := xZ, kZ := xeZ, bZ := xsZ, tZ := xtZ, isi := gn n_isinstance, int0 := gn n_int, ca := ca, cg := cg, ct := ct, cm := cm, isC := isC, tC := tC, sub1 := su1, sub2 := su2, sf := sf, gIs := g a_isnum, gWq := g a_wq }
  have cv : ∃ u, ClX.CVal K A.C (.type "type") "MOST_DIGITS" (.int 60) u := ⟨_, md, ⟨_, rfl⟩⟩
  have S : StF K A := ⟨⟨rdC, gaC⟩, ⟨a_of_, ⟨_, r_of_⟩, k_of_⟩⟩
  have smR : SMet K A.C (.type "type") "read" A.pRead A.read := ⟨a_read, ⟨_, r_read⟩, k_read⟩
  have Badd : BinF K A.C A.add .Add := ⟨sf, by rw [d_add]; exact a_add, i_add, ⟨some (.ref A.radd), by rw [dr_add]; exact a_radd, .inr ⟨_, rfl⟩⟩, ⟨_, by rw [d_add]; exact i1add⟩, ⟨_, by rw [dr_add]; exact i2add⟩, su2⟩
  have Bsub : BinF K A.C A.sub .Sub := ⟨sf, by rw [d_sub]; exact a_sub, i_sub, ⟨some (.ref A.rsub), by rw [dr_sub]; exact a_rsub, .inr ⟨_, rfl⟩⟩, ⟨_, by rw [d_sub]; exact i1sub⟩, ⟨_, by rw [dr_sub]; exact i2sub⟩, su2⟩
  have Bmul : BinF K A.C A.mul .Mult := ⟨sf, by rw [d_mul]; exact a_mul, i_mul, ⟨some (.ref A.rmul), by rw [dr_mul]; exact a_rmul, .inr ⟨_, rfl⟩⟩, ⟨_, by rw [d_mul]; exact i1mul⟩, ⟨_, by rw [dr_mul]; exact i2mul⟩, su2⟩
  have Bflo : BinF K A.C A.flo .FloorDiv := ⟨sf, by rw [d_flo]; exact a_flo, i_flo, ⟨some (.ref A.rflo), by rw [dr_flo]; exact a_rflo, .inr ⟨_, rfl⟩⟩, ⟨_, by rw [d_flo]; exact i1flo⟩, ⟨_, by rw [dr_flo]; exact i2flo⟩, su2⟩
  have Bmod : BinF K A.C A.mod .Mod := ⟨sf, by rw [d_mod]; exact a_mod, i_mod, ⟨some (.ref A.rmod), by rw [dr_mod]; exact a_rmod, .inr ⟨_, rfl⟩⟩, ⟨_, by rw [d_mod]; exact i1mod⟩, ⟨_, by rw [dr_mod]; exact i2mod⟩, su2⟩
  have Bpow : BinF K A.C A.pow .Pow := ⟨sf, by rw [d_pow]; exact a_pow, i_pow, ⟨none, by rw [dr_pow]; exact rpw, .inl rfl⟩, ⟨_, by rw [d_pow]; exact i1pow⟩, ⟨_, by rw [dr_pow]; exact i2pow⟩, su2⟩
  have Radd : RefF K A.C A.radd .Add := ⟨sf, ⟨_, by rw [d_add]; exact a_add⟩, by rw [dr_add]; exact a_radd, i_radd, su1⟩
  have Rsub : RefF K A.C A.rsub .Sub := ⟨sf, ⟨_, by rw [d_sub]; exact a_sub⟩, by rw [dr_sub]; exact a_rsub, i_rsub, su1⟩
  have Rmul : RefF K A.C A.rmul .Mult := ⟨sf, ⟨_, by rw [d_mul]; exact a_mul⟩, by rw [dr_mul]; exact a_rmul, i_rmul, su1⟩
  have Rflo : RefF K A.C A.rflo .FloorDiv := ⟨sf, ⟨_, by rw [d_flo]; exact a_flo⟩, by rw [dr_flo]; exact a_rflo, i_rflo, su1⟩
  have Rmod : RefF K A.C A.rmod .Mod := ⟨sf, ⟨_, by rw [d_mod]; exact a_mod⟩, by rw [dr_mod]; exact a_rmod, i_rmod, su1⟩
  have Keq : CmpF K A.C A.eq "__eq__" := ⟨a_eq, i_eq, su2, su1⟩
  have Klt : CmpF K A.C A.lt "__lt__" := ⟨a_lt, i_lt, su2, su1⟩
  have Kle : CmpF K A.C A.le "__le__" := ⟨a_le, i_le, su2, su1⟩
  have Kgt : CmpF K A.C A.gt "__gt__" := ⟨a_gt, i_gt, su2, su1⟩
  have Kge : CmpF K A.C A.ge "__ge__" := ⟨a_ge, i_ge, su2, su1⟩
  have Uneg : UnF K A.C A.neg "__neg__" := ⟨a_neg, i_neg⟩
  have Uabs : UnF K A.C A.abs "__abs__" := ⟨a_abs, i_abs⟩
  have Ubool : UnF K A.C A.bool "__bool__" := ⟨a_bool, i_bool⟩
  have Ustr : UnF K A.C A.str "__str__" := ⟨a_str, i_str⟩
  have eZ : ExcC K A.Z := ⟨xgZ, xkZ, xsZ, xhZ, xaZ, cg, ct, xmZ⟩
  have eT : ExcC K A.T := ⟨xgT, xkT, xsT, xhT, xaT, cg, ct, xmT⟩
  have X_ : XA K mg A Mm := { gT := g aT, gB := g aB, gM := g aM, gW := g aW, ve := gn n_ValueError, eZ := eZ, eT := eT, zW := kit_to kkW ktW xWZ xwZ, zV := kit_tv xvZ, zZ := kit_to kkZ xtZ xwZ xwZ, zT := kit_to kkT xtT xZT xwZ, zB := kit_to kkB ktB xBZ xwZ, zM := kit_to kkM ktM xMZ xwZ, tW := kit_to kkW ktW xWT xwT, tV := kit_tv xvT, tZ := kit_to kkZ xtZ xTZ xwT, tT := kit_to kkT xtT xwT xwT, tB := kit_to kkB ktB xBT xwT, tM := kit_to kkM ktM xMT xwT, xZ := PySem.W.exm_ref xsZ xhZ xtZ xwZ, xTZ := PySem.W.exm_ref xsZ xhZ xtZ xTZ, xT := PySem.W.exm_ref xsT xhT xtT xwT, xf := ⟨xgT, xkT, xsT, xhT⟩, xn := xnT }
  have ox : OexC K A.T := ⟨⟨_, _, _, _, _, _, _, _, _, _, _, _, _, _, _, xlT, reT⟩, saT, xsT, xtT, xeT⟩
  have Fn_add := fun_mk (st := sAdd) l_add c_add k_add
  have Bn_add := Fn_add.binds (ps := ["self", "other"]) fun _ _ _ _ _ _ us hl => match us, hl with | [_, _], _ => rfl
  have Fn_radd := fun_mk (st := sRadd) l_radd c_radd k_radd
  have Bn_radd := Fn_radd.binds (ps := ["self", "other"]) fun _ _ _ _ _ _ us hl => match us, hl with | [_, _], _ => rfl
  have Fn_sub := fun_mk (st := sSub) l_sub c_sub k_sub
  have Bn_sub := Fn_sub.binds (ps := ["self", "other"]) fun _ _ _ _ _ _ us hl => match us, hl with | [_, _], _ => rfl
  have Fn_rsub := fun_mk (st := sRsub) l_rsub c_rsub k_rsub
  have Bn_rsub := Fn_rsub.binds (ps := ["self", "other"]) fun _ _ _ _ _ _ us hl => match us, hl with | [_, _], _ => rfl
  have Fn_mul := fun_mk (st := sMul) l_mul c_mul k_mul
  have Bn_mul := Fn_mul.binds (ps := ["self", "other"]) fun _ _ _ _ _ _ us hl => match us, hl with | [_, _], _ => rfl
  have Fn_rmul := fun_mk (st := sRmul) l_rmul c_rmul k_rmul
  have Bn_rmul := Fn_rmul.binds (ps := ["self", "other"]) fun _ _ _ _ _ _ us hl => match us, hl with | [_, _], _ => rfl
  have Fn_flo := fun_mk (st := sFlo) l_flo c_flo k_flo
  have Bn_flo := Fn_flo.binds (ps := ["self", "other"]) fun _ _ _ _ _ _ us hl => match us, hl with | [_, _], _ => rfl
  have Fn_rflo := fun_mk (st := sRflo) l_rflo c_rflo k_rflo
  have Bn_rflo := Fn_rflo.binds (ps := ["self", "other"]) fun _ _ _ _ _ _ us hl => match us, hl with | [_, _], _ => rfl
  have Fn_mod := fun_mk (st := sMod) l_mod c_mod k_mod
  have Bn_mod := Fn_mod.binds (ps := ["self", "other"]) fun _ _ _ _ _ _ us hl => match us, hl with | [_, _], _ => rfl
  have Fn_rmod := fun_mk (st := sRmod) l_rmod c_rmod k_rmod
  have Bn_rmod := Fn_rmod.binds (ps := ["self", "other"]) fun _ _ _ _ _ _ us hl => match us, hl with | [_, _], _ => rfl
  have Fn_pow := fun_mk (st := sPow) l_pow c_pow k_pow
  have Bn_pow := Fn_pow.binds (ps := ["self", "other"]) fun _ _ _ _ _ _ us hl => match us, hl with | [_, _], _ => rfl
  have Fn_neg := fun_mk (st := sNeg) l_neg c_neg k_neg
  have Bn_neg := Fn_neg.binds (ps := ["self"]) fun _ _ _ _ _ _ us hl => match us, hl with | [_], _ => rfl
  have Fn_abs := fun_mk (st := sAbs) l_abs c_abs k_abs
  have Bn_abs := Fn_abs.binds (ps := ["self"]) fun _ _ _ _ _ _ us hl => match us, hl with | [_], _ => rfl
  have Fn_bool := fun_mk (st := sBool) l_bool c_bool k_bool
  have Bn_bool := Fn_bool.binds (ps := ["self"]) fun _ _ _ _ _ _ us hl => match us, hl with | [_], _ => rfl
  have Fn_eq := fun_mk (st := sEq) l_eq c_eq k_eq
  have Bn_eq := Fn_eq.binds (ps := ["self", "other"]) fun _ _ _ _ _ _ us hl => match us, hl with | [_, _], _ => rfl
  have Fn_lt := fun_mk (st := sLt) l_lt c_lt k_lt
  have Bn_lt := Fn_lt.binds (ps := ["self", "other"]) fun _ _ _ _ _ _ us hl => match us, hl with | [_, _], _ => rfl
  have Fn_le := fun_mk (st := sLe) l_le c_le k_le
  have Bn_le := Fn_le.binds (ps := ["self", "other"]) fun _ _ _ _ _ _ us hl => match us, hl with | [_, _], _ => rfl
  have Fn_gt := fun_mk (st := sGt) l_gt c_gt k_gt
  have Bn_gt := Fn_gt.binds (ps := ["self", "other"]) fun _ _ _ _ _ _ us hl => match us, hl with | [_, _], _ => rfl
  have Fn_ge := fun_mk (st := sGe) l_ge c_ge k_ge
  have Bn_ge := Fn_ge.binds (ps := ["self", "other"]) fun _ _ _ _ _ _ us hl => match us, hl with | [_, _], _ => rfl
  have Fn_str := fun_mk (st := sStr) l_str c_str k_str
  have Bn_str := Fn_str.binds (ps := ["self"]) fun _ _ _ _ _ _ us hl => match us, hl with | [_], _ => rfl
  have Fn_over := fun_mk (st := sOver) l_over c_over k_over
  have Bn_over := Fn_over.binds (ps := ["self", "b"]) fun _ _ _ _ _ _ us hl => match us, hl with | [_, _], _ => rfl
  have Fn_of_ := fun_mk (st := sOf) l_of_ c_of_ k_of_
  have Bn_of_ := Fn_of_.binds (ps := ["value"]) fun _ _ _ _ _ _ us hl => match us, hl with | [_], _ => rfl
  have Fn_isnum := fun_mk (st := sIsNum) l_isnum c_isnum k_isnum
  have Bn_isnum := Fn_isnum.binds (ps := ["value"]) fun _ _ _ _ _ _ us hl => match us, hl with | [_], _ => rfl
  have Fn_wq := fun_mk (st := sWq) l_wq c_wq k_wq
  have Bn_wq := Fn_wq.binds (ps := ["first", "second"]) fun _ _ _ _ _ _ us hl => match us, hl with | [_, _], _ => rfl
  have Fn_rdb := fun_mk (st := sRdb) l_rdb c_rdb k_rdb
  have Bn_rdb := Fn_rdb.binds (ps := ["digits"]) fun _ _ _ _ _ _ us hl => match us, hl with | [_], _ => rfl
  have FnI0 := fun_mk (st := sBad) lI cI kI
  have BnI := FnI0.binds (ps := ["self", "text"]) fun _ _ _ _ _ _ us hl => match us, hl with | [_, _], _ => rfl
  have FnPo_ := fun_mk (st := sPool) lPo_ cPo_ kPo_
  have BnPo_ := FnPo_.binds (ps := ["script"]) fun _ _ _ _ _ _ us hl => match us, hl with | [_], _ => rfl
  have FnPk_ := fun_mk (st := sPick) lPk_ cPk_ kPk_
  have BnPk_ := FnPk_.binds (ps := ["pool", "many"]) fun _ _ _ _ _ _ us hl => match us, hl with | [_, _], _ => rfl
  have FnSi_ := fun_mk (st := sSize) lSi_ cSi_ kSi_
  have BnSi_ := FnSi_.binds (ps := ["pool"]) fun _ _ _ _ _ _ us hl => match us, hl with | [_], _ => rfl
  have FnTo_ := fun_mk (st := sTop) lTo_ cTo_ kTo_
  have BnTo_ := FnTo_.binds (ps := ["pool"]) fun _ _ _ _ _ _ us hl => match us, hl with | [_], _ => rfl
  have FnLo_ := fun_mk (st := sLow) lLo_ cLo_ kLo_
  have BnLo_ := FnLo_.binds (ps := ["top", "bottom"]) fun _ _ _ _ _ _ us hl => match us, hl with | [_, _], _ => rfl
  have FnSm_ := fun_mk (st := sSum) lSm_ cSm_ kSm_
  have BnSm_ := FnSm_.binds (ps := ["p", "q", "sign"]) fun _ _ _ _ _ _ us hl => match us, hl with | [_, _, _], _ => rfl
  have FnTm_ := fun_mk (st := sTimes) lTm_ cTm_ kTm_
  have BnTm_ := FnTm_.binds (ps := ["p", "q"]) fun _ _ _ _ _ _ us hl => match us, hl with | [_, _], _ => rfl
  have FnPr_ := fun_mk (st := sPower) lPr_ cPr_ kPr_
  have BnPr_ := FnPr_.binds (ps := ["p", "k"]) fun _ _ _ _ _ _ us hl => match us, hl with | [_, _], _ => rfl
  have FnIn_ := fun_mk (st := sInt) lIn_ cIn_ kIn_
  have BnIn_ := FnIn_.binds (ps := ["x"]) fun _ _ _ _ _ _ us hl => match us, hl with | [_], _ => rfl
  have FnIs_ := fun_mk (st := sIs) lIs_ cIs_ kIs_
  have BnIs_ := FnIs_.binds (ps := ["x", "due"]) fun _ _ _ _ _ _ us hl => match us, hl with | [_, _], _ => rfl
  have FnSu_ := fun_mk (st := sSums) lSu_ cSu_ kSu_
  have BnSu_ := FnSu_.binds (ps := ["x", "y", "n", "p", "q"]) fun _ _ _ _ _ _ us hl => match us, hl with | [_, _, _, _, _], _ => rfl
  have FnPw_ := fun_mk (st := sPowers) lPw_ cPw_ kPw_
  have BnPw_ := FnPw_.binds (ps := ["x", "p"]) fun _ _ _ _ _ _ us hl => match us, hl with | [_, _], _ => rfl
  have FnFl_ := fun_mk (st := sFloors) lFl_ cFl_ kFl_
  have BnFl_ := FnFl_.binds (ps := ["one", "two", "p", "q"]) fun _ _ _ _ _ _ us hl => match us, hl with | [_, _, _, _], _ => rfl
  have FnDi_ := fun_mk (st := sDivided) lDi_ cDi_ kDi_
  have BnDi_ := FnDi_.binds (ps := ["x", "y", "n", "p", "q"]) fun _ _ _ _ _ _ us hl => match us, hl with | [_, _, _, _, _], _ => rfl
  have FnOr_ := fun_mk (st := sOrder) lOr_ cOr_ kOr_
  have BnOr_ := FnOr_.binds (ps := ["one", "two", "p", "q"]) fun _ _ _ _ _ _ us hl => match us, hl with | [_, _, _, _], _ => rfl
  have FnSo_ := fun_mk (st := sSort) lSo_ cSo_ kSo_
  have BnSo_ := FnSo_.binds (ps := ["e"]) fun _ _ _ _ _ _ us hl => match us, hl with | [_], _ => rfl
  have FnTl_ := fun_mk (st := sTold) lTl_ cTl_ kTl_
  have BnTl_ := FnTl_.binds (ps := ["what", "one", "two"]) fun _ _ _ _ _ _ us hl => match us, hl with | [_, _, _], _ => rfl
  have FnZe_ := fun_mk (st := sZeros) lZe_ cZe_ kZe_
  have BnZe_ := FnZe_.binds (ps := ["x", "n"]) fun _ _ _ _ _ _ us hl => match us, hl with | [_, _], _ => rfl
  have FnWr_ := fun_mk (st := sWrit) lWr_ cWr_ kWr_
  have BnWr_ := FnWr_.binds (ps := ["p"]) fun _ _ _ _ _ _ us hl => match us, hl with | [_], _ => rfl
  have FnPt_ := fun_mk (st := sPut) lPt_ cPt_ kPt_
  have BnPt_ := FnPt_.binds (ps := ["text", "place", "sign"]) fun _ _ _ _ _ _ us hl => match us, hl with | [_, _, _], _ => rfl
  have FnSp_ := fun_mk (st := sSpoilt) lSp_ cSp_ kSp_
  have BnSp_ := FnSp_.binds (ps := ["p", "mode", "place"]) fun _ _ _ _ _ _ us hl => match us, hl with | [_, _, _], _ => rfl
  have FnTe_ := fun_mk (st := sTexts) lTe_ cTe_ kTe_
  have BnTe_ := FnTe_.binds (ps := ["x", "p", "mode", "place"]) fun _ _ _ _ _ _ us hl => match us, hl with | [_, _, _, _], _ => rfl
  have FnLa_ := fun_mk (st := sLaw) lLa_ cLa_ kLa_
  have FnR : FunD K "read" "Frac.read" (defArgs sRead) (defBody sRead) (defScope sRead) [] [] A.read _ := ⟨⟨_, _, _, _, _, _, _, _, _, _, rfl, l_read, c_read, .inl ⟨rfl, rfl⟩, .inl rfl⟩, k_read⟩
  have BnR := FnR.bindsN (ps := ["text"]) fun _ _ _ _ _ _ us hl => match us, hl with | [_], _ => rfl
  have FnI : FunD K "__init__" "Frac.__init__" (defArgs sInit) (defBody sInit) (defScope sInit) [.int 0, .int 1] [] A.init _ := ⟨⟨_, _, _, _, _, _, _, _, _, _, rfl, l_init, c_init, .inr ⟨fun z => (nomatch z), Td, _, _, _, rfl, lTd, rfl, .cons ⟨_, rfl⟩ (.cons ⟨_, rfl⟩ .nil)⟩, .inl rfl⟩, k_init⟩
  refine ⟨PySem.W.fnOf "law" "law" (defArgs sLaw) (defBody sLaw) (defScope sLaw) .none kVLa_ dcLa_ pmLa_ anLa_ cdLa_ ctLa_, fun s v => .of_eq rfl, fun base _ _ => ?_⟩
  have M : MkF l.prog w K mg base A := mkF FnI ⟨mk, a_init, i_init, kc⟩ T
  have c_isnumC : Cal l.prog w K mg base 1 A.isnum ["value"] (spIsNum A) := ⟨⟨_, ok_isnum Fn_isnum T, Bn_isnum⟩, k_isnum⟩
  have c_wqC : Cal l.prog w K mg base 1 A.wq ["first", "second"] (spWq A) := ⟨⟨_, ok_wq Fn_wq T, Bn_wq⟩, k_wq⟩
  have c_of_C : Cal l.prog w K mg base 3 A.of_ ["value"] (spOf A) := ⟨⟨_, ok_of Fn_of_ T M, Bn_of_⟩, k_of_⟩
  have c_addC : Cal l.prog w K mg base 3 A.add ["self", "other"] (spB A fadd) := ⟨⟨_, ok_add Fn_add T M c_isnumC, Bn_add⟩, k_add⟩
  have c_subC : Cal l.prog w K mg base 3 A.sub ["self", "other"] (spB A fsub) := ⟨⟨_, ok_sub Fn_sub T M c_isnumC, Bn_sub⟩, k_sub⟩
  have c_mulC : Cal l.prog w K mg base 3 A.mul ["self", "other"] (spB A fmul) := ⟨⟨_, ok_mul Fn_mul T M c_isnumC, Bn_mul⟩, k_mul⟩
  have c_negC : Cal l.prog w K mg base 3 A.neg ["self"] (spU A fneg) := ⟨⟨_, ok_neg Fn_neg T M, Bn_neg⟩, k_neg⟩
  have c_absC : Cal l.prog w K mg base 3 A.abs ["self"] (spU A fabs) := ⟨⟨_, ok_abs Fn_abs T M (gn n_abs), Bn_abs⟩, k_abs⟩
  have c_raddC : Cal l.prog w K mg base 4 A.radd ["self", "other"] (spB A fun p q => fadd q p) := ⟨⟨_, ok_radd Fn_radd T c_isnumC Badd c_addC, Bn_radd⟩, k_radd⟩
  have c_rmulC : Cal l.prog w K mg base 4 A.rmul ["self", "other"] (spB A fun p q => fmul q p) := ⟨⟨_, ok_rmul Fn_rmul T c_isnumC Bmul c_mulC, Bn_rmul⟩, k_rmul⟩
  have c_rsubC : Cal l.prog w K mg base 4 A.rsub ["self", "other"] (spB A fun p q => fsub q p) := ⟨⟨_, ok_rsub Fn_rsub T c_isnumC Badd c_addC Uneg c_negC, Bn_rsub⟩, k_rsub⟩
  have c_floC : Cal l.prog w K mg base 4 A.flo ["self", "other"] (spFlo A) := ⟨⟨_, ok_flo Fn_flo T S c_of_C c_isnumC c_wqC, Bn_flo⟩, k_flo⟩
  have c_rfloC : Cal l.prog w K mg base 4 A.rflo ["self", "other"] (spRflo A) := ⟨⟨_, ok_rflo Fn_rflo T S c_of_C c_isnumC c_wqC, Bn_rflo⟩, k_rflo⟩
  have c_modC : Cal l.prog w K mg base 4 A.mod ["self", "other"] (spMod A) := ⟨⟨_, ok_mod Fn_mod T S c_of_C c_isnumC c_wqC Bsub c_subC Bmul c_mulC, Bn_mod⟩, k_mod⟩
  have c_rmodC : Cal l.prog w K mg base 5 A.rmod ["self", "other"] (spRmod A) := ⟨⟨_, ok_rmod Fn_rmod T S c_of_C c_isnumC c_wqC Rsub c_rsubC Bmul c_mulC, Bn_rmod⟩, k_rmod⟩
  have c_powC : Cal l.prog w K mg base 3 A.pow ["self", "other"] (spPow A) := ⟨⟨_, ok_pow Fn_pow T M (gn n_range) ⟨_, g amp⟩, Bn_pow⟩, k_pow⟩
  have c_boolC : Cal l.prog w K mg base 1 A.bool ["self"] (spBool A) := ⟨⟨_, ok_bool Fn_bool T (gn n_bool), Bn_bool⟩, k_bool⟩
  have c_strC : Cal l.prog w K mg base 1 A.str ["self"] (spStr A) := ⟨⟨_, ok_str Fn_str T (gn n_str), Bn_str⟩, k_str⟩
  have c_eqC : Cal l.prog w K mg base 1 A.eq ["self", "other"] (spC A ceq) := ⟨⟨_, ok_eq Fn_eq T, Bn_eq⟩, k_eq⟩
  have c_ltC : Cal l.prog w K mg base 4 A.lt ["self", "other"] (spC A clt) := ⟨⟨_, ok_lt Fn_lt T S c_of_C c_isnumC, Bn_lt⟩, k_lt⟩
  have c_leC : Cal l.prog w K mg base 4 A.le ["self", "other"] (spC A cle) := ⟨⟨_, ok_le Fn_le T S c_of_C c_isnumC, Bn_le⟩, k_le⟩
  have c_gtC : Cal l.prog w K mg base 4 A.gt ["self", "other"] (spC A cgt) := ⟨⟨_, ok_gt Fn_gt T S c_of_C c_isnumC, Bn_gt⟩, k_gt⟩
  have c_geC : Cal l.prog w K mg base 4 A.ge ["self", "other"] (spC A cge) := ⟨⟨_, ok_ge Fn_ge T S c_of_C c_isnumC, Bn_ge⟩, k_ge⟩
  have c_overC : Cal l.prog w K mg base 4 A.over ["self", "b"] (spOver A) := ⟨⟨_, ok_over Fn_over T S c_of_C M, Bn_over⟩, k_over⟩
  have c_rdbC : Cal l.prog w K mg base 1 A.rdb ["digits"] spRdb := ⟨⟨_, ok_rdb Fn_rdb T S (gn n_len) (gn n_all) cv, Bn_rdb⟩, k_rdb⟩
  have cIC : Cal l.prog w K mg base 1 fI ["self", "text"] (spBad A.T) := ⟨⟨_, ok_bad FnI0 ox xnT, BnI⟩, kI⟩
  have F_ : FA l.prog w K mg base A := { T := T, M := M, S := S, O := c_of_C, bAdd := Badd, cAdd := c_addC, rAdd := Radd, cRadd := c_raddC, bSub := Bsub, cSub := c_subC, rSub := Rsub, cRsub := c_rsubC, bMul := Bmul, cMul := c_mulC, rMul := Rmul, cRmul := c_rmulC, bFlo := Bflo, cFlo := c_floC, rFlo := Rflo, cRflo := c_rfloC, bMod := Bmod, cMod := c_modC, rMod := Rmod, cRmod := c_rmodC, bPow := Bpow, cPow := c_powC, uNeg := Uneg, cNeg := c_negC, uAbs := Uabs, cAbs := c_absC, uBool := Ubool, cBool := c_boolC, uStr := Ustr, cStr := c_strC, kEq := Keq, cEq := c_eqC, kLt := Klt, cLt := c_ltC, kLe := Kle, cLe := c_leC, kGt := Kgt, cGt := c_gtC, kGe := Kge, cGe := c_geC, kNe := ⟨a_eq, i_eq, ne, cm, su2, su1⟩, mOver := ⟨a_over, i_over, k_over⟩, cOver := c_overC, noIn := ⟨⟨_, lC, rfl⟩, iaC, iaO, iaI⟩, ab := gn n_abs, all := gn n_all }
  have R : RdF l.prog w K mg base A := { ox := ox, init := ⟨fI, iT, tI, cIC⟩, gT := g aT, gR := g a_rdb, cR := c_rdbC, st := gn n_str }
  have cR : Cal l.prog w K mg base 6 A.read ["text"] (spRead A) := ⟨⟨_, ok_read FnR F_ R, BnR⟩, k_read⟩
  have CPo : Cal l.prog w K mg base 1 fPo ["script"] (spPool K) := ⟨⟨_, ok_pool FnPo_ (gn n_abs) (gn n_int), BnPo_⟩, kPo_⟩
  have LPo : LF l.prog w K mg base "_law_pool" 1 ["script"] (spPool K) := ⟨fPo, g aPo_, CPo⟩
  have CPk : Cal l.prog w K mg base 1 fPk ["pool", "many"] spPick := ⟨⟨_, ok_pick FnPk_ (gn n_len) (gn n_int), BnPk_⟩, kPk_⟩
  have LPk : LF l.prog w K mg base "_law_pick" 1 ["pool", "many"] spPick := ⟨fPk, g aPk_, CPk⟩
  have CSi : Cal l.prog w K mg base 2 fSi ["pool"] spSize := ⟨⟨_, ok_size FnSi_ (g aPk_) CPk (gn n_int), BnSi_⟩, kSi_⟩
  have LSi : LF l.prog w K mg base "_law_size" 2 ["pool"] spSize := ⟨fSi, g aSi_, CSi⟩
  have CTo : Cal l.prog w K mg base 3 fTo ["pool"] spTop := ⟨⟨_, ok_top FnTo_ (g aPk_) CPk (g aSi_) CSi, BnTo_⟩, kTo_⟩
  have LTo : LF l.prog w K mg base "_law_top" 3 ["pool"] spTop := ⟨fTo, g aTo_, CTo⟩
  have CLo : Cal l.prog w K mg base 1 fLo ["top", "bottom"] spLow := ⟨⟨_, ok_low FnLo_ (gn n_abs) (gn n_int), BnLo_⟩, kLo_⟩
  have LLo : LF l.prog w K mg base "_law_low" 1 ["top", "bottom"] spLow := ⟨fLo, g aLo_, CLo⟩
  have CSm : Cal l.prog w K mg base 2 fSm ["p", "q", "sign"] spSum := ⟨⟨_, ok_sum FnSm_ (g aLo_) CLo, BnSm_⟩, kSm_⟩
  have LSm : LF l.prog w K mg base "_law_sum" 2 ["p", "q", "sign"] spSum := ⟨fSm, g aSm_, CSm⟩
  have CTm : Cal l.prog w K mg base 2 fTm ["p", "q"] spTimes := ⟨⟨_, ok_times FnTm_ (g aLo_) CLo, BnTm_⟩, kTm_⟩
  have LTm : LF l.prog w K mg base "_law_times" 2 ["p", "q"] spTimes := ⟨fTm, g aTm_, CTm⟩
  have CPr : Cal l.prog w K mg base 1 fPr ["p", "k"] spPower := ⟨⟨_, ok_power FnPr_ (gn n_range), BnPr_⟩, kPr_⟩
  have LPr : LF l.prog w K mg base "_law_power" 1 ["p", "k"] spPower := ⟨fPr, g aPr_, CPr⟩
  have CIn : Cal l.prog w K mg base 1 fIn ["x"] spInt := ⟨⟨_, ok_int FnIn_ (gn n_isinstance) (gn n_int) (gn n_bool), BnIn_⟩, kIn_⟩
  have LIn : LF l.prog w K mg base "_law_int" 1 ["x"] spInt := ⟨fIn, g aIn_, CIn⟩
  have CIs : Cal l.prog w K mg base 2 fIs ["x", "due"] (spIs A) := ⟨⟨_, ok_is FnIs_ T (g aIn_) CIn, BnIs_⟩, kIs_⟩
  have LIs : LF l.prog w K mg base "_law_is" 2 ["x", "due"] (spIs A) := ⟨fIs, g aIs_, CIs⟩
  have CSu : Cal l.prog w K mg base 7 fSu ["x", "y", "n", "p", "q"] (spSums A) := ⟨⟨_, ok_sums FnSu_ F_ LSm LTm LIs, BnSu_⟩, kSu_⟩
  have LSu : LF l.prog w K mg base "_law_sums" 7 ["x", "y", "n", "p", "q"] (spSums A) := ⟨fSu, g aSu_, CSu⟩
  have CPw : Cal l.prog w K mg base 7 fPw ["x", "p"] (spPowers A) := ⟨⟨_, ok_powers FnPw_ F_ LPr LIs, BnPw_⟩, kPw_⟩
  have LPw : LF l.prog w K mg base "_law_powers" 7 ["x", "p"] (spPowers A) := ⟨fPw, g aPw_, CPw⟩
  have CFl : Cal l.prog w K mg base 7 fFl ["one", "two", "p", "q"] (spFloors A) := ⟨⟨_, ok_floors FnFl_ F_ LLo LSm LIn LIs, BnFl_⟩, kFl_⟩
  have LFl : LF l.prog w K mg base "_law_floors" 7 ["one", "two", "p", "q"] (spFloors A) := ⟨fFl, g aFl_, CFl⟩
  have CDi : Cal l.prog w K mg base 8 fDi ["x", "y", "n", "p", "q"] (spDiv A) := ⟨⟨_, ok_div FnDi_ F_ LFl LLo LIs, BnDi_⟩, kDi_⟩
  have LDi : LF l.prog w K mg base "_law_divided" 8 ["x", "y", "n", "p", "q"] (spDiv A) := ⟨fDi, g aDi_, CDi⟩
  have COr : Cal l.prog w K mg base 7 fOr ["one", "two", "p", "q"] (spOrd A) := ⟨⟨_, ok_ord FnOr_ F_ (gn n_bool), BnOr_⟩, kOr_⟩
  have LOr : LF l.prog w K mg base "_law_order" 7 ["one", "two", "p", "q"] (spOrd A) := ⟨fOr, g aOr_, COr⟩
  have hS : ∃ f, mg "_law_sort" = some (.ref f) ∧ CalZ l.prog w K mg base 1 f ["e"] (spSort A) := ⟨fSo, g aSo_, ⟨⟨_, ok_sort FnSo_ T X_, BnSo_⟩, kSo_⟩⟩
  have CTl : Cal l.prog w K mg base 8 fTl ["what", "one", "two"] (spTold A) := ⟨⟨_, ok_told FnTl_ F_ X_ smR cR hS, BnTl_⟩, kTl_⟩
  have LTl : LF l.prog w K mg base "_law_told" 8 ["what", "one", "two"] (spTold A) := ⟨fTl, g aTl_, CTl⟩
  have CZe : Cal l.prog w K mg base 9 fZe ["x", "n"] (spZeros A) := ⟨⟨_, ok_zeros FnZe_ F_ LTl, BnZe_⟩, kZe_⟩
  have LZe : LF l.prog w K mg base "_law_zeros" 9 ["x", "n"] (spZeros A) := ⟨fZe, g aZe_, CZe⟩
  have CWr : Cal l.prog w K mg base 1 fWr ["p"] spWrit := ⟨⟨_, ok_writ FnWr_ (gn n_str), BnWr_⟩, kWr_⟩
  have LWr : LF l.prog w K mg base "_law_written" 1 ["p"] spWrit := ⟨fWr, g aWr_, CWr⟩
  have CPt : Cal l.prog w K mg base 1 fPt ["text", "place", "sign"] spPut := ⟨⟨_, ok_put FnPt_, BnPt_⟩, kPt_⟩
  have LPt : LF l.prog w K mg base "_law_put" 1 ["text", "place", "sign"] spPut := ⟨fPt, g aPt_, CPt⟩
  have CSp : Cal l.prog w K mg base 2 fSp ["p", "mode", "place"] spSpoilt := ⟨⟨_, ok_spoilt FnSp_ (gn n_str) LWr LPt, BnSp_⟩, kSp_⟩
  have LSp : LF l.prog w K mg base "_law_spoilt" 2 ["p", "mode", "place"] spSpoilt := ⟨fSp, g aSp_, CSp⟩
  have CTe : Cal l.prog w K mg base 9 fTe ["x", "p", "mode", "place"] (spTexts A) := ⟨⟨_, ok_texts FnTe_ F_ (gn n_str) smR cR LWr LSp LIs LTl, BnTe_⟩, kTe_⟩
  have LTe : LF l.prog w K mg base "_law_texts" 9 ["x", "p", "mode", "place"] (spTexts A) := ⟨fTe, g aTe_, CTe⟩
  exact ok_law FnLa_ F_ (gn n_bool) (gn n_len) cv LPo LPk LTo LSi LLo LSu LPw LDi LIs LPr LOr LZe LWr LTe LIn
theorem all_mk {l : PySem.W.OpenLaw} {w : World} {K : PySem.W.Frag} {h : Heap} {mg : Str → Option Value} {fa Mm : Addr} {F_C F_Z F_T F_B F_W F_init F_add F_radd F_sub F_rsub F_mul F_rmul F_flo F_rflo F_mod F_rmod F_pow F_neg F_abs F_bool F_eq F_lt F_le F_gt F_ge F_str F_over F_of_ F_read F_isnum F_wq F_rdb F_pOf F_pRead : Addr} (X : K.In h) (G : h.Ns mainGlobals mg) (hfa : mg "law" = some (.ref fa))
    {tkP tkM tk0 tk1 : Tok} {nmC bsC nsC qC hdC snC sbC abC coC dlC} {oi_add oj_add : Option Value} {oi_sub oj_sub : Option Value} {oi_mul oj_mul : Option Value} {oi_flo oj_flo : Option Value} {oi_mod oj_mod : Option Value} {oi_pow oj_pow : Option Value} {nmT qT NT bsT bmT snT sbT abT coT ddT k0T k1T k2T k3T k5T} {fI : Addr} {odI anI : Option Addr} {slI : Array (Option Value)} {ocI kVI dcI pmI cdI ctI : Value} {Td : Addr} {ocTd : Value} {odTd : Option Addr} {nTd : Nat} {slTd : Array (Option Value)} {od_init an_init : Option Addr} {sl_init : Array (Option Value)} {oc_init kV_init dc_init pm_init cd_init ct_init : Value} {od_add an_add : Option Addr} {sl_add : Array (Option Value)} {oc_add kV_add dc_add pm_add cd_add ct_add : Value} {od_radd an_radd : Option Addr} {sl_radd : Array (Option Value)} {oc_radd kV_radd dc_radd pm_radd cd_radd ct_radd : Value} {od_sub an_sub : Option Addr} {sl_sub : Array (Option Value)} {oc_sub kV_sub dc_sub pm_sub cd_sub ct_sub : Value} {od_rsub an_rsub : Option Addr} {sl_rsub : Array (Option Value)} {oc_rsub kV_rsub dc_rsub pm_rsub cd_rsub ct_rsub : Value} {od_mul an_mul : Option Addr} {sl_mul : Array (Option Value)} {oc_mul kV_mul dc_mul pm_mul cd_mul ct_mul : Value} {od_rmul an_rmul : Option Addr} {sl_rmul : Array (Option Value)} {oc_rmul kV_rmul dc_rmul pm_rmul cd_rmul ct_rmul : Value} {od_flo an_flo : Option Addr} {sl_flo : Array (Option Value)} {oc_flo kV_flo dc_flo pm_flo cd_flo ct_flo : Value} {od_rflo an_rflo : Option Addr} {sl_rflo : Array (Option Value)} {oc_rflo kV_rflo dc_rflo pm_rflo cd_rflo ct_rflo : Value} {od_mod an_mod : Option Addr} {sl_mod : Array (Option Value)} {oc_mod kV_mod dc_mod pm_mod cd_mod ct_mod : Value} {od_rmod an_rmod : Option Addr} {sl_rmod : Array (Option Value)} {oc_rmod kV_rmod dc_rmod pm_rmod cd_rmod ct_rmod : Value} {od_pow an_pow : Option Addr} {sl_pow : Array (Option Value)} {oc_pow kV_pow dc_pow pm_pow cd_pow ct_pow : Value} {od_neg an_neg : Option Addr} {sl_neg : Array (Option Value)} {oc_neg kV_neg dc_neg pm_neg cd_neg ct_neg : Value} {od_abs an_abs : Option Addr} {sl_abs : Array (Option Value)} {oc_abs kV_abs dc_abs pm_abs cd_abs ct_abs : Value} {od_bool an_bool : Option Addr} {sl_bool : Array (Option Value)} {oc_bool kV_bool dc_bool pm_bool cd_bool ct_bool : Value} {od_eq an_eq : Option Addr} {sl_eq : Array (Option Value)} {oc_eq kV_eq dc_eq pm_eq cd_eq ct_eq : Value} {od_lt an_lt : Option Addr} {sl_lt : Array (Option Value)} {oc_lt kV_lt dc_lt pm_lt cd_lt ct_lt : Value} {od_le an_le : Option Addr} {sl_le : Array (Option Value)} {oc_le kV_le dc_le pm_le cd_le ct_le : Value} {od_gt an_gt : Option Addr} {sl_gt : Array (Option Value)} {oc_gt kV_gt dc_gt pm_gt cd_gt ct_gt : Value} {od_ge an_ge : Option Addr} {sl_ge : Array (Option Value)} {oc_ge kV_ge dc_ge pm_ge cd_ge ct_ge : Value} {od_str an_str : Option Addr} {sl_str : Array (Option Value)} {oc_str kV_str dc_str pm_str cd_str ct_str : Value} {od_over an_over : Option Addr} {sl_over : Array (Option Value)} {oc_over kV_over dc_over pm_over cd_over ct_over : Value} {rest_of_ : List Value} {od_of_ an_of_ : Option Addr} {sl_of_ : Array (Option Value)} {oc_of_ kV_of_ dc_of_ pm_of_ cd_of_ ct_of_ : Value} {rest_read : List Value} {od_read an_read : Option Addr} {sl_read : Array (Option Value)} {oc_read kV_read dc_read pm_read cd_read ct_read : Value} {od_isnum an_isnum : Option Addr} {sl_isnum : Array (Option Value)} {oc_isnum kV_isnum dc_isnum pm_isnum cd_isnum ct_isnum : Value} {od_wq an_wq : Option Addr} {sl_wq : Array (Option Value)} {oc_wq kV_wq dc_wq pm_wq cd_wq ct_wq : Value} {od_rdb an_rdb : Option Addr} {sl_rdb : Array (Option Value)} {oc_rdb kV_rdb dc_rdb pm_rdb cd_rdb ct_rdb : Value} {fPo : Addr} {odPo_ anPo_ : Option Addr} {slPo_ : Array (Option Value)} {ocPo_ kVPo_ dcPo_ pmPo_ cdPo_ ctPo_ : Value} {fPk : Addr} {odPk_ anPk_ : Option Addr} {slPk_ : Array (Option Value)} {ocPk_ kVPk_ dcPk_ pmPk_ cdPk_ ctPk_ : Value} {fSi : Addr} {odSi_ anSi_ : Option Addr} {slSi_ : Array (Option Value)} {ocSi_ kVSi_ dcSi_ pmSi_ cdSi_ ctSi_ : Value} {fTo : Addr} {odTo_ anTo_ : Option Addr} {slTo_ : Array (Option Value)} {ocTo_ kVTo_ dcTo_ pmTo_ cdTo_ ctTo_ : Value} {fLo : Addr} {odLo_ anLo_ : Option Addr} {slLo_ : Array (Option Value)} {ocLo_ kVLo_ dcLo_ pmLo_ cdLo_ ctLo_ : Value} {fSm : Addr} {odSm_ anSm_ : Option Addr} {slSm_ : Array (Option Value)} {ocSm_ kVSm_ dcSm_ pmSm_ cdSm_ ctSm_ : Value} {fTm : Addr} {odTm_ anTm_ : Option Addr} {slTm_ : Array (Option Value)} {ocTm_ kVTm_ dcTm_ pmTm_ cdTm_ ctTm_ : Value} {fPr : Addr} {odPr_ anPr_ : Option Addr} {slPr_ : Array (Option Value)} {ocPr_ kVPr_ dcPr_ pmPr_ cdPr_ ctPr_ : Value} {fIn : Addr} {odIn_ anIn_ : Option Addr} {slIn_ : Array (Option Value)} {ocIn_ kVIn_ dcIn_ pmIn_ cdIn_ ctIn_ : Value} {fIs : Addr} {odIs_ anIs_ : Option Addr} {slIs_ : Array (Option Value)} {ocIs_ kVIs_ dcIs_ pmIs_ cdIs_ ctIs_ : Value} {fSu : Addr} {odSu_ anSu_ : Option Addr} {slSu_ : Array (Option Value)} {ocSu_ kVSu_ dcSu_ pmSu_ cdSu_ ctSu_ : Value} {fPw : Addr} {odPw_ anPw_ : Option Addr} {slPw_ : Array (Option Value)} {ocPw_ kVPw_ dcPw_ pmPw_ cdPw_ ctPw_ : Value} {fFl : Addr} {odFl_ anFl_ : Option Addr} {slFl_ : Array (Option Value)} {ocFl_ kVFl_ dcFl_ pmFl_ cdFl_ ctFl_ : Value} {fDi : Addr} {odDi_ anDi_ : Option Addr} {slDi_ : Array (Option Value)} {ocDi_ kVDi_ dcDi_ pmDi_ cdDi_ ctDi_ : Value} {fOr : Addr} {odOr_ anOr_ : Option Addr} {slOr_ : Array (Option Value)} {ocOr_ kVOr_ dcOr_ pmOr_ cdOr_ ctOr_ : Value} {fSo : Addr} {odSo_ anSo_ : Option Addr} {slSo_ : Array (Option Value)} {ocSo_ kVSo_ dcSo_ pmSo_ cdSo_ ctSo_ : Value} {fTl : Addr} {odTl_ anTl_ : Option Addr} {slTl_ : Array (Option Value)} {ocTl_ kVTl_ dcTl_ pmTl_ cdTl_ ctTl_ : Value} {fZe : Addr} {odZe_ anZe_ : Option Addr} {slZe_ : Array (Option Value)} {ocZe_ kVZe_ dcZe_ pmZe_ cdZe_ ctZe_ : Value} {fWr : Addr} {odWr_ anWr_ : Option Addr} {slWr_ : Array (Option Value)} {ocWr_ kVWr_ dcWr_ pmWr_ cdWr_ ctWr_ : Value} {fPt : Addr} {odPt_ anPt_ : Option Addr} {slPt_ : Array (Option Value)} {ocPt_ kVPt_ dcPt_ pmPt_ cdPt_ ctPt_ : Value} {fSp : Addr} {odSp_ anSp_ : Option Addr} {slSp_ : Array (Option Value)} {ocSp_ kVSp_ dcSp_ pmSp_ cdSp_ ctSp_ : Value} {fTe : Addr} {odTe_ anTe_ : Option Addr} {slTe_ : Array (Option Value)} {ocTe_ kVTe_ dcTe_ pmTe_ cdTe_ ctTe_ : Value} {fLa : Addr} {odLa_ anLa_ : Option Addr} {slLa_ : Array (Option Value)} {ocLa_ kVLa_ dcLa_ pmLa_ cdLa_ ctLa_ : Value}
    (aC : PySem.W.nsIn K mainGlobals "Frac" = some (some (.ref F_C)))
    (aZ : PySem.W.nsIn K mainGlobals "DivisionByZero" = some (some (.ref F_Z)))
    (aT : PySem.W.nsIn K mainGlobals "BadText" = some (some (.ref F_T)))
    (aB : PySem.W.nsIn K mainGlobals "BadCount" = some (some (.ref F_B)))
    (aW : PySem.W.nsIn K mainGlobals "WebError" = some (some (.ref F_W)))
    (aM : PySem.W.nsIn K mainGlobals "Mismatch" = some (some (.ref Mm)))
    (agcd : PySem.W.nsIn K mainGlobals "gcd" = some (some (.builtin "math.gcd")))
    (amp : PySem.W.nsIn K mainGlobals "MOST_POWER" = some (some (.int 64 tkP)))
    (n_isinstance : PySem.W.nsIn K mainGlobals "isinstance" = some none)
    (n_int : PySem.W.nsIn K mainGlobals "int" = some none)
    (n_all : PySem.W.nsIn K mainGlobals "all" = some none)
    (n_abs : PySem.W.nsIn K mainGlobals "abs" = some none)
    (n_bool : PySem.W.nsIn K mainGlobals "bool" = some none)
    (n_len : PySem.W.nsIn K mainGlobals "len" = some none)
    (n_str : PySem.W.nsIn K mainGlobals "str" = some none)
    (n_range : PySem.W.nsIn K mainGlobals "range" = some none)
    (n_ValueError : PySem.W.nsIn K mainGlobals "ValueError" = some none)
    (pg : PySem.W.plainGet K F_C Str.empty = true)
    (hd : PySem.W.hasDictIn K F_C = true)
    (po : PySem.W.plainOver K F_C = true)
    (sa : PySem.W.findIn K (.ref F_C) "__setattr__" = some (some (.builtin "object.__setattr__")))
    (mk : PySem.W.makesIn K F_C = true)
    (kc : PySem.W.keepIn K (.ref F_C) = true)
    (nN : PySem.W.findIn K (.ref F_C) "num" = some none)
    (nD : PySem.W.findIn K (.ref F_C) "den" = some none)
    (ca : PySem.W.findIn K (.ref F_C) "__class__" = some (some (.builtin "object.__class__")))
    (cg : PySem.W.specialIn K (.builtin "object.__class__") "__get__" = some (some (.builtin "getset_descriptor.__get__")))
    (ct : PySem.W.takesIn K (.builtin "object.__class__") = some true)
    (cm : PySem.W.mroIn K F_C (.type "object") = some true)
    (isC : PySem.W.isClsIn K F_C = true)
    (tC : PySem.W.typeIn K (.ref F_C) = some (.type "type"))
    (su1 : PySem.W.subIn K (.ref F_C) (.type "int") = some false)
    (su2 : PySem.W.subIn K (.type "int") (.ref F_C) = some false)
    (sf : PySem.W.selfFirst K F_C = true)
    (lC : PySem.W.clsIn K F_C = some { name := nmC, bases := bsC, mro := [(.ref F_C), .type "object"], ns := nsC, qualname := qC, hasDict := hdC, slotNames := snC, subclasses := sbC, abstract := abC, collection := coC, hasDel := dlC })
    (ne : PySem.W.findIn K (.ref F_C) "__ne__" = some (some (.builtin "object.__ne__")))
    (rdC : PySem.W.readsIn K F_C (.type "type") = true)
    (gaC : PySem.W.specialIn K (.ref F_C) "__getattribute__" = some (some (.builtin "type.__getattribute__")))
    (iaC : PySem.W.findIn K (.ref F_C) "__iadd__" = some none)
    (iaO : PySem.W.findIn K (.type "object") "__iadd__" = some none)
    (iaI : PySem.W.findIn K (.type "int") "__iadd__" = some none)
    (rpw : PySem.W.findIn K (.ref F_C) "__rpow__" = some none)
    (md : PySem.W.findCls K (.ref F_C) (.type "type") "MOST_DIGITS" = some (.val (.int 60 tkM)))
    (i1add : PySem.W.findIn K (.type "int") "__add__" = some oi_add)
    (i2add : PySem.W.findIn K (.type "int") "__radd__" = some oj_add)
    (i1sub : PySem.W.findIn K (.type "int") "__sub__" = some oi_sub)
    (i2sub : PySem.W.findIn K (.type "int") "__rsub__" = some oj_sub)
    (i1mul : PySem.W.findIn K (.type "int") "__mul__" = some oi_mul)
    (i2mul : PySem.W.findIn K (.type "int") "__rmul__" = some oj_mul)
    (i1flo : PySem.W.findIn K (.type "int") "__floordiv__" = some oi_flo)
    (i2flo : PySem.W.findIn K (.type "int") "__rfloordiv__" = some oj_flo)
    (i1mod : PySem.W.findIn K (.type "int") "__mod__" = some oi_mod)
    (i2mod : PySem.W.findIn K (.type "int") "__rmod__" = some oj_mod)
    (i1pow : PySem.W.findIn K (.type "int") "__pow__" = some oi_pow)
    (i2pow : PySem.W.findIn K (.type "int") "__rpow__" = some oj_pow)
    (xgZ : PySem.W.findIn K (.ref F_Z) "__getattribute__" = some (some (.builtin "BaseException.__getattribute__")))
    (xkZ : PySem.W.findIn K (.ref F_Z) "__getattr__" = some none)
    (xsZ : PySem.W.subIn K (.ref F_Z) (.type "BaseException") = some true)
    (xhZ : PySem.W.hasDictIn K F_Z = true)
    (xaZ : PySem.W.findIn K (.ref F_Z) "__class__" = some (some (.builtin "object.__class__")))
    (xmZ : PySem.W.mroIn K F_Z (.type "object") = some true)
    (xtZ : PySem.W.typeIn K (.ref F_Z) = some (.type "type"))
    (xeZ : PySem.W.keepIn K (.ref F_Z) = true)
    (xvZ : PySem.W.subIn K (.ref F_Z) (.type "ValueError") = some true)
    (xwZ : PySem.W.subIn K (.ref F_Z) (.ref F_Z) = some true)
    (xWZ : PySem.W.subIn K (.ref F_Z) (.ref F_W) = some true)
    (xBZ : PySem.W.subIn K (.ref F_Z) (.ref F_B) = some false)
    (xMZ : PySem.W.subIn K (.ref F_Z) (.ref Mm) = some false)
    (xgT : PySem.W.findIn K (.ref F_T) "__getattribute__" = some (some (.builtin "BaseException.__getattribute__")))
    (xkT : PySem.W.findIn K (.ref F_T) "__getattr__" = some none)
    (xsT : PySem.W.subIn K (.ref F_T) (.type "BaseException") = some true)
    (xhT : PySem.W.hasDictIn K F_T = true)
    (xaT : PySem.W.findIn K (.ref F_T) "__class__" = some (some (.builtin "object.__class__")))
    (xmT : PySem.W.mroIn K F_T (.type "object") = some true)
    (xtT : PySem.W.typeIn K (.ref F_T) = some (.type "type"))
    (xeT : PySem.W.keepIn K (.ref F_T) = true)
    (xvT : PySem.W.subIn K (.ref F_T) (.type "ValueError") = some true)
    (xwT : PySem.W.subIn K (.ref F_T) (.ref F_T) = some true)
    (xWT : PySem.W.subIn K (.ref F_T) (.ref F_W) = some true)
    (xBT : PySem.W.subIn K (.ref F_T) (.ref F_B) = some false)
    (xMT : PySem.W.subIn K (.ref F_T) (.ref Mm) = some false)
    (xZT : PySem.W.subIn K (.ref F_Z) (.ref F_T) = some false)
    (xTZ : PySem.W.subIn K (.ref F_T) (.ref F_Z) = some false)
    (kkZ : PySem.W.isClsIn K F_Z = true)
    (kkT : PySem.W.isClsIn K F_T = true)
    (kkW : PySem.W.isClsIn K F_W = true)
    (ktW : PySem.W.typeIn K (.ref F_W) = some (.type "type"))
    (kkB : PySem.W.isClsIn K F_B = true)
    (ktB : PySem.W.typeIn K (.ref F_B) = some (.type "type"))
    (kkM : PySem.W.isClsIn K Mm = true)
    (ktM : PySem.W.typeIn K (.ref Mm) = some (.type "type"))
    (xZ : PySem.W.excIn K F_Z [.type "ValueError", .type "Exception", .type "BaseException", .type "object"] "ValueError.__new__" = true)
    (xlT : K.lookup F_T = some (excClassObj nmT qT F_T NT bsT bmT true snT sbT abT coT ddT k0T k1T k2T k3T k5T "ValueError.__new__"))
    (reT : PySem.HandSPX.refsVE bmT = true)
    (saT : PySem.W.findIn K (.ref F_T) "__setattr__" = some (some (.builtin "object.__setattr__")))
    (xnT : PySem.W.findIn K (.ref F_T) "text" = some none)
    (iT : PySem.W.findIn K (.ref F_T) "__init__" = some (some (.ref fI)))
    (tI : PySem.W.typeIn K (.ref fI) = some (.type "function"))
    (lI : K.lookup fI = some ⟨ocI, odI, .func (PySem.W.fnOf "__init__" "BadText.__init__" (defArgs sBad) (defBody sBad) (defScope sBad) .none kVI dcI pmI anI cdI ctI), slI⟩)
    (cI : PySem.W.codeIn K cdI "BadText.__init__" = true)
    (kI : PySem.W.keepIn K (.ref fI) = true)
    (a_init : PySem.W.findIn K (.ref F_C) "__init__" = some (some (.ref F_init)))
    (i_init : PySem.W.isFn K (.ref F_init) = true)
    (l_init : K.lookup F_init = some ⟨oc_init, od_init, .func (PySem.W.fnOf "__init__" "Frac.__init__" (defArgs sInit) (defBody sInit) (defScope sInit) (.ref Td) kV_init dc_init pm_init an_init cd_init ct_init), sl_init⟩)
    (c_init : PySem.W.codeIn K cd_init "Frac.__init__" = true)
    (k_init : PySem.W.keepIn K (.ref F_init) = true)
    (lTd : K.lookup Td = some ⟨ocTd, odTd, .seq [.int 0 tk0, .int 1 tk1].toArray nTd, slTd⟩)
    (a_add : PySem.W.findIn K (.ref F_C) "__add__" = some (some (.ref F_add)))
    (i_add : PySem.W.isFn K (.ref F_add) = true)
    (l_add : K.lookup F_add = some ⟨oc_add, od_add, .func (PySem.W.fnOf "__add__" "Frac.__add__" (defArgs sAdd) (defBody sAdd) (defScope sAdd) .none kV_add dc_add pm_add an_add cd_add ct_add), sl_add⟩)
    (c_add : PySem.W.codeIn K cd_add "Frac.__add__" = true)
    (k_add : PySem.W.keepIn K (.ref F_add) = true)
    (a_radd : PySem.W.findIn K (.ref F_C) "__radd__" = some (some (.ref F_radd)))
    (i_radd : PySem.W.isFn K (.ref F_radd) = true)
    (l_radd : K.lookup F_radd = some ⟨oc_radd, od_radd, .func (PySem.W.fnOf "__radd__" "Frac.__radd__" (defArgs sRadd) (defBody sRadd) (defScope sRadd) .none kV_radd dc_radd pm_radd an_radd cd_radd ct_radd), sl_radd⟩)
    (c_radd : PySem.W.codeIn K cd_radd "Frac.__radd__" = true)
    (k_radd : PySem.W.keepIn K (.ref F_radd) = true)
    (a_sub : PySem.W.findIn K (.ref F_C) "__sub__" = some (some (.ref F_sub)))
    (i_sub : PySem.W.isFn K (.ref F_sub) = true)
    (l_sub : K.lookup F_sub = some ⟨oc_sub, od_sub, .func (PySem.W.fnOf "__sub__" "Frac.__sub__" (defArgs sSub) (defBody sSub) (defScope sSub) .none kV_sub dc_sub pm_sub an_sub cd_sub ct_sub), sl_sub⟩)
    (c_sub : PySem.W.codeIn K cd_sub "Frac.__sub__" = true)
    (k_sub : PySem.W.keepIn K (.ref F_sub) = true)
    (a_rsub : PySem.W.findIn K (.ref F_C) "__rsub__" = some (some (.ref F_rsub)))
    (i_rsub : PySem.W.isFn K (.ref F_rsub) = true)
    (l_rsub : K.lookup F_rsub = some ⟨oc_rsub, od_rsub, .func (PySem.W.fnOf "__rsub__" "Frac.__rsub__" (defArgs sRsub) (defBody sRsub) (defScope sRsub) .none kV_rsub dc_rsub pm_rsub an_rsub cd_rsub ct_rsub), sl_rsub⟩)
    (c_rsub : PySem.W.codeIn K cd_rsub "Frac.__rsub__" = true)
    (k_rsub : PySem.W.keepIn K (.ref F_rsub) = true)
    (a_mul : PySem.W.findIn K (.ref F_C) "__mul__" = some (some (.ref F_mul)))
    (i_mul : PySem.W.isFn K (.ref F_mul) = true)
    (l_mul : K.lookup F_mul = some ⟨oc_mul, od_mul, .func (PySem.W.fnOf "__mul__" "Frac.__mul__" (defArgs sMul) (defBody sMul) (defScope sMul) .none kV_mul dc_mul pm_mul an_mul cd_mul ct_mul), sl_mul⟩)
    (c_mul : PySem.W.codeIn K cd_mul "Frac.__mul__" = true)
    (k_mul : PySem.W.keepIn K (.ref F_mul) = true)
    (a_rmul : PySem.W.findIn K (.ref F_C) "__rmul__" = some (some (.ref F_rmul)))
    (i_rmul : PySem.W.isFn K (.ref F_rmul) = true)
    (l_rmul : K.lookup F_rmul = some ⟨oc_rmul, od_rmul, .func (PySem.W.fnOf "__rmul__" "Frac.__rmul__" (defArgs sRmul) (defBody sRmul) (defScope sRmul) .none kV_rmul dc_rmul pm_rmul an_rmul cd_rmul ct_rmul), sl_rmul⟩)
    (c_rmul : PySem.W.codeIn K cd_rmul "Frac.__rmul__" = true)
    (k_rmul : PySem.W.keepIn K (.ref F_rmul) = true)
    (a_flo : PySem.W.findIn K (.ref F_C) "__floordiv__" = some (some (.ref F_flo)))
    (i_flo : PySem.W.isFn K (.ref F_flo) = true)
    (l_flo : K.lookup F_flo = some ⟨oc_flo, od_flo, .func (PySem.W.fnOf "__floordiv__" "Frac.__floordiv__" (defArgs sFlo) (defBody sFlo) (defScope sFlo) .none kV_flo dc_flo pm_flo an_flo cd_flo ct_flo), sl_flo⟩)
    (c_flo : PySem.W.codeIn K cd_flo "Frac.__floordiv__" = true)
    (k_flo : PySem.W.keepIn K (.ref F_flo) = true)
    (a_rflo : PySem.W.findIn K (.ref F_C) "__rfloordiv__" = some (some (.ref F_rflo)))
    (i_rflo : PySem.W.isFn K (.ref F_rflo) = true)
    (l_rflo : K.lookup F_rflo = some ⟨oc_rflo, od_rflo, .func (PySem.W.fnOf "__rfloordiv__" "Frac.__rfloordiv__" (defArgs sRflo) (defBody sRflo) (defScope sRflo) .none kV_rflo dc_rflo pm_rflo an_rflo cd_rflo ct_rflo), sl_rflo⟩)
    (c_rflo : PySem.W.codeIn K cd_rflo "Frac.__rfloordiv__" = true)
    (k_rflo : PySem.W.keepIn K (.ref F_rflo) = true)
    (a_mod : PySem.W.findIn K (.ref F_C) "__mod__" = some (some (.ref F_mod)))
    (i_mod : PySem.W.isFn K (.ref F_mod) = true)
    (l_mod : K.lookup F_mod = some ⟨oc_mod, od_mod, .func (PySem.W.fnOf "__mod__" "Frac.__mod__" (defArgs sMod) (defBody sMod) (defScope sMod) .none kV_mod dc_mod pm_mod an_mod cd_mod ct_mod), sl_mod⟩)
    (c_mod : PySem.W.codeIn K cd_mod "Frac.__mod__" = true)
    (k_mod : PySem.W.keepIn K (.ref F_mod) = true)
    (a_rmod : PySem.W.findIn K (.ref F_C) "__rmod__" = some (some (.ref F_rmod)))
    (i_rmod : PySem.W.isFn K (.ref F_rmod) = true)
    (l_rmod : K.lookup F_rmod = some ⟨oc_rmod, od_rmod, .func (PySem.W.fnOf "__rmod__" "Frac.__rmod__" (defArgs sRmod) (defBody sRmod) (defScope sRmod) .none kV_rmod dc_rmod pm_rmod an_rmod cd_rmod ct_rmod), sl_rmod⟩)
    (c_rmod : PySem.W.codeIn K cd_rmod "Frac.__rmod__" = true)
    (k_rmod : PySem.W.keepIn K (.ref F_rmod) = true)
    (a_pow : PySem.W.findIn K (.ref F_C) "__pow__" = some (some (.ref F_pow)))
    (i_pow : PySem.W.isFn K (.ref F_pow) = true)
    (l_pow : K.lookup F_pow = some ⟨oc_pow, od_pow, .func (PySem.W.fnOf "__pow__" "Frac.__pow__" (defArgs sPow) (defBody sPow) (defScope sPow) .none kV_pow dc_pow pm_pow an_pow cd_pow ct_pow), sl_pow⟩)
    (c_pow : PySem.W.codeIn K cd_pow "Frac.__pow__" = true)
    (k_pow : PySem.W.keepIn K (.ref F_pow) = true)
    (a_neg : PySem.W.findIn K (.ref F_C) "__neg__" = some (some (.ref F_neg)))
    (i_neg : PySem.W.isFn K (.ref F_neg) = true)
    (l_neg : K.lookup F_neg = some ⟨oc_neg, od_neg, .func (PySem.W.fnOf "__neg__" "Frac.__neg__" (defArgs sNeg) (defBody sNeg) (defScope sNeg) .none kV_neg dc_neg pm_neg an_neg cd_neg ct_neg), sl_neg⟩)
    (c_neg : PySem.W.codeIn K cd_neg "Frac.__neg__" = true)
    (k_neg : PySem.W.keepIn K (.ref F_neg) = true)
    (a_abs : PySem.W.findIn K (.ref F_C) "__abs__" = some (some (.ref F_abs)))
    (i_abs : PySem.W.isFn K (.ref F_abs) = true)
    (l_abs : K.lookup F_abs = some ⟨oc_abs, od_abs, .func (PySem.W.fnOf "__abs__" "Frac.__abs__" (defArgs sAbs) (defBody sAbs) (defScope sAbs) .none kV_abs dc_abs pm_abs an_abs cd_abs ct_abs), sl_abs⟩)
    (c_abs : PySem.W.codeIn K cd_abs "Frac.__abs__" = true)
    (k_abs : PySem.W.keepIn K (.ref F_abs) = true)
    (a_bool : PySem.W.findIn K (.ref F_C) "__bool__" = some (some (.ref F_bool)))
    (i_bool : PySem.W.isFn K (.ref F_bool) = true)
    (l_bool : K.lookup F_bool = some ⟨oc_bool, od_bool, .func (PySem.W.fnOf "__bool__" "Frac.__bool__" (defArgs sBool) (defBody sBool) (defScope sBool) .none kV_bool dc_bool pm_bool an_bool cd_bool ct_bool), sl_bool⟩)
    (c_bool : PySem.W.codeIn K cd_bool "Frac.__bool__" = true)
    (k_bool : PySem.W.keepIn K (.ref F_bool) = true)
    (a_eq : PySem.W.findIn K (.ref F_C) "__eq__" = some (some (.ref F_eq)))
    (i_eq : PySem.W.isFn K (.ref F_eq) = true)
    (l_eq : K.lookup F_eq = some ⟨oc_eq, od_eq, .func (PySem.W.fnOf "__eq__" "Frac.__eq__" (defArgs sEq) (defBody sEq) (defScope sEq) .none kV_eq dc_eq pm_eq an_eq cd_eq ct_eq), sl_eq⟩)
    (c_eq : PySem.W.codeIn K cd_eq "Frac.__eq__" = true)
    (k_eq : PySem.W.keepIn K (.ref F_eq) = true)
    (a_lt : PySem.W.findIn K (.ref F_C) "__lt__" = some (some (.ref F_lt)))
    (i_lt : PySem.W.isFn K (.ref F_lt) = true)
    (l_lt : K.lookup F_lt = some ⟨oc_lt, od_lt, .func (PySem.W.fnOf "__lt__" "Frac.__lt__" (defArgs sLt) (defBody sLt) (defScope sLt) .none kV_lt dc_lt pm_lt an_lt cd_lt ct_lt), sl_lt⟩)
    (c_lt : PySem.W.codeIn K cd_lt "Frac.__lt__" = true)
    (k_lt : PySem.W.keepIn K (.ref F_lt) = true)
    (a_le : PySem.W.findIn K (.ref F_C) "__le__" = some (some (.ref F_le)))
    (i_le : PySem.W.isFn K (.ref F_le) = true)
    (l_le : K.lookup F_le = some ⟨oc_le, od_le, .func (PySem.W.fnOf "__le__" "Frac.__le__" (defArgs sLe) (defBody sLe) (defScope sLe) .none kV_le dc_le pm_le an_le cd_le ct_le), sl_le⟩)
    (c_le : PySem.W.codeIn K cd_le "Frac.__le__" = true)
    (k_le : PySem.W.keepIn K (.ref F_le) = true)
    (a_gt : PySem.W.findIn K (.ref F_C) "__gt__" = some (some (.ref F_gt)))
    (i_gt : PySem.W.isFn K (.ref F_gt) = true)
    (l_gt : K.lookup F_gt = some ⟨oc_gt, od_gt, .func (PySem.W.fnOf "__gt__" "Frac.__gt__" (defArgs sGt) (defBody sGt) (defScope sGt) .none kV_gt dc_gt pm_gt an_gt cd_gt ct_gt), sl_gt⟩)
    (c_gt : PySem.W.codeIn K cd_gt "Frac.__gt__" = true)
    (k_gt : PySem.W.keepIn K (.ref F_gt) = true)
    (a_ge : PySem.W.findIn K (.ref F_C) "__ge__" = some (some (.ref F_ge)))
    (i_ge : PySem.W.isFn K (.ref F_ge) = true)
    (l_ge : K.lookup F_ge = some ⟨oc_ge, od_ge, .func (PySem.W.fnOf "__ge__" "Frac.__ge__" (defArgs sGe) (defBody sGe) (defScope sGe) .none kV_ge dc_ge pm_ge an_ge cd_ge ct_ge), sl_ge⟩)
    (c_ge : PySem.W.codeIn K cd_ge "Frac.__ge__" = true)
    (k_ge : PySem.W.keepIn K (.ref F_ge) = true)
    (a_str : PySem.W.findIn K (.ref F_C) "__str__" = some (some (.ref F_str)))
    (i_str : PySem.W.isFn K (.ref F_str) = true)
    (l_str : K.lookup F_str = some ⟨oc_str, od_str, .func (PySem.W.fnOf "__str__" "Frac.__str__" (defArgs sStr) (defBody sStr) (defScope sStr) .none kV_str dc_str pm_str an_str cd_str ct_str), sl_str⟩)
    (c_str : PySem.W.codeIn K cd_str "Frac.__str__" = true)
    (k_str : PySem.W.keepIn K (.ref F_str) = true)
    (a_over : PySem.W.findIn K (.ref F_C) "over" = some (some (.ref F_over)))
    (i_over : PySem.W.isFn K (.ref F_over) = true)
    (l_over : K.lookup F_over = some ⟨oc_over, od_over, .func (PySem.W.fnOf "over" "Frac.over" (defArgs sOver) (defBody sOver) (defScope sOver) .none kV_over dc_over pm_over an_over cd_over ct_over), sl_over⟩)
    (c_over : PySem.W.codeIn K cd_over "Frac.over" = true)
    (k_over : PySem.W.keepIn K (.ref F_over) = true)
    (a_of_ : PySem.W.findCls K (.ref F_C) (.type "type") "of" = some (.get (.builtin "staticmethod.__get__") (.ref F_pOf) .none (.ref F_C)))
    (r_of_ : PySem.W.recIn K F_pOf "staticmethod" = some (.ref F_of_ :: rest_of_))
    (l_of_ : K.lookup F_of_ = some ⟨oc_of_, od_of_, .func (PySem.W.fnOf "of" "Frac.of" (defArgs sOf) (defBody sOf) (defScope sOf) .none kV_of_ dc_of_ pm_of_ an_of_ cd_of_ ct_of_), sl_of_⟩)
    (c_of_ : PySem.W.codeIn K cd_of_ "Frac.of" = true)
    (k_of_ : PySem.W.keepIn K (.ref F_of_) = true)
    (a_read : PySem.W.findCls K (.ref F_C) (.type "type") "read" = some (.get (.builtin "staticmethod.__get__") (.ref F_pRead) .none (.ref F_C)))
    (r_read : PySem.W.recIn K F_pRead "staticmethod" = some (.ref F_read :: rest_read))
    (l_read : K.lookup F_read = some ⟨oc_read, od_read, .func (PySem.W.fnOf "read" "Frac.read" (defArgs sRead) (defBody sRead) (defScope sRead) .none kV_read dc_read pm_read an_read cd_read ct_read), sl_read⟩)
    (c_read : PySem.W.codeIn K cd_read "Frac.read" = true)
    (k_read : PySem.W.keepIn K (.ref F_read) = true)
    (a_isnum : PySem.W.nsIn K mainGlobals "is_number" = some (some (.ref F_isnum)))
    (l_isnum : K.lookup F_isnum = some ⟨oc_isnum, od_isnum, .func (PySem.W.fnOf "is_number" "is_number" (defArgs sIsNum) (defBody sIsNum) (defScope sIsNum) .none kV_isnum dc_isnum pm_isnum an_isnum cd_isnum ct_isnum), sl_isnum⟩)
    (c_isnum : PySem.W.codeIn K cd_isnum "is_number" = true)
    (k_isnum : PySem.W.keepIn K (.ref F_isnum) = true)
    (a_wq : PySem.W.nsIn K mainGlobals "_whole_quotient" = some (some (.ref F_wq)))
    (l_wq : K.lookup F_wq = some ⟨oc_wq, od_wq, .func (PySem.W.fnOf "_whole_quotient" "_whole_quotient" (defArgs sWq) (defBody sWq) (defScope sWq) .none kV_wq dc_wq pm_wq an_wq cd_wq ct_wq), sl_wq⟩)
    (c_wq : PySem.W.codeIn K cd_wq "_whole_quotient" = true)
    (k_wq : PySem.W.keepIn K (.ref F_wq) = true)
    (a_rdb : PySem.W.nsIn K mainGlobals "_readable" = some (some (.ref F_rdb)))
    (l_rdb : K.lookup F_rdb = some ⟨oc_rdb, od_rdb, .func (PySem.W.fnOf "_readable" "_readable" (defArgs sRdb) (defBody sRdb) (defScope sRdb) .none kV_rdb dc_rdb pm_rdb an_rdb cd_rdb ct_rdb), sl_rdb⟩)
    (c_rdb : PySem.W.codeIn K cd_rdb "_readable" = true)
    (k_rdb : PySem.W.keepIn K (.ref F_rdb) = true)
    (aPo_ : PySem.W.nsIn K mainGlobals "_law_pool" = some (some (.ref fPo)))
    (lPo_ : K.lookup fPo = some ⟨ocPo_, odPo_, .func (PySem.W.fnOf "_law_pool" "_law_pool" (defArgs sPool) (defBody sPool) (defScope sPool) .none kVPo_ dcPo_ pmPo_ anPo_ cdPo_ ctPo_), slPo_⟩)
    (cPo_ : PySem.W.codeIn K cdPo_ "_law_pool" = true)
    (kPo_ : PySem.W.keepIn K (.ref fPo) = true)
    (aPk_ : PySem.W.nsIn K mainGlobals "_law_pick" = some (some (.ref fPk)))
    (lPk_ : K.lookup fPk = some ⟨ocPk_, odPk_, .func (PySem.W.fnOf "_law_pick" "_law_pick" (defArgs sPick) (defBody sPick) (defScope sPick) .none kVPk_ dcPk_ pmPk_ anPk_ cdPk_ ctPk_), slPk_⟩)
    (cPk_ : PySem.W.codeIn K cdPk_ "_law_pick" = true)
    (kPk_ : PySem.W.keepIn K (.ref fPk) = true)
    (aSi_ : PySem.W.nsIn K mainGlobals "_law_size" = some (some (.ref fSi)))
    (lSi_ : K.lookup fSi = some ⟨ocSi_, odSi_, .func (PySem.W.fnOf "_law_size" "_law_size" (defArgs sSize) (defBody sSize) (defScope sSize) .none kVSi_ dcSi_ pmSi_ anSi_ cdSi_ ctSi_), slSi_⟩)
    (cSi_ : PySem.W.codeIn K cdSi_ "_law_size" = true)
    (kSi_ : PySem.W.keepIn K (.ref fSi) = true)
    (aTo_ : PySem.W.nsIn K mainGlobals "_law_top" = some (some (.ref fTo)))
    (lTo_ : K.lookup fTo = some ⟨ocTo_, odTo_, .func (PySem.W.fnOf "_law_top" "_law_top" (defArgs sTop) (defBody sTop) (defScope sTop) .none kVTo_ dcTo_ pmTo_ anTo_ cdTo_ ctTo_), slTo_⟩)
    (cTo_ : PySem.W.codeIn K cdTo_ "_law_top" = true)
    (kTo_ : PySem.W.keepIn K (.ref fTo) = true)
    (aLo_ : PySem.W.nsIn K mainGlobals "_law_low" = some (some (.ref fLo)))
    (lLo_ : K.lookup fLo = some ⟨ocLo_, odLo_, .func (PySem.W.fnOf "_law_low" "_law_low" (defArgs sLow) (defBody sLow) (defScope sLow) .none kVLo_ dcLo_ pmLo_ anLo_ cdLo_ ctLo_), slLo_⟩)
    (cLo_ : PySem.W.codeIn K cdLo_ "_law_low" = true)
    (kLo_ : PySem.W.keepIn K (.ref fLo) = true)
    (aSm_ : PySem.W.nsIn K mainGlobals "_law_sum" = some (some (.ref fSm)))
    (lSm_ : K.lookup fSm = some ⟨ocSm_, odSm_, .func (PySem.W.fnOf "_law_sum" "_law_sum" (defArgs sSum) (defBody sSum) (defScope sSum) .none kVSm_ dcSm_ pmSm_ anSm_ cdSm_ ctSm_), slSm_⟩)
    (cSm_ : PySem.W.codeIn K cdSm_ "_law_sum" = true)
    (kSm_ : PySem.W.keepIn K (.ref fSm) = true)
    (aTm_ : PySem.W.nsIn K mainGlobals "_law_times" = some (some (.ref fTm)))
    (lTm_ : K.lookup fTm = some ⟨ocTm_, odTm_, .func (PySem.W.fnOf "_law_times" "_law_times" (defArgs sTimes) (defBody sTimes) (defScope sTimes) .none kVTm_ dcTm_ pmTm_ anTm_ cdTm_ ctTm_), slTm_⟩)
    (cTm_ : PySem.W.codeIn K cdTm_ "_law_times" = true)
    (kTm_ : PySem.W.keepIn K (.ref fTm) = true)
    (aPr_ : PySem.W.nsIn K mainGlobals "_law_power" = some (some (.ref fPr)))
    (lPr_ : K.lookup fPr = some ⟨ocPr_, odPr_, .func (PySem.W.fnOf "_law_power" "_law_power" (defArgs sPower) (defBody sPower) (defScope sPower) .none kVPr_ dcPr_ pmPr_ anPr_ cdPr_ ctPr_), slPr_⟩)
    (cPr_ : PySem.W.codeIn K cdPr_ "_law_power" = true)
    (kPr_ : PySem.W.keepIn K (.ref fPr) = true)
    (aIn_ : PySem.W.nsIn K mainGlobals "_law_int" = some (some (.ref fIn)))
    (lIn_ : K.lookup fIn = some ⟨ocIn_, odIn_, .func (PySem.W.fnOf "_law_int" "_law_int" (defArgs sInt) (defBody sInt) (defScope sInt) .none kVIn_ dcIn_ pmIn_ anIn_ cdIn_ ctIn_), slIn_⟩)
    (cIn_ : PySem.W.codeIn K cdIn_ "_law_int" = true)
    (kIn_ : PySem.W.keepIn K (.ref fIn) = true)
    (aIs_ : PySem.W.nsIn K mainGlobals "_law_is" = some (some (.ref fIs)))
    (lIs_ : K.lookup fIs = some ⟨ocIs_, odIs_, .func (PySem.W.fnOf "_law_is" "_law_is" (defArgs sIs) (defBody sIs) (defScope sIs) .none kVIs_ dcIs_ pmIs_ anIs_ cdIs_ ctIs_), slIs_⟩)
    (cIs_ : PySem.W.codeIn K cdIs_ "_law_is" = true)
    (kIs_ : PySem.W.keepIn K (.ref fIs) = true)
    (aSu_ : PySem.W.nsIn K mainGlobals "_law_sums" = some (some (.ref fSu)))
    (lSu_ : K.lookup fSu = some ⟨ocSu_, odSu_, .func (PySem.W.fnOf "_law_sums" "_law_sums" (defArgs sSums) (defBody sSums) (defScope sSums) .none kVSu_ dcSu_ pmSu_ anSu_ cdSu_ ctSu_), slSu_⟩)
    (cSu_ : PySem.W.codeIn K cdSu_ "_law_sums" = true)
    (kSu_ : PySem.W.keepIn K (.ref fSu) = true)
    (aPw_ : PySem.W.nsIn K mainGlobals "_law_powers" = some (some (.ref fPw)))
    (lPw_ : K.lookup fPw = some ⟨ocPw_, odPw_, .func (PySem.W.fnOf "_law_powers" "_law_powers" (defArgs sPowers) (defBody sPowers) (defScope sPowers) .none kVPw_ dcPw_ pmPw_ anPw_ cdPw_ ctPw_), slPw_⟩)
    (cPw_ : PySem.W.codeIn K cdPw_ "_law_powers" = true)
    (kPw_ : PySem.W.keepIn K (.ref fPw) = true)
    (aFl_ : PySem.W.nsIn K mainGlobals "_law_floors" = some (some (.ref fFl)))
    (lFl_ : K.lookup fFl = some ⟨ocFl_, odFl_, .func (PySem.W.fnOf "_law_floors" "_law_floors" (defArgs sFloors) (defBody sFloors) (defScope sFloors) .none kVFl_ dcFl_ pmFl_ anFl_ cdFl_ ctFl_), slFl_⟩)
    (cFl_ : PySem.W.codeIn K cdFl_ "_law_floors" = true)
    (kFl_ : PySem.W.keepIn K (.ref fFl) = true)
    (aDi_ : PySem.W.nsIn K mainGlobals "_law_divided" = some (some (.ref fDi)))
    (lDi_ : K.lookup fDi = some ⟨ocDi_, odDi_, .func (PySem.W.fnOf "_law_divided" "_law_divided" (defArgs sDivided) (defBody sDivided) (defScope sDivided) .none kVDi_ dcDi_ pmDi_ anDi_ cdDi_ ctDi_), slDi_⟩)
    (cDi_ : PySem.W.codeIn K cdDi_ "_law_divided" = true)
    (kDi_ : PySem.W.keepIn K (.ref fDi) = true)
    (aOr_ : PySem.W.nsIn K mainGlobals "_law_order" = some (some (.ref fOr)))
    (lOr_ : K.lookup fOr = some ⟨ocOr_, odOr_, .func (PySem.W.fnOf "_law_order" "_law_order" (defArgs sOrder) (defBody sOrder) (defScope sOrder) .none kVOr_ dcOr_ pmOr_ anOr_ cdOr_ ctOr_), slOr_⟩)
    (cOr_ : PySem.W.codeIn K cdOr_ "_law_order" = true)
    (kOr_ : PySem.W.keepIn K (.ref fOr) = true)
    (aSo_ : PySem.W.nsIn K mainGlobals "_law_sort" = some (some (.ref fSo)))
    (lSo_ : K.lookup fSo = some ⟨ocSo_, odSo_, .func (PySem.W.fnOf "_law_sort" "_law_sort" (defArgs sSort) (defBody sSort) (defScope sSort) .none kVSo_ dcSo_ pmSo_ anSo_ cdSo_ ctSo_), slSo_⟩)
    (cSo_ : PySem.W.codeIn K cdSo_ "_law_sort" = true)
    (kSo_ : PySem.W.keepIn K (.ref fSo) = true)
    (aTl_ : PySem.W.nsIn K mainGlobals "_law_told" = some (some (.ref fTl)))
    (lTl_ : K.lookup fTl = some ⟨ocTl_, odTl_, .func (PySem.W.fnOf "_law_told" "_law_told" (defArgs sTold) (defBody sTold) (defScope sTold) .none kVTl_ dcTl_ pmTl_ anTl_ cdTl_ ctTl_), slTl_⟩)
    (cTl_ : PySem.W.codeIn K cdTl_ "_law_told" = true)
    (kTl_ : PySem.W.keepIn K (.ref fTl) = true)
    (aZe_ : PySem.W.nsIn K mainGlobals "_law_zeros" = some (some (.ref fZe)))
    (lZe_ : K.lookup fZe = some ⟨ocZe_, odZe_, .func (PySem.W.fnOf "_law_zeros" "_law_zeros" (defArgs sZeros) (defBody sZeros) (defScope sZeros) .none kVZe_ dcZe_ pmZe_ anZe_ cdZe_ ctZe_), slZe_⟩)
    (cZe_ : PySem.W.codeIn K cdZe_ "_law_zeros" = true)
    (kZe_ : PySem.W.keepIn K (.ref fZe) = true)
    (aWr_ : PySem.W.nsIn K mainGlobals "_law_written" = some (some (.ref fWr)))
    (lWr_ : K.lookup fWr = some ⟨ocWr_, odWr_, .func (PySem.W.fnOf "_law_written" "_law_written" (defArgs sWrit) (defBody sWrit) (defScope sWrit) .none kVWr_ dcWr_ pmWr_ anWr_ cdWr_ ctWr_), slWr_⟩)
    (cWr_ : PySem.W.codeIn K cdWr_ "_law_written" = true)
    (kWr_ : PySem.W.keepIn K (.ref fWr) = true)
    (aPt_ : PySem.W.nsIn K mainGlobals "_law_put" = some (some (.ref fPt)))
    (lPt_ : K.lookup fPt = some ⟨ocPt_, odPt_, .func (PySem.W.fnOf "_law_put" "_law_put" (defArgs sPut) (defBody sPut) (defScope sPut) .none kVPt_ dcPt_ pmPt_ anPt_ cdPt_ ctPt_), slPt_⟩)
    (cPt_ : PySem.W.codeIn K cdPt_ "_law_put" = true)
    (kPt_ : PySem.W.keepIn K (.ref fPt) = true)
    (aSp_ : PySem.W.nsIn K mainGlobals "_law_spoilt" = some (some (.ref fSp)))
    (lSp_ : K.lookup fSp = some ⟨ocSp_, odSp_, .func (PySem.W.fnOf "_law_spoilt" "_law_spoilt" (defArgs sSpoilt) (defBody sSpoilt) (defScope sSpoilt) .none kVSp_ dcSp_ pmSp_ anSp_ cdSp_ ctSp_), slSp_⟩)
    (cSp_ : PySem.W.codeIn K cdSp_ "_law_spoilt" = true)
    (kSp_ : PySem.W.keepIn K (.ref fSp) = true)
    (aTe_ : PySem.W.nsIn K mainGlobals "_law_texts" = some (some (.ref fTe)))
    (lTe_ : K.lookup fTe = some ⟨ocTe_, odTe_, .func (PySem.W.fnOf "_law_texts" "_law_texts" (defArgs sTexts) (defBody sTexts) (defScope sTexts) .none kVTe_ dcTe_ pmTe_ anTe_ cdTe_ ctTe_), slTe_⟩)
    (cTe_ : PySem.W.codeIn K cdTe_ "_law_texts" = true)
    (kTe_ : PySem.W.keepIn K (.ref fTe) = true)
    (aLa_ : PySem.W.nsIn K mainGlobals "law" = some (some (.ref fLa)))
    (lLa_ : K.lookup fLa = some ⟨ocLa_, odLa_, .func (PySem.W.fnOf "law" "law" (defArgs sLaw) (defBody sLaw) (defScope sLaw) .none kVLa_ dcLa_ pmLa_ anLa_ cdLa_ ctLa_), slLa_⟩)
    (cLa_ : PySem.W.codeIn K cdLa_ "law" = true)
    (kLa_ : PySem.W.keepIn K (.ref fLa) = true) :
    ∃ fd : FuncData, (∀ (s : Shared) (v : Value), BindsTo s fd ⟨[v], []⟩ [("script", v)]) ∧ ∀ base : Heap, K.In base → base.Ns mainGlobals mg → FnOk l.prog w K mg base (L2.CX l.prog w) 10 fa fd ["script"] (spLaw K) :=
  all_core (A := { C := F_C, Z := F_Z, T := F_T, B := F_B, W := F_W, init := F_init, add := F_add, radd := F_radd, sub := F_sub, rsub := F_rsub, mul := F_mul, rmul := F_rmul, flo := F_flo, rflo := F_rflo, mod := F_mod, rmod := F_rmod, pow := F_pow, neg := F_neg, abs := F_abs, bool := F_bool, eq := F_eq, lt := F_lt, le := F_le, gt := F_gt, ge := F_ge, str := F_str, over := F_over, of_ := F_of_, read := F_read, isnum := F_isnum, wq := F_wq, rdb := F_rdb, pOf := F_pOf, pRead := F_pRead }) X G hfa aC aZ aT aB aW aM agcd amp n_isinstance n_int n_all n_abs n_bool n_len n_str n_range n_ValueError pg hd po sa mk kc nN nD ca cg ct cm isC tC su1 su2 sf lC ne rdC gaC iaC iaO iaI rpw md i1add i2add i1sub i2sub i1mul i2mul i1flo i2flo i1mod i2mod i1pow i2pow xgZ xkZ xsZ xhZ xaZ xmZ xtZ xeZ xvZ xwZ xWZ xBZ xMZ xgT xkT xsT xhT xaT xmT xtT xeT xvT xwT xWT xBT xMT xZT xTZ kkZ kkT kkW ktW kkB ktB kkM ktM xZ xlT reT saT xnT iT tI lI cI kI a_init i_init l_init c_init k_init lTd a_add i_add l_add c_add k_add a_radd i_radd l_radd c_radd k_radd a_sub i_sub l_sub c_sub k_sub a_rsub i_rsub l_rsub c_rsub k_rsub a_mul i_mul l_mul c_mul k_mul a_rmul i_rmul l_rmul c_rmul k_rmul a_flo i_flo l_flo c_flo k_flo a_rflo i_rflo l_rflo c_rflo k_rflo a_mod i_mod l_mod c_mod k_mod a_rmod i_rmod l_rmod c_rmod k_rmod a_pow i_pow l_pow c_pow k_pow a_neg i_neg l_neg c_neg k_neg a_abs i_abs l_abs c_abs k_abs a_bool i_bool l_bool c_bool k_bool a_eq i_eq l_eq c_eq k_eq a_lt i_lt l_lt c_lt k_lt a_le i_le l_le c_le k_le a_gt i_gt l_gt c_gt k_gt a_ge i_ge l_ge c_ge k_ge a_str i_str l_str c_str k_str a_over i_over l_over c_over k_over a_of_ r_of_ l_of_ c_of_ k_of_ a_read r_read l_read c_read k_read a_isnum l_isnum c_isnum k_isnum a_wq l_wq c_wq k_wq a_rdb l_rdb c_rdb k_rdb aPo_ lPo_ cPo_ kPo_ aPk_ lPk_ cPk_ kPk_ aSi_ lSi_ cSi_ kSi_ aTo_ lTo_ cTo_ kTo_ aLo_ lLo_ cLo_ kLo_ aSm_ lSm_ cSm_ kSm_ aTm_ lTm_ cTm_ kTm_ aPr_ lPr_ cPr_ kPr_ aIn_ lIn_ cIn_ kIn_ aIs_ lIs_ cIs_ kIs_ aSu_ lSu_ cSu_ kSu_ aPw_ lPw_ cPw_ kPw_ aFl_ lFl_ cFl_ kFl_ aDi_ lDi_ cDi_ kDi_ aOr_ lOr_ cOr_ kOr_ aSo_ lSo_ cSo_ kSo_ aTl_ lTl_ cTl_ kTl_ aZe_ lZe_ cZe_ kZe_ aWr_ lWr_ cWr_ kWr_ aPt_ lPt_ cPt_ kPt_ aSp_ lSp_ cSp_ kSp_ aTe_ lTe_ cTe_ kTe_ aLa_ lLa_ cLa_ kLa_
theorem walk {l : PySem.W.OpenLaw} {q : Program} {loose : List Str} {XP : (Str → Option Value) → Heap → Prop} {YP : World → Heap → Prop} {d : DefRec} {K : Params → PySem.W.Frag} (hn : l.most = some 63) (hdf : d.params.defaults = [])
    (hY : ∀ (w : World) (h : Heap), YP w h → (K w.params).In h)
    (F : ∀ (w : World) (mg : Str → Option Value) (fa : Addr) (h : Heap), (K w.params).In h → h.Ns mainGlobals mg → mg d.name = some (.ref fa) →
      ∃ fd : FuncData, (∀ (s : Shared) (u : Value), BindsTo s fd ⟨[u], []⟩ [("script", u)]) ∧ ∀ base : Heap, (K w.params).In base → base.Ns mainGlobals mg → FnOk l.prog w (K w.params) mg base (L2.CX l.prog w) 10 fa fd ["script"] (spLaw (K w.params))) :
    PySem.W.WalkO q loose XP YP l.row.toRowW d [] (fun f vs => PySem.call f vs) :=
  L2.walk_of (n := 63) (k := 10) (x := "script") (CX := fun w => L2.CX l.prog w) (sp := fun w => spLaw (K w.params)) hn (by decide) hdf ⟨rfl, by decide, by decide⟩ hY F (fun _ _ a ns hl _ hS => ⟨a, ns, rfl, hS, hl, fun _ => rfl⟩) fun _ _ _ _ _ z => by
    obtain ⟨_, _, _, _, _, _, _, _, _, _, _, _, z⟩ := z
    exact z
end Fx
set_option Elab.async false
set_option maxRecDepth 100000
open PySem PySem.W PyProof.Rows
set_option maxRecDepth 100000 in
set_option maxHeartbeats 0 in
theorem PySem.Challenge.cw_rodwebs_k01_fractions_holds : PySem.Challenge.rw_rodwebs_k01_fractions.Holds := by
  w_on; o_law; k_head; (case hw => w_witness2)
  k_fill
  refine Fx.walk (l := PySem.Challenge.rw_rodwebs_k01_fractions) rfl rfl (fun w h Y => PySem.W.kIn_of Y) ?F
  case F =>
    intro w mg fa h KX G hmg
    refine' Fx.all_mk KX G hmg ?aC ?aZ ?aT ?aB ?aW ?aM ?agcd ?amp ?n_isinstance ?n_int ?n_all ?n_abs ?n_bool ?n_len ?n_str ?n_range ?n_ValueError ?pg ?hd ?po ?sa ?mk ?kc ?nN ?nD ?ca ?cg ?ct ?cm ?isC ?tC ?su1 ?su2 ?sf ?lC ?ne ?rdC ?gaC ?iaC ?iaO ?iaI ?rpw ?md ?i1add ?i2add ?i1sub ?i2sub ?i1mul ?i2mul ?i1flo ?i2flo ?i1mod ?i2mod ?i1pow ?i2pow ?xgZ ?xkZ ?xsZ ?xhZ ?xaZ ?xmZ ?xtZ ?xeZ ?xvZ ?xwZ ?xWZ ?xBZ ?xMZ ?xgT ?xkT ?xsT ?xhT ?xaT ?xmT ?xtT ?xeT ?xvT ?xwT ?xWT ?xBT ?xMT ?xZT ?xTZ ?kkZ ?kkT ?kkW ?ktW ?kkB ?ktB ?kkM ?ktM ?xZ ?xlT ?reT ?saT ?xnT ?iT ?tI ?lI ?cI ?kI ?a_init ?i_init ?l_init ?c_init ?k_init ?lTd ?a_add ?i_add ?l_add ?c_add ?k_add ?a_radd ?i_radd ?l_radd ?c_radd ?k_radd ?a_sub ?i_sub ?l_sub ?c_sub ?k_sub ?a_rsub ?i_rsub ?l_rsub ?c_rsub ?k_rsub ?a_mul ?i_mul ?l_mul ?c_mul ?k_mul ?a_rmul ?i_rmul ?l_rmul ?c_rmul ?k_rmul ?a_flo ?i_flo ?l_flo ?c_flo ?k_flo ?a_rflo ?i_rflo ?l_rflo ?c_rflo ?k_rflo ?a_mod ?i_mod ?l_mod ?c_mod ?k_mod ?a_rmod ?i_rmod ?l_rmod ?c_rmod ?k_rmod ?a_pow ?i_pow ?l_pow ?c_pow ?k_pow ?a_neg ?i_neg ?l_neg ?c_neg ?k_neg ?a_abs ?i_abs ?l_abs ?c_abs ?k_abs ?a_bool ?i_bool ?l_bool ?c_bool ?k_bool ?a_eq ?i_eq ?l_eq ?c_eq ?k_eq ?a_lt ?i_lt ?l_lt ?c_lt ?k_lt ?a_le ?i_le ?l_le ?c_le ?k_le ?a_gt ?i_gt ?l_gt ?c_gt ?k_gt ?a_ge ?i_ge ?l_ge ?c_ge ?k_ge ?a_str ?i_str ?l_str ?c_str ?k_str ?a_over ?i_over ?l_over ?c_over ?k_over ?a_of_ ?r_of_ ?l_of_ ?c_of_ ?k_of_ ?a_read ?r_read ?l_read ?c_read ?k_read ?a_isnum ?l_isnum ?c_isnum ?k_isnum ?a_wq ?l_wq ?c_wq ?k_wq ?a_rdb ?l_rdb ?c_rdb ?k_rdb ?aPo_ ?lPo_ ?cPo_ ?kPo_ ?aPk_ ?lPk_ ?cPk_ ?kPk_ ?aSi_ ?lSi_ ?cSi_ ?kSi_ ?aTo_ ?lTo_ ?cTo_ ?kTo_ ?aLo_ ?lLo_ ?cLo_ ?kLo_ ?aSm_ ?lSm_ ?cSm_ ?kSm_ ?aTm_ ?lTm_ ?cTm_ ?kTm_ ?aPr_ ?lPr_ ?cPr_ ?kPr_ ?aIn_ ?lIn_ ?cIn_ ?kIn_ ?aIs_ ?lIs_ ?cIs_ ?kIs_ ?aSu_ ?lSu_ ?cSu_ ?kSu_ ?aPw_ ?lPw_ ?cPw_ ?kPw_ ?aFl_ ?lFl_ ?cFl_ ?kFl_ ?aDi_ ?lDi_ ?cDi_ ?kDi_ ?aOr_ ?lOr_ ?cOr_ ?kOr_ ?aSo_ ?lSo_ ?cSo_ ?kSo_ ?aTl_ ?lTl_ ?cTl_ ?kTl_ ?aZe_ ?lZe_ ?cZe_ ?kZe_ ?aWr_ ?lWr_ ?cWr_ ?kWr_ ?aPt_ ?lPt_ ?cPt_ ?kPt_ ?aSp_ ?lSp_ ?cSp_ ?kSp_ ?aTe_ ?lTe_ ?cTe_ ?kTe_ ?aLa_ ?lLa_ ?cLa_ ?kLa_
    (case aC => k_is); (case aZ => k_is); (case aT => k_is); (case aB => k_is); (case aW => k_is); (case aM => k_is)
    (case agcd => k_is); (case amp => k_is); (case n_isinstance => k_is); (case n_int => k_is); (case n_all => k_is); (case n_abs => k_is)
    (case n_bool => k_is); (case n_len => k_is); (case n_str => k_is); (case n_range => k_is); (case n_ValueError => k_is); (case pg => k_is)
    (case hd => k_is); (case po => k_is); (case sa => k_is); (case mk => k_is); (case kc => k_is); (case nN => k_is)
    (case nD => k_is); (case ca => k_is); (case cg => k_is); (case ct => k_is); (case cm => k_is); (case isC => k_is)
    (case tC => k_is); (case su1 => k_is); (case su2 => k_is); (case sf => k_is); (case lC => k_is); (case ne => k_is)
    (case rdC => k_is); (case gaC => k_is); (case iaC => k_is); (case iaO => k_is); (case iaI => k_is); (case rpw => k_is)
    (case md => k_is); (case i1add => k_is); (case i2add => k_is); (case i1sub => k_is); (case i2sub => k_is); (case i1mul => k_is)
    (case i2mul => k_is); (case i1flo => k_is); (case i2flo => k_is); (case i1mod => k_is); (case i2mod => k_is); (case i1pow => k_is)
    (case i2pow => k_is); (case xgZ => k_is); (case xkZ => k_is); (case xsZ => k_is); (case xhZ => k_is); (case xaZ => k_is)
    (case xmZ => k_is); (case xtZ => k_is); (case xeZ => k_is); (case xvZ => k_is); (case xwZ => k_is); (case xWZ => k_is)
    (case xBZ => k_is); (case xMZ => k_is); (case xgT => k_is); (case xkT => k_is); (case xsT => k_is); (case xhT => k_is)
    (case xaT => k_is); (case xmT => k_is); (case xtT => k_is); (case xeT => k_is); (case xvT => k_is); (case xwT => k_is)
    (case xWT => k_is); (case xBT => k_is); (case xMT => k_is); (case xZT => k_is); (case xTZ => k_is); (case kkZ => k_is)
    (case kkT => k_is); (case kkW => k_is); (case ktW => k_is); (case kkB => k_is); (case ktB => k_is); (case kkM => k_is)
    (case ktM => k_is); (case xZ => k_exc); (case xlT => k_is); (case reT => (first | rfl | decide +kernel)); (case saT => k_is); (case xnT => k_is)
    (case iT => k_is); (case tI => k_is); (case lI => k_is); (case cI => k_is); (case kI => k_is); (case a_init => k_is)
    (case i_init => k_is); (case l_init => k_is); (case c_init => k_is); (case k_init => k_is); (case lTd => k_is); (case a_add => k_is)
    (case i_add => k_is); (case l_add => k_is); (case c_add => k_is); (case k_add => k_is); (case a_radd => k_is); (case i_radd => k_is)
    (case l_radd => k_is); (case c_radd => k_is); (case k_radd => k_is); (case a_sub => k_is); (case i_sub => k_is); (case l_sub => k_is)
    (case c_sub => k_is); (case k_sub => k_is); (case a_rsub => k_is); (case i_rsub => k_is); (case l_rsub => k_is); (case c_rsub => k_is)
    (case k_rsub => k_is); (case a_mul => k_is); (case i_mul => k_is); (case l_mul => k_is); (case c_mul => k_is); (case k_mul => k_is)
    (case a_rmul => k_is); (case i_rmul => k_is); (case l_rmul => k_is); (case c_rmul => k_is); (case k_rmul => k_is); (case a_flo => k_is)
    (case i_flo => k_is); (case l_flo => k_is); (case c_flo => k_is); (case k_flo => k_is); (case a_rflo => k_is); (case i_rflo => k_is)
    (case l_rflo => k_is); (case c_rflo => k_is); (case k_rflo => k_is); (case a_mod => k_is); (case i_mod => k_is); (case l_mod => k_is)
    (case c_mod => k_is); (case k_mod => k_is); (case a_rmod => k_is); (case i_rmod => k_is); (case l_rmod => k_is); (case c_rmod => k_is)
    (case k_rmod => k_is); (case a_pow => k_is); (case i_pow => k_is); (case l_pow => k_is); (case c_pow => k_is); (case k_pow => k_is)
    (case a_neg => k_is); (case i_neg => k_is); (case l_neg => k_is); (case c_neg => k_is); (case k_neg => k_is); (case a_abs => k_is)
    (case i_abs => k_is); (case l_abs => k_is); (case c_abs => k_is); (case k_abs => k_is); (case a_bool => k_is); (case i_bool => k_is)
    (case l_bool => k_is); (case c_bool => k_is); (case k_bool => k_is); (case a_eq => k_is); (case i_eq => k_is); (case l_eq => k_is)
    (case c_eq => k_is); (case k_eq => k_is); (case a_lt => k_is); (case i_lt => k_is); (case l_lt => k_is); (case c_lt => k_is)
    (case k_lt => k_is); (case a_le => k_is); (case i_le => k_is); (case l_le => k_is); (case c_le => k_is); (case k_le => k_is)
    (case a_gt => k_is); (case i_gt => k_is); (case l_gt => k_is); (case c_gt => k_is); (case k_gt => k_is); (case a_ge => k_is)
    (case i_ge => k_is); (case l_ge => k_is); (case c_ge => k_is); (case k_ge => k_is); (case a_str => k_is); (case i_str => k_is)
    (case l_str => k_is); (case c_str => k_is); (case k_str => k_is); (case a_over => k_is); (case i_over => k_is); (case l_over => k_is)
    (case c_over => k_is); (case k_over => k_is); (case a_of_ => k_is); (case r_of_ => k_is); (case l_of_ => k_is); (case c_of_ => k_is)
    (case k_of_ => k_is); (case a_read => k_is); (case r_read => k_is); (case l_read => k_is); (case c_read => k_is); (case k_read => k_is)
    (case a_isnum => k_is); (case l_isnum => k_is); (case c_isnum => k_is); (case k_isnum => k_is); (case a_wq => k_is); (case l_wq => k_is)
    (case c_wq => k_is); (case k_wq => k_is); (case a_rdb => k_is); (case l_rdb => k_is); (case c_rdb => k_is); (case k_rdb => k_is)
    (case aPo_ => k_is); (case lPo_ => k_is); (case cPo_ => k_is); (case kPo_ => k_is); (case aPk_ => k_is); (case lPk_ => k_is)
    (case cPk_ => k_is); (case kPk_ => k_is); (case aSi_ => k_is); (case lSi_ => k_is); (case cSi_ => k_is); (case kSi_ => k_is)
    (case aTo_ => k_is); (case lTo_ => k_is); (case cTo_ => k_is); (case kTo_ => k_is); (case aLo_ => k_is); (case lLo_ => k_is)
    (case cLo_ => k_is); (case kLo_ => k_is); (case aSm_ => k_is); (case lSm_ => k_is); (case cSm_ => k_is); (case kSm_ => k_is)
    (case aTm_ => k_is); (case lTm_ => k_is); (case cTm_ => k_is); (case kTm_ => k_is); (case aPr_ => k_is); (case lPr_ => k_is)
    (case cPr_ => k_is); (case kPr_ => k_is); (case aIn_ => k_is); (case lIn_ => k_is); (case cIn_ => k_is); (case kIn_ => k_is)
    (case aIs_ => k_is); (case lIs_ => k_is); (case cIs_ => k_is); (case kIs_ => k_is); (case aSu_ => k_is); (case lSu_ => k_is)
    (case cSu_ => k_is); (case kSu_ => k_is); (case aPw_ => k_is); (case lPw_ => k_is); (case cPw_ => k_is); (case kPw_ => k_is)
    (case aFl_ => k_is); (case lFl_ => k_is); (case cFl_ => k_is); (case kFl_ => k_is); (case aDi_ => k_is); (case lDi_ => k_is)
    (case cDi_ => k_is); (case kDi_ => k_is); (case aOr_ => k_is); (case lOr_ => k_is); (case cOr_ => k_is); (case kOr_ => k_is)
    (case aSo_ => k_is); (case lSo_ => k_is); (case cSo_ => k_is); (case kSo_ => k_is); (case aTl_ => k_is); (case lTl_ => k_is)
    (case cTl_ => k_is); (case kTl_ => k_is); (case aZe_ => k_is); (case lZe_ => k_is); (case cZe_ => k_is); (case kZe_ => k_is)
    (case aWr_ => k_is); (case lWr_ => k_is); (case cWr_ => k_is); (case kWr_ => k_is); (case aPt_ => k_is); (case lPt_ => k_is)
    (case cPt_ => k_is); (case kPt_ => k_is); (case aSp_ => k_is); (case lSp_ => k_is); (case cSp_ => k_is); (case kSp_ => k_is)
    (case aTe_ => k_is); (case lTe_ => k_is); (case cTe_ => k_is); (case kTe_ => k_is); (case aLa_ => k_is); (case lLa_ => k_is)
    (case cLa_ => k_is); (case kLa_ => k_is)
