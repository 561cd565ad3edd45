import PyProof.Rows.All
import Wide.All
import OpenK.AllK
import Wide.FinOn
import PySem.Challenge.RW_rodwebs_k20_first_arrival
import HandS.HeadHook2
import HandS.Head3
import PyProof.TwoTypes
import PyProof.InstNe
import KE.KOpsOwn
import KE.KCallOwn
import HandS.ForMost
import HandS.ForExc
import HandS.OwnEq
import HandS.ClsMeth
import KE.GoesEnum
import KE.GoesMore
import HandS.Zip
import HandS.Walk
import HandS.Defaults
import HandS.Gcd
import HandS.Wide
import HandS.Small
import HandS.IsInst
import HandS.Text
import HandS.FStr
import HandS.Flow
import HandS.WideMore
import PyProof.StrBlock2
import HandS.TryMany
import HandS.ExcIs
import HandS.ExcField
import HandS.ExcInit
import HandS.HotCalls
import KE.KExcIs
import PyProof.SumWalk
import HandS.SortKw
import KE.KMathG
import HandS.Star
import HandS.TupAny
import HandS.Dict
import HandS.Codes
import HandS.Property
import HandS.Deep
import HandS.TupLe
import HandS.Style
import HandS.WideBits
import KE.IntTextLaws
import HandS.Lambda
import HandS.TryOnly
import HandS.Iter
import HandS.MakeKwOnly
import HandS.HeadEnd
set_option Elab.async false
set_option linter.all false
set_option maxRecDepth 100000
set_option maxHeartbeats 8000000
set_option exponentiation.threshold 20000
/-! What the head tells: defs and facts, at addresses that stand written. -/
namespace Fx
open PySem PySem.Spec PyProof.Rows L2
def top (i : Nat) : Stmt := PySem.Challenge.pw_rodwebs_k20_first_arrival.main.body.getD i (.Pass ⟨0, 0, 0, 0⟩)
/-- a def at an address, as the text has it -/
structure Df where
  a : Addr
  nm : Str
  ql : Str
  st : Stmt
  dv : List V
  kw : List (Str × V) := []
abbrev DfT : Type := Option ((Str × Str) × (Arguments × FuncBody × Scope) × (Addr × List (Str × Addr) × Addr))
def Df.told (K : PySem.W.Frag) (d : Df) : DfT := match K.lookup d.a with
  | some ⟨_, _, .func z, _⟩ => some ((z.name, z.qualname), (z.params, z.body, z.scope), (z.globals, z.closure, z.builtins))
  | _ => none
def Df.due (d : Df) : DfT := some ((d.nm, d.ql), (defArgs d.st, FuncBody.stmts (defBody d.st), defScope d.st), (mainGlobals, [], builtinsNs))
def Df.fine (K : PySem.W.Frag) (d : Df) : Bool := match K.lookup d.a with
  | some ⟨_, _, .func z, _⟩ => He.dflB K z.defaults d.dv && (PySem.W.codeIn K z.code d.ql && (PySem.W.keepIn K (.ref d.a) && He.kwdB K z.kwdefaults d.kw))
  | _ => false
theorem Df.fund {K : PySem.W.Frag} {d : Df} (h1 : d.told K = d.due) (h2 : d.fine K = true) : ∃ fd, FunD K d.nm d.ql (defArgs d.st) (defBody d.st) (defScope d.st) d.dv d.kw d.a fd := by
  unfold Df.told Df.due at h1
  unfold Df.fine at h2
  cases e : K.lookup d.a with
  | none => rw [e] at h1; cases h1
  | some ob =>
    rw [e] at h1 h2
    obtain ⟨oc, od, dt, sl⟩ := ob
    cases dt with
    | func z =>
      obtain ⟨z1, z2, z3, z4, z5, z6, z7, z8, z9, za, zb, zc, zd, ze, zf⟩ := z
      dsimp only at h1 h2
      obtain ⟨⟨rfl, rfl⟩, ⟨rfl, rfl, rfl⟩, rfl, rfl, rfl⟩ : (z1 = d.nm ∧ z2 = d.ql) ∧ (z3 = defArgs d.st ∧ z4 = FuncBody.stmts (defBody d.st) ∧ z5 = defScope d.st) ∧ z6 = mainGlobals ∧ z7 = [] ∧ zf = builtinsNs := by simpa only [Option.some.injEq, Prod.mk.injEq] using h1
      obtain ⟨k1, k2⟩ := Bool.and_eq_true_iff.mp h2
      obtain ⟨k3, k5⟩ := Bool.and_eq_true_iff.mp k2
      obtain ⟨k4, k6⟩ := Bool.and_eq_true_iff.mp k5
      exact ⟨_, ⟨oc, od, z8, z9, za, zb, zc, zd, ze, sl, rfl, e, k3, He.dflB_ok k1, He.kwdB_ok k6⟩, k4⟩
    | _ => cases h1
theorem fun_of {K : PySem.W.Frag} {x q : Str} {st : Stmt} {f : Addr} {fd : FuncData} (F : FunD K x q (defArgs st) (defBody st) (defScope st) [] [] f fd) : Fun K x q st f fd := by
  obtain ⟨oc, od, dV, kV, doc, pm, an, cdv, ct, osl, e, lk, hcd, hD, _⟩ := F.ex
  rcases hD with ⟨_, rfl⟩ | ⟨z, _⟩
  · exact ⟨⟨oc, od, kV, doc, pm, an, cdv, ct, osl, e, lk, hcd⟩, F.kp⟩
  · exact absurd rfl z
def tkG (K : PySem.W.Frag) (x : Str) : Tok := match PySem.W.nsIn K mainGlobals x with
  | some (some (.int _ t)) => t
  | _ => default
def tkC (K : PySem.W.Frag) (v : Value) (x : Str) : Tok := match PySem.W.findCls K v (.type "type") x with
  | some (.val (.int _ t)) => t
  | _ => default
def foI (K : PySem.W.Frag) (t : String) (x : Str) : Option Value := match PySem.W.findIn K (.type t) x with
  | some z => z
  | none => none
def reI (K : PySem.W.Frag) (p : Addr) (t : String) : List Value := match PySem.W.recIn K p t with
  | some (_ :: r) => r
  | _ => []
def lookT (K : PySem.W.Frag) (a : Addr) : Option (Value × Option Addr × List Value × Nat × Array (Option Value)) := match K.lookup a with
  | some ⟨c, od, .seq its n, sl⟩ => some (c, od, its.toList, n, sl)
  | _ => none
theorem lookT_ok {K : PySem.W.Frag} {a : Addr} {c : Value} {l : List Value} (h : (lookT K a).map (fun q => (q.1, q.2.2.1)) = some (c, l)) : ∃ od n sl, K.lookup a = some ⟨c, od, .seq l.toArray n, sl⟩ := by
  unfold lookT at h
  cases e : K.lookup a with
  | none => rw [e] at h; cases h
  | some ob =>
    rw [e] at h
    obtain ⟨oc, od, dt, sl⟩ := ob
    cases dt with
    | seq its n =>
      obtain ⟨rfl, rfl⟩ : oc = c ∧ its.toList = l := by simpa using h
      exact ⟨od, n, sl, by simp⟩
    | _ => cases h
def tkI (K : PySem.W.Frag) (a : Addr) (i : Nat) : Tok := match lookT K a with
  | some (_, _, l, _, _) => (match l[i]? with
    | some (.str _ t) => t
    | _ => default)
  | none => default
instance decCF : DecidableEq PySem.W.CFound
  | .val a, .val b => if h : a = b then isTrue (by rw [h]) else isFalse (fun e => h (by cases e; rfl))
  | .get a b c d, .get a' b' c' d' => if h : a = a' ∧ b = b' ∧ c = c' ∧ d = d' then isTrue (by obtain ⟨rfl, rfl, rfl, rfl⟩ := h; rfl) else isFalse (fun e => h (by cases e; exact ⟨rfl, rfl, rfl, rfl⟩))
  | .val _, .get _ _ _ _ => isFalse (by intro e; cases e)
  | .get _ _ _ _, .val _ => isFalse (by intro e; cases e)
def dfs : List Df := [⟨837, "__init__", "Player.__init__", (inClass (top 60) 0), [], []⟩,
  ⟨898, "__init__", "Web.__init__", (inClass (top 62) 4), [.ref 890, .ref 891, .ref 892], []⟩,
  ⟨309, "__init__", "NoEar.__init__", (inClass (top 17) 0), [], []⟩,
  ⟨271, "__init__", "NoJoint.__init__", (inClass (top 15) 0), [], []⟩,
  ⟨966, "forth", "Web.forth", (inClass (top 62) 14), [], []⟩,
  ⟨973, "backs", "Web.backs", (inClass (top 62) 15), [], []⟩,
  ⟨987, "_arriving", "Web._arriving", (inClass (top 62) 17), [], []⟩,
  ⟨935, "tick", "Web.tick", (inClass (top 62) 9), [], []⟩,
  ⟨842, "rest", "Player.rest", (inClass (top 60) 1), [], []⟩,
  ⟨431, "__init__", "Frac.__init__", (inClass (top 39) 1), [.int 0, .int 1], []⟩,
  ⟨438, "__add__", "Frac.__add__", (inClass (top 39) 2), [], []⟩,
  ⟨445, "__radd__", "Frac.__radd__", (inClass (top 39) 3), [], []⟩,
  ⟨452, "__sub__", "Frac.__sub__", (inClass (top 39) 4), [], []⟩,
  ⟨459, "__rsub__", "Frac.__rsub__", (inClass (top 39) 5), [], []⟩,
  ⟨466, "__mul__", "Frac.__mul__", (inClass (top 39) 6), [], []⟩,
  ⟨473, "__rmul__", "Frac.__rmul__", (inClass (top 39) 7), [], []⟩,
  ⟨480, "__floordiv__", "Frac.__floordiv__", (inClass (top 39) 8), [], []⟩,
  ⟨487, "__rfloordiv__", "Frac.__rfloordiv__", (inClass (top 39) 9), [], []⟩,
  ⟨494, "__mod__", "Frac.__mod__", (inClass (top 39) 10), [], []⟩,
  ⟨501, "__rmod__", "Frac.__rmod__", (inClass (top 39) 11), [], []⟩,
  ⟨508, "__pow__", "Frac.__pow__", (inClass (top 39) 12), [], []⟩,
  ⟨515, "__neg__", "Frac.__neg__", (inClass (top 39) 13), [], []⟩,
  ⟨522, "__abs__", "Frac.__abs__", (inClass (top 39) 14), [], []⟩,
  ⟨529, "__bool__", "Frac.__bool__", (inClass (top 39) 15), [], []⟩,
  ⟨536, "__eq__", "Frac.__eq__", (inClass (top 39) 16), [], []⟩,
  ⟨543, "__lt__", "Frac.__lt__", (inClass (top 39) 17), [], []⟩,
  ⟨550, "__le__", "Frac.__le__", (inClass (top 39) 18), [], []⟩,
  ⟨557, "__gt__", "Frac.__gt__", (inClass (top 39) 19), [], []⟩,
  ⟨564, "__ge__", "Frac.__ge__", (inClass (top 39) 20), [], []⟩,
  ⟨571, "__str__", "Frac.__str__", (inClass (top 39) 21), [], []⟩,
  ⟨578, "over", "Frac.over", (inClass (top 39) 22), [], []⟩,
  ⟨585, "of", "Frac.of", (inClass (top 39) 23), [], []⟩,
  ⟨612, "is_number", "is_number", (top 40), [], []⟩,
  ⟨634, "_whole_quotient", "_whole_quotient", (top 44), [], []⟩,
  ⟨322, "check_count", "check_count", (top 21), [], []⟩,
  ⟨329, "check_size", "check_size", (top 22), [], []⟩,
  ⟨336, "check_length", "check_length", (top 23), [], []⟩,
  ⟨343, "check_kind", "check_kind", (top 24), [], []⟩,
  ⟨350, "check_strength", "check_strength", (top 25), [], []⟩,
  ⟨357, "check_rod_length", "check_rod_length", (top 26), [], []⟩,
  ⟨364, "check_twist", "check_twist", (top 27), [], []⟩,
  ⟨371, "check_joint", "check_joint", (top 28), [], []⟩,
  ⟨378, "check_rod", "check_rod", (top 29), [], []⟩,
  ⟨617, "fracs_of", "fracs_of", (top 41), [], []⟩,
  ⟨622, "shared", "shared", (top 42), [], []⟩,
  ⟨627, "dot", "dot", (top 43), [], []⟩,
  ⟨823, "_total", "_total", (top 58), [], []⟩,
  ⟨811, "_check_joint_arms", "_check_joint_arms", (top 56), [], []⟩,
  ⟨816, "_common_number", "_common_number", (top 57), [], []⟩,
  ⟨804, "scatter", "scatter", (top 55), [], []⟩,
  ⟨999, "rod_with_twist", "rod_with_twist", (top 63), [], []⟩,
  ⟨1004, "cell_count", "cell_count", (top 64), [], []⟩,
  ⟨1011, "check_cells", "check_cells", (top 65), [], []⟩,
  ⟨1018, "_check_joints", "_check_joints", (top 66), [], []⟩,
  ⟨1025, "_check_rods", "_check_rods", (top 67), [], []⟩,
  ⟨1032, "_check_ears", "_check_ears", (top 68), [], []⟩,
  ⟨1039, "_cell_strengths", "_cell_strengths", (top 69), [], []⟩,
  ⟨1046, "_arms_at", "_arms_at", (top 70), [], []⟩,
  ⟨1053, "_arm_strength", "_arm_strength", (top 71), [], []⟩,
  ⟨1085, "_law_low", "_law_low", (top 79), [], []⟩,
  ⟨1120, "_law_int", "_law_int", (top 84), [], []⟩,
  ⟨1127, "_law_read", "_law_read", (top 85), [], []⟩,
  ⟨1139, "_law_give", "_law_give", (top 87), [], []⟩,
  ⟨1078, "_law_digit", "_law_digit", (top 78), [], []⟩,
  ⟨1071, "_law_pool", "_law_pool", (top 77), [], []⟩,
  ⟨1146, "_law_power", "_law_power", (top 88), [], []⟩,
  ⟨1151, "_law_web", "_law_web", (top 89), [], []⟩,
  ⟨1156, "_law_made", "_law_made", (top 90), [], []⟩,
  ⟨1064, "_heard_of_knock", "_heard_of_knock", (top 75), [], []⟩,
  ⟨385, "check_ear", "check_ear", (top 30), [], []⟩,
  ⟨1059, "echo", "echo", (top 74), [], [("heard", V.int 0), ("knocked", V.int 0)]⟩,
  ⟨416, "_lesser", "_lesser", (top 36), [], []⟩,
  ⟨404, "_joint_of", "_joint_of", (top 34), [], []⟩,
  ⟨409, "_least_walks", "_least_walks", (top 35), [], []⟩,
  ⟨1175, "_law_told", "_law_told", (top 93), [], []⟩,
  ⟨1161, "_law_far", "_law_far", (top 91), [], []⟩,
  ⟨390, "distances", "distances", (top 32), [], []⟩,
  ⟨397, "ear_distance", "ear_distance", (top 33), [], []⟩,
  ⟨1189, "_law_first", "_law_first", (top 95), [], []⟩,
  ⟨1168, "_law_same", "_law_same", (top 92), [], []⟩,
  ⟨1182, "_law_refused", "_law_refused", (top 94), [], []⟩,
  ⟨1194, "law", "law", (top 96), [], []⟩]
def asks (K : PySem.W.Frag) : List Bool := [decide (PySem.W.nsIn K mainGlobals "Frac" = some (some (.ref (601 : Addr)))),
  decide (PySem.W.nsIn K mainGlobals "DivisionByZero" = some (some (.ref (72 : Addr)))),
  decide (PySem.W.nsIn K mainGlobals "gcd" = some (some (.builtin "math.gcd"))),
  decide (PySem.W.nsIn K mainGlobals "MOST_POWER" = some (some (.int 64 (tkG K "MOST_POWER")))),
  decide (PySem.W.nsIn K mainGlobals "isinstance" = some none),
  decide (PySem.W.nsIn K mainGlobals "int" = some none),
  decide (PySem.W.nsIn K mainGlobals "all" = some none),
  decide (PySem.W.nsIn K mainGlobals "abs" = some none),
  decide (PySem.W.nsIn K mainGlobals "bool" = some none),
  decide (PySem.W.nsIn K mainGlobals "len" = some none),
  decide (PySem.W.nsIn K mainGlobals "str" = some none),
  decide (PySem.W.nsIn K mainGlobals "range" = some none),
  PySem.W.plainGet K (601 : Addr) Str.empty,
  PySem.W.hasDictIn K (601 : Addr),
  PySem.W.plainOver K (601 : Addr),
  decide (PySem.W.findIn K (.ref (601 : Addr)) "__setattr__" = some (some (.builtin "object.__setattr__"))),
  PySem.W.makesIn K (601 : Addr),
  PySem.W.keepIn K (.ref (601 : Addr)),
  decide (PySem.W.findIn K (.ref (601 : Addr)) "num" = some none),
  decide (PySem.W.findIn K (.ref (601 : Addr)) "den" = some none),
  decide (PySem.W.findIn K (.ref (601 : Addr)) "__class__" = some (some (.builtin "object.__class__"))),
  decide (PySem.W.specialIn K (.builtin "object.__class__") "__get__" = some (some (.builtin "getset_descriptor.__get__"))),
  decide (PySem.W.takesIn K (.builtin "object.__class__") = some true),
  decide (PySem.W.mroIn K (601 : Addr) (.type "object") = some true),
  PySem.W.isClsIn K (601 : Addr),
  decide (PySem.W.typeIn K (.ref (601 : Addr)) = some (.type "type")),
  decide (PySem.W.subIn K (.ref (601 : Addr)) (.type "int") = some false),
  decide (PySem.W.subIn K (.type "int") (.ref (601 : Addr)) = some false),
  PySem.W.selfFirst K (601 : Addr),
  decide ((PySem.W.clsIn K (601 : Addr)).map (fun c => c.mro) = some [Value.ref (601 : Addr), .type "object"]),
  decide (PySem.W.findIn K (.ref (601 : Addr)) "__ne__" = some (some (.builtin "object.__ne__"))),
  PySem.W.readsIn K (601 : Addr) (.type "type"),
  decide (PySem.W.specialIn K (.ref (601 : Addr)) "__getattribute__" = some (some (.builtin "type.__getattribute__"))),
  decide (PySem.W.findIn K (.ref (601 : Addr)) "__iadd__" = some none),
  decide (PySem.W.findIn K (.type "object") "__iadd__" = some none),
  decide (PySem.W.findIn K (.type "int") "__iadd__" = some none),
  decide (PySem.W.findIn K (.ref (601 : Addr)) "__rpow__" = some none),
  decide (PySem.W.findIn K (.type "int") "__add__" = some (foI K "int" "__add__")),
  decide (PySem.W.findIn K (.type "int") "__radd__" = some (foI K "int" "__radd__")),
  decide (PySem.W.findIn K (.type "int") "__sub__" = some (foI K "int" "__sub__")),
  decide (PySem.W.findIn K (.type "int") "__rsub__" = some (foI K "int" "__rsub__")),
  decide (PySem.W.findIn K (.type "int") "__mul__" = some (foI K "int" "__mul__")),
  decide (PySem.W.findIn K (.type "int") "__rmul__" = some (foI K "int" "__rmul__")),
  decide (PySem.W.findIn K (.type "int") "__floordiv__" = some (foI K "int" "__floordiv__")),
  decide (PySem.W.findIn K (.type "int") "__rfloordiv__" = some (foI K "int" "__rfloordiv__")),
  decide (PySem.W.findIn K (.type "int") "__mod__" = some (foI K "int" "__mod__")),
  decide (PySem.W.findIn K (.type "int") "__rmod__" = some (foI K "int" "__rmod__")),
  decide (PySem.W.findIn K (.type "int") "__pow__" = some (foI K "int" "__pow__")),
  decide (PySem.W.findIn K (.type "int") "__rpow__" = some (foI K "int" "__rpow__")),
  decide (PySem.W.nsIn K mainGlobals "tuple" = some none),
  decide (PySem.W.nsIn K mainGlobals "list" = some none),
  decide (PySem.W.nsIn K mainGlobals "zip" = some none),
  decide (PySem.W.nsIn K mainGlobals "enumerate" = some none),
  decide (PySem.W.nsIn K mainGlobals "sum" = some none),
  decide (PySem.W.subIn K (.ref (72 : Addr)) (.type "BaseException") = some true),
  decide (PySem.W.typeIn K (.ref (72 : Addr)) = some (.type "type")),
  PySem.W.keepIn K (.ref (72 : Addr)),
  PySem.W.excIn K (72 : Addr) [.type "ValueError", .type "Exception", .type "BaseException", .type "object"] "ValueError.__new__",
  decide (PySem.W.nsIn K mainGlobals "lcm" = some (some (.builtin "math.lcm"))),
  decide (PySem.W.nsIn K mainGlobals "MOST_LENGTH" = some (some (.int 12 (tkG K "MOST_LENGTH")))),
  decide (PySem.W.nsIn K mainGlobals "KINDS" = some (some (.ref (315 : Addr)))),
  decide ((lookT K (315 : Addr)).map (fun q => (q.1, q.2.2.1)) = some (Value.type "tuple", [Value.str "level" (tkI K (315 : Addr) 0), Value.str "stream" (tkI K (315 : Addr) 1)])),
  decide (PySem.W.subIn K (.ref (601 : Addr)) (.type "str") = some false),
  decide (PySem.W.subIn K (.ref (601 : Addr)) (.type "bytes") = some false),
  decide (PySem.W.subIn K (.ref (601 : Addr)) (.type "bytearray") = some false),
  decide (PySem.W.nsIn K mainGlobals "Web" = some (some (.ref (990 : Addr)))),
  PySem.W.plainGet K (990 : Addr) Str.empty,
  PySem.W.hasDictIn K (990 : Addr),
  PySem.W.plainOver K (990 : Addr),
  decide (PySem.W.findIn K (.ref (990 : Addr)) "__setattr__" = some (some (.builtin "object.__setattr__"))),
  decide (PySem.W.typeIn K (.ref (990 : Addr)) = some (.type "type")),
  PySem.W.readsIn K (990 : Addr) (.type "type"),
  decide (PySem.W.specialIn K (.ref (990 : Addr)) "__getattribute__" = some (some (.builtin "type.__getattribute__"))),
  decide (PySem.W.findCls K (.ref (990 : Addr)) (.type "type") "MOST_JOINTS" = some (.val (.int 8 (tkC K (.ref (990 : Addr)) "MOST_JOINTS")))),
  decide (PySem.W.findCls K (.ref (990 : Addr)) (.type "type") "MOST_RODS" = some (.val (.int 8 (tkC K (.ref (990 : Addr)) "MOST_RODS")))),
  decide (PySem.W.findCls K (.ref (990 : Addr)) (.type "type") "MOST_EARS" = some (.val (.int 4 (tkC K (.ref (990 : Addr)) "MOST_EARS")))),
  decide (PySem.W.findCls K (.ref (990 : Addr)) (.type "type") "MOST_CELLS" = some (.val (.int 24 (tkC K (.ref (990 : Addr)) "MOST_CELLS")))),
  decide (PySem.W.findIn K (.ref (990 : Addr)) "joints" = some none),
  decide (PySem.W.findIn K (.ref (990 : Addr)) "rods" = some none),
  decide (PySem.W.findIn K (.ref (990 : Addr)) "ear_list" = some none),
  decide (PySem.W.findIn K (.ref (990 : Addr)) "cells" = some none),
  decide (PySem.W.findIn K (.ref (990 : Addr)) "strengths" = some none),
  decide (PySem.W.findIn K (.ref (990 : Addr)) "ears" = some none),
  decide (PySem.W.findIn K (.ref (990 : Addr)) "first_cells" = some none),
  decide (PySem.W.findIn K (.ref (990 : Addr)) "arm_lists" = some none),
  decide (PySem.W.findIn K (.ref (990 : Addr)) "arm_strengths" = some none),
  decide (PySem.W.findIn K (.ref (990 : Addr)) "cell_strengths" = some none),
  PySem.W.makesIn K (990 : Addr),
  PySem.W.keepIn K (.ref (990 : Addr)),
  decide (PySem.W.nsIn K mainGlobals "Player" = some (some (.ref (878 : Addr)))),
  PySem.W.readsIn K (878 : Addr) (.type "type"),
  decide (PySem.W.specialIn K (.ref (878 : Addr)) "__getattribute__" = some (some (.builtin "type.__getattribute__"))),
  decide (PySem.W.nsIn K mainGlobals "MOST_ECHOES" = some (some (.int 200 (tkG K "MOST_ECHOES")))),
  decide (PySem.W.findCls K (.ref (878 : Addr)) (.type "type") "__init__" = some (.val (.ref (837 : Addr)))),
  decide (PySem.W.findIn K (.ref (990 : Addr)) "__init__" = some (some (.ref (898 : Addr)))),
  PySem.W.isFn K (.ref (898 : Addr)),
  decide (PySem.W.nsIn K mainGlobals "NoEar" = some (some (.ref (312 : Addr)))),
  decide (PySem.W.findIn K (.ref (312 : Addr)) "__getattribute__" = some (some (.builtin "BaseException.__getattribute__"))),
  decide (PySem.W.findIn K (.ref (312 : Addr)) "__getattr__" = some none),
  decide (PySem.W.subIn K (.ref (312 : Addr)) (.type "BaseException") = some true),
  PySem.W.hasDictIn K (312 : Addr),
  decide (PySem.W.findIn K (.ref (312 : Addr)) "__class__" = some (some (.builtin "object.__class__"))),
  decide (PySem.W.mroIn K (312 : Addr) (.type "object") = some true),
  PySem.W.excInitIn K (312 : Addr) He.veBase "ValueError.__new__",
  ((PySem.W.clsIn K (312 : Addr)).any fun cd => PySem.HandSPX.refsVE cd.mro.tail),
  decide (PySem.W.findIn K (.ref (312 : Addr)) "__setattr__" = some (some (.builtin "object.__setattr__"))),
  decide (PySem.W.typeIn K (.ref (312 : Addr)) = some (.type "type")),
  PySem.W.keepIn K (.ref (312 : Addr)),
  decide (PySem.W.findIn K (.ref (312 : Addr)) "ear" = some none),
  decide (PySem.W.findIn K (.ref (312 : Addr)) "__init__" = some (some (.ref (309 : Addr)))),
  decide (PySem.W.typeIn K (.ref (309 : Addr)) = some (.type "function")),
  decide (PySem.W.nsIn K mainGlobals "NoJoint" = some (some (.ref (274 : Addr)))),
  decide (PySem.W.findIn K (.ref (274 : Addr)) "__getattribute__" = some (some (.builtin "BaseException.__getattribute__"))),
  decide (PySem.W.findIn K (.ref (274 : Addr)) "__getattr__" = some none),
  decide (PySem.W.subIn K (.ref (274 : Addr)) (.type "BaseException") = some true),
  PySem.W.hasDictIn K (274 : Addr),
  decide (PySem.W.findIn K (.ref (274 : Addr)) "__class__" = some (some (.builtin "object.__class__"))),
  decide (PySem.W.mroIn K (274 : Addr) (.type "object") = some true),
  PySem.W.excInitIn K (274 : Addr) He.veBase "ValueError.__new__",
  ((PySem.W.clsIn K (274 : Addr)).any fun cd => PySem.HandSPX.refsVE cd.mro.tail),
  decide (PySem.W.findIn K (.ref (274 : Addr)) "__setattr__" = some (some (.builtin "object.__setattr__"))),
  decide (PySem.W.typeIn K (.ref (274 : Addr)) = some (.type "type")),
  PySem.W.keepIn K (.ref (274 : Addr)),
  decide (PySem.W.findIn K (.ref (274 : Addr)) "joint" = some none),
  decide (PySem.W.findIn K (.ref (274 : Addr)) "__init__" = some (some (.ref (271 : Addr)))),
  decide (PySem.W.typeIn K (.ref (271 : Addr)) = some (.type "function")),
  decide (PySem.W.nsIn K mainGlobals "WebError" = some (some (.ref (59 : Addr)))),
  decide (PySem.W.nsIn K mainGlobals "ValueError" = some none),
  decide (PySem.W.kitOne K (.ref (312 : Addr)) (.ref (59 : Addr)) = some true),
  decide (PySem.W.kitOne K (.ref (312 : Addr)) (.ref (274 : Addr)) = some false),
  decide (PySem.W.kitOne K (.ref (274 : Addr)) (.type "ValueError") = some true),
  decide (PySem.W.kitOne K (.ref (274 : Addr)) (.ref (312 : Addr)) = some false),
  decide (PySem.W.exmOne K (.ref (312 : Addr)) (.ref (312 : Addr)) = some true),
  decide (PySem.W.exmOne K (.ref (274 : Addr)) (.ref (312 : Addr)) = some false),
  decide (PySem.W.exmOne K (.ref (274 : Addr)) (.ref (274 : Addr)) = some true),
  decide (PySem.W.findIn K (.ref (990 : Addr)) "forth" = some (some (.ref (966 : Addr)))),
  PySem.W.isFn K (.ref (966 : Addr)),
  decide (PySem.W.findIn K (.ref (990 : Addr)) "backs" = some (some (.ref (973 : Addr)))),
  PySem.W.isFn K (.ref (973 : Addr)),
  decide (PySem.W.findIn K (.ref (990 : Addr)) "_arriving" = some (some (.ref (987 : Addr)))),
  PySem.W.isFn K (.ref (987 : Addr)),
  decide (PySem.W.findIn K (.ref (990 : Addr)) "tick" = some (some (.ref (935 : Addr)))),
  PySem.W.isFn K (.ref (935 : Addr)),
  decide (PySem.W.findIn K (.ref (990 : Addr)) "rest" = some (some (.ref (842 : Addr)))),
  PySem.W.isFn K (.ref (842 : Addr)),
  decide (PySem.W.findIn K (.ref (601 : Addr)) "__init__" = some (some (.ref (431 : Addr)))),
  PySem.W.isFn K (.ref (431 : Addr)),
  decide (PySem.W.findIn K (.ref (601 : Addr)) "__add__" = some (some (.ref (438 : Addr)))),
  PySem.W.isFn K (.ref (438 : Addr)),
  decide (PySem.W.findIn K (.ref (601 : Addr)) "__radd__" = some (some (.ref (445 : Addr)))),
  PySem.W.isFn K (.ref (445 : Addr)),
  decide (PySem.W.findIn K (.ref (601 : Addr)) "__sub__" = some (some (.ref (452 : Addr)))),
  PySem.W.isFn K (.ref (452 : Addr)),
  decide (PySem.W.findIn K (.ref (601 : Addr)) "__rsub__" = some (some (.ref (459 : Addr)))),
  PySem.W.isFn K (.ref (459 : Addr)),
  decide (PySem.W.findIn K (.ref (601 : Addr)) "__mul__" = some (some (.ref (466 : Addr)))),
  PySem.W.isFn K (.ref (466 : Addr)),
  decide (PySem.W.findIn K (.ref (601 : Addr)) "__rmul__" = some (some (.ref (473 : Addr)))),
  PySem.W.isFn K (.ref (473 : Addr)),
  decide (PySem.W.findIn K (.ref (601 : Addr)) "__floordiv__" = some (some (.ref (480 : Addr)))),
  PySem.W.isFn K (.ref (480 : Addr)),
  decide (PySem.W.findIn K (.ref (601 : Addr)) "__rfloordiv__" = some (some (.ref (487 : Addr)))),
  PySem.W.isFn K (.ref (487 : Addr)),
  decide (PySem.W.findIn K (.ref (601 : Addr)) "__mod__" = some (some (.ref (494 : Addr)))),
  PySem.W.isFn K (.ref (494 : Addr)),
  decide (PySem.W.findIn K (.ref (601 : Addr)) "__rmod__" = some (some (.ref (501 : Addr)))),
  PySem.W.isFn K (.ref (501 : Addr)),
  decide (PySem.W.findIn K (.ref (601 : Addr)) "__pow__" = some (some (.ref (508 : Addr)))),
  PySem.W.isFn K (.ref (508 : Addr)),
  decide (PySem.W.findIn K (.ref (601 : Addr)) "__neg__" = some (some (.ref (515 : Addr)))),
  PySem.W.isFn K (.ref (515 : Addr)),
  decide (PySem.W.findIn K (.ref (601 : Addr)) "__abs__" = some (some (.ref (522 : Addr)))),
  PySem.W.isFn K (.ref (522 : Addr)),
  decide (PySem.W.findIn K (.ref (601 : Addr)) "__bool__" = some (some (.ref (529 : Addr)))),
  PySem.W.isFn K (.ref (529 : Addr)),
  decide (PySem.W.findIn K (.ref (601 : Addr)) "__eq__" = some (some (.ref (536 : Addr)))),
  PySem.W.isFn K (.ref (536 : Addr)),
  decide (PySem.W.findIn K (.ref (601 : Addr)) "__lt__" = some (some (.ref (543 : Addr)))),
  PySem.W.isFn K (.ref (543 : Addr)),
  decide (PySem.W.findIn K (.ref (601 : Addr)) "__le__" = some (some (.ref (550 : Addr)))),
  PySem.W.isFn K (.ref (550 : Addr)),
  decide (PySem.W.findIn K (.ref (601 : Addr)) "__gt__" = some (some (.ref (557 : Addr)))),
  PySem.W.isFn K (.ref (557 : Addr)),
  decide (PySem.W.findIn K (.ref (601 : Addr)) "__ge__" = some (some (.ref (564 : Addr)))),
  PySem.W.isFn K (.ref (564 : Addr)),
  decide (PySem.W.findIn K (.ref (601 : Addr)) "__str__" = some (some (.ref (571 : Addr)))),
  PySem.W.isFn K (.ref (571 : Addr)),
  decide (PySem.W.findIn K (.ref (601 : Addr)) "over" = some (some (.ref (578 : Addr)))),
  PySem.W.isFn K (.ref (578 : Addr)),
  decide (PySem.W.findCls K (.ref (601 : Addr)) (.type "type") "of" = some (.get (.builtin "staticmethod.__get__") (.ref (587 : Addr)) .none (.ref (601 : Addr)))),
  decide (PySem.W.recIn K (587 : Addr) "staticmethod" = some (.ref (585 : Addr) :: (reI K (587 : Addr) "staticmethod"))),
  decide (PySem.W.nsIn K mainGlobals "is_number" = some (some (.ref (612 : Addr)))),
  decide (PySem.W.nsIn K mainGlobals "_whole_quotient" = some (some (.ref (634 : Addr)))),
  decide (PySem.W.nsIn K mainGlobals "check_count" = some (some (.ref (322 : Addr)))),
  decide (PySem.W.nsIn K mainGlobals "check_size" = some (some (.ref (329 : Addr)))),
  decide (PySem.W.nsIn K mainGlobals "check_length" = some (some (.ref (336 : Addr)))),
  decide (PySem.W.nsIn K mainGlobals "check_kind" = some (some (.ref (343 : Addr)))),
  decide (PySem.W.nsIn K mainGlobals "check_strength" = some (some (.ref (350 : Addr)))),
  decide (PySem.W.nsIn K mainGlobals "check_rod_length" = some (some (.ref (357 : Addr)))),
  decide (PySem.W.nsIn K mainGlobals "check_twist" = some (some (.ref (364 : Addr)))),
  decide (PySem.W.nsIn K mainGlobals "check_joint" = some (some (.ref (371 : Addr)))),
  decide (PySem.W.nsIn K mainGlobals "check_rod" = some (some (.ref (378 : Addr)))),
  decide (PySem.W.nsIn K mainGlobals "fracs_of" = some (some (.ref (617 : Addr)))),
  decide (PySem.W.nsIn K mainGlobals "shared" = some (some (.ref (622 : Addr)))),
  decide (PySem.W.nsIn K mainGlobals "dot" = some (some (.ref (627 : Addr)))),
  decide (PySem.W.nsIn K mainGlobals "_total" = some (some (.ref (823 : Addr)))),
  decide (PySem.W.nsIn K mainGlobals "_check_joint_arms" = some (some (.ref (811 : Addr)))),
  decide (PySem.W.nsIn K mainGlobals "_common_number" = some (some (.ref (816 : Addr)))),
  decide (PySem.W.nsIn K mainGlobals "scatter" = some (some (.ref (804 : Addr)))),
  decide (PySem.W.nsIn K mainGlobals "rod_with_twist" = some (some (.ref (999 : Addr)))),
  decide (PySem.W.nsIn K mainGlobals "cell_count" = some (some (.ref (1004 : Addr)))),
  decide (PySem.W.nsIn K mainGlobals "check_cells" = some (some (.ref (1011 : Addr)))),
  decide (PySem.W.nsIn K mainGlobals "_check_joints" = some (some (.ref (1018 : Addr)))),
  decide (PySem.W.nsIn K mainGlobals "_check_rods" = some (some (.ref (1025 : Addr)))),
  decide (PySem.W.nsIn K mainGlobals "_check_ears" = some (some (.ref (1032 : Addr)))),
  decide (PySem.W.nsIn K mainGlobals "_cell_strengths" = some (some (.ref (1039 : Addr)))),
  decide (PySem.W.nsIn K mainGlobals "_arms_at" = some (some (.ref (1046 : Addr)))),
  decide (PySem.W.nsIn K mainGlobals "_arm_strength" = some (some (.ref (1053 : Addr)))),
  decide (PySem.W.nsIn K mainGlobals "_law_low" = some (some (.ref (1085 : Addr)))),
  decide (PySem.W.nsIn K mainGlobals "_law_int" = some (some (.ref (1120 : Addr)))),
  decide (PySem.W.nsIn K mainGlobals "_law_read" = some (some (.ref (1127 : Addr)))),
  decide (PySem.W.nsIn K mainGlobals "_law_give" = some (some (.ref (1139 : Addr)))),
  decide (PySem.W.nsIn K mainGlobals "_law_digit" = some (some (.ref (1078 : Addr)))),
  decide (PySem.W.nsIn K mainGlobals "_law_pool" = some (some (.ref (1071 : Addr)))),
  decide (PySem.W.nsIn K mainGlobals "_law_power" = some (some (.ref (1146 : Addr)))),
  decide (PySem.W.nsIn K mainGlobals "_law_web" = some (some (.ref (1151 : Addr)))),
  decide (PySem.W.nsIn K mainGlobals "_law_made" = some (some (.ref (1156 : Addr)))),
  decide (PySem.W.nsIn K mainGlobals "_heard_of_knock" = some (some (.ref (1064 : Addr)))),
  decide (PySem.W.nsIn K mainGlobals "check_ear" = some (some (.ref (385 : Addr)))),
  decide (PySem.W.nsIn K mainGlobals "echo" = some (some (.ref (1059 : Addr)))),
  decide (PySem.W.nsIn K mainGlobals "_lesser" = some (some (.ref (416 : Addr)))),
  decide (PySem.W.nsIn K mainGlobals "_joint_of" = some (some (.ref (404 : Addr)))),
  decide (PySem.W.nsIn K mainGlobals "_least_walks" = some (some (.ref (409 : Addr)))),
  decide (PySem.W.nsIn K mainGlobals "_law_told" = some (some (.ref (1175 : Addr)))),
  decide (PySem.W.nsIn K mainGlobals "_law_far" = some (some (.ref (1161 : Addr)))),
  decide (PySem.W.nsIn K mainGlobals "distances" = some (some (.ref (390 : Addr)))),
  decide (PySem.W.nsIn K mainGlobals "ear_distance" = some (some (.ref (397 : Addr)))),
  decide (PySem.W.nsIn K mainGlobals "_law_first" = some (some (.ref (1189 : Addr)))),
  decide (PySem.W.nsIn K mainGlobals "_law_same" = some (some (.ref (1168 : Addr)))),
  decide (PySem.W.nsIn K mainGlobals "_law_refused" = some (some (.ref (1182 : Addr)))),
  decide (PySem.W.nsIn K mainGlobals "law" = some (some (.ref (1194 : Addr))))]
def fits (K : PySem.W.Frag) : Bool := (dfs.all fun d => d.fine K) && (asks K).all id
structure Told (K : PySem.W.Frag) : Prop where
  f : fits K = true
  d : dfs.map (Df.told K) = dfs.map Df.due
theorem Told.def_ {K : PySem.W.Frag} (c : Told K) (i : Nat) {d : Df} (h : dfs[i]? = some d) : ∃ fd, FunD K d.nm d.ql (defArgs d.st) (defBody d.st) (defScope d.st) d.dv d.kw d.a fd := by
  have e := congrArg (fun l => l[i]?) c.d
  simp only [List.getElem?_map, h] at e
  exact Df.fund (Option.some.inj e) (List.all_eq_true.mp (Bool.and_eq_true_iff.mp c.f).1 d (List.mem_of_getElem? h))
theorem Told.get {K : PySem.W.Frag} (c : Told K) (i : Nat) {b : Bool} (h : (asks K)[i]? = some b) : b = true := List.all_eq_true.mp (Bool.and_eq_true_iff.mp c.f).2 b (List.mem_of_getElem? h)
/-- what is looked at -/
def seenAs : List Addr := [3, 2, 601, 600, 990, 989, 878, 877, 72, 71, 59, 58, 764, 763, 312, 311, 274, 273, 587, 315, 911, 919, 837, 836, 898, 897, 893, 309, 308, 271, 270, 966, 965, 973, 972, 987, 986, 935, 934, 842, 841, 431, 430, 424, 438, 437, 445, 444, 452, 451, 459, 458, 466, 465, 473, 472, 480, 479, 487, 486, 494, 493, 501, 500, 508, 507, 515, 514, 522, 521, 529, 528, 536, 535, 543, 542, 550, 549, 557, 556, 564, 563, 571, 570, 578, 577, 585, 584, 612, 611, 634, 633, 322, 321, 329, 328, 336, 335, 343, 342, 350, 349, 357, 356, 364, 363, 371, 370, 378, 377, 617, 616, 622, 621, 627, 626, 823, 822, 811, 810, 816, 815, 804, 803, 999, 998, 1004, 1003, 1011, 1010, 1018, 1017, 1025, 1024, 1032, 1031, 1039, 1038, 1046, 1045, 1053, 1052, 1085, 1084, 1120, 1119, 1127, 1126, 1139, 1138, 1078, 1077, 1071, 1070, 1146, 1145, 1151, 1150, 1156, 1155, 1064, 1063, 385, 384, 1059, 1058, 1054, 416, 415, 404, 403, 409, 408, 1175, 1174, 1161, 1160, 390, 389, 397, 396, 1189, 1188, 1168, 1167, 1182, 1181, 1194, 1193]
def frOf (g : Addr → Option Obj) : PySem.W.Frag := He.frG g seenAs
def obsF (g : Addr → Option Obj) : Bool × List DfT := (fits (frOf g), dfs.map (Df.told (frOf g)))
def hk : PySem.W.Hook where
  α := Bool × List DfT
  obs := fun s => obsF s.heap.get?
  val := fun _ => (true, dfs.map Df.due)
  says := fun _ h => ∃ K : PySem.W.Frag, K.In h ∧ Told K
  of := fun _ _ e => ⟨_, He.frG_in, ⟨congrArg (fun z => z.1) e, congrArg (fun z => z.2) e⟩⟩
  keeps := fun _ _ _ ⟨K, hK, c⟩ k => ⟨K, PySem.W.Frag.In.keeps hK k, c⟩
def ob (s : PySem.W.SharedT) : Bool × List DfT := obsF (HandSHeadRun.getT s)
theorem ob_eq (s : PySem.W.SharedT) : ob s = hk.obs s.abs := by
  have e : HandSHeadRun.getT s = s.abs.heap.get? := funext (HandSHeadRun.getT_eq s)
  unfold ob
  rw [e]
  rfl
end Fx

set_option Elab.async false
set_option linter.all false
set_option maxRecDepth 100000
set_option maxHeartbeats 0
namespace Fx
open PySem PySem.W PySem.Calls PyProof.Rows
abbrev Rr : OpenRow := OpenLaw.row PySem.Challenge.rw_rodwebs_k20_first_arrival
abbrev qv : Program := view Rr.prog [0, 96]
def nm0 : List PySem.Str := ["_wall", "__name__", "WebError", "DivisionByZero", "BadText", "BadCount", "BadSizes", "BadPlace"]
def nm1 : List PySem.Str := ["TooLarge", "Mismatch", "BadKind", "BadStrength", "BadLength", "BadTwist", "NoJoint", "NoRod"]
def nm2 : List PySem.Str := ["NoEar", "KINDS", "MOST_LENGTH", "check_count", "check_size", "check_length", "check_kind", "check_strength"]
def nm3 : List PySem.Str := ["check_rod_length", "check_twist", "check_joint", "check_rod", "check_ear", "distances", "ear_distance", "_joint_of"]
def nm4 : List PySem.Str := ["_least_walks", "_lesser", "MOST_POWER", "Frac", "is_number", "fracs_of", "shared", "dot"]
def nm5 : List PySem.Str := ["_whole_quotient", "_readable", "MOST", "Table", "applied", "_check_rows", "_fitting_width", "_check_alike"]
def nm6 : List PySem.Str := ["_table_product", "scatter", "_check_joint_arms", "_common_number", "_total", "Player", "Web", "rod_with_twist"]
def nm7 : List PySem.Str := ["cell_count", "check_cells", "_check_joints", "_check_rods", "_check_ears", "_cell_strengths", "_arms_at", "_arm_strength"]
def nm8 : List PySem.Str := ["MOST_ECHOES", "echo", "_heard_of_knock", "_law_pool", "_law_digit", "_law_low", "_law_plus", "_law_minus"]
def nm9 : List PySem.Str := ["_law_times", "_law_over", "_law_int", "_law_read", "_law_is", "_law_give", "_law_power", "_law_web"]
def nm10 : List PySem.Str := ["_law_made", "_law_far", "_law_same", "_law_told", "_law_refused", "_law_first"]
def names : List PySem.Str := nm0 ++ nm1 ++ nm2 ++ nm3 ++ nm4 ++ nm5 ++ nm6 ++ nm7 ++ nm8 ++ nm9 ++ nm10
theorem runA (w : World) : (HandSHeadRun.wholeF (fun p => HandSHeadRun.stepQ (HandSHeadRun.denQ HandSHeadRun.tabQ) p w) HandSHeadRun.fenceQ 20000 Rr.prog).map (fun x => (HandSHeadRun.looksF Rr.prog x.1.heap x.2.abs, HandSHeadRun.seenQ qv names (importedModules Rr.prog.main.body) (fun s => xlAt qv [] s && recOk Rr.toRowW.records s) x.2.abs)) = some (true, openGood qv names) := by
  kernel_rfl
end Fx
set_option Elab.async false
set_option linter.all false
set_option maxRecDepth 100000
set_option maxHeartbeats 0
namespace Fx
open PySem PySem.W PySem.Calls PyProof.Rows
theorem runB (w : World) : (HandSHeadRun.wholeF (fun p => HandSHeadRun.stepQ (HandSHeadRun.denQ HandSHeadRun.tabQ) p w) HandSHeadRun.fenceQ 20000 (OpenLaw.row PySem.Challenge.rw_rodwebs_k20_first_arrival).prog).map (fun x => ob x.2) = some (true, dfs.map Df.due) := by
  kernel_rfl
end Fx

set_option Elab.async false
set_option linter.all false
set_option maxRecDepth 100000
set_option maxHeartbeats 4000000
/-! Operators of an own class, in the words of the hand layer. -/
namespace Fx
open PySem PySem.Spec PyProof.Rows L2

/-- a plain instance of the class at C -/
def Ins (C : Addr) (H : Hp) (x : V) : Prop := ∃ a dx fs, x = .ref a ∧ H a = some (.ins C dx fs)

section
variable {X : Cx} {CX : CXT} {k : Nat} {f C : Addr} {fd : FuncData} {ps : List Str} {sp : Sp} {E : XK}

theorem cmpBack_EP {pins : List (Addr × Obj)} {σ : L2.St} {Q : VK} {v : Value} {s' : Shared} (h : EP X pins σ Q v s') : PySem.W.CmpBack (EP X pins σ Q) v s' := by
  obtain ⟨x, H', I, r, q⟩ := id h
  cases x with
  | non => cases (show v = Value.none from r); exact h
  | bl b => cases (show v = Value.bool b from r); exact h
  | int i => obtain ⟨t, e⟩ := (show ∃ t, v = Value.int i t from r); cases e; exact h
  | str z => obtain ⟨t, e⟩ := (show ∃ t, v = Value.str z t from r); cases e; exact h
  | byt b => obtain ⟨t, e⟩ := (show ∃ t, v = Value.bytes b t from r); cases e; exact h
  | flt b => obtain ⟨t, e⟩ := (show ∃ t, v = Value.float b t from r); cases e; exact h
  | ref a => cases (show v = Value.ref a from r); exact h
  | ty n => cases (show v = Value.type n from r); exact h

/-- the class's own slot of a number operator -/
structure BinF (K : PySem.W.Frag) (C f : Addr) (op : Operator) : Prop where
  sf : PySem.W.selfFirst K C = true
  at_ : PySem.W.findIn K (.ref C) (PySem.dunder op.info.2) = some (some (.ref f))
  fn : PySem.W.isFn K (.ref f) = true
  rf : ∃ rc, PySem.W.findIn K (.ref C) (dunderR op.info.2) = some rc ∧ (rc = none ∨ ∃ g : Addr, rc = some (.ref g))
  i1 : ∃ fo, PySem.W.findIn K (.type "int") (PySem.dunder op.info.2) = some fo
  i2 : ∃ ro, PySem.W.findIn K (.type "int") (dunderR op.info.2) = some ro
  sub : PySem.W.subIn K (.type "int") (.ref C) = some false

/-- x op y, x an instance, y one too or an int -/
def rOwn (C : Addr) (sp : Sp) (E : XK) : R2 := fun x y H Q => Ins C H x ∧ (Ins C H y ∨ ∃ j, y = .int j) ∧ sp [x, y] H Q E
theorem op_own {op : Operator} (B : BinF X.K C f op) (F : FnOk X.prog X.w X.K X.mg X.base CX k f fd ps sp) (hr : Room k X.A) (hb : Binds X.K fd ps []) (hx : Passes CX X E) : OpR X (binaryOp op) (rOwn C sp E) := by
  intro pins s σ H x y v u Q I rx ry h
  obtain ⟨⟨a, dx, fs, rfl, ha⟩, hy, q⟩ := h
  obtain rfl : v = Value.ref a := rx
  obtain ⟨mA, J, _⟩ := ins_get I.hok ha
  obtain ⟨od, J, _⟩ := J.look
  obtain ⟨m, hF⟩ := I.fr
  have run : wpAny (model X.prog X.w) X.A (call (.ref f) [.ref a, u]) (PySem.W.CmpBack (EP X pins σ Q)) X.xe s :=
    wpAny_mono (run_fn (us := [.ref a, u]) (vs := [.ref a, y]) F hr hb .nil hx I (.cons rfl (.cons ry .nil)) q) (fun _ _ z => cmpBack_EP z) fun _ _ z => z
  rcases hy with ⟨b, dy, gs, rfl, hb'⟩ | ⟨j, rfl⟩
  · obtain rfl : u = Value.ref b := ry
    obtain ⟨mB, J', _⟩ := ins_get I.hok hb'
    obtain ⟨od', J', _⟩ := J'.look
    exact PySem.W.binop_K hF I.ok.mod.kin J J'.type B.sf B.at_ B.fn run
  · obtain ⟨t, rfl⟩ := (show ∃ t, u = Value.int j t from ry)
    obtain ⟨rc, r1, r2⟩ := B.rf
    obtain ⟨fo, i1⟩ := B.i1
    obtain ⟨ro, i2⟩ := B.i2
    exact PySem.W.ksp_binT (T := "int") hF I.ok.mod.kin J rfl B.sf B.at_ B.fn r1 r2 i1 i2 B.sub run

/-- int op instance: what int's own slot declines goes to the instance's reflected one -/
structure RefF (K : PySem.W.Frag) (C g : Addr) (op : Operator) : Prop where
  sf : PySem.W.selfFirst K C = true
  fo : ∃ x, PySem.W.findIn K (.ref C) (PySem.dunder op.info.2) = some (some (.ref x))
  at_ : PySem.W.findIn K (.ref C) (dunderR op.info.2) = some (some (.ref g))
  fn : PySem.W.isFn K (.ref g) = true
  sub : PySem.W.subIn K (.ref C) (.type "int") = some false

/-- a plain object is no int -/
theorem asInt_ref {M : Model} {A : Around} {E : Value → Shared → Prop} {s : Shared} {a : Addr} {o : Obj} {Q : Option Int → Shared → Prop} (h : s.heap.get? a = some o) (hd : o.data = .plain) (q : Q none s) : wpAny M A (asInt? (.ref a)) Q E s := by
  unfold asInt?
  refine wpAny_bind (wpAny_load h ?_)
  rw [hd]
  exact wpAny_pure q
theorem intBinary_declines {M : Model} {A : Around} {E : Value → Shared → Prop} {s : Shared} {i : Int} {t : Tok} {a : Addr} {o : Obj} {name : String} {g : Int → Int → Sem Fin} {rf : Bool} {Q : Fin → Shared → Prop}
    (h : s.heap.get? a = some o) (hd : o.data = .plain) (q : Q (.done (.ret .notImplemented)) s) : wpAny M A (Builtin.Int.intBinary name g rf ⟨[.int i t, .ref a], []⟩) Q E s := by
  unfold Builtin.Int.intBinary
  refine wpAny_bind (m := slotArgs name 1 _) (wpAny_pure ?_)
  refine wpAny_bind (m := Builtin.Int.intOfSelf _) (wpAny_pure ?_)
  refine wpAny_bind (m := asInt? _) (asInt_ref h hd ?_)
  refine wpAny_bind (wpAny_rule ?_)
  exact wpAny_pure q

/-- int's slot, called with an instance, declines -/
theorem slot_declines {M : Model} {A : Around} {E : Value → Shared → Prop} {prog : Program} {w : World} {s : Shared} {i : Int} {t : Tok} {a : Addr} {n : Str} {id : String} {B : Builtin} {Q : Value → Shared → Prop}
    (slot : Slot "int" n id) (entry : entryFor table id = some B) (args : argsOk id ⟨[.int i t, .ref a], []⟩)
    (hB : ∀ (A : Around) (E : Value → Shared → Prop) (Q : Fin → Shared → Prop), Q (.done (.ret .notImplemented)) s → wpAny (model prog w) A (B ⟨[.int i t, .ref a], []⟩) Q E s) (q : Q .notImplemented s) :
    wpAny (model prog w) A (call (.builtin id) [.int i t, .ref a]) Q E s :=
  GQ.call_here slot rfl entry args (hB _ _ _ q)

/-- int's slots for the operator -/
structure IntOp (op : Operator) (idl : String) (B : Builtin) : Prop where
  fills : fillsNumberSlot (.type "int") op.info.2 = pure true
  slot : Slot "int" (PySem.dunder op.info.2) idl
  entry : entryFor table idl = some B
  args : ∀ a b, argsOk idl ⟨[a, b], []⟩
  dec : ∀ (M : Model) (A : Around) (E : Value → Shared → Prop) (s : Shared) (i : Int) (t : Tok) (a : Addr) (o : Obj) (Q : Fin → Shared → Prop), s.heap.get? a = some o → o.data = .plain → Q (.done (.ret .notImplemented)) s → wpAny M A (B ⟨[.int i t, .ref a], []⟩) Q E s

theorem bin1_refl {prog : Program} {w : World} {A : Around} {E : Value → Shared → Prop} {s : Shared} {K : PySem.W.Frag} {h₀ : Heap} {L a C g : Addr} {m : Str → Option Value} {ox : Obj} {od : Option Obj} {op : Operator} {idl : String} {B : Builtin} {i : Int} {t : Tok} {Q : Value → Shared → Prop}
    (N : IntOp op idl B) (R : RefF K C g op) (F : PyProof.Rows.Fr h₀ L s.heap m) (X₀ : K.In h₀) (I : PySem.W.InstAt s.heap a ox C od) (hd : ox.data = .plain)
    (h : wpAny (model prog w) A (call (.ref g) [.ref a, .int i t]) (PySem.W.CmpBack Q) E s) : wpAny (model prog w) A (binaryOp1 op.info.2 (.int i t) (.ref a)) (fun r s' => ∃ v, r = some v ∧ Q v s') E s := by
  have X := X₀.keeps F.keep
  obtain ⟨cd, rest, hcd, hm⟩ := PySem.W.ksp_first R.sf
  obtain ⟨fo, hfo⟩ := R.fo
  have n1 := N.fills
  have n2 := N.slot
  have r1 := R.at_
  rcases hi : op.info with ⟨sym, nm⟩
  rw [hi] at hfo n1 n2 r1
  dsimp only at hfo n1 n2 r1 ⊢
  have hne : (Value.type "int" == Value.ref C) = false := Bool.eq_false_iff.mpr fun q => by cases beq_iff_eq.mp q
  unfold binaryOp1
  refine wpAny_bind (wpAny_typeOf (typeIs_int s i t) (wpAny_bind (I.type.here (wpAny_bind (wpAny_of_eq n1 ?_)))))
  simp only [hne, Bool.false_eq_true, if_false]
  refine wpAny_bind ((PySem.W.fills_K X hcd hm hfo).here ?_)
  simp only [Bool.and_self, if_true]
  refine wpAny_bind ((PySem.W.looks_subIn X R.sub).here ?_)
  have hpy : numberSlotInPython (.type "int") nm = pure false := rfl
  simp only [Bool.false_eq_true, if_false, pure_bind, Bool.not_false, Bool.and_self, if_true, hpy]
  refine wpAny_bind (wpAny_tryMethod_declines (typeIs_int s i t) n2 (slot_declines (M := model prog w) n2 N.entry (N.args _ _) (fun A E Q q => N.dec _ A E s i t a ox Q I.at_ hd q) ⟨rfl, ?_⟩))
  refine wpAny_bind (wpAny_mono (PySem.W.ksp_try X I r1 R.fn h) (fun r s' z => ?_) fun _ _ z => z)
  obtain ⟨v, rfl, hq⟩ := z
  exact wpAny_bind (wpAny_rule (wpAny_pure ⟨v, rfl, hq⟩))
theorem bin_refl {prog : Program} {w : World} {A : Around} {E : Value → Shared → Prop} {s : Shared} {K : PySem.W.Frag} {h₀ : Heap} {L a C g : Addr} {m : Str → Option Value} {ox : Obj} {od : Option Obj} {op : Operator} {idl : String} {B : Builtin} {i : Int} {t : Tok} {Q : Value → Shared → Prop}
    (N : IntOp op idl B) (R : RefF K C g op) (F : PyProof.Rows.Fr h₀ L s.heap m) (X₀ : K.In h₀) (I : PySem.W.InstAt s.heap a ox C od) (hd : ox.data = .plain)
    (h : wpAny (model prog w) A (call (.ref g) [.ref a, .int i t]) (PySem.W.CmpBack Q) E s) : wpAny (model prog w) A (binaryOp op (.int i t) (.ref a)) Q E s := by
  have one := bin1_refl N R F X₀ I hd h
  rcases hi : op.info with ⟨sym, nm⟩
  rw [hi] at one
  simp only [binaryOp, hi]
  refine wpAny_holding (wpAny_bind (wpAny_mono one (fun r s' z => ?_) fun _ _ z => z))
  obtain ⟨v, rfl, hq⟩ := z
  exact wpAny_pure hq

def rRef (C : Addr) (sp : Sp) (E : XK) : R2 := fun x y H Q => (∃ i, x = .int i) ∧ Ins C H y ∧ sp [y, x] H Q E
theorem op_ref {op : Operator} {idl : String} {B : Builtin} (N : IntOp op idl B) (R : RefF X.K C f op) (F : FnOk X.prog X.w X.K X.mg X.base CX k f fd ps sp) (hr : Room k X.A) (hb : Binds X.K fd ps []) (hx : Passes CX X E) : OpR X (binaryOp op) (rRef C sp E) := by
  intro pins s σ H x y v u Q I rx ry h
  obtain ⟨⟨i, rfl⟩, ⟨a, dx, fs, rfl, ha⟩, q⟩ := h
  obtain ⟨t, rfl⟩ := (show ∃ t, v = Value.int i t from rx)
  obtain rfl : u = Value.ref a := ry
  obtain ⟨mA, J, _⟩ := ins_get I.hok ha
  have hob := J.obj
  obtain ⟨od, J, _⟩ := J.look
  obtain ⟨m, hF⟩ := I.fr
  refine bin_refl N R hF I.ok.mod.kin J rfl ?_
  exact wpAny_mono (run_fn (us := [.ref a, .int i t]) (vs := [.ref a, .int i]) F hr hb .nil hx I (.cons rfl (.cons ⟨_, rfl⟩ .nil)) q) (fun _ _ z => cmpBack_EP z) fun _ _ z => z

theorem int_add : IntOp .Add "int.__add__" Builtin.«int.__add__» := ⟨PySem.F.fills_int_add, PySem.F.slot_int_add, PySem.F.entry_int_add, PySem.F.args_int_add_2, fun _ _ _ _ _ _ _ _ _ h hd q => intBinary_declines h hd q⟩
theorem int_sub : IntOp .Sub "int.__sub__" Builtin.«int.__sub__» := ⟨PySem.F.fills_int_sub, PySem.F.slot_int_sub, PySem.F.entry_int_sub, PySem.F.args_int_sub_2, fun _ _ _ _ _ _ _ _ _ h hd q => intBinary_declines h hd q⟩
theorem int_mul : IntOp .Mult "int.__mul__" Builtin.«int.__mul__» := ⟨PySem.F.fills_int_mul, PySem.F.slot_int_mul, PySem.F.entry_int_mul, PySem.F.args_int_mul_2, fun _ _ _ _ _ _ _ _ _ h hd q => intBinary_declines h hd q⟩
theorem int_mod : IntOp .Mod "int.__mod__" Builtin.«int.__mod__» := ⟨PySem.F.fills_int_mod, PySem.F.slot_int_mod, PySem.F.entry_int_mod, PySem.F.args_int_mod_2, fun _ _ _ _ _ _ _ _ _ h hd q => intBinary_declines h hd q⟩
theorem int_fdiv : IntOp .FloorDiv "int.__floordiv__" Builtin.«int.__floordiv__» := by
  refine ⟨PySem.F.fills_int_floordiv, PySem.F.slot_int_floordiv, PySem.F.entry_int_floordiv, PySem.F.args_int_floordiv_2, fun _ _ _ s i t a o _ h hd q => ?_⟩
  unfold Builtin.«int.__floordiv__» Builtin.exactOperandsForPylong
  refine wpAny_bind ?_
  have e : ([Value.int i t, Value.ref a].any Value.onHeap) = true := rfl
  simp only [e, if_true]
  refine wpAny_bind (m := asInt? (.int i t)) (wpAny_pure ?_)
  refine wpAny_bind (m := asInt? _) (asInt_ref h hd ?_)
  exact wpAny_pure (intBinary_declines h hd q)

/-- the callee runs, somewhere below the body -/
theorem run_fnA {A : Around} {pins : List (Addr × Obj)} {σ : L2.St} {H : Hp} {s : Shared} {Q : VK} {us : List Value} {vs : List V} (F : FnOk X.prog X.w X.K X.mg X.base CX k f fd ps sp) (hr : Room k A) (hfr : A.frames = X.A.frames) (hb : Binds X.K fd ps [])
    (hx : Passes CX X E) (I : Inv X pins σ H s) (r : Vals vs us) (h : sp vs H Q E) : wpAny (model X.prog X.w) A (call (.ref f) us) (EP X pins σ Q) X.xe s := by
  have hl : us.length = ps.length := by rw [← r.length]; exact F.len _ _ _ _ h
  have e0 : Env0 X.prog X.w X.K X.mg X.base A X.stack s H := by
    have e := I.env0
    exact ⟨by rw [hfr]; exact e.frames, e.mod, e.bs, e.bsz, e.funs, e.frf, e.hok, e.bare⟩
  have hb' : BindsTo s fd ⟨us, []⟩ (ps.zip us) := by
    have := hb s us I.kIn (by simpa using hl)
    simpa using this
  refine wpAny_call (codeAny_mono (F.run A X.stack s H ⟨us, []⟩ us vs Q E hr e0 hb' r h) fun r s' hq => ?_)
  cases r with
  | error e => exact hx pins σ H s e s' I hq
  | ok fl =>
    cases fl with
    | ret u => exact I.after hq
    | next => exact False.elim hq
    | brk => exact False.elim hq
    | cont => exact False.elim hq

/-! ### comparisons -/
structure CmpF (K : PySem.W.Frag) (C f : Addr) (nm : Str) : Prop where
  at_ : PySem.W.findIn K (.ref C) nm = some (some (.ref f))
  fn : PySem.W.isFn K (.ref f) = true
  sub : PySem.W.subIn K (.type "int") (.ref C) = some false
  sub' : PySem.W.subIn K (.ref C) (.type "int") = some false
theorem notFirst_int {K : PySem.W.Frag} {C : Addr} (h : PySem.W.subIn K (.type "int") (.ref C) = some false) : PySem.W.notFirst K C (.type "int") = true := by
  unfold PySem.W.notFirst
  rw [h]
  simp

theorem op_cmp {op : CmpOp} (B : CmpF X.K C f (cmpInfo op).2.1) (F : FnOk X.prog X.w X.K X.mg X.base CX k f fd ps sp) (hr : Room k X.A) (hb : Binds X.K fd ps []) (hx : Passes CX X E)
    (hop : ∀ a b, compareOp op a b = richCompare op a b) : OpR X (compareOp op) (rOwn C sp E) := by
  intro pins s σ H x y v u Q I rx ry h
  obtain ⟨⟨a, dx, fs, rfl, ha⟩, hy, q⟩ := h
  obtain rfl : v = Value.ref a := rx
  obtain ⟨mA, J, _⟩ := ins_get I.hok ha
  obtain ⟨od, J, _⟩ := J.look
  obtain ⟨m, hF⟩ := I.fr
  have run : wpAny (model X.prog X.w) X.A (call (.ref f) [.ref a, u]) (PySem.W.CmpBack (EP X pins σ Q)) X.xe s :=
    wpAny_mono (run_fn (us := [.ref a, u]) (vs := [.ref a, y]) F hr hb .nil hx I (.cons rfl (.cons ry .nil)) q) (fun _ _ z => cmpBack_EP z) fun _ _ z => z
  rw [hop]
  rcases hy with ⟨b, dy, gs, rfl, hb'⟩ | ⟨j, rfl⟩
  · obtain rfl : u = Value.ref b := ry
    obtain ⟨mB, J', _⟩ := ins_get I.hok hb'
    obtain ⟨od', J', _⟩ := J'.look
    exact PySem.W.cmp_K (tb := .ref C) hr.units0 hF I.ok.mod.kin J J'.type (by simp [PySem.W.notFirst]) B.at_ B.fn run
  · obtain ⟨t, rfl⟩ := (show ∃ t, u = Value.int j t from ry)
    exact PySem.W.cmp_K (tb := .type "int") hr.units0 hF I.ok.mod.kin J (PySem.W.Looks.of_pure rfl) (notFirst_int B.sub) B.at_ B.fn run

structure IntCmp (op : CmpOp) (idl : String) (B : Builtin) : Prop where
  slot : Slot "int" (cmpInfo op).2.1 idl
  entry : entryFor table idl = some B
  args : ∀ a b, argsOk idl ⟨[a, b], []⟩
  dec : ∀ (M : Model) (A : Around) (E : Value → Shared → Prop) (s : Shared) (i : Int) (t : Tok) (a : Addr) (o : Obj) (Q : Fin → Shared → Prop), s.heap.get? a = some o → o.data = .plain → Q (.done (.ret .notImplemented)) s → wpAny M A (B ⟨[.int i t, .ref a], []⟩) Q E s

theorem cmp_refl {prog : Program} {w : World} {A : Around} {E : Value → Shared → Prop} {s : Shared} {K : PySem.W.Frag} {h₀ : Heap} {L a C : Addr} {m : Str → Option Value} {ox : Obj} {od : Option Obj} {op : CmpOp} {idl : String} {B : Builtin} {i : Int} {t : Tok} {Q : Value → Shared → Prop}
    (N : IntCmp op idl B) (hu : A.units < cLine) (F : PyProof.Rows.Fr h₀ L s.heap m) (X₀ : K.In h₀) (I : PySem.W.InstAt s.heap a ox C od) (hd : ox.data = .plain) (sub' : PySem.W.subIn K (.ref C) (.type "int") = some false)
    (h : wpAny (model prog w) A (tryCompare (.ref a) (cmpInfo op).2.2 (.int i t)) (fun r s' => ∃ v, r = some v ∧ Q v s') E s) : wpAny (model prog w) A (richCompare op (.int i t) (.ref a)) Q E s := by
  have X := X₀.keeps F.keep
  have n2 := N.slot
  rcases hi : cmpInfo op with ⟨sym, nf, nr⟩
  rw [hi] at n2 h
  dsimp only at n2 h
  simp only [richCompare, hi]
  refine wpAny_holding (wpAny_bind (wpAny_cRoomFor hu ?_))
  have e1 : oneThing? op (.int i t) (.ref a) = none := (typeIs_int s i t).oneThing_none op (.ref a)
  rw [e1]
  refine wpAny_bind (wpAny_typeOf (typeIs_int s i t) (wpAny_bind (I.type.here ?_)))
  have hne : (Value.type "int" != Value.ref C) = true := by
    rw [bne_iff_ne]
    exact fun z => by cases z
  simp only [hne, if_true]
  refine wpAny_bind ((PySem.W.looks_subIn X sub').here ?_)
  simp only [Bool.false_eq_true, if_false, Bool.not_false, if_true]
  refine wpAny_bind (m := tryCompare (.int i t) nf (.ref a)) ?_
  have dec : wpAny (model prog w) A (call (.builtin idl) [.int i t, .ref a]) (fun v s' => v = .notImplemented ∧ s' = s) E s := slot_declines (M := model prog w) n2 N.entry (N.args _ _) (fun A E Q q => N.dec _ A E s i t a ox Q I.at_ hd q) ⟨rfl, rfl⟩
  unfold tryCompare
  refine wpAny_bind (wpAny_callSpecialIfBound?_slot (typeIs_int s i t) n2 (wpAny_mono dec (fun v s' z => ?_) fun _ _ z => z))
  obtain ⟨rfl, rfl⟩ := z
  refine wpAny_pure ?_
  refine wpAny_bind (wpAny_mono h (fun r s' z => ?_) fun _ _ z => z)
  obtain ⟨v, rfl, hq⟩ := z
  exact wpAny_pure hq

theorem try_own {prog : Program} {w : World} {A : Around} {E : Value → Shared → Prop} {s : Shared} {K : PySem.W.Frag} {a C f : Addr} {ox : Obj} {od : Option Obj} {nm : Str} {b : Value} {Q : Value → Shared → Prop} (X : K.In s.heap) (I : PySem.W.InstAt s.heap a ox C od)
    (hs : PySem.W.findIn K (.ref C) nm = some (some (.ref f))) (hf : PySem.W.isFn K (.ref f) = true) (h : wpAny (model prog w) A (call (.ref f) [.ref a, b]) (PySem.W.CmpBack Q) E s) :
    wpAny (model prog w) A (tryCompare (.ref a) nm b) (fun r s' => ∃ v, r = some v ∧ Q v s') E s := by
  unfold tryCompare
  refine wpAny_bind (PySem.W.ifBound_K X I hs hf (wpAny_mono h (fun v s' hv => ?_) fun _ _ e => e))
  cases v <;> first | exact hv.elim | exact wpAny_pure ⟨_, rfl, hv⟩

theorem op_cmpR {op : CmpOp} {idl : String} {B : Builtin} (N : IntCmp op idl B) (R : CmpF X.K C f (cmpInfo op).2.2) (F : FnOk X.prog X.w X.K X.mg X.base CX k f fd ps sp) (hr : Room k X.A) (hb : Binds X.K fd ps []) (hx : Passes CX X E)
    (hop : ∀ a b, compareOp op a b = richCompare op a b) : OpR X (compareOp op) (rRef C sp E) := by
  intro pins s σ H x y v u Q I rx ry h
  obtain ⟨⟨i, rfl⟩, ⟨a, dx, fs, rfl, ha⟩, q⟩ := h
  obtain ⟨t, rfl⟩ := (show ∃ t, v = Value.int i t from rx)
  obtain rfl : u = Value.ref a := ry
  obtain ⟨mA, J, _⟩ := ins_get I.hok ha
  obtain ⟨od, J, _⟩ := J.look
  obtain ⟨m, hF⟩ := I.fr
  rw [hop]
  refine cmp_refl N hr.units0 hF I.ok.mod.kin J rfl R.sub' (try_own I.kIn J R.at_ R.fn ?_)
  exact wpAny_mono (run_fn (us := [.ref a, .int i t]) (vs := [.ref a, .int i]) F hr hb .nil hx I (.cons rfl (.cons ⟨_, rfl⟩ .nil)) q) (fun _ _ z => cmpBack_EP z) fun _ _ z => z

theorem int_lt : IntCmp .Lt "int.__lt__" Builtin.«int.__lt__» := ⟨PySem.F.slot_int_lt, PySem.F.entry_int_lt, PySem.F.args_int_lt_2, fun _ _ _ _ _ _ _ _ _ h hd q => intBinary_declines h hd q⟩
theorem int_le : IntCmp .LtE "int.__le__" Builtin.«int.__le__» := ⟨PySem.F.slot_int_le, PySem.F.entry_int_le, PySem.F.args_int_le_2, fun _ _ _ _ _ _ _ _ _ h hd q => intBinary_declines h hd q⟩
theorem int_gt : IntCmp .Gt "int.__gt__" Builtin.«int.__gt__» := ⟨PySem.F.slot_int_gt, PySem.F.entry_int_gt, PySem.F.args_int_gt_2, fun _ _ _ _ _ _ _ _ _ h hd q => intBinary_declines h hd q⟩
theorem int_ge : IntCmp .GtE "int.__ge__" Builtin.«int.__ge__» := ⟨PySem.F.slot_int_ge, PySem.F.entry_int_ge, PySem.F.args_int_ge_2, fun _ _ _ _ _ _ _ _ _ h hd q => intBinary_declines h hd q⟩
theorem int_eq : IntCmp .Eq "int.__eq__" Builtin.«int.__eq__» := ⟨PySem.F.slot_int_eq, PySem.F.entry_int_eq, PySem.F.args_int_eq_2, fun _ _ _ _ _ _ _ _ _ h hd q => intBinary_declines h hd q⟩
theorem int_ne : IntCmp .NotEq "int.__ne__" Builtin.«int.__ne__» := ⟨PySem.F.slot_int_ne, PySem.F.entry_int_ne, PySem.F.args_int_ne_2, fun _ _ _ _ _ _ _ _ _ h hd q => intBinary_declines h hd q⟩

/-! ### != by the own == -/
theorem ifBound_B {prog : Program} {w : World} {A : Around} {E : Value → Shared → Prop} {s : Shared} {K : PySem.W.Frag} {x C : Addr} {ox : Obj} {od : Option Obj} {name : Str} {id : String} {args : List Value} {Q : Option Value → Shared → Prop} (X : K.In s.heap) (I : PySem.W.InstAt s.heap x ox C od)
    (hs : PySem.W.findIn K (.ref C) name = some (some (.builtin id))) (hb : ∀ self, bindSpecial (.builtin id) self = pure (.builtin id, [self])) (h : wpAny (model prog w) A (call (.builtin id) (.ref x :: args)) (fun v => Q (some v)) E s) :
    wpAny (model prog w) A (callSpecialIfBound? (.ref x) name args) Q E s := by
  simp only [callSpecialIfBound?, bindSpecialIfBound?]
  refine wpAny_holding (wpAny_bind (wpAny_bind (wpAny_bind (I.type.here ((PySem.W.looks_findIn X hs).here ?_)))))
  refine wpAny_bind (wpAny_askSetting (wpAny_ite ?_))
  have fin : wpAny (model prog w) A (call (.builtin id) ([.ref x] ++ args) >>= fun v => pure (some v)) Q E s := wpAny_bind (wpAny_mono h (fun v s' h' => wpAny_pure h') fun _ _ h' => h')
  split
  · exact wpAny_bind ((PySem.W.Looks.of_pure (hb _)).here (wpAny_pure (by exact fin)))
  · exact wpAny_tryCatch (wpAny_bind ((PySem.W.Looks.of_pure (hb _)).here (wpAny_pure (by exact fin))))
/-- what the class has for != : object's own -/
structure NeF (K : PySem.W.Frag) (C f : Addr) : Prop where
  eq : PySem.W.findIn K (.ref C) "__eq__" = some (some (.ref f))
  fn : PySem.W.isFn K (.ref f) = true
  ne : PySem.W.findIn K (.ref C) "__ne__" = some (some (.builtin "object.__ne__"))
  mro : PySem.W.mroIn K C (.type "object") = some true
  sub : PySem.W.subIn K (.type "int") (.ref C) = some false
  sub' : PySem.W.subIn K (.ref C) (.type "int") = some false
theorem ne_bind (self : Value) : bindSpecial (.builtin "object.__ne__") self = pure (.builtin "object.__ne__", [self]) := PySem.F.slot_tuple_iterator_ne.bind self
theorem try_ne {prog : Program} {w : World} {A : Around} {E : Value → Shared → Prop} {s : Shared} {K : PySem.W.Frag} {a C f : Addr} {ox : Obj} {od : Option Obj} {b : Value} {Q : Value → Shared → Prop} (N : NeF K C f) (hu : A.in1.units < cLine) (X : K.In s.heap) (I : PySem.W.InstAt s.heap a ox C od)
    (h : wpAny (model prog w) A.in1 (call (.ref f) [.ref a, b]) (fun v s' => ∃ k, v = .bool k ∧ Q (.bool (!k)) s') E s) :
    wpAny (model prog w) A (tryCompare (.ref a) "__ne__" b) (fun r s' => ∃ v, r = some v ∧ Q v s') E s := by
  unfold tryCompare
  refine wpAny_bind (ifBound_B X I N.ne ne_bind ?_)
  refine wpAny_call (codeAny_call_builtin (by decide +kernel) F.cmpEntry_ne (PySem.W.check_slot (i := "object.__ne__") (owner := "object") (n := "__ne__") (by decide +kernel) (by decide +kernel) (I.type.andThen (PySem.W.looks_mroIn X N.mro)) (F.cmpArgs_ne _ _) ?_))
  unfold Builtin.«object.__ne__»
  refine wpAny_bind (m := slotArgs "__ne__" 1 _) (wpAny_pure ?_)
  refine wpAny_bind (m := cRoomFor _ _) (wpAny_cRoomFor hu ?_)
  refine wpAny_bind (m := callSpecialIfBound? (.ref a) (Str.ofString "__eq__") _) (PySem.W.ifBound_K X I N.eq N.fn (wpAny_mono h (fun r s' hq => ?_) fun _ _ y => y))
  obtain ⟨k, rfl, q⟩ := hq
  refine wpAny_bind (wpAny_truthy_bool ?_)
  exact wpAny_pure (wpAny_pure ⟨_, rfl, q⟩)

def rNe (C : Addr) (sp : Sp) (E : XK) : R2 := fun x y H Q => (Ins C H x ∧ (Ins C H y ∨ ∃ j, y = .int j) ∧ sp [x, y] H (fun v H' => ∃ k, v = .bl k ∧ Q (.bl (!k)) H') E) ∨
  ((∃ i, x = .int i) ∧ Ins C H y ∧ sp [y, x] H (fun v H' => ∃ k, v = .bl k ∧ Q (.bl (!k)) H') E)
theorem o_ne (N : NeF X.K C f) (F : FnOk X.prog X.w X.K X.mg X.base CX k f fd ps sp) (hr : Room (k + 1) X.A) (hb : Binds X.K fd ps []) (hx : Passes CX X E) : OpR X (compareOp .NotEq) (rNe C sp E) := by
  intro pins s σ H x y v u Q I rx ry h
  have hu1 : X.A.in1.units < cLine := (hr.in1).units0
  show wpAny (model X.prog X.w) X.A (richCompare .NotEq v u) (EP X pins σ Q) X.xe s
  obtain ⟨m, hF⟩ := I.fr
  have X0 := I.kIn
  rcases h with ⟨⟨a, dx, fs, rfl, ha⟩, hy, q⟩ | ⟨⟨i, rfl⟩, ⟨a, dx, fs, rfl, ha⟩, q⟩
  · obtain rfl : v = Value.ref a := rx
    obtain ⟨mA, J, _⟩ := ins_get I.hok ha
    obtain ⟨od, J, _⟩ := J.look
    have one : wpAny (model X.prog X.w) X.A (tryCompare (.ref a) "__ne__" u) (fun r s' => ∃ v, r = some v ∧ EP X pins σ Q v s') X.xe s := by
      refine try_ne N hu1 X0 J (wpAny_mono (run_fnA (us := [.ref a, u]) (vs := [.ref a, y]) F hr.in1 rfl hb hx I (.cons rfl (.cons ry .nil)) q) (fun v s' z => ?_) fun _ _ z => z)
      obtain ⟨w', H', I', r', k', rfl, q'⟩ := z
      obtain rfl : v = Value.bool k' := r'
      exact ⟨k', rfl, .bl (!k'), H', I', rfl, q'⟩
    unfold richCompare
    simp only [oneThing_ref]
    refine wpAny_holding (wpAny_bind (wpAny_cRoomFor hr.units0 ?_))
    rcases hy with ⟨b, dy, gs, rfl, hb'⟩ | ⟨j, rfl⟩
    · obtain rfl : u = Value.ref b := ry
      obtain ⟨mB, J', _⟩ := ins_get I.hok hb'
      obtain ⟨od', J', _⟩ := J'.look
      refine wpAny_bind (J.type.here (wpAny_bind (J'.type.here ?_)))
      simp only [bne_self_eq_false, Bool.false_eq_true, if_false]
      refine wpAny_bind (wpAny_pure ?_)
      simp only [Bool.false_eq_true, if_false]
      refine wpAny_bind (m := tryCompare (.ref a) "__ne__" (.ref b)) (wpAny_mono one (fun r s' z => ?_) fun _ _ e => e)
      obtain ⟨v, rfl, hq⟩ := z
      exact wpAny_pure hq
    · obtain ⟨t, rfl⟩ := (show ∃ t, u = Value.int j t from ry)
      refine wpAny_bind (J.type.here (wpAny_bind (wpAny_typeOf (typeIs_int s j t) ?_)))
      have hne : (Value.ref C != Value.type "int") = true := by
        rw [bne_iff_ne]
        exact fun z => by cases z
      simp only [hne, if_true]
      refine wpAny_bind ((PySem.W.looks_subIn X0 N.sub).here ?_)
      simp only [Bool.false_eq_true, if_false]
      refine wpAny_bind (m := tryCompare (.ref a) "__ne__" (.int j t)) (wpAny_mono one (fun r s' z => ?_) fun _ _ e => e)
      obtain ⟨v, rfl, hq⟩ := z
      exact wpAny_pure hq
  · obtain ⟨t, rfl⟩ := (show ∃ t, v = Value.int i t from rx)
    obtain rfl : u = Value.ref a := ry
    obtain ⟨mA, J, _⟩ := ins_get I.hok ha
    obtain ⟨od, J, _⟩ := J.look
    refine cmp_refl int_ne hr.units0 hF I.ok.mod.kin J rfl N.sub' ?_
    show wpAny (model X.prog X.w) X.A (tryCompare (.ref a) "__ne__" (.int i t)) (fun r s' => ∃ v, r = some v ∧ EP X pins σ Q v s') X.xe s
    refine try_ne N hu1 X0 J (wpAny_mono (run_fnA (us := [.ref a, .int i t]) (vs := [.ref a, .int i]) F hr.in1 rfl hb hx I (.cons rfl (.cons ⟨_, rfl⟩ .nil)) q) (fun v s' z => ?_) fun _ _ z => z)
    obtain ⟨w', H', I', r', k', rfl, q'⟩ := z
    obtain rfl : v = Value.bool k' := r'
    exact ⟨k', rfl, .bl (!k'), H', I', rfl, q'⟩

/-! ### -x, abs(x), bool(x), str(x), truth -/
structure UnF (K : PySem.W.Frag) (C f : Addr) (nm : Str) : Prop where
  at_ : PySem.W.findIn K (.ref C) nm = some (some (.ref f))
  fn : PySem.W.isFn K (.ref f) = true
def rUn (C : Addr) (sp : Sp) (E : XK) : V → Hp → VK → Prop := fun x H Q => Ins C H x ∧ sp [x] H Q E
theorem o_neg (U : UnF X.K C f "__neg__") (F : FnOk X.prog X.w X.K X.mg X.base CX k f fd ps sp) (hr : Room k X.A) (hb : Binds X.K fd ps []) (hx : Passes CX X E) : UnR X (unaryOp .USub) (rUn C sp E) := by
  intro pins s σ H x v Q I rx h
  obtain ⟨⟨a, dx, fs, rfl, ha⟩, q⟩ := h
  obtain rfl : v = Value.ref a := rx
  obtain ⟨mA, J, _⟩ := ins_get I.hok ha
  obtain ⟨od, J, _⟩ := J.look
  obtain ⟨m, hF⟩ := I.fr
  exact PySem.W.ksp_neg hF I.ok.mod.kin J U.at_ U.fn (run_fnA (us := [.ref a]) (vs := [.ref a]) F hr rfl hb hx I (.cons rfl .nil) q)
def rCall1 (C : Addr) (sp : Sp) (P : V → Prop) (E : XK) : List V → Hp → VK → Prop := fun xs H Q => ∃ x, xs = [x] ∧ Ins C H x ∧ sp [x] H (fun v H' => P v ∧ Q v H') E
theorem o_abs (U : UnF X.K C f "__abs__") (F : FnOk X.prog X.w X.K X.mg X.base CX k f fd ps sp) (hr : Room (k + 1) X.A) (hb : Binds X.K fd ps []) (hx : Passes CX X E) : CallR X (.builtin "abs") (rCall1 C sp (fun _ => True) E) := by
  intro pins s σ H xs us Q I r h
  obtain ⟨x, rfl, ⟨a, dx, fs, rfl, ha⟩, q⟩ := h
  obtain ⟨u, rfl, rx⟩ := vals1 r
  obtain rfl : u = Value.ref a := rx
  obtain ⟨mA, J, _⟩ := ins_get I.hok ha
  obtain ⟨od, J, _⟩ := J.look
  refine PySem.Calls.call_function_entry kind_abs plain_abs entry_abs (args_abs _) ?_
  unfold Builtin.«abs»
  refine wpAny_bind (m := oneArg "abs" _) (wpAny_pure ?_)
  refine wpAny_bind (m := callSpecial? (.ref a) (Str.ofString "__abs__")) (PySem.W.special_fn I.kIn J U.at_ (beq_iff_eq.mp U.fn) (wpAny_mono (run_fnA (us := [.ref a]) (vs := [.ref a]) F hr.in1 rfl hb hx I (.cons rfl .nil) q) (fun v s' z => ?_) fun _ _ z => z))
  obtain ⟨v', H', I', r', _, q'⟩ := z
  exact wpAny_pure ⟨_, rfl, v', H', I', r', q'⟩
theorem strBack {pins : List (Addr × Obj)} {σ : L2.St} {Q : VK} {v : Value} {s' : Shared} (h : EP X pins σ (fun v H' => (∃ z, v = .str z) ∧ Q v H') v s') : PySem.W.StrBack (EP X pins σ Q) v s' := by
  obtain ⟨v', H', I', r', ⟨z, rfl⟩, q'⟩ := h
  obtain ⟨t, rfl⟩ := (show ∃ t, v = Value.str z t from r')
  exact ⟨.str z, H', I', ⟨t, rfl⟩, q'⟩
theorem o_str (U : UnF X.K C f "__str__") (F : FnOk X.prog X.w X.K X.mg X.base CX k f fd ps sp) (hr : Room (k + 2) X.A) (hb : Binds X.K fd ps []) (hx : Passes CX X E) : CallR X (.type "str") (rCall1 C sp (fun v => ∃ z, v = .str z) E) := by
  intro pins s σ H xs us Q I r h
  obtain ⟨x, rfl, ⟨a, dx, fs, rfl, ha⟩, q⟩ := h
  obtain ⟨u, rfl, rx⟩ := vals1 r
  obtain rfl : u = Value.ref a := rx
  obtain ⟨mA, J, _⟩ := ins_get I.hok ha
  obtain ⟨od, J, _⟩ := J.look
  exact PySem.W.kso_call (hr.in1.in1).units0 I.kIn J U.at_ U.fn (wpAny_mono (run_fnA (us := [.ref a]) (vs := [.ref a]) F hr.in1.in1 rfl hb hx I (.cons rfl .nil) q) (fun v s' z => strBack z) fun _ _ z => z)
theorem boolBack {pins : List (Addr × Obj)} {σ : L2.St} {Q : Bool → Hp → Prop} {v : Value} {s' : Shared} (h : EP X pins σ (fun v H' => ∃ z, v = .bl z ∧ Q z H') v s') : PySem.W.BoolBack (TP X pins σ Q) v s' := by
  obtain ⟨v', H', I', r', z, rfl, q'⟩ := h
  obtain rfl : v = Value.bool z := r'
  exact ⟨H', I', q'⟩
theorem o_bool (U : UnF X.K C f "__bool__") (F : FnOk X.prog X.w X.K X.mg X.base CX k f fd ps sp) (hr : Room (k + 2) X.A) (hb : Binds X.K fd ps []) (hx : Passes CX X E) :
    CallR X (.type "bool") (fun xs H Q => ∃ x, xs = [x] ∧ Ins C H x ∧ sp [x] H (fun v H' => ∃ z, v = .bl z ∧ Q (.bl z) H') E) := by
  intro pins s σ H xs us Q I r h
  obtain ⟨x, rfl, ⟨a, dx, fs, rfl, ha⟩, q⟩ := h
  obtain ⟨u, rfl, rx⟩ := vals1 r
  obtain rfl : u = Value.ref a := rx
  obtain ⟨mA, J, _⟩ := ins_get I.hok ha
  obtain ⟨od, J, _⟩ := J.look
  obtain ⟨m, hF⟩ := I.fr
  refine callType_codes (T := "bool") (Bi := Builtin.«object.__init__») (Q₁ := fun r s₁ => ∃ b, r = .bool b ∧ EP X pins σ Q r s₁) PySem.F.called_bool (PySem.F.typeCall_bool_1 _) PySem.F.entry_object_init ?_ ?_
  · refine codeAny_of_tree ?_
    show wpAny _ X.A.in1.in1 (do checkBuiltinCall "bool.__new__" ⟨[.type "bool", .ref a], []⟩; again (.builtin "bool.__new__" ⟨[.type "bool", .ref a], []⟩)) _ _ s
    refine wpAny_bind (wpAny_of_eq (PySem.F.newCall_bool_1 _) (wpAny_pure ⟨plainId_quiet (by decide +kernel) _, codeAny_builtin PySem.F.entry_bool_new ?_⟩))
    rw [Around.under_plainId (by decide +kernel) _]
    have tru : wpAny (model X.prog X.w) X.A.in1.in1 (truthy (.ref a)) (TP X pins σ fun b H' => Q (.bl b) H') X.xe s :=
      PySem.W.truthy_K hF I.ok.mod.kin J U.at_ U.fn (wpAny_mono (run_fnA (us := [.ref a]) (vs := [.ref a]) F hr.in1.in1 rfl hb hx I (.cons rfl .nil) q) (fun v s' z => boolBack (Q := fun b H' => Q (.bl b) H') z) fun _ _ z => z)
    unfold Builtin.«bool.__new__»
    refine wpAny_bind (wpAny_pure ?_)
    refine wpAny_bind (wpAny_of_eq PySem.F.conv_sub_bool ?_)
    refine wpAny_bind (m := someArgs "bool" 0 1 _) (wpAny_pure ?_)
    refine wpAny_bind (m := truthy (.ref a)) (wpAny_mono tru (fun b s' z => ?_) fun _ _ y => y)
    obtain ⟨H', I', q'⟩ := z
    exact wpAny_pure ⟨b, rfl, .bl b, H', I', rfl, q'⟩
  · rintro obj s₁ ⟨y, rfl, hq⟩
    exact ⟨rfl, PySem.F.args_object_init_2 _ _, object_init_meets PySem.F.called_bool.init.lookup PySem.F.called_bool.made (by decide) X.prog X.w X.A.in1 _ s₁ ⟨rfl, rfl, hq⟩⟩
end
end Fx

set_option Elab.async false
set_option linter.all false
set_option maxRecDepth 100000
set_option maxHeartbeats 4000000
namespace Fx
open PySem PySem.Spec PyProof.Rows L2
section
variable {X : Cx} {CX : CXT} {k : Nat} {f C : Addr} {fd : FuncData} {ps : List Str} {sp : Sp} {E : XK}

/-! ### a static method read off its class and called -/
structure SMet (K : PySem.W.Frag) (C : Addr) (mc : Value) (m : Str) (p g : Addr) : Prop where
  at_ : PySem.W.findCls K (.ref C) mc m = some (.get (.builtin "staticmethod.__get__") (.ref p) .none (.ref C))
  rc : ∃ rest, PySem.W.recIn K p "staticmethod" = some (.ref g :: rest)
  kp : PySem.W.keepIn K (.ref g) = true
def tSMeth (C : Addr) (sp : Sp) (E : XK) (ta : TE) (t : TA) : TE := fun σ H Q => ta σ H fun x H1 => x = .ref C ∧ t σ H1 fun vs H2 => sp vs H2 Q E
theorem pe_smeth {pl : Sem Bool} {mc : Value} {p g : Addr} {o e : Expr} {es : List Expr} {m : Str} {pos apos : Pos} {ta : TE} {t : TA} (he : PE X o ta) (r : ClX.CRead X.K C mc) (c : SMet X.K C mc m p g) (ty : PySem.W.typeIn X.K (.ref C) = some mc) (F : FnOk X.prog X.w X.K X.mg X.base CX k g fd ps sp) (hr : Room k X.A) (hb : Binds X.K fd ps []) (hx : Passes CX X E) (ha : PA X (e :: es) t)
    (hst : starEach (e :: es) X.env = (false, eval e X.env) :: starEach es X.env := by rfl) (hpl : (backTo pos (starEach es X.env)).any (·.1) = false := by rfl)
    (ht : eval (.Call (.Attribute o m apos) (e :: es) [] pos) X.env = (do
      let ov ← eval o X.env
      standAt apos.atName
      let (f, first) ← holding [ov] (getMethod ov m pl)
      callWith pos f first (backTo pos (starEach (e :: es) X.env)) (backToKw pos (keywordEach [] X.env))) := by rfl) :
    PE X (.Call (.Attribute o m apos) (e :: es) [] pos) (tSMeth C sp E ta t) := by
  refine ⟨fun pins s σ H Q I h => ?_⟩
  refine PySem.W.methodCall_KW (pl := pl) (thn (he.run pins s σ H _ I h) fun u s1 ⟨x, H1, I1, rx, ex, q⟩ => ?_) ht
  subst ex
  obtain rfl : u = Value.ref C := rx
  obtain ⟨m', hF⟩ := I1.fr
  obtain ⟨rest, hp⟩ := c.rc
  refine PySem.W.method_cls I1.kIn r.ga ?_
  refine PySem.W.cls_sm hF I1.ok.mod.kin ty r.rd c.at_ hp rfl ?_
  refine PySem.W.callWith_K (first := []) (h₀ := X.base) I.ok.mod.kin c.kp (thn (ha.run pos pins _ σ H1 _ (I1.tok _) q) fun us s2 ⟨vs, H2, I2, r2, q2⟩ => ⟨I2.kIn, ?_⟩) hst hpl
  exact run_fnA (us := us) (vs := vs) F hr rfl hb hx I2 r2 q2

/-! ### += where the class has no in-place form -/
structure NoIn (K : PySem.W.Frag) (C : Addr) : Prop where
  mro : ∃ cd, PySem.W.clsIn K C = some cd ∧ cd.mro = [.ref C, .type "object"]
  no : PySem.W.findIn K (.ref C) "__iadd__" = some none
  no' : PySem.W.findIn K (.type "object") "__iadd__" = some none
  noI : PySem.W.findIn K (.type "int") "__iadd__" = some none
theorem fillsI_no {M : Model} {h : Heap} {K : PySem.W.Frag} {C : Addr} (X : K.In h) (N : NoIn K C) : PySem.W.Looks M h (fillsInplaceSlot (.ref C) "add" true) false := by
  intro A Q E s k q
  obtain ⟨cd, hc, hm⟩ := N.mro
  have Lm : PySem.W.Looks M h (mroOf (.ref C)) cd.mro := (PySem.W.looks_clsIn X hc).andThen (f := fun cd => pure cd.mro) .now
  have X' : K.In s.heap := X.keeps k
  unfold fillsInplaceSlot
  refine wpAny_bind (Lm A _ E s k ?_)
  rw [hm, List.anyM_cons]
  refine wpAny_bind ?_
  refine wpAny_bind ((PySem.W.looks_findIn X' N.no).here ?_)
  refine wpAny_pure ?_
  simp only [Bool.false_eq_true, if_false]
  rw [List.anyM_cons]
  refine wpAny_bind ?_
  refine wpAny_bind ((PySem.W.looks_findIn X' N.no').here ?_)
  refine wpAny_pure ?_
  simp only [Bool.false_eq_true, if_false]
  exact wpAny_pure q

theorem iop_own (B : BinF X.K C f .Add) (N : NoIn X.K C) (F : FnOk X.prog X.w X.K X.mg X.base CX k f fd ps sp) (hr : Room k X.A) (hb : Binds X.K fd ps []) (hx : Passes CX X E) : OpR X (inplaceOp .Add) (fun x y H Q => Ins C H x ∧ Ins C H y ∧ sp [x, y] H Q E) := by
  intro pins s σ H x y v u Q I rx ry h
  obtain ⟨⟨a, dx, fs, rfl, ha⟩, ⟨b, dy, gs, rfl, hb'⟩, q⟩ := h
  obtain rfl : v = Value.ref a := rx
  obtain rfl : u = Value.ref b := ry
  obtain ⟨mA, J, _⟩ := ins_get I.hok ha
  obtain ⟨od, J, _⟩ := J.look
  obtain ⟨mB, J', _⟩ := ins_get I.hok hb'
  obtain ⟨od', J', _⟩ := J'.look
  have X0 := I.kIn
  obtain ⟨cd, rest, hcd, hm⟩ := PySem.W.ksp_first B.sf
  have one := PySem.W.ksp_try (M := model X.prog X.w) (A := X.A) (E := X.xe) (Q := EP X pins σ Q) X0 J B.at_ B.fn (wpAny_mono (run_fnA (us := [.ref a, .ref b]) (vs := [.ref a, .ref b]) F hr rfl hb hx I (.cons rfl (.cons rfl .nil)) q) (fun _ _ z => cmpBack_EP z) fun _ _ z => z)
  unfold inplaceOp
  refine wpAny_holding ?_
  refine wpAny_bind (J.type.here ?_)
  refine wpAny_bind ((fillsI_no X0 N).here ?_)
  simp only [Bool.false_eq_true, if_false]
  refine wpAny_bind (m := binaryOp1 "add" (.ref a) (.ref b)) ?_
  unfold binaryOp1
  refine wpAny_bind (J.type.here (wpAny_bind (J'.type.here (wpAny_bind ((PySem.W.fills_K X0 hcd hm B.at_).here ?_)))))
  simp only [beq_self_eq_true, if_true]
  refine wpAny_bind (wpAny_pure ?_)
  simp only [Bool.and_false, Bool.false_eq_true, if_false, Bool.false_and]
  refine wpAny_bind (wpAny_pure ?_)
  simp only [Bool.false_eq_true, if_false]
  refine wpAny_bind (m := tryMethod (.ref a) _ (.ref b)) (wpAny_mono one (fun r s' z => ?_) fun _ _ z => z)
  obtain ⟨v, rfl, hq⟩ := z
  exact wpAny_pure (wpAny_pure hq)

theorem iop_ref (R : RefF X.K C f .Add) (N : NoIn X.K C) (F : FnOk X.prog X.w X.K X.mg X.base CX k f fd ps sp) (hr : Room k X.A) (hb : Binds X.K fd ps []) (hx : Passes CX X E) : OpR X (inplaceOp .Add) (rRef C sp E) := by
  intro pins s σ H x y v u Q I rx ry h
  obtain ⟨⟨i, rfl⟩, ⟨a, dx, fs, rfl, ha⟩, q⟩ := h
  obtain ⟨t, rfl⟩ := (show ∃ t, v = Value.int i t from rx)
  obtain rfl : u = Value.ref a := ry
  obtain ⟨mA, J, _⟩ := ins_get I.hok ha
  obtain ⟨od, J, _⟩ := J.look
  obtain ⟨m, hF⟩ := I.fr
  have one := bin1_refl (Q := EP X pins σ Q) (E := X.xe) (A := X.A) (prog := X.prog) (w := X.w) (t := t) int_add R hF I.ok.mod.kin J rfl
    (wpAny_mono (run_fnA (us := [.ref a, .int i t]) (vs := [.ref a, .int i]) F hr rfl hb hx I (.cons rfl (.cons ⟨_, rfl⟩ .nil)) q) (fun _ _ z => cmpBack_EP z) fun _ _ z => z)
  have X0 := I.kIn
  unfold inplaceOp
  refine wpAny_holding ?_
  refine wpAny_bind (wpAny_typeOf (typeIs_int s i t) ?_)
  have L1 : PySem.W.Looks (model X.prog X.w) s.heap (fillsInplaceSlot (.type "int") "add" true) false := by
    intro A Q E s k q
    unfold fillsInplaceSlot
    refine wpAny_bind ((PySem.W.looks_findIn (X0.keeps k) N.noI).here ?_)
    exact wpAny_pure q
  refine wpAny_bind (L1.here ?_)
  simp only [Bool.false_eq_true, if_false]
  refine wpAny_bind (m := binaryOp1 "add" (.int i t) (.ref a)) (wpAny_mono one (fun r s' z => ?_) fun _ _ z => z)
  obtain ⟨v, rfl, hq⟩ := z
  exact wpAny_pure hq
end
end Fx

set_option Elab.async false
set_option linter.all false
set_option maxRecDepth 100000
set_option maxHeartbeats 4000000
/-! zip of two and of three, enumerate, over lists and tuples, mixed as one likes. -/
namespace Fx
open PySem PySem.Spec PyProof.Rows L2
open AutoSeq1 (wpAny_loadPart')
/-- a list (true) or a tuple (false) -/
def SqB : Bool → PySem.W.Frag → Hp → Addr → List V → Prop
  | true => SqL
  | false => SqT
def ItB : Bool → Heap → Addr → Addr → Nat → Prop
  | true => Heap.IsListIter
  | false => Heap.IsTupleIter
def HsB : Bool → Heap → Addr → Array Value → Prop
  | true => Heap.IsList
  | false => Heap.IsTuple
theorem SqB.ext {k : Bool} {K : PySem.W.Frag} {H H' : Hp} {a : Addr} {xs : List V} (h : SqB k K H a xs) (e : Ext H H') : SqB k K H' a xs := by
  cases k
  · exact SqT.ext h e
  · exact SqL.ext h e
theorem ItB.live {k : Bool} {h : Heap} {it a : Addr} {i : Nat} (x : ItB k h it a i) : ∃ o, h.get? it = some o ∧ ∀ v, o.data ≠ .cell v := by
  cases k
  · obtain ⟨o, e, _, d⟩ := x
    exact ⟨o, e, fun v q => by rw [d] at q; cases q⟩
  · obtain ⟨o, e, _, d⟩ := x
    exact ⟨o, e, fun v q => by rw [d] at q; cases q⟩
theorem ItB.at {k : Bool} {h h' : Heap} {it a : Addr} {i : Nat} (x : ItB k h it a i) (q : ∀ o, h.get? it = some o → h'.get? it = some o) : ItB k h' it a i := by
  cases k
  · exact Heap.IsTupleIter.at x q
  · exact Heap.IsListIter.at x q
theorem HsB.lt {k : Bool} {h : Heap} {a : Addr} {xs : Array Value} (x : HsB k h a xs) : a < h.objs.size := by
  cases k
  · obtain ⟨o, e, _⟩ := x
    exact Heap.lt_size e
  · obtain ⟨o, e, _⟩ := x
    exact Heap.lt_size e
theorem inv_B {X : Cx} {pins : List (Addr × Obj)} {σ : L2.St} {H : Hp} {s : Shared} {k : Bool} {a : Addr} {xs : List V} (I : Inv X pins σ H s) (h : SqB k X.K H a xs) : ∃ its : List Value, Vals xs its ∧ HsB k s.heap a its.toArray := by
  cases k
  · obtain ⟨its, rv, p, _⟩ := I.tuple h
    exact ⟨its, rv, p⟩
  · obtain ⟨its, rv, p, _⟩ := I.list h
    exact ⟨its, rv, p.isList⟩
theorem inj_B {X : Cx} {pins : List (Addr × Obj)} {σ : L2.St} {H : Hp} {s : Shared} {k : Bool} {a : Addr} {xs ys : List V} (I : Inv X pins σ H s) (h : SqB k X.K H a xs) (h' : SqB k X.K H a ys) : xs = ys := by
  cases k
  · exact I.tuple_inj h h'
  · exact I.list_inj h h'
theorem draws_B {prog : Program} {w : World} {A : Around} (hh : A.handled = none) (k : Bool) (it a : Addr) (hne : a ≠ it) (items : Array Value) :
    Draws prog w A it [it, a] items.size (fun i v => items[i]? = some v) (fun i h => ItB k h it a i ∧ HsB k h a items) := by
  cases k
  · exact Draws.tuple hh it a hne items
  · exact Draws.list hh it a hne items
theorem begins_B (k : Bool) (a : Addr) (items : Array Value) : ∃ o, Begins (.ref a) o (fun h => HsB k h a items) ∧ ∀ h it, h.get? it = some o → ItB k h it a 0 := by
  cases k
  · exact ⟨_, begins_tuple a items, fun h it e => ⟨_, e, rfl, rfl⟩⟩
  · exact ⟨_, begins_list a items, fun h it e => ⟨_, e, rfl, rfl⟩⟩

/-! ### three -/
def Itz3 (K : PySem.W.Frag) (k1 k2 k3 : Bool) (a b c : Addr) : It :=
  ⟨fun i H => ∃ (xs ys zs : List V) (x y z : V), SqB k1 K H a xs ∧ SqB k2 K H b ys ∧ SqB k3 K H c zs ∧ xs[i]? = some x ∧ ys[i]? = some y ∧ zs[i]? = some z,
    fun i H v H' => ∃ T x y z, v = .ref T ∧ H T = none ∧ H' = upd H T (.tup [x, y, z]) ∧ (∀ xs, SqB k1 K H a xs → xs[i]? = some x) ∧ (∀ ys, SqB k2 K H b ys → ys[i]? = some y) ∧ ∀ zs, SqB k3 K H c zs → zs[i]? = some z,
    fun i H => ∃ xs ys zs : List V, SqB k1 K H a xs ∧ SqB k2 K H b ys ∧ SqB k3 K H c zs ∧ (xs.length = i ∨ ys.length = i ∨ zs.length = i) ∧ i ≤ xs.length ∧ i ≤ ys.length ∧ i ≤ zs.length⟩
theorem turn_zip3 {P : Program} {w : World} {K : PySem.W.Frag} {elts : List Expr} {kk : Nat} {tpos : Pos} {k1 k2 k3 : Bool} {a b c z TI TO i1 i2 i3 : Addr} (D : ZipSep3 z TI TO i1 i2 i3 [i1, a] [i2, b] [i3, c]) :
    Turn P w K (.Tuple elts kk tpos) (Itz3 K k1 k2 k3 a b c) [z, TI, TO, i1, i2, i3] z
      (fun i h => IsZip h z TI TO .none ∧ IsTupOf3 h TI (.ref i1) (.ref i2) (.ref i3) ∧ (∃ x y u, IsTupOf3 h TO x y u) ∧ ItB k1 h i1 a i ∧ ItB k2 h i2 b i ∧ ItB k3 h i3 c i ∧ a ≠ i1 ∧ b ≠ i2 ∧ c ≠ i3) where
  mem := by simp
  obj := fun i h st d hd => by
    obtain ⟨hz, hTI, ⟨x, y, u, hTO⟩, q1, q2, q3, _⟩ := st
    have e' : d = z ∨ d = TI ∨ d = TO ∨ d = i1 ∨ d = i2 ∨ d = i3 := by simpa using hd
    rcases e' with q | q | q | q | q | q
    · rw [q]; exact ⟨_, hz, fun v q => nomatch q⟩
    · rw [q]; exact ⟨_, hTI, fun v q => nomatch q⟩
    · rw [q]; exact ⟨_, hTO, fun v q => nomatch q⟩
    · rw [q]; exact q1.live
    · rw [q]; exact q2.live
    · rw [q]; exact q3.live
  keep := fun i h h' st k => by
    obtain ⟨hz, hTI, ⟨x, y, u, hTO⟩, q1, q2, q3, n1, n2, n3⟩ := st
    exact ⟨k z (by simp) _ hz, k TI (by simp) _ hTI, ⟨x, y, u, k TO (by simp) _ hTO⟩, q1.at fun o q => k i1 (by simp) o q, q2.at fun o q => k i2 (by simp) o q, q3.at fun o q => k i3 (by simp) o q, n1, n2, n3⟩
  item := by
    intro X hP hw hK hc i pins s σ H E I hf st hg
    subst hP hw hK
    obtain ⟨hz, hTI, ⟨x0, y0, u0, hTO⟩, q1, q2, q3, n1, n2, n3⟩ := st
    obtain ⟨xs, ys, zs, x, y, u, hqx, hqy, hqz, hx, hy, hu⟩ := hg
    obtain ⟨its, rv, p⟩ := inv_B I hqx
    obtain ⟨its2, rv2, p2⟩ := inv_B I hqy
    obtain ⟨its3, rv3, p3⟩ := inv_B I hqz
    obtain ⟨v1, hv1, r1⟩ := rv.get hx
    obtain ⟨v2, hv2, r2⟩ := rv2.get hy
    obtain ⟨v3, hv3, r3⟩ := rv3.get hu
    have hzl : z < s.heap.objs.size := Heap.lt_size hz
    have hd : X.A.in1.handled = none := I.ok.hd hc
    have l1 : i < its.toArray.size := by simpa using (List.getElem?_eq_some_iff.mp hv1).1
    have l2 : i < its2.toArray.size := by simpa using (List.getElem?_eq_some_iff.mp hv2).1
    have l3 : i < its3.toArray.size := by simpa using (List.getElem?_eq_some_iff.mp hv3).1
    refine wpAny_pyNext_zipD3_item D (draws_B hd k1 i1 a n1 its.toArray) (draws_B hd k2 i2 b n2 its2.toArray) (draws_B hd k3 i3 c n3 its3.toArray) hz hTI hTO ⟨q1, p⟩ ⟨q2, p2⟩ ⟨q3, p3⟩ l1 l2 l3 fun w1 w2 w3 h' tk e1 e2 e3 z' TO' h1' h2' h3' hT hsz hk => ?_
    have ew1 : w1 = v1 := by
      have : its[i]? = some w1 := by simpa using e1
      rw [hv1] at this; exact (Option.some.inj this).symm
    have ew2 : w2 = v2 := by
      have : its2[i]? = some w2 := by simpa using e2
      rw [hv2] at this; exact (Option.some.inj this).symm
    have ew3 : w3 = v3 := by
      have : its3[i]? = some w3 := by simpa using e3
      rw [hv3] at this; exact (Option.some.inj this).symm
    subst ew1 ew2 ew3
    refine ⟨_, rfl, wpAny_letOwnedTupleGo_zip (s := { s with heap := h', toks := tk }) z' fun h'' z'' sb => ?_⟩
    have hT2 : h''.get? s.heap.objs.size = some { cls := .type "tuple", data := .seq #[w1, w2, w3] } := (sb.2 _ (Nat.ne_of_gt hzl)).trans hT
    have new : ObjOk X.prog X.w (upd H s.heap.objs.size (.tup [x, y, u])) h'' s.heap.objs.size (.tup [x, y, u]) :=
      ⟨by show 3 ≤ sizeLine; decide, [w1, w2, w3], .cons r1 (.cons r2 (.cons r3 .nil)), ⟨_, hT2, rfl, _, rfl⟩⟩
    have I1 : Inv X pins σ (upd H s.heap.objs.size (.tup [x, y, u])) { s with heap := h'', toks := tk } :=
      I.turnedNew (t' := tk) (ch := [z, TI, TO, i1, i2, i3]) (fun c o hb q => (sb.2 c (fun q' => hb (by simp [q']))).trans (hk c o (fun q' => hb (by simp [q'])) (fun q' => hb (by simp [q'])) (fun q' => hb (by simp [q'])) (fun q' => hb (by simp [q'])) (fun q' => hb (by simp [q'])) q)) hf (Nat.le_refl _) new
    refine ⟨.ref s.heap.objs.size, _, I1, rfl, ⟨_, x, y, u, rfl, I.hok.fresh (Nat.le_refl _), rfl, fun l hl => by rw [inj_B I hl hqx]; exact hx, fun l hl => by rw [inj_B I hl hqy]; exact hy, fun l hl => by rw [inj_B I hl hqz]; exact hu⟩, ⟨z'', ?_, ⟨w1, w2, w3, ?_⟩, ?_, ?_, ?_, n1, n2, n3⟩, fun d hcm => ?_⟩
    · exact (sb.2 _ D.TIz).trans (hk _ _ D.TIz D.TITO D.TIi1 D.TIi2 D.TIi3 hTI)
    · exact (sb.2 _ D.TOz).trans TO'
    · exact h1'.1.at fun o q => (sb.2 _ D.zi1.symm).trans q
    · exact h2'.1.at fun o q => (sb.2 _ D.zi2.symm).trans q
    · exact h3'.1.at fun o q => (sb.2 _ D.zi3.symm).trans q
    · have hlt : d < s.heap.objs.size := by
        have e' : d = z ∨ d = TI ∨ d = TO ∨ d = i1 ∨ d = i2 ∨ d = i3 := by simpa using hcm
        rcases e' with q | q | q | q | q | q
        · rw [q]; exact hzl
        · rw [q]; exact Heap.lt_size hTI
        · rw [q]; exact Heap.lt_size hTO
        · rw [q]; obtain ⟨_, e1, _⟩ := q1.live; exact Heap.lt_size e1
        · rw [q]; obtain ⟨_, e1, _⟩ := q2.live; exact Heap.lt_size e1
        · rw [q]; obtain ⟨_, e1, _⟩ := q3.live; exact Heap.lt_size e1
      rw [upd_ne (Nat.ne_of_lt hlt)]
      exact (hf d hcm).1
  done := by
    intro X hP hw hK hc i pins s σ H E I hf st hg
    subst hP hw hK
    obtain ⟨hz, hTI, ⟨x0, y0, u0, hTO⟩, q1, q2, q3, n1, n2, n3⟩ := st
    obtain ⟨xs, ys, zs, hqx, hqy, hqz, hend, m1, m2, m3⟩ := hg
    obtain ⟨its, rv, p⟩ := inv_B I hqx
    obtain ⟨its2, rv2, p2⟩ := inv_B I hqy
    obtain ⟨its3, rv3, p3⟩ := inv_B I hqz
    have l1 := rv.length
    have l2 := rv2.length
    have l3 := rv3.length
    have hd : X.A.in1.handled = none := I.ok.hd hc
    exact wpAny_pyNext_zipD3_end D (draws_B hd k1 i1 a n1 its.toArray) (draws_B hd k2 i2 b n2 its2.toArray) (draws_B hd k3 i3 c n3 its3.toArray) hz hTI hTO ⟨q1, p⟩ ⟨q2, p2⟩ ⟨q3, p3⟩ (by simp; omega) (by simp; omega) (by simp; omega)
      (by simp only [List.size_toArray]; omega) fun h' tk hk => ⟨rfl, I.turnedL (t' := tk) (ch := [z, TI, TO, i1, i2, i3]) (fun c o hb q =>
      hk c o (fun q' => hb (by simp [q'])) (fun q' => hb (by simp [q'])) (fun q' => hb (by simp [q'])) (fun q' => hb (by simp [q'])) (fun q' => hb (by simp [q'])) q) hf⟩
  self := fun A i s Q E st h => wpAny_pyIter_zip st.1 h
def iZip3 (K : PySem.W.Frag) (ta : TA) : TI := fun σ H R => ta σ H fun vs H1 => ∃ k1 k2 k3 a b c xs ys zs, vs = [.ref a, .ref b, .ref c] ∧ SqB k1 K H1 a xs ∧ SqB k2 K H1 b ys ∧ SqB k3 K H1 c zs ∧ R (Itz3 K k1 k2 k3 a b c) H1
theorem pi_zip3 {X : Cx} {e e2 e3 : Expr} {ta : TA} {p pos tpos : Pos} {elts : List Expr} {kk : Nat} (hg : Gl X "zip") (hm : X.mg "zip" = none) (ha : PA X [e, e2, e3] ta)
    (hs : starEach [e, e2, e3] X.env = (false, eval e X.env) :: starEach [e2, e3] X.env := by rfl) (hpl : (backTo pos (starEach [e2, e3] X.env)).any (·.1) = false := by rfl) :
    PI X (.Tuple elts kk tpos) (.Call (.Name "zip" p) [e, e2, e3] [] pos) (iZip3 X.K ta) := by
  refine ⟨fun pins s σ H R I h => ?_⟩
  refine Call_ (ld_blt I hg hm PyProof.Rows.boot_zip (PyProof.Rows.callWith_type1 (thn (ha.run pos pins s σ H _ I h) fun us s1 ⟨vs, H1, I1, r1, q1⟩ => ?_) hs hpl))
  obtain ⟨k1, k2, k3, a, b, c, xs, ys, zs, ex, hqx, hqy, hqz, q⟩ := q1
  subst ex
  cases r1 with
  | cons r rr =>
    cases rr with
    | cons r' rr =>
      cases rr with
      | cons r'' rr =>
        cases rr
        cases r
        cases r'
        cases r''
        obtain ⟨its, rv, p1⟩ := inv_B I1 hqx
        obtain ⟨its2, rv2, p2⟩ := inv_B I1 hqy
        obtain ⟨its3, rv3, p3⟩ := inv_B I1 hqz
        have la := p1.lt
        have lb := p2.lt
        have lc := p3.lt
        obtain ⟨o1, b1, g1⟩ := begins_B k1 a its.toArray
        obtain ⟨o2, b2, g2⟩ := begins_B k2 b its2.toArray
        obtain ⟨o3, b3, g3⟩ := begins_B k3 c its3.toArray
        refine zip_begins3 b1 b2 b3 p1 p2 p3 fun h' hz hTI hTO h1 h2 h3 hsz hk => wpAny_pyIter_zip hz ?_
        have I2 : Inv X pins σ H1 { s1 with heap := h' } := I1.kept (t' := s1.toks) hk
        have sep := zip_sep3 (N := s1.heap.objs.size) (fp1 := [a]) (fp2 := [b]) (fp3 := [c]) (by simpa using la) (by simpa using lb) (by simpa using lc)
        refine ⟨s1.heap.objs.size + 5, [s1.heap.objs.size + 5, s1.heap.objs.size + 3, s1.heap.objs.size + 4, s1.heap.objs.size, s1.heap.objs.size + 1, s1.heap.objs.size + 2], _, _, H1, rfl, I2, turn_zip3 sep,
          ⟨hz, hTI, ⟨_, _, _, hTO⟩, g1 _ _ h1, g2 _ _ h2, g3 _ _ h3, Nat.ne_of_lt la, Nat.ne_of_lt (Nat.lt_succ_of_lt lb), Nat.ne_of_lt (Nat.lt_succ_of_lt (Nat.lt_succ_of_lt lc))⟩, fun d hcm => ?_, q⟩
        have e' : d = s1.heap.objs.size + 5 ∨ d = s1.heap.objs.size + 3 ∨ d = s1.heap.objs.size + 4 ∨ d = s1.heap.objs.size ∨ d = s1.heap.objs.size + 1 ∨ d = s1.heap.objs.size + 2 := by simpa using hcm
        have hle : s1.heap.objs.size ≤ d := by
          rcases e' with z | z | z | z | z | z
          · rw [z]; exact Nat.le_add_right _ _
          · rw [z]; exact Nat.le_add_right _ _
          · rw [z]; exact Nat.le_add_right _ _
          · rw [z]; exact Nat.le_refl _
          · rw [z]; exact Nat.le_add_right _ _
          · rw [z]; exact Nat.le_add_right _ _
        exact I1.fpOk hle (I1.hok.fresh hle)
/-- a new triple -/
def YTri (f g h : Nat → Option V) : Nat → Hp → V → Hp → Prop := fun i H v H' => ∃ T x y z, v = .ref T ∧ H T = none ∧ H' = upd H T (.tup [x, y, z]) ∧ f i = some x ∧ g i = some y ∧ h i = some z
theorem walk_zip3 {K : PySem.W.Frag} {k1 k2 k3 : Bool} {a b c : Addr} {xs ys zs : List V} {n : Nat} (h1 : xs.length = n) (h2 : ys.length = n) (h3 : zs.length = n) :
    Walk (Itz3 K k1 k2 k3 a b c) n (fun H => SqB k1 K H a xs ∧ SqB k2 K H b ys ∧ SqB k3 K H c zs) (YTri (fun i => xs[i]?) (fun i => ys[i]?) (fun i => zs[i]?)) := by
  refine ⟨fun i H hi q => ⟨xs, ys, zs, xs[i]'(by omega), ys[i]'(by omega), zs[i]'(by omega), q.1, q.2.1, q.2.2, by simp, by simp, by simp⟩, fun H q => ⟨xs, ys, zs, q.1, q.2.1, q.2.2, by omega, by omega, by omega, by omega⟩, fun i H v H' hi q y => ?_⟩
  obtain ⟨T, x, y, z, e1, e2, e3, e4, e5, e6⟩ := y
  exact ⟨T, x, y, z, e1, e2, e3, e4 xs q.1, e5 ys q.2.1, e6 zs q.2.2⟩

/-! ### two -/
def Itz2 (K : PySem.W.Frag) (k1 k2 : Bool) (a b : Addr) : It :=
  ⟨fun i H => ∃ (xs ys : List V) (x y : V), SqB k1 K H a xs ∧ SqB k2 K H b ys ∧ xs[i]? = some x ∧ ys[i]? = some y,
    fun i H v H' => ∃ T x y, v = .ref T ∧ H T = none ∧ H' = upd H T (.tup [x, y]) ∧ (∀ xs, SqB k1 K H a xs → xs[i]? = some x) ∧ (∀ ys, SqB k2 K H b ys → ys[i]? = some y),
    fun i H => ∃ xs ys : List V, SqB k1 K H a xs ∧ SqB k2 K H b ys ∧ (xs.length = i ∨ ys.length = i) ∧ i ≤ xs.length ∧ i ≤ ys.length⟩
theorem turn_zip2 {P : Program} {w : World} {K : PySem.W.Frag} {elts : List Expr} {kk : Nat} {tpos : Pos} {k1 k2 : Bool} {a b z TI TO i1 i2 : Addr} (D : ZipSep2 z TI TO i1 i2 [i1, a] [i2, b]) :
    Turn P w K (.Tuple elts kk tpos) (Itz2 K k1 k2 a b) [z, TI, TO, i1, i2] z
      (fun i h => IsZip h z TI TO .none ∧ IsTupOf2 h TI (.ref i1) (.ref i2) ∧ (∃ x y, IsTupOf2 h TO x y) ∧ ItB k1 h i1 a i ∧ ItB k2 h i2 b i ∧ a ≠ i1 ∧ b ≠ i2) where
  mem := by simp
  obj := fun i h st d hd => by
    obtain ⟨hz, hTI, ⟨x, y, hTO⟩, q1, q2, _⟩ := st
    have e' : d = z ∨ d = TI ∨ d = TO ∨ d = i1 ∨ d = i2 := by simpa using hd
    rcases e' with q | q | q | q | q
    · rw [q]; exact ⟨_, hz, fun v q => nomatch q⟩
    · rw [q]; exact ⟨_, hTI, fun v q => nomatch q⟩
    · rw [q]; exact ⟨_, hTO, fun v q => nomatch q⟩
    · rw [q]; exact q1.live
    · rw [q]; exact q2.live
  keep := fun i h h' st k => by
    obtain ⟨hz, hTI, ⟨x, y, hTO⟩, q1, q2, n1, n2⟩ := st
    exact ⟨k z (by simp) _ hz, k TI (by simp) _ hTI, ⟨x, y, k TO (by simp) _ hTO⟩, q1.at fun o q => k i1 (by simp) o q, q2.at fun o q => k i2 (by simp) o q, n1, n2⟩
  item := by
    intro X hP hw hK hc i pins s σ H E I hf st hg
    subst hP hw hK
    obtain ⟨hz, hTI, ⟨x0, y0, hTO⟩, q1, q2, n1, n2⟩ := st
    obtain ⟨xs, ys, x, y, hqx, hqy, hx, hy⟩ := hg
    obtain ⟨its, rv, p⟩ := inv_B I hqx
    obtain ⟨its2, rv2, p2⟩ := inv_B I hqy
    obtain ⟨v1, hv1, r1⟩ := rv.get hx
    obtain ⟨v2, hv2, r2⟩ := rv2.get hy
    have hzl : z < s.heap.objs.size := Heap.lt_size hz
    have hd : X.A.in1.handled = none := I.ok.hd hc
    have l1 : i < its.toArray.size := by simpa using (List.getElem?_eq_some_iff.mp hv1).1
    have l2 : i < its2.toArray.size := by simpa using (List.getElem?_eq_some_iff.mp hv2).1
    refine wpAny_pyNext_zipD2_item D (draws_B hd k1 i1 a n1 its.toArray) (draws_B hd k2 i2 b n2 its2.toArray) hz hTI hTO ⟨q1, p⟩ ⟨q2, p2⟩ l1 l2 fun w1 w2 h' tk e1 e2 z' TO' h1' h2' hT hsz hk => ?_
    have ew1 : w1 = v1 := by
      have : its[i]? = some w1 := by simpa using e1
      rw [hv1] at this; exact (Option.some.inj this).symm
    have ew2 : w2 = v2 := by
      have : its2[i]? = some w2 := by simpa using e2
      rw [hv2] at this; exact (Option.some.inj this).symm
    subst ew1 ew2
    refine ⟨_, rfl, wpAny_letOwnedTupleGo_zip (s := { s with heap := h', toks := tk }) z' fun h'' z'' sb => ?_⟩
    have hT2 : h''.get? s.heap.objs.size = some { cls := .type "tuple", data := .seq #[w1, w2] } := (sb.2 _ (Nat.ne_of_gt hzl)).trans hT
    have new : ObjOk X.prog X.w (upd H s.heap.objs.size (.tup [x, y])) h'' s.heap.objs.size (.tup [x, y]) :=
      ⟨by show 2 ≤ sizeLine; decide, [w1, w2], .cons r1 (.cons r2 .nil), ⟨_, hT2, rfl, _, rfl⟩⟩
    have I1 : Inv X pins σ (upd H s.heap.objs.size (.tup [x, y])) { s with heap := h'', toks := tk } :=
      I.turnedNew (t' := tk) (ch := [z, TI, TO, i1, i2]) (fun c o hb q => (sb.2 c (fun q' => hb (by simp [q']))).trans (hk c o (fun q' => hb (by simp [q'])) (fun q' => hb (by simp [q'])) (fun q' => hb (by simp [q'])) (fun q' => hb (by simp [q'])) q)) hf (Nat.le_refl _) new
    refine ⟨.ref s.heap.objs.size, _, I1, rfl, ⟨_, x, y, rfl, I.hok.fresh (Nat.le_refl _), rfl, fun l hl => by rw [inj_B I hl hqx]; exact hx, fun l hl => by rw [inj_B I hl hqy]; exact hy⟩, ⟨z'', ?_, ⟨w1, w2, ?_⟩, ?_, ?_, n1, n2⟩, fun d hcm => ?_⟩
    · exact (sb.2 _ D.TIz).trans (hk _ _ D.TIz D.TITO D.TIi1 D.TIi2 hTI)
    · exact (sb.2 _ D.TOz).trans TO'
    · exact h1'.1.at fun o q => (sb.2 _ D.zi1.symm).trans q
    · exact h2'.1.at fun o q => (sb.2 _ D.zi2.symm).trans q
    · have hlt : d < s.heap.objs.size := by
        have e' : d = z ∨ d = TI ∨ d = TO ∨ d = i1 ∨ d = i2 := by simpa using hcm
        rcases e' with q | q | q | q | q
        · rw [q]; exact hzl
        · rw [q]; exact Heap.lt_size hTI
        · rw [q]; exact Heap.lt_size hTO
        · rw [q]; obtain ⟨_, e1, _⟩ := q1.live; exact Heap.lt_size e1
        · rw [q]; obtain ⟨_, e1, _⟩ := q2.live; exact Heap.lt_size e1
      rw [upd_ne (Nat.ne_of_lt hlt)]
      exact (hf d hcm).1
  done := by
    intro X hP hw hK hc i pins s σ H E I hf st hg
    subst hP hw hK
    obtain ⟨hz, hTI, ⟨x0, y0, hTO⟩, q1, q2, n1, n2⟩ := st
    obtain ⟨xs, ys, hqx, hqy, hend, m1, m2⟩ := hg
    obtain ⟨its, rv, p⟩ := inv_B I hqx
    obtain ⟨its2, rv2, p2⟩ := inv_B I hqy
    have l1 := rv.length
    have l2 := rv2.length
    have hd : X.A.in1.handled = none := I.ok.hd hc
    exact wpAny_pyNext_zipD2_end D (draws_B hd k1 i1 a n1 its.toArray) (draws_B hd k2 i2 b n2 its2.toArray) hz hTI hTO ⟨q1, p⟩ ⟨q2, p2⟩ (by simp; omega) (by simp; omega)
      (by simp only [List.size_toArray]; omega) fun h' tk hk => ⟨rfl, I.turnedL (t' := tk) (ch := [z, TI, TO, i1, i2]) (fun c o hb q =>
      hk c o (fun q' => hb (by simp [q'])) (fun q' => hb (by simp [q'])) (fun q' => hb (by simp [q'])) (fun q' => hb (by simp [q'])) q) hf⟩
  self := fun A i s Q E st h => wpAny_pyIter_zip st.1 h
def iZip2 (K : PySem.W.Frag) (ta : TA) : TI := fun σ H R => ta σ H fun vs H1 => ∃ k1 k2 a b xs ys, vs = [.ref a, .ref b] ∧ SqB k1 K H1 a xs ∧ SqB k2 K H1 b ys ∧ R (Itz2 K k1 k2 a b) H1
theorem pi_zip2 {X : Cx} {e e2 : Expr} {ta : TA} {p pos tpos : Pos} {elts : List Expr} {kk : Nat} (hg : Gl X "zip") (hm : X.mg "zip" = none) (ha : PA X [e, e2] ta)
    (hs : starEach [e, e2] X.env = (false, eval e X.env) :: starEach [e2] X.env := by rfl) (hpl : (backTo pos (starEach [e2] X.env)).any (·.1) = false := by rfl) :
    PI X (.Tuple elts kk tpos) (.Call (.Name "zip" p) [e, e2] [] pos) (iZip2 X.K ta) := by
  refine ⟨fun pins s σ H R I h => ?_⟩
  refine Call_ (ld_blt I hg hm PyProof.Rows.boot_zip (PyProof.Rows.callWith_type1 (thn (ha.run pos pins s σ H _ I h) fun us s1 ⟨vs, H1, I1, r1, q1⟩ => ?_) hs hpl))
  obtain ⟨k1, k2, a, b, xs, ys, ex, hqx, hqy, q⟩ := q1
  subst ex
  cases r1 with
  | cons r rr =>
    cases rr with
    | cons r' rr =>
      cases rr
      cases r
      cases r'
      obtain ⟨its, rv, p1⟩ := inv_B I1 hqx
      obtain ⟨its2, rv2, p2⟩ := inv_B I1 hqy
      have la := p1.lt
      have lb := p2.lt
      obtain ⟨o1, b1, g1⟩ := begins_B k1 a its.toArray
      obtain ⟨o2, b2, g2⟩ := begins_B k2 b its2.toArray
      refine zip_begins2 b1 b2 p1 p2 fun h' hz hTI hTO h1 h2 hsz hk => wpAny_pyIter_zip hz ?_
      have I2 : Inv X pins σ H1 { s1 with heap := h' } := I1.kept (t' := s1.toks) hk
      have sep := zip_sep2 (N := s1.heap.objs.size) (fp1 := [a]) (fp2 := [b]) (by simpa using la) (by simpa using lb)
      refine ⟨s1.heap.objs.size + 4, [s1.heap.objs.size + 4, s1.heap.objs.size + 2, s1.heap.objs.size + 3, s1.heap.objs.size, s1.heap.objs.size + 1], _, _, H1, rfl, I2, turn_zip2 sep,
        ⟨hz, hTI, ⟨_, _, hTO⟩, g1 _ _ h1, g2 _ _ h2, Nat.ne_of_lt la, Nat.ne_of_lt (Nat.lt_succ_of_lt lb)⟩, fun d hcm => ?_, q⟩
      have e' : d = s1.heap.objs.size + 4 ∨ d = s1.heap.objs.size + 2 ∨ d = s1.heap.objs.size + 3 ∨ d = s1.heap.objs.size ∨ d = s1.heap.objs.size + 1 := by simpa using hcm
      have hle : s1.heap.objs.size ≤ d := by
        rcases e' with z | z | z | z | z
        · rw [z]; exact Nat.le_add_right _ _
        · rw [z]; exact Nat.le_add_right _ _
        · rw [z]; exact Nat.le_add_right _ _
        · rw [z]; exact Nat.le_refl _
        · rw [z]; exact Nat.le_add_right _ _
      exact I1.fpOk hle (I1.hok.fresh hle)
theorem walk_zip2 {K : PySem.W.Frag} {k1 k2 : Bool} {a b : Addr} {xs ys : List V} {n : Nat} (h1 : xs.length = n) (h2 : ys.length = n) :
    Walk (Itz2 K k1 k2 a b) n (fun H => SqB k1 K H a xs ∧ SqB k2 K H b ys) (YPair (fun i => xs[i]?) (fun i => ys[i]?)) := by
  refine ⟨fun i H hi q => ⟨xs, ys, xs[i]'(by omega), ys[i]'(by omega), q.1, q.2, by simp, by simp⟩, fun H q => ⟨xs, ys, q.1, q.2, by omega, by omega, by omega⟩, fun i H v H' hi q y => ?_⟩
  obtain ⟨T, x, y, e1, e2, e3, e4, e5⟩ := y
  exact ⟨T, x, y, e1, e2, e3, e4 xs q.1, e5 ys q.2⟩

/-! ### enumerate -/
theorem meets_enum_B {v : Value} {o : Obj} {H : Heap → Prop} (B : Begins v o H) :
    Meets (Builtin.«enumerate.__new__» ⟨[.type "enumerate", v], []⟩) (fun _ R s => H s.heap ∧
      R (.ok (.ret (.ref (s.heap.push o).objs.size))) { s with heap := (s.heap.push o).push { cls := .type "enumerate", data := .fields #[.none, .bool false, .ref s.heap.objs.size, rawInt 0, .none, .none] } }) :=
  .of_wp fun prog w A R s h => by
    obtain ⟨hp, g, d, tk, os⟩ := s; obtain ⟨h1, h⟩ := h
    have hsub := sub_enumerate
    have q1 : ∀ {A' : Around} {E : Value → Shared → Prop} {Q : Value → Shared → Prop}, Q (.ref hp.objs.size) ⟨hp.push o, g, d, tk, os⟩ → wpAny (model prog w) A' (pyIter v) Q E ⟨hp, g, d, tk, os⟩ :=
      fun q => B.iter prog w _ _ ⟨hp, g, d, tk, os⟩ _ h1 q
    wp_walk using q1
    refine wpAny_stack_any fun st => wpAny_pure ?_
    split
    · rename_i c _ _ _ _ _
      cases (c == Value.type "enumerate")
      · wp_walk using q1
        exact ⟨_, rfl, h⟩
      · wp_walk using q1
        exact ⟨_, rfl, h⟩
    · wp_walk using q1
      exact ⟨_, rfl, h⟩
theorem enum_begins1 {prog : Program} {w : World} {A : Around} {E : Value → Shared → Prop} {s : Shared} {v : Value} {o : Obj} {H : Heap → Prop} {Q : Value → Shared → Prop} (B : Begins v o H) (h1 : H s.heap)
    (h : ∀ h', IsEnum h' (s.heap.objs.size + 1) s.heap.objs.size 0 .none → h'.get? s.heap.objs.size = some o → h'.objs.size = s.heap.objs.size + 2 →
      (∀ b o, s.heap.get? b = some o → h'.get? b = some o) → Q (.ref (s.heap.objs.size + 1)) { s with heap := h' }) :
    wpAny (model prog w) A (call (.type "enumerate") [v]) Q E s := by
  refine callType_new F.called_enumerate (by decide) (F.typeCall_enumerate_1 _) (F.newCall_enumerate_1 _) (fun obj => F.args_object_init_2 obj _) F.entry_enumerate_new
    (meets_enum_B B) ⟨h1, ?_⟩
  have hz : (s.heap.push o).objs.size = s.heap.objs.size + 1 := Heap.size_push ..
  show _ ∧ _
  rw [hz]
  have he : IsEnum ((s.heap.push o).push { cls := .type "enumerate", data := .fields #[.none, .bool false, .ref s.heap.objs.size, rawInt 0, .none, .none] }) (s.heap.objs.size + 1) s.heap.objs.size 0 .none := by
    have := Heap.get?_push_size (s.heap.push o) (o := { cls := .type "enumerate", data := .fields #[.none, .bool false, .ref s.heap.objs.size, rawInt 0, .none, .none] }) rfl
    rw [hz] at this; exact this
  refine ⟨⟨_, he, rfl⟩, h _ he (Heap.get?_push_of_some _ (Heap.get?_push_size _ B.free)) (by rw [Heap.size_push, hz]) fun b o x => Heap.get?_push_of_some _ (Heap.get?_push_of_some _ x)⟩
def IteB (K : PySem.W.Frag) (k : Bool) (a : Addr) : It :=
  ⟨fun i H => ∃ (xs : List V) (x : V), SqB k K H a xs ∧ xs[i]? = some x, fun i H v H' => ∃ T x, v = .ref T ∧ H T = none ∧ H' = upd H T (.tup [.int (i : Nat), x]) ∧ ∀ xs, SqB k K H a xs → xs[i]? = some x, fun i H => ∃ xs : List V, SqB k K H a xs ∧ xs.length = i⟩
theorem turn_enumB {P : Program} {w : World} {K : PySem.W.Frag} {elts : List Expr} {kk : Nat} {tpos : Pos} (k : Bool) (a e it : Addr) :
    Turn P w K (.Tuple elts kk tpos) (IteB K k a) [e, it] e (fun i h => (∃ old, IsEnum h e it ((i : Nat) : Int) old) ∧ ItB k h it a i ∧ e ≠ it ∧ a ≠ it ∧ e ≠ a) where
  mem := by simp
  obj := fun i h st b hb => by
    obtain ⟨⟨old, he⟩, q1, _⟩ := st
    have e' : b = e ∨ b = it := by simpa using hb
    rcases e' with z | z
    · rw [z]; exact ⟨_, he, fun v q => nomatch q⟩
    · rw [z]; exact q1.live
  keep := fun i h h' st k => let ⟨⟨old, he⟩, hi, hne⟩ := st; ⟨⟨old, k e (by simp) _ he⟩, hi.at fun o q => k it (by simp) o q, hne⟩
  item := by
    intro X hP hw hK hc i pins s σ H E I hf st hg
    subst hP hw hK
    obtain ⟨⟨old, he⟩, hit, hne, n1, n2⟩ := st
    obtain ⟨xs, x, hq, hx⟩ := hg
    obtain ⟨its, rv, p⟩ := inv_B I hq
    obtain ⟨u, hu, ru⟩ := rv.get hx
    have hel : e < s.heap.objs.size := Heap.lt_size he
    have hil : it < s.heap.objs.size := by obtain ⟨_, q, _⟩ := hit.live; exact Heap.lt_size q
    have hd : X.A.in1.handled = none := I.ok.hd hc
    have l1 : i < its.toArray.size := by simpa using (List.getElem?_eq_some_iff.mp hu).1
    refine wpAny_pyNext_enum_itemC (draws_B hd k it a n1 its.toArray) he ⟨hit, p⟩ l1 hne (by simp [hne, n2]) fun w1 h' tk e1 ho hit' hT hsz hk => ?_
    have ew : w1 = u := by
      have : its[i]? = some w1 := by simpa using e1
      rw [hu] at this; exact (Option.some.inj this).symm
    subst ew
    refine ⟨_, rfl, wpAny_letOwnedTupleGo_enum (s := { s with heap := h', toks := tk + 1 }) ho fun h'' he' sb => ?_⟩
    have hT2 : h''.get? s.heap.objs.size = some { cls := .type "tuple", data := .seq #[.int i tk, w1] } := (sb.2 _ (Nat.ne_of_gt hel)).trans hT
    have new : ObjOk X.prog X.w (upd H s.heap.objs.size (.tup [.int (i : Nat), x])) h'' s.heap.objs.size (.tup [.int (i : Nat), x]) :=
      ⟨by show 2 ≤ sizeLine; decide, [.int i tk, w1], .cons ⟨_, rfl⟩ (.cons ru .nil), ⟨_, hT2, rfl, _, rfl⟩⟩
    have I1 : Inv X pins σ (upd H s.heap.objs.size (.tup [.int (i : Nat), x])) { s with heap := h'', toks := tk + 1 } :=
      I.turnedNew (ch := [e, it]) (fun b ob hb q => (sb.2 b (fun z => hb (by simp [z]))).trans (hk b ob (fun z => hb (by simp [z])) (fun z => hb (by simp [z])) q)) hf (Nat.le_refl _) new
    refine ⟨.ref s.heap.objs.size, _, I1, rfl, ⟨_, x, rfl, I.hok.fresh (Nat.le_refl _), rfl, fun ys hy => by rw [inj_B I hy hq]; exact hx⟩, ⟨⟨w1, ?_⟩, hit'.1.at fun o q => (sb.2 it (Ne.symm hne)).trans q, hne, n1, n2⟩, fun b hb => ?_⟩
    · have e1 : ((i + 1 : Nat) : Int) = (i : Int) + 1 := by omega
      rw [e1]; exact he'
    · have hb' : b < s.heap.objs.size := by
        have e' : b = e ∨ b = it := by simpa using hb
        rcases e' with z | z
        · rw [z]; exact hel
        · rw [z]; exact hil
      rw [upd_ne (Nat.ne_of_lt hb')]
      exact (hf b hb).1
  done := by
    intro X hP hw hK hc i pins s σ H E I hf st hg
    subst hP hw hK
    obtain ⟨⟨old, he⟩, hit, hne, n1, n2⟩ := st
    obtain ⟨xs, hq, hx⟩ := hg
    obtain ⟨its, rv, p⟩ := inv_B I hq
    obtain ⟨f0, f1, f2, f3, f4, f5⟩ := hf it (by simp)
    have hl := rv.length
    have hd : X.A.in1.handled = none := I.ok.hd hc
    have hn : its.toArray.size = i := by simp; omega
    exact wpAny_pyNext_enum_endD (draws_B hd k it a n1 its.toArray) he (by rw [hn]; exact ⟨hit, p⟩) fun h' eb => ⟨rfl, I.turned (t' := s.toks) (fun b o hb q => eb b o hb q) f0 f1 f3 f4 f5⟩
  self := fun A i s Q E st h => let ⟨⟨_, he⟩, _⟩ := st; wpAny_pyIter_enum he h
def iEnumB (K : PySem.W.Frag) (ta : TA) : TI := fun σ H R => ta σ H fun vs H1 => ∃ k a xs, vs = [.ref a] ∧ SqB k K H1 a xs ∧ R (IteB K k a) H1
theorem pi_enumB {X : Cx} {e : Expr} {ta : TA} {p pos tpos : Pos} {elts : List Expr} {kk : Nat} (hg : Gl X "enumerate") (hm : X.mg "enumerate" = none) (ha : PA X [e] ta) (hs : starEach [e] X.env = [(false, eval e X.env)] := by rfl) :
    PI X (.Tuple elts kk tpos) (.Call (.Name "enumerate" p) [e] [] pos) (iEnumB X.K ta) := by
  refine ⟨fun pins s σ H R I h => ?_⟩
  refine Call_ (ld_blt I hg hm boot_enumerate (PyProof.Rows.callWith_type1 (thn (ha.run pos pins s σ H _ I h) fun us s1 ⟨vs, H1, I1, r1, q1⟩ => ?_) hs rfl))
  obtain ⟨k, a, xs, ex, hq, q⟩ := q1
  subst ex
  cases r1 with
  | cons r rr =>
    cases rr
    cases r
    obtain ⟨its, rv, p1⟩ := inv_B I1 hq
    have la := p1.lt
    obtain ⟨o1, b1, g1⟩ := begins_B k a its.toArray
    refine enum_begins1 b1 p1 fun h' he hit hsz hk => wpAny_pyIter_enum he ?_
    have I2 : Inv X pins σ H1 { s1 with heap := h' } := I1.kept (t' := s1.toks) hk
    refine ⟨s1.heap.objs.size + 1, [s1.heap.objs.size + 1, s1.heap.objs.size], _, _, H1, rfl, I2, turn_enumB k a (s1.heap.objs.size + 1) s1.heap.objs.size, ⟨⟨.none, he⟩, g1 _ _ hit, Nat.succ_ne_self _, Nat.ne_of_lt la, Nat.ne_of_gt (Nat.lt_succ_of_lt la)⟩, fun b hb => ?_, q⟩
    have e' : b = s1.heap.objs.size + 1 ∨ b = s1.heap.objs.size := by simpa using hb
    have hle : s1.heap.objs.size ≤ b := by
      rcases e' with z | z
      · rw [z]; exact Nat.le_add_right _ _
      · rw [z]; exact Nat.le_refl _
    exact I1.fpOk hle (I1.hok.fresh hle)
theorem walk_enumB {K : PySem.W.Frag} {k : Bool} {a : Addr} {xs : List V} : Walk (IteB K k a) xs.length (fun H => SqB k K H a xs) (YPair (fun i => some (.int (i : Nat))) (fun i => xs[i]?)) := by
  refine ⟨fun i _ hi q => ⟨xs, xs[i], q, by simp [hi]⟩, fun _ q => ⟨xs, q, rfl⟩, fun i H v H' _ q y => ?_⟩
  obtain ⟨T, x, h1, h2, h3, h4⟩ := y
  exact ⟨T, .int (i : Nat), x, h1, h2, h3, rfl, h4 xs q⟩
end Fx

set_option linter.all false
/-! Fractions in lowest terms, plain Lean. -/
namespace FM
/-- the common divisor with the sign of the bottom -/
def sg (b : Int) (g : Nat) : Int := if b < 0 then -(g : Int) else (g : Int)
def low (a b : Int) : Int × Int := (a.fdiv (sg b (Nat.gcd a.natAbs b.natAbs)), b.fdiv (sg b (Nat.gcd a.natAbs b.natAbs)))
structure Low (p : Int × Int) : Prop where
  pos : 0 < p.2
  cop : Nat.gcd p.1.natAbs p.2.natAbs = 1
theorem sg_ne {a b : Int} (h : b ≠ 0) : sg b (Nat.gcd a.natAbs b.natAbs) ≠ 0 := by
  have g : 0 < Nat.gcd a.natAbs b.natAbs := Nat.gcd_pos_of_pos_right _ (by omega)
  unfold sg
  split <;> omega
theorem sg_abs (b : Int) (g : Nat) : (sg b g).natAbs = g := by
  unfold sg
  split <;> omega
theorem fdiv_exact {a c : Int} (h : c ≠ 0) (d : c ∣ a) : a.fdiv c * c = a := by
  obtain ⟨k, rfl⟩ := d
  rw [Int.mul_comm c k, Int.mul_fdiv_cancel _ h]
theorem sg_dvd_l (a b : Int) : sg b (Nat.gcd a.natAbs b.natAbs) ∣ a := by
  rw [← Int.natAbs_dvd_natAbs, sg_abs]
  exact Nat.gcd_dvd_left _ _
theorem sg_dvd_r (a b : Int) : sg b (Nat.gcd a.natAbs b.natAbs) ∣ b := by
  rw [← Int.natAbs_dvd_natAbs, sg_abs]
  exact Nat.gcd_dvd_right _ _
theorem low_l {a b : Int} (h : b ≠ 0) : (low a b).1 * sg b (Nat.gcd a.natAbs b.natAbs) = a := fdiv_exact (sg_ne h) (sg_dvd_l a b)
theorem low_r {a b : Int} (h : b ≠ 0) : (low a b).2 * sg b (Nat.gcd a.natAbs b.natAbs) = b := fdiv_exact (sg_ne h) (sg_dvd_r a b)
theorem low_low {a b : Int} (h : b ≠ 0) : Low (low a b) := by
  have e1 := low_l (a := a) h
  have e2 := low_r (a := a) h
  have hg := sg_ne (a := a) h
  have ha := sg_abs b (Nat.gcd a.natAbs b.natAbs)
  have gp : 0 < Nat.gcd a.natAbs b.natAbs := Nat.gcd_pos_of_pos_right _ (by omega)
  refine ⟨?_, ?_⟩
  · by_cases hb : b < 0
    · have e3 : sg b (Nat.gcd a.natAbs b.natAbs) < 0 := by
        unfold sg
        rw [if_pos hb]
        omega
      rcases Int.lt_or_le 0 (low a b).2 with z | z
      · exact z
      · have := Int.mul_nonneg_of_nonpos_of_nonpos z (Int.le_of_lt e3)
        omega
    · have e3 : 0 < sg b (Nat.gcd a.natAbs b.natAbs) := by
        unfold sg
        rw [if_neg hb]
        omega
      rcases Int.lt_or_le 0 (low a b).2 with z | z
      · exact z
      · have := Int.mul_nonpos_of_nonpos_of_nonneg z (Int.le_of_lt e3)
        omega
  · have h1 : a.natAbs = (low a b).1.natAbs * Nat.gcd a.natAbs b.natAbs := by
      have := congrArg Int.natAbs e1
      rw [Int.natAbs_mul, ha] at this
      exact this.symm
    have h2 : b.natAbs = (low a b).2.natAbs * Nat.gcd a.natAbs b.natAbs := by
      have := congrArg Int.natAbs e2
      rw [Int.natAbs_mul, ha] at this
      exact this.symm
    have h3 : Nat.gcd ((low a b).1.natAbs * Nat.gcd a.natAbs b.natAbs) ((low a b).2.natAbs * Nat.gcd a.natAbs b.natAbs) = Nat.gcd a.natAbs b.natAbs := by
      rw [← h1, ← h2]
    rw [Nat.gcd_mul_right] at h3
    exact Nat.eq_of_mul_eq_mul_right gp (by rw [h3, Nat.one_mul])
/-- the form is one -/
theorem low_uniq {p : Int × Int} {c : Int} (h : Low p) (hc : c ≠ 0) : low (p.1 * c) (p.2 * c) = p := by
  have hp := h.pos
  have e : Nat.gcd (p.1 * c).natAbs (p.2 * c).natAbs = c.natAbs := by
    rw [Int.natAbs_mul, Int.natAbs_mul, Nat.gcd_mul_right, h.cop, Nat.one_mul]
  have e2 : sg (p.2 * c) c.natAbs = c := by
    unfold sg
    by_cases hn : c < 0
    · rw [if_pos (Int.mul_neg_of_pos_of_neg hp hn)]
      omega
    · have := Int.mul_nonneg (Int.le_of_lt hp) (show 0 ≤ c by omega)
      rw [if_neg (by omega)]
      omega
  unfold low
  rw [e, e2, Int.mul_fdiv_cancel _ hc, Int.mul_fdiv_cancel _ hc]
theorem low_self {p : Int × Int} (h : Low p) : low p.1 p.2 = p := by
  have := low_uniq h (c := 1) (by decide)
  rwa [Int.mul_one, Int.mul_one] at this
theorem low_scale {a b s : Int} (hb : b ≠ 0) (hs : s ≠ 0) : low (a * s) (b * s) = low a b := by
  have h := low_low (a := a) hb
  have g := sg_ne (a := a) hb
  have e := low_uniq h (c := sg b (Nat.gcd a.natAbs b.natAbs) * s) (Int.mul_ne_zero g hs)
  rw [← Int.mul_assoc, ← Int.mul_assoc, low_l hb, low_r hb] at e
  exact e
theorem low_int (n : Int) : low n 1 = (n, 1) := low_self (p := (n, 1)) ⟨Int.one_pos, by simp⟩
theorem lowInt (n : Int) : Low (n, 1) := ⟨Int.one_pos, by simp⟩
theorem low_cross {p q : Int × Int} (hp : Low p) (hq : Low q) : (p = q) ↔ p.1 * q.2 - q.1 * p.2 = 0 := by
  constructor
  · rintro rfl
    exact Int.sub_self _
  · intro h
    have e1 := low_uniq hp (c := q.2) (by have := hq.pos; omega)
    have e2 := low_uniq hq (c := p.2) (by have := hp.pos; omega)
    have hh : p.1 * q.2 = q.1 * p.2 := by omega
    exact (e1.symm.trans (by rw [hh, Int.mul_comm p.2 q.2])).trans e2
theorem low_neg {p : Int × Int} (h : Low p) : Low (-p.1, p.2) := ⟨h.pos, by rw [Int.natAbs_neg]; exact h.cop⟩
theorem low_abs {p : Int × Int} (h : Low p) : Low ((p.1.natAbs : Int), p.2) := ⟨h.pos, by simpa using h.cop⟩
theorem fdiv_scale_pos {a b g : Int} (hg : 0 < g) (hb : 0 < b) : (a * g).fdiv (b * g) = a.fdiv b := by
  rw [Int.fdiv_eq_ediv_of_nonneg _ (Int.le_of_lt (Int.mul_pos hb hg)), Int.fdiv_eq_ediv_of_nonneg _ (Int.le_of_lt hb)]
  exact Int.mul_ediv_mul_of_pos_left a b hg
theorem fdiv_scale {a b g : Int} (hg : g ≠ 0) (hb : b ≠ 0) : (a * g).fdiv (b * g) = a.fdiv b := by
  have key : ∀ (a b g : Int), 0 < g → b ≠ 0 → (a * g).fdiv (b * g) = a.fdiv b := by
    intro a b g hg hb
    rcases Int.lt_or_lt_of_ne hb with h | h
    · rw [← Int.neg_fdiv_neg, ← Int.neg_mul, ← Int.neg_mul, fdiv_scale_pos hg (by omega), Int.neg_fdiv_neg]
    · exact fdiv_scale_pos hg h
  rcases Int.lt_or_lt_of_ne hg with h | h
  · rw [← Int.neg_fdiv_neg, ← Int.mul_neg, ← Int.mul_neg]
    exact key a b (-g) (by omega) hb
  · exact key a b g h hb
theorem low_floor {a b : Int} (hb : b ≠ 0) : (low a b).1.fdiv (low a b).2 = a.fdiv b := by
  have h := low_low (a := a) hb
  have e := fdiv_scale (a := (low a b).1) (b := (low a b).2) (g := sg b (Nat.gcd a.natAbs b.natAbs)) (sg_ne hb) (by have := h.pos; omega)
  rw [low_l hb, low_r hb] at e
  exact e.symm
/-- powers of coprimes -/
theorem low_pow {p : Int × Int} (h : Low p) (k : Nat) : Low (p.1 ^ k, p.2 ^ k) := by
  refine ⟨Int.pow_pos h.pos, ?_⟩
  have e : ∀ (x : Int), (x ^ k).natAbs = x.natAbs ^ k := fun x => Int.natAbs_pow x k
  show Nat.gcd (p.1 ^ k).natAbs (p.2 ^ k).natAbs = 1
  rw [e, e]
  exact Nat.Coprime.pow k k h.cop
/-- the values of sums, differences, products, quotients -/
def fadd (p q : Int × Int) : Int × Int := low (p.1 * q.2 + q.1 * p.2) (p.2 * q.2)
def fsub (p q : Int × Int) : Int × Int := low (p.1 * q.2 - q.1 * p.2) (p.2 * q.2)
def fmul (p q : Int × Int) : Int × Int := low (p.1 * q.1) (p.2 * q.2)
def fover (p q : Int × Int) : Int × Int := low (p.1 * q.2) (p.2 * q.1)
def fflo (p q : Int × Int) : Int := (p.1 * q.2).fdiv (p.2 * q.1)
/-- a difference may be taken with the second one out of lowest terms -/
theorem fsub_low {p : Int × Int} {a b : Int} (hp : Low p) (hb : b ≠ 0) : fsub p (low a b) = low (p.1 * b - a * p.2) (p.2 * b) := by
  have g := sg_ne (a := a) hb
  have h := low_low (a := a) hb
  unfold fsub
  rw [← low_scale (a := p.1 * (low a b).2 - (low a b).1 * p.2) (b := p.2 * (low a b).2) (s := sg b (Nat.gcd a.natAbs b.natAbs)) (Int.mul_ne_zero (by have := hp.pos; omega) (by have := h.pos; omega)) g]
  have e1 := low_l (a := a) hb
  have e2 := low_r (a := a) hb
  rw [Int.sub_mul, Int.mul_assoc, e2, Int.mul_right_comm, e1, Int.mul_assoc, e2]
theorem log2_lt {n : Int} {k : Nat} (h : n.natAbs < 2 ^ k) (hk : 0 < k) : n.natAbs.log2 < k := by
  by_cases z : n.natAbs = 0
  · rw [z]
    simpa using hk
  · exact (Nat.log2_lt z).mpr h
/-- a part of lowest terms is no greater -/
theorem low_le1 {a b : Int} (h : b ≠ 0) : (low a b).1.natAbs ≤ a.natAbs := by
  have e1 := congrArg Int.natAbs (low_l (a := a) h)
  have hg := sg_ne (a := a) h
  rw [Int.natAbs_mul] at e1
  rw [← e1]
  exact Nat.le_mul_of_pos_right _ (by omega)
theorem low_le2 {a b : Int} (h : b ≠ 0) : (low a b).2.natAbs ≤ b.natAbs := by
  have e1 := congrArg Int.natAbs (low_r (a := a) h)
  have hg := sg_ne (a := a) h
  rw [Int.natAbs_mul] at e1
  rw [← e1]
  exact Nat.le_mul_of_pos_right _ (by omega)
end FM

set_option linter.all false
/-! Piles and their echoes over the rational numbers, plain Lean. -/
namespace KM
open FM
/-- the rational number of a pair -/
def val (p : Int × Int) : Rat := (p.1 : Rat) / (p.2 : Rat)
theorem cast_ne {n : Int} (h : n ≠ 0) : (n : Rat) ≠ 0 := by
  intro e
  exact h (by exact_mod_cast e)
theorem val_low {a b : Int} (h : b ≠ 0) : val (low a b) = (a : Rat) / (b : Rat) := by
  have e1 := low_l (a := a) h
  have e2 := low_r (a := a) h
  have hb := cast_ne h
  have hl := low_low (a := a) h
  have h2 : ((low a b).2 : Rat) ≠ 0 := cast_ne (by have := hl.pos; omega)
  have g := cast_ne (sg_ne (a := a) h)
  unfold val
  have c1 : ((low a b).1 : Rat) * ((sg b (Nat.gcd a.natAbs b.natAbs) : Int) : Rat) = (a : Rat) := by exact_mod_cast e1
  have c2 : ((low a b).2 : Rat) * ((sg b (Nat.gcd a.natAbs b.natAbs) : Int) : Rat) = (b : Rat) := by exact_mod_cast e2
  rw [← c1, ← c2]
  grind
theorem val_inj {p q : Int × Int} (hp : Low p) (hq : Low q) (h : val p = val q) : p = q := by
  rw [low_cross hp hq]
  have h2 : (p.2 : Rat) ≠ 0 := cast_ne (by have := hp.pos; omega)
  have h3 : (q.2 : Rat) ≠ 0 := cast_ne (by have := hq.pos; omega)
  unfold val at h
  have e : (p.1 : Rat) * q.2 - q.1 * p.2 = 0 := by grind
  exact_mod_cast e
theorem Low.ne {p : Int × Int} (h : Low p) : p.2 ≠ 0 := by have := h.pos; omega
theorem val_add {p q : Int × Int} (hp : Low p) (hq : Low q) : val (fadd p q) = val p + val q := by
  have h2 := cast_ne (Low.ne hp)
  have h3 := cast_ne (Low.ne hq)
  unfold fadd
  rw [val_low (Int.mul_ne_zero (Low.ne hp) (Low.ne hq))]
  unfold val
  push_cast
  grind
theorem val_sub {p q : Int × Int} (hp : Low p) (hq : Low q) : val (fsub p q) = val p - val q := by
  have h2 := cast_ne (Low.ne hp)
  have h3 := cast_ne (Low.ne hq)
  unfold fsub
  rw [val_low (Int.mul_ne_zero (Low.ne hp) (Low.ne hq))]
  unfold val
  push_cast
  grind
theorem val_mul {p q : Int × Int} (hp : Low p) (hq : Low q) : val (fmul p q) = val p * val q := by
  have h2 := cast_ne (Low.ne hp)
  have h3 := cast_ne (Low.ne hq)
  unfold fmul
  rw [val_low (Int.mul_ne_zero (Low.ne hp) (Low.ne hq))]
  unfold val
  push_cast
  grind
theorem val_over {p q : Int × Int} (hp : Low p) (hq : Low q) (h : q.1 ≠ 0) : val (fover p q) = val p / val q := by
  have h2 := cast_ne (Low.ne hp)
  have h3 := cast_ne (Low.ne hq)
  have h4 := cast_ne h
  unfold fover
  rw [val_low (Int.mul_ne_zero (Low.ne hp) h)]
  unfold val
  push_cast
  grind
theorem val_int (n : Int) : val (n, 1) = (n : Rat) := by
  have e : val (n, 1) = (n : Rat) / ((1 : Int) : Rat) := rfl
  rw [e]
  grind
theorem low_fadd {p q : Int × Int} (hp : Low p) (hq : Low q) : Low (fadd p q) := low_low (Int.mul_ne_zero (Low.ne hp) (Low.ne hq))
theorem low_fsub {p q : Int × Int} (hp : Low p) (hq : Low q) : Low (fsub p q) := low_low (Int.mul_ne_zero (Low.ne hp) (Low.ne hq))
theorem low_fmul {p q : Int × Int} (hp : Low p) (hq : Low q) : Low (fmul p q) := low_low (Int.mul_ne_zero (Low.ne hp) (Low.ne hq))
theorem low_fover {p q : Int × Int} (hp : Low p) (h : q.1 ≠ 0) : Low (fover p q) := low_low (Int.mul_ne_zero (Low.ne hp) h)
theorem val_zero {p : Int × Int} (h : Low p) : val p = 0 ↔ p.1 = 0 := by
  have h2 := cast_ne (Low.ne h)
  unfold val
  constructor
  · intro e
    have : (p.1 : Rat) = 0 := by grind
    exact_mod_cast this
  · intro e
    rw [e]
    grind
/-- a common bottom, and how great the tops are -/
def Rep (D M : Nat) (x : Rat) : Prop := ∃ N : Int, x * (D : Rat) = (N : Rat) ∧ N.natAbs ≤ M
theorem Rep.le {D M M' : Nat} {x : Rat} (h : Rep D M x) (l : M ≤ M') : Rep D M' x := let ⟨N, a, b⟩ := h; ⟨N, a, Nat.le_trans b l⟩
theorem Rep.mul {D M : Nat} {x : Rat} (h : Rep D M x) (k : Nat) : Rep (D * k) (M * k) x := by
  obtain ⟨N, a, b⟩ := h
  refine ⟨N * k, ?_, ?_⟩
  · push_cast
    rw [← a]
    grind
  · rw [Int.natAbs_mul]
    exact Nat.mul_le_mul_right k b
theorem Rep.sub {D M M' : Nat} {x y : Rat} (h : Rep D M x) (h' : Rep D M' y) : Rep D (M + M') (x - y) := by
  obtain ⟨N, a, b⟩ := h
  obtain ⟨N', a', b'⟩ := h'
  refine ⟨N - N', ?_, ?_⟩
  · push_cast
    rw [← a, ← a']
    grind
  · omega
/-- a step: x - c * y -/
theorem Rep.step {D M : Nat} {x y : Rat} {c : Int × Int} (h : Rep D M x) (h' : Rep D M y) (hc : Low c) (hl : c.1.natAbs ≤ c.2.natAbs) : Rep (D * c.2.natAbs) (2 * c.2.natAbs * M) (x - val c * y) := by
  have a1 := h.mul c.2.natAbs
  have a2 : Rep (D * c.2.natAbs) (M * c.2.natAbs) (val c * y) := by
    obtain ⟨N, a, b⟩ := h'
    have h2 := cast_ne (Low.ne hc)
    refine ⟨c.1 * N, ?_, ?_⟩
    · have e : ((c.2.natAbs : Nat) : Rat) = (c.2 : Rat) := by
        have := hc.pos
        have e : ((c.2.natAbs : Nat) : Int) = c.2 := by omega
        exact_mod_cast congrArg (fun z : Int => (z : Rat)) e
      push_cast
      rw [e, ← a]
      unfold val
      grind
    · rw [Int.natAbs_mul, Nat.mul_comm]
      exact Nat.mul_le_mul b hl
  refine (a1.sub a2).le ?_
  rw [Nat.mul_comm M, Nat.mul_assoc, Nat.two_mul]
  exact Nat.le_refl _
theorem Rep.dvd {D M : Nat} {p : Int × Int} (hp : Low p) (h : Rep D M (val p)) (hD : 0 < D) : p.2.natAbs ≤ D ∧ p.1.natAbs ≤ M := by
  obtain ⟨N, a, b⟩ := h
  have h2 := cast_ne (Low.ne hp)
  have e : (p.1 : Rat) * ((D : Nat) : Int) = (N : Rat) * p.2 := by
    unfold val at a
    push_cast
    grind
  have e1 : p.1 * ((D : Nat) : Int) = N * p.2 := by exact_mod_cast e
  have e2 : p.1.natAbs * D = N.natAbs * p.2.natAbs := by
    have := congrArg Int.natAbs e1
    rw [Int.natAbs_mul, Int.natAbs_mul] at this
    simpa using this
  have c := hp.cop
  have d1 : p.2.natAbs ∣ D := by
    refine Nat.Coprime.dvd_of_dvd_mul_left (m := p.1.natAbs) ?_ ⟨N.natAbs, by rw [e2, Nat.mul_comm]⟩
    show Nat.gcd p.2.natAbs p.1.natAbs = 1
    rw [Nat.gcd_comm]
    exact c
  refine ⟨Nat.le_of_dvd hD d1, ?_⟩
  have d2 : p.1.natAbs ∣ N.natAbs := Nat.Coprime.dvd_of_dvd_mul_right (n := p.2.natAbs) c ⟨D, e2.symm⟩
  by_cases z : N.natAbs = 0
  · rw [z, Nat.zero_mul] at e2
    rcases Nat.mul_eq_zero.mp e2 with q | q
    · omega
    · omega
  · exact Nat.le_trans (Nat.le_of_dvd (by omega) d2) b
end KM

set_option Elab.async false
set_option linter.all false
set_option maxRecDepth 100000
set_option maxHeartbeats 4000000
namespace Fx
open PySem PySem.Spec PyProof.Rows L2 FM
section
variable {X : Cx}
/-- X(), X an own exception class without own __init__ -/
theorem pmk_own0 {C : Addr} {bmB : List Value} {B newId initId : String} {x : Str} {p pos : Pos} (F : ExcBaseFacts B newId initId bmB) (q : PySem.W.excIn X.K C bmB newId = true) (gC : X.mg x = some (.ref C))
    (kC : PySem.W.keepIn X.K (.ref C) = true) (r : Raises X (.ref C)) (hg : Gl X x) (hdb : (x == ("__debug__" : Str)) = false := by decide) :
    PMk X (.Call (.Name x p) [] [] pos) (fun σ H Q => Q (.ref C) none H) := by
  intro pins s σ H Q I h
  refine wpAny_Call_Name_kw (ld_glob I hg gC ?_ hdb)
  refine PySem.W.callWith_K0 I.kIn kC ?_
  show wpAny _ _ (call (.ref C) []) _ _ _
  obtain ⟨bm, N, nm, qn, bs, hdct, sn, sub, ab, col, dd, k0, k1, k2, k3, k5, mN, hC, hN, hni, T⟩ := exc_obj I.kIn q
  refine wpAny_call_exc_subT F T hC hN hni (fun h' e hm => ?_) (by show 0 ≤ sizeLine; exact Nat.zero_le _)
  exact mk_of I hm r h (I.hok.gone hm.new)
/-- // by a divisor of either sign -/
def CDivZ (_ j : Int) : Prop := j ≠ 0 ∧ j.natAbs.log2 < 9000
theorem op_fdivZ : OpR X (binaryOp .FloorDiv) (rI CDivZ fun i j => .int (i.fdiv j)) := opI fun i j _ _ _ _ _ hc q => floordiv_int hc.1 q (.inl (PyProof.noPylong_of_log2 hc.2))
end
/-! ### the text -/
abbrev sInit : Stmt := inClass (top 39) 1
/-! ### a Frac in the heap -/
def kN : Str := "num"
def kD : Str := "den"
def fr (p : Int × Int) : List (Str × V) := [("num", .int p.1), ("den", .int p.2)]
def FracAt (C : Addr) (H : Hp) (a : Addr) (p : Int × Int) : Prop := ∃ dx, H a = some (.ins C dx (fr p))
theorem FracAt.ext {C : Addr} {H H' : Hp} {a : Addr} {p : Int × Int} (h : FracAt C H a p) (e : Ext H H') : FracAt C H' a p := let ⟨dx, h⟩ := h; ⟨dx, e _ _ h⟩
theorem FracAt.ins {C : Addr} {H : Hp} {a : Addr} {p : Int × Int} (h : FracAt C H a p) : Ins C H (.ref a) := let ⟨dx, h⟩ := h; ⟨a, dx, _, rfl, h⟩
theorem ndk : ¬ (("num" : Str) = "den") := by decide +kernel
theorem fr_num (p : Int × Int) : (fr p).lookup ("num" : Str) = some (.int p.1) := by simp [fr, List.lookup]
theorem fr_den (p : Int × Int) : (fr p).lookup ("den" : Str) = some (.int p.2) := by
  have q : (("den" : Str) == ("num" : Str)) = false := by decide +kernel
  simp [fr, List.lookup, q]
theorem fr_no (p : Int × Int) {m : Str} (h1 : (m == ("num" : Str)) = false) (h2 : (m == ("den" : Str)) = false) : (fr p).lookup m = none := by simp [fr, List.lookup, h1, h2]
/-- sizes -/
def Bd (n : Int) : Prop := n.natAbs < 2 ^ 4000
def Bi (n : Int) : Prop := n.natAbs < 2 ^ 8900
theorem Bi.log {n : Int} (h : Bi n) : n.natAbs.log2 < 9000 := Nat.lt_of_lt_of_le (log2_lt h (by decide)) (by decide)
/-- where the things of the text lie -/
structure Adr where
  (C Z T B W init add radd sub rsub mul rmul flo rflo mod rmod pow neg abs bool eq lt le gt ge str over of_ read isnum wq rdb pOf pRead : Addr)
/-- what the walk asks of the text -/
structure FT (K : PySem.W.Frag) (mg : Str → Option Value) (A : Adr) : Prop where
  cl : Cls K A.C
  nN : NoAttr K A.C "num"
  nD : NoAttr K A.C "den"
  mgC : mg "Frac" = some (.ref A.C)
  gcd : mg "gcd" = some (.builtin "math.gcd")
  gZ : mg "DivisionByZero" = some (.ref A.Z)
  xZ : PySem.W.excIn K A.Z [.type "ValueError", .type "Exception", .type "BaseException", .type "object"] "ValueError.__new__" = true
  kZ : PySem.W.keepIn K (.ref A.Z) = true
  bZ : PySem.W.subIn K (.ref A.Z) (.type "BaseException") = some true
  tZ : PySem.W.typeIn K (.ref A.Z) = some (.type "type")
  isi : mg "isinstance" = none
  int0 : mg "int" = none
  ca : PySem.W.findIn K (.ref A.C) "__class__" = some (some (.builtin "object.__class__"))
  cg : PySem.W.specialIn K (.builtin "object.__class__") "__get__" = some (some (.builtin "getset_descriptor.__get__"))
  ct : PySem.W.takesIn K (.builtin "object.__class__") = some true
  cm : PySem.W.mroIn K A.C (.type "object") = some true
  isC : PySem.W.isClsIn K A.C = true
  tC : PySem.W.typeIn K (.ref A.C) = some (.type "type")
  sub1 : PySem.W.subIn K (.ref A.C) (.type "int") = some false
  sub2 : PySem.W.subIn K (.type "int") (.ref A.C) = some false
  sf : PySem.W.selfFirst K A.C = true
  gIs : mg "is_number" = some (.ref A.isnum)
  gWq : mg "_whole_quotient" = some (.ref A.wq)
/-- a number: a Frac in the heap, or an int -/
def Num (A : Adr) (H : Hp) (y : V) (q : Int × Int) : Prop := (∃ b, y = .ref b ∧ FracAt A.C H b q) ∨ (y = .int q.1 ∧ q.2 = 1)
theorem Num.ext {A : Adr} {H H' : Hp} {y : V} {q : Int × Int} (h : Num A H y q) (e : Ext H H') : Num A H' y q := h.elim (fun ⟨b, e1, f⟩ => .inl ⟨b, e1, f.ext e⟩) .inr
theorem Num.of {A : Adr} {H : Hp} {b : Addr} {q : Int × Int} (h : FracAt A.C H b q) : Num A H (.ref b) q := .inl ⟨b, rfl, h⟩
theorem Num.int {A : Adr} {H : Hp} (n : Int) : Num A H (.int n) (n, 1) := .inr ⟨rfl, rfl⟩
/-- a fraction in lowest terms, of a size -/
structure Okf (p : Int × Int) : Prop where
  low : Low p
  b1 : Bd p.1
  b2 : Bd p.2
theorem ext1 {H : Hp} {p : Addr} {o : HO} (h : H p = none) : Ext H (upd H p o) := fun a u e => by rw [upd_ne (ne_of_none e h)]; exact e
section
variable {K : PySem.W.Frag} {mg : Str → Option Value} {A : Adr} {H : Hp}
theorem FT.tyF (T : FT K mg A) {a : Addr} {p : Int × Int} (h : FracAt A.C H a p) : TyX K H (.ref a) (.ref A.C) := let ⟨_, h⟩ := h; .base (.ins h T.cl T.ca T.cg T.ct T.cm)
theorem tyI (n : Int) : TyX K H (.int n) (.type "int") := .base (.int n)
theorem kit_meta_int : PySem.W.kitMeta "int" = true := by decide +kernel
theorem kit_II : PySem.W.kitOne K (.type "int") (.type "int") = some true := by unfold PySem.W.kitOne; rw [if_pos (by simp)]
theorem kit_CC : PySem.W.kitOne K (.ref A.C) (.ref A.C) = some true := by unfold PySem.W.kitOne; rw [if_pos (by simp)]
theorem FT.kit_CI (T : FT K mg A) : PySem.W.kitOne K (.ref A.C) (.type "int") = some false := by
  unfold PySem.W.kitOne PySem.W.kitCls
  rw [if_neg (by intro z; cases beq_iff_eq.mp z)]
  simp only [kit_meta_int, if_true]
  exact T.sub1
theorem FT.kit_IC (T : FT K mg A) : PySem.W.kitOne K (.type "int") (.ref A.C) = some false := by
  unfold PySem.W.kitOne PySem.W.kitCls
  rw [if_neg (by intro z; cases beq_iff_eq.mp z)]
  have e : (PySem.W.clsIn K A.C).isSome = true := T.isC
  simp only [e, T.tC, beq_self_eq_true, Bool.and_self, if_true]
  exact T.sub2
end
/-- a def of the text with its promise -/
structure Cal (P : Program) (w : World) (K : PySem.W.Frag) (mg : Str → Option Value) (base : Heap) (k : Nat) (f : Addr) (ps : List Str) (sp : Sp) : Prop where
  ex : ∃ fd, FnOk P w K mg base (L2.CX P w) k f fd ps sp ∧ Binds K fd ps []
  kp : PySem.W.keepIn K (.ref f) = true
section
variable {P : Program} {w : World} {K : PySem.W.Frag} {mg : Str → Option Value} {base : Heap} {A : Adr}
/-- Frac.__init__: the parts in lowest terms, or DivisionByZero -/
def spInit (C Z : Addr) : Sp := fun vs H Q E => ∃ (x dx : Addr) (n d : Int), vs = [.ref x, .int n, .int d] ∧ H x = some (.ins C dx []) ∧ Bi d ∧
  (d = 0 → E (.ref Z) none H) ∧ (d ≠ 0 → Q .non (upd H x (.ins C dx (fr (low n d)))))
theorem scInit : FnScope ["self", "num", "den", "common"] ["self", "num", "den"] (defScope sInit) := ⟨rfl, rfl, rfl, by decide +kernel, rfl, by decide +kernel, by decide +kernel⟩
theorem ok_init {f : Addr} {fd : FuncData} (F : FunD K "__init__" "Frac.__init__" (defArgs sInit) (defBody sInit) (defScope sInit) [.int 0, .int 1] [] f fd) (T : FT K mg A) : FnOk P w K mg base (L2.CX P w) 1 f fd ["self", "num", "den"] (spInit A.C A.Z) := by
  refine F.ok scInit (fun vs H Q E h => ?_) (fun cdv AA outer s H vs Q E hr h => ?_)
  · obtain ⟨x, dx, n, d, rfl, _⟩ := h
    rfl
  · obtain ⟨x, dx, n, d, rfl, hx, hd, k0, k1⟩ := h
    refine ⟨_, pss_cons (ps_if (pt_cmpR L2.op_eq (pv 2) pe_int (nomark _)) (pss_one (ps_raise rfl (takes_of rfl rfl rfl rfl) (pmk_own0 PySem.F.excBase_ValueError T.xZ T.gZ T.kZ (raises_own T.bZ T.tZ) rfl))) pss_nil)
      (pss_cons (ps_set (i := 3) scInit.nd rfl (Or.inl rfl) (pe_callBfun cr_gcd (by rfl) T.gcd (pa_cons (pv 1) (pa_cons (pv 2) pa_nil))))
      (pss_cons (ps_if (pt_cmpR L2.op_lt (pv 2) pe_int (nomark _)) (pss_one (ps_set (i := 3) scInit.nd rfl (Or.inl rfl) (pe_un L2.un_neg (pv 3)))) pss_nil)
      (pss_cons (ps_fld (pv 0) (pe_op op_fdivZ (pv 1) (pv 3)) rfl)
      (pss_one (ps_fld (pv 0) (pe_op op_fdivZ (pv 2) (pv 3)) rfl))))), ?_⟩
    refine ⟨_, rfl, rfl, _, rfl, ?_⟩
    by_cases hz : d = 0
    · subst hz
      refine iteT ?_
      exact k0 rfl
    · have e0 : decide (V.int d = V.int 0) = false := decide_eq_false (by intro z; injection z with z; exact hz z)
      rw [e0]
      refine iteF ?_
      refine ⟨_, rfl, _, rfl, n, d, rfl, ?_⟩
      have fin : ∀ (t : Int) , t = sg d (Nat.gcd n.natAbs d.natAbs) →
          (tSeq (sFld K (tVar 0) (tOp (rI CDivZ fun i j => .int (i.fdiv j)) (tVar 1) (tVar 3)) "num") (sFld K (tVar 0) (tOp (rI CDivZ fun i j => .int (i.fdiv j)) (tVar 2) (tVar 3)) "den")) { nx := fun _ H' => Q .non H', rt := Q } [some (.ref x), some (.int n), some (.int d), some (.int t)] H := by
        rintro t rfl
        have g := sg_ne (a := n) hz
        have gl : (sg d (Nat.gcd n.natAbs d.natAbs)).natAbs.log2 < 9000 := by
          rw [sg_abs]
          refine Nat.lt_of_lt_of_le (log2_lt (n := ((Nat.gcd n.natAbs d.natAbs : Nat) : Int)) (k := 8900) ?_ (by decide)) (by decide)
          exact Nat.lt_of_le_of_lt (Nat.gcd_le_right _ (by omega)) hd
        refine ⟨_, rfl, _, rfl, _, _, rfl, rfl, ⟨g, gl⟩, _, rfl, x, A.C, dx, [], rfl, hx, T.cl, T.nN, (by show 0 < 1000; decide), ?_⟩
        refine ⟨_, rfl, _, rfl, _, _, rfl, rfl, ⟨g, gl⟩, _, rfl, x, A.C, dx, _, rfl, upd_same, T.cl, T.nD, (by show 1 < 1000; decide), ?_⟩
        rw [upd_upd]
        exact k1 hz
      refine ⟨_, rfl, _, _, rfl, rfl, _, rfl, ?_⟩
      by_cases hn : d < 0
      · rw [decide_eq_true hn]
        refine iteT ?_
        refine ⟨_, rfl, _, rfl, ?_⟩
        exact fin _ (by unfold sg; rw [if_pos hn])
      · rw [decide_eq_false hn]
        refine iteF ?_
        exact fin _ (by unfold sg; rw [if_neg hn])

/-- Frac is made: what a call of it needs -/
structure MkF (P : Program) (w : World) (K : PySem.W.Frag) (mg : Str → Option Value) (base : Heap) (A : Adr) : Prop where
  mkc : Mk K A.C A.init
  ex : ∃ fd, FnOk P w K mg base (L2.CX P w) 1 A.init fd ["self", "num", "den"] (spInit A.C A.Z) ∧ Binds K fd ["self", "num", "den"] [] ∧ (∃ ds, Vals [V.int 1] ds ∧ Binds K fd ["self", "num", "den"] ds) ∧ (∃ ds, Vals [V.int 0, V.int 1] ds ∧ Binds K fd ["self", "num", "den"] ds)
theorem mkF {fd : FuncData} (F : FunD K "__init__" "Frac.__init__" (defArgs sInit) (defBody sInit) (defScope sInit) [.int 0, .int 1] [] A.init fd) (M : Mk K A.C A.init) (T : FT K mg A) : MkF P w K mg base A := by
  refine ⟨M, fd, ok_init F T, ?_, ?_, ?_⟩
  · obtain ⟨ds, v, b⟩ := F.binds1 (ps := ["self", "num", "den"]) 3 2 (by simp) rfl fun T kV doc pm an cdv ct us its l1 l2 => match us, its, l1, l2 with | [_, _, _], [_, _], _, _ => ⟨_, rfl, rfl⟩
    cases v
    exact b
  · exact F.binds1 (ps := ["self", "num", "den"]) 2 1 (by simp) rfl fun T kV doc pm an cdv ct us its l1 l2 => match us, its, l1, l2 with | [_, _], [_, _], _, _ => ⟨_, rfl, rfl⟩
  · exact F.binds1 (ps := ["self", "num", "den"]) 1 0 (by simp) rfl fun T kV doc pm an cdv ct us its l1 l2 => match us, its, l1, l2 with | [_], [_, _], _, _ => ⟨_, rfl, rfl⟩
end
section
variable {X : Cx} {A : Adr} {e e2 : Expr} {p pos : Pos} {t : TA}
theorem made_ext {H : Hp} {x dx : Addr} {o1 o2 o3 : HO} (hx : H x = none) (hdx : H dx = none) : Ext H (upd (upd (upd H dx o1) x o2) x o3) := fun a u e => by
  rw [upd_ne (ne_of_none e hx), upd_ne (ne_of_none e hx), upd_ne (ne_of_none e hdx)]
  exact e
/-- Frac(n, d), d not 0 -/
def tFr (A : Adr) (t : TA) : TE := fun σ H Q => t σ H fun vs H1 => ∃ n d, vs = [.int n, .int d] ∧ d ≠ 0 ∧ Bi d ∧ ∀ r H', Ext H1 H' → FracAt A.C H' r (low n d) → Q (.ref r) H'
theorem pe_frac2 (m : MkF X.prog X.w X.K X.mg X.base A) (T : FT X.K X.mg A) (hr : Room 2 X.A) (hg : Gl X "Frac") (ha : PA X [e, e2] t)
    (he : starEach [e, e2] X.env = (false, eval e X.env) :: starEach [e2] X.env := by rfl) (hpl : (backTo pos (starEach [e2] X.env)).any (·.1) = false := by rfl) : PE X (.Call (.Name "Frac" p) [e, e2] [] pos) (tFr A t) := by
  obtain ⟨fd, F, hb, _⟩ := m.ex
  refine ⟨fun pins s σ H Q I h => ?_⟩
  refine wpAny_Call_Name_kw (ld_glob I hg T.mgC ?_ (by decide))
  refine PySem.W.callWith_K (h₀ := X.base) I.ok.mod.kin m.mkc.kp (thn (ha.run pos pins s σ H _ I h) fun us s1 ⟨vs, H1, I1, r, q⟩ => ⟨I1.kIn, ?_⟩) he hpl
  obtain ⟨n, d, rfl, hd, bd, k⟩ := q
  exact run_make m.mkc F hr hb .nil (E := E0) passL I1 r fun x dx nx ndx nex => ⟨x, dx, n, d, rfl, upd_same, bd, fun z => absurd z hd, fun _ => ⟨rfl, k x _ (made_ext nx ndx) ⟨dx, upd_same⟩⟩⟩
/-- Frac(n) -/
def tFr1 (A : Adr) (t : TA) : TE := fun σ H Q => t σ H fun vs H1 => ∃ n, vs = [.int n] ∧ ∀ r H', Ext H1 H' → FracAt A.C H' r (n, 1) → Q (.ref r) H'
theorem Bi_one : Bi 1 := by unfold Bi; exact Nat.one_lt_two_pow (by decide)
theorem pe_frac1 (m : MkF X.prog X.w X.K X.mg X.base A) (T : FT X.K X.mg A) (hr : Room 2 X.A) (hg : Gl X "Frac") (ha : PA X [e] t)
    (he : starEach [e] X.env = (false, eval e X.env) :: starEach [] X.env := by rfl) (hpl : (backTo pos (starEach [] X.env)).any (·.1) = false := by rfl) : PE X (.Call (.Name "Frac" p) [e] [] pos) (tFr1 A t) := by
  obtain ⟨fd, F, _, ⟨ds, hv, hb⟩, _⟩ := m.ex
  refine ⟨fun pins s σ H Q I h => ?_⟩
  refine wpAny_Call_Name_kw (ld_glob I hg T.mgC ?_ (by decide))
  refine PySem.W.callWith_K (h₀ := X.base) I.ok.mod.kin m.mkc.kp (thn (ha.run pos pins s σ H _ I h) fun us s1 ⟨vs, H1, I1, r, q⟩ => ⟨I1.kIn, ?_⟩) he hpl
  obtain ⟨n, rfl, k⟩ := q
  exact run_make m.mkc F hr hb hv (E := E0) passL I1 r fun x dx nx ndx nex => ⟨x, dx, n, 1, rfl, upd_same, Bi_one, fun z => absurd z (by decide), fun _ => ⟨rfl, k x _ (made_ext nx ndx) ⟨dx, by rw [low_int]; exact upd_same⟩⟩⟩
/-- Frac() -/
def tFr0 (A : Adr) : TE := fun σ H Q => ∀ r H', Ext H H' → FracAt A.C H' r (0, 1) → Q (.ref r) H'
theorem pe_frac0 (m : MkF X.prog X.w X.K X.mg X.base A) (T : FT X.K X.mg A) (hr : Room 2 X.A) (hg : Gl X "Frac") : PE X (.Call (.Name "Frac" p) [] [] pos) (tFr0 A) := by
  obtain ⟨fd, F, _, _, ⟨ds, hv, hb⟩⟩ := m.ex
  refine ⟨fun pins s σ H Q I h => ?_⟩
  refine wpAny_Call_Name_kw (ld_glob I hg T.mgC ?_ (by decide))
  exact PySem.W.callWith_K0 I.kIn m.mkc.kp (run_make (us := []) m.mkc F hr hb hv (E := E0) passL I .nil fun x dx nx ndx nex => ⟨x, dx, 0, 1, rfl, upd_same, Bi_one, fun z => absurd z (by decide), fun _ => ⟨rfl, h x _ (made_ext nx ndx) ⟨dx, by rw [low_int]; exact upd_same⟩⟩⟩)
end
end Fx

set_option Elab.async false
set_option linter.all false
set_option maxRecDepth 100000
set_option maxHeartbeats 4000000
set_option exponentiation.threshold 20000
namespace Fx
open PySem PySem.Spec PyProof.Rows L2 FM
abbrev sIsNum : Stmt := top 40
abbrev sWq : Stmt := top 44
abbrev sAdd : Stmt := inClass (top 39) 2
abbrev sRadd : Stmt := inClass (top 39) 3
abbrev sSub : Stmt := inClass (top 39) 4
abbrev sRsub : Stmt := inClass (top 39) 5
abbrev sMul : Stmt := inClass (top 39) 6
abbrev sRmul : Stmt := inClass (top 39) 7
abbrev sNeg : Stmt := inClass (top 39) 13
abbrev sOf : Stmt := inClass (top 39) 23
theorem Bd.add {a b : Int} {m n k : Nat} (ha : a.natAbs < 2 ^ m) (hb : b.natAbs < 2 ^ n) (h1 : m < k) (h2 : n < k) : (a + b).natAbs < 2 ^ k := by
  have x := Nat.pow_le_pow_right (show 0 < 2 by decide) (show m ≤ k - 1 by omega)
  have y := Nat.pow_le_pow_right (show 0 < 2 by decide) (show n ≤ k - 1 by omega)
  have z : 2 ^ k = 2 ^ (k - 1) + 2 ^ (k - 1) := by
    rw [← Nat.two_mul, ← Nat.pow_succ']
    congr 1
    omega
  omega
theorem Bd.mul {a b : Int} (ha : Bd a) (hb : Bd b) : Bi (a * b) := Nat.lt_of_lt_of_le (wide_lt ha hb) (Nat.pow_le_pow_right (by decide) (by decide))
theorem Bd.cm {a b : Int} (ha : Bd a) (hb : Bd b) : CMulW a b := wide_mul ha hb (by decide) (by decide) (by decide)
theorem Bd.bi {a : Int} (ha : Bd a) : Bi a := Nat.lt_of_lt_of_le ha (Nat.pow_le_pow_right (by decide) (by decide))
theorem Bd_one : Bd 1 := Nat.one_lt_two_pow (by decide)
section
variable {P : Program} {w : World} {K : PySem.W.Frag} {mg : Str → Option Value} {base : Heap} {A : Adr}
theorem boot_isi : bootBuiltins "isinstance" = some (.builtin "isinstance") := by decide +kernel
theorem boot_int : bootBuiltins "int" = some (.type "int") := by decide +kernel

/-! ### is_number -/
def spIsNum (A : Adr) : Sp := fun vs H Q _ => ∃ x q, vs = [x] ∧ Num A H x q ∧ ∀ H', Ext H H' → Q (.bl true) H'
theorem scIsNum : FnScope ["value"] ["value"] (defScope sIsNum) := ⟨rfl, rfl, rfl, by decide +kernel, rfl, by decide +kernel, by decide +kernel⟩
theorem ok_isnum {f : Addr} {fd : FuncData} (F : Fun K "is_number" "is_number" sIsNum f fd) (T : FT K mg A) : FnOk P w K mg base (L2.CX P w) 1 f fd ["value"] (spIsNum A) := by
  refine F.okX scIsNum (fun vs H Q E h => ?_) (fun cdv AA outer s H vs Q E hr h => ?_)
  · obtain ⟨x, q, rfl, _⟩ := h
    rfl
  · obtain ⟨x, q, rfl, hn, k⟩ := h
    refine ⟨_, pss_one (ps_ret (pe_callB call_isiT (by rfl) T.isi boot_isi (pa_cons (pv 0) (pa_cons (pe_tup (pa_cons (pe_bltn (v := .ty "int") (by rfl) T.int0 boot_int rfl) (pa_cons (pe_glob (v := .ref A.C) (by rfl) T.mgC rfl) pa_nil))) pa_nil)))), ?_⟩
    refine ⟨_, rfl, (by show 2 ≤ sizeLine; decide), fun p np => ?_⟩
    rcases hn with ⟨b, rfl, hf⟩ | ⟨rfl, _⟩
    · refine ⟨_, p, _, .ref A.C, [.type "int", .ref A.C], true, rfl, upd_same, .cons (.ty "int") (.cons (.own A.C) .nil), T.tyF (hf.ext (ext1 np)), ?_, k _ (ext1 np)⟩
      exact kitAny_cons T.kit_CI (fun _ => kitAny_cons kit_CC (fun z => by cases z) (fun _ => rfl)) (fun z => by cases z)
    · refine ⟨_, p, _, .type "int", [.type "int", .ref A.C], true, rfl, upd_same, .cons (.ty "int") (.cons (.own A.C) .nil), tyI _, ?_, k _ (ext1 np)⟩
      exact kitAny_cons kit_II (fun z => by cases z) (fun _ => rfl)

/-! ### Frac.of -/
def spOf (A : Adr) : Sp := fun vs H Q _ => ∃ x q, vs = [x] ∧ Num A H x q ∧ ∀ r H', Ext H H' → FracAt A.C H' r q → Q (.ref r) H'
theorem scOf : FnScope ["value"] ["value"] (defScope sOf) := ⟨rfl, rfl, rfl, by decide +kernel, rfl, by decide +kernel, by decide +kernel⟩
theorem ok_of {f : Addr} {fd : FuncData} (F : Fun K "of" "Frac.of" sOf f fd) (T : FT K mg A) (M : MkF P w K mg base A) : FnOk P w K mg base (L2.CX P w) 3 f fd ["value"] (spOf A) := by
  refine F.okX scOf (fun vs H Q E h => ?_) (fun cdv AA outer s H vs Q E hr h => ?_)
  · obtain ⟨x, q, rfl, _⟩ := h
    rfl
  · obtain ⟨x, q, rfl, hn, k⟩ := h
    refine ⟨_, pss_cons (ps_if (pt_val (pe_callB call_isi (by rfl) T.isi boot_isi (pa_cons (pv 0) (pa_cons (pe_glob (v := .ref A.C) (by rfl) T.mgC rfl) pa_nil)))) (pss_one (ps_ret (pv 0))) pss_nil)
      (pss_one (ps_ret (pe_frac1 M T hr rfl (pa_cons (pv 0) pa_nil)))), ?_⟩
    rcases hn with ⟨b, rfl, hf⟩ | ⟨rfl, h1⟩
    · refine ⟨_, rfl, _, _, _, _, true, rfl, .own A.C, T.tyF hf, kit_CC, _, rfl, iteT ?_⟩
      exact ⟨_, rfl, k b H Ext.rfl' hf⟩
    · refine ⟨_, rfl, _, _, _, _, false, rfl, .own A.C, tyI _, T.kit_IC, _, rfl, iteF ?_⟩
      refine ⟨_, rfl, q.1, rfl, fun r H' e hf => k r H' e ?_⟩
      rw [← h1] at hf
      exact hf

/-! ### sums, differences, products: the promise of both forms -/
def spB (A : Adr) (g : Int × Int → Int × Int → Int × Int) : Sp := fun vs H Q _ => ∃ a p y q, vs = [.ref a, y] ∧ FracAt A.C H a p ∧ Num A H y q ∧ Okf p ∧ Okf q ∧ ∀ r H', Ext H H' → FracAt A.C H' r (g p q) → Q (.ref r) H'
theorem Okf.ne {p : Int × Int} (o : Okf p) : p.2 ≠ 0 := by have := o.low.pos; omega
theorem Okf.mne {p q : Int × Int} (o : Okf p) (o' : Okf q) : p.2 * q.2 ≠ 0 := Int.mul_ne_zero o.ne o'.ne
theorem one_of {p : Int × Int} (h : p.2 = 1) : p = (p.1, 1) := by cases p; simp_all
theorem scAdd : FnScope ["self", "other"] ["self", "other"] (defScope sAdd) := ⟨rfl, rfl, rfl, by decide +kernel, rfl, by decide +kernel, by decide +kernel⟩
theorem ok_add {f : Addr} {fd : FuncData} (F : Fun K "__add__" "Frac.__add__" sAdd f fd) (T : FT K mg A) (M : MkF P w K mg base A) (N : Cal P w K mg base 1 A.isnum ["value"] (spIsNum A)) : FnOk P w K mg base (L2.CX P w) 3 f fd ["self", "other"] (spB A fadd) := by
  refine F.okX scAdd (fun vs H Q E h => ?_) (fun cdv AA outer s H vs Q E hr h => ?_)
  · obtain ⟨a, p, y, q, rfl, _⟩ := h
    rfl
  · obtain ⟨a, p, y, q, rfl, ha, hy, op, oq, k⟩ := h
    obtain ⟨fdN, GN, bN⟩ := N.ex
    refine ⟨_, pss_cons (ps_if (pt_not (pt_val (pe_call GN (hr.mono (by decide)) rfl T.gIs N.kp bN .nil (E := E0) passL (pa_cons (pv 1) pa_nil)))) (pss_one ps_never) pss_nil)
      (pss_cons (ps_if (pt_val (pe_callB call_isi (by rfl) T.isi boot_isi (pa_cons (pv 1) (pa_cons (pe_bltn (v := .ty "int") (by rfl) T.int0 boot_int rfl) pa_nil))))
        (pss_one (ps_ret (pe_frac2 M T hr rfl (pa_cons (pe_op L2.op_add (pe_fld (pv 0) rfl) (pe_op op_mulW (pv 1) (pe_fld (pv 0) rfl))) (pa_cons (pe_fld (pv 0) rfl) pa_nil))))) pss_nil)
      (pss_one (ps_ret (pe_frac2 M T hr rfl (pa_cons (pe_op L2.op_add (pe_op op_mulW (pe_fld (pv 0) rfl) (pe_fld (pv 1) rfl)) (pe_op op_mulW (pe_fld (pv 1) rfl) (pe_fld (pv 0) rfl))) (pa_cons (pe_op op_mulW (pe_fld (pv 0) rfl) (pe_fld (pv 1) rfl)) pa_nil)))))), ?_⟩
    refine ⟨_, rfl, y, q, rfl, hy, fun H1 e1 => ⟨_, rfl, iteF ?_⟩⟩
    obtain ⟨dx, hA⟩ := ha.ext e1
    rcases hy.ext e1 with ⟨b, rfl, hf⟩ | ⟨rfl, h1⟩
    · obtain ⟨dy, hB⟩ := id hf
      refine ⟨_, rfl, _, _, _, _, false, rfl, .ty "int", T.tyF hf, T.kit_CI, _, rfl, iteF ?_⟩
      exact ⟨_, rfl, _, _, _, _, _, rfl, hA, T.cl, T.nN, fr_num _, _, rfl, _, _, _, _, _, rfl, hB, T.cl, T.nD, fr_den _, _, _, rfl, rfl, (op.b1.cm oq.b2), _, rfl, _, _, _, _, _, rfl, hB, T.cl, T.nN, fr_num _, _, rfl, _, _, _, _, _, rfl, hA, T.cl, T.nD, fr_den _, _, _, rfl, rfl, (oq.b1.cm op.b2), _, _, rfl, rfl, _, rfl, _, _, _, _, _, rfl, hA, T.cl, T.nD, fr_den _, _, rfl, _, _, _, _, _, rfl, hB, T.cl, T.nD, fr_den _, _, _, rfl, rfl, (op.b2.cm oq.b2), _, _, rfl, op.mne oq, op.b2.mul oq.b2, fun r H' e hf => k r H' (e1.trans e) hf⟩
    · refine ⟨_, rfl, _, _, _, _, true, rfl, .ty "int", tyI _, kit_II, _, rfl, iteT ?_⟩
      refine ⟨_, rfl, _, _, _, _, _, rfl, hA, T.cl, T.nN, fr_num _, _, rfl, _, rfl, _, _, _, _, _, rfl, hA, T.cl, T.nD, fr_den _, _, _, rfl, rfl, (oq.b1.cm op.b2), _, _, rfl, rfl, _, rfl, _, _, _, _, _, rfl, hA, T.cl, T.nD, fr_den _, _, _, rfl, op.ne, op.b2.bi, fun r H' e hf => k r H' (e1.trans e) ?_⟩
      unfold fadd
      rw [h1, Int.mul_one, Int.mul_one]
      exact hf

/-! ### own operators of Fracs -/
def rBF (A : Adr) (g : Int × Int → Int × Int → Int × Int) : R2 := fun x y H Q => ∃ a p q, x = .ref a ∧ FracAt A.C H a p ∧ Num A H y q ∧ Okf p ∧ Okf q ∧ ∀ r H', Ext H H' → FracAt A.C H' r (g p q) → Q (.ref r) H'
def rBR (A : Adr) (g : Int × Int → Int × Int → Int × Int) : R2 := fun x y H Q => ∃ n b q, x = .int n ∧ y = .ref b ∧ FracAt A.C H b q ∧ Bd n ∧ Okf q ∧ ∀ r H', Ext H H' → FracAt A.C H' r (g (n, 1) q) → Q (.ref r) H'
theorem Okf.int {n : Int} (h : Bd n) : Okf (n, 1) := ⟨lowInt n, h, Bd_one⟩
end
section
variable {X : Cx} {A : Adr} {k : Nat} {f : Addr} {g : Int × Int → Int × Int → Int × Int}
theorem op_BF {op : Operator} (B : BinF X.K A.C f op) (c : Cal X.prog X.w X.K X.mg X.base k f ["self", "other"] (spB A g)) (hr : Room k X.A) : OpR X (binaryOp op) (rBF A g) := by
  obtain ⟨fd, F, b⟩ := c.ex
  intro pins s σ H x y v u Q I rx ry h
  obtain ⟨a, p, q, rfl, ha, hy, op', oq, k⟩ := h
  exact op_own B F hr b (E := E0) passL pins s σ H _ y v u Q I rx ry ⟨ha.ins, hy.elim (fun ⟨b, e, f⟩ => .inl (by rw [e]; exact f.ins)) (fun e => .inr ⟨_, e.1⟩), a, p, y, q, rfl, ha, hy, op', oq, k⟩
theorem op_BR {op : Operator} {idl : String} {B : Builtin} (N : IntOp op idl B) (R : RefF X.K A.C f op) (c : Cal X.prog X.w X.K X.mg X.base k f ["self", "other"] (spB A fun p q => g q p)) (hr : Room k X.A) : OpR X (binaryOp op) (rBR A g) := by
  obtain ⟨fd, F, b⟩ := c.ex
  intro pins s σ H x y v u Q I rx ry h
  obtain ⟨n, b', q, rfl, rfl, hb, hn, oq, k⟩ := h
  exact op_ref N R F hr b (E := E0) passL pins s σ H _ _ v u Q I rx ry ⟨⟨n, rfl⟩, hb.ins, b', q, .int n, (n, 1), rfl, hb, .int n, oq, .int hn, k⟩
end
section
variable {P : Program} {w : World} {K : PySem.W.Frag} {mg : Str → Option Value} {base : Heap} {A : Adr}
theorem scRadd : FnScope ["self", "other"] ["self", "other"] (defScope sRadd) := ⟨rfl, rfl, rfl, by decide +kernel, rfl, by decide +kernel, by decide +kernel⟩
theorem fadd_comm (p q : Int × Int) : fadd p q = fadd q p := by unfold fadd; rw [Int.add_comm, Int.mul_comm p.2 q.2]
theorem ok_radd {f : Addr} {fd : FuncData} (F : Fun K "__radd__" "Frac.__radd__" sRadd f fd) (T : FT K mg A) (N : Cal P w K mg base 1 A.isnum ["value"] (spIsNum A)) (B : BinF K A.C A.add .Add) (c : Cal P w K mg base 3 A.add ["self", "other"] (spB A fadd)) :
    FnOk P w K mg base (L2.CX P w) 4 f fd ["self", "other"] (spB A fun p q => fadd q p) := by
  refine F.okX scRadd (fun vs H Q E h => ?_) (fun cdv AA outer s H vs Q E hr h => ?_)
  · obtain ⟨a, p, y, q, rfl, _⟩ := h
    rfl
  · obtain ⟨a, p, y, q, rfl, ha, hy, op, oq, k⟩ := h
    obtain ⟨fdN, GN, bN⟩ := N.ex
    refine ⟨_, pss_cons (ps_if (pt_not (pt_val (pe_call GN (hr.mono (by decide)) rfl T.gIs N.kp bN .nil (E := E0) passL (pa_cons (pv 1) pa_nil)))) (pss_one ps_never) pss_nil)
      (pss_one (ps_ret (pe_op (op_BF B c hr) (pv 0) (pv 1)))), ?_⟩
    refine ⟨_, rfl, y, q, rfl, hy, fun H1 e1 => ⟨_, rfl, iteF ?_⟩⟩
    exact ⟨_, rfl, _, rfl, a, p, q, rfl, ha.ext e1, hy.ext e1, op, oq, fun r H' e hf => k r H' (e1.trans e) (by show FracAt A.C H' r (fadd q p); rw [fadd_comm]; exact hf)⟩
end
end Fx

set_option Elab.async false
set_option linter.all false
set_option maxRecDepth 100000
set_option maxHeartbeats 4000000
set_option exponentiation.threshold 20000
namespace Fx
open PySem PySem.Spec PyProof.Rows L2 FM
abbrev sAbs : Stmt := inClass (top 39) 14
abbrev sFlo : Stmt := inClass (top 39) 8
abbrev sRflo : Stmt := inClass (top 39) 9
section
variable {P : Program} {w : World} {K : PySem.W.Frag} {mg : Str → Option Value} {base : Heap} {A : Adr}
theorem scSub : FnScope ["self", "other"] ["self", "other"] (defScope sSub) := ⟨rfl, rfl, rfl, by decide +kernel, rfl, by decide +kernel, by decide +kernel⟩
theorem ok_sub {f : Addr} {fd : FuncData} (F : Fun K "__sub__" "Frac.__sub__" sSub f fd) (T : FT K mg A) (M : MkF P w K mg base A) (N : Cal P w K mg base 1 A.isnum ["value"] (spIsNum A)) : FnOk P w K mg base (L2.CX P w) 3 f fd ["self", "other"] (spB A fsub) := by
  refine F.okX scSub (fun vs H Q E h => ?_) (fun cdv AA outer s H vs Q E hr h => ?_)
  · obtain ⟨a, p, y, q, rfl, _⟩ := h
    rfl
  · obtain ⟨a, p, y, q, rfl, ha, hy, op, oq, k⟩ := h
    obtain ⟨fdN, GN, bN⟩ := N.ex
    refine ⟨_, pss_cons (ps_if (pt_not (pt_val (pe_call GN (hr.mono (by decide)) rfl T.gIs N.kp bN .nil (E := E0) passL (pa_cons (pv 1) pa_nil)))) (pss_one ps_never) pss_nil)
      (pss_cons (ps_if (pt_val (pe_callB call_isi (by rfl) T.isi boot_isi (pa_cons (pv 1) (pa_cons (pe_bltn (v := .ty "int") (by rfl) T.int0 boot_int rfl) pa_nil))))
        (pss_one (ps_ret (pe_frac2 M T hr rfl (pa_cons (pe_op L2.op_sub (pe_fld (pv 0) rfl) (pe_op op_mulW (pv 1) (pe_fld (pv 0) rfl))) (pa_cons (pe_fld (pv 0) rfl) pa_nil))))) pss_nil)
      (pss_one (ps_ret (pe_frac2 M T hr rfl (pa_cons (pe_op L2.op_sub (pe_op op_mulW (pe_fld (pv 0) rfl) (pe_fld (pv 1) rfl)) (pe_op op_mulW (pe_fld (pv 1) rfl) (pe_fld (pv 0) rfl))) (pa_cons (pe_op op_mulW (pe_fld (pv 0) rfl) (pe_fld (pv 1) rfl)) pa_nil)))))), ?_⟩
    refine ⟨_, rfl, y, q, rfl, hy, fun H1 e1 => ⟨_, rfl, iteF ?_⟩⟩
    obtain ⟨dx, hA⟩ := ha.ext e1
    rcases hy.ext e1 with ⟨b, rfl, hf⟩ | ⟨rfl, h1⟩
    · obtain ⟨dy, hB⟩ := id hf
      refine ⟨_, rfl, _, _, _, _, false, rfl, .ty "int", T.tyF hf, T.kit_CI, _, rfl, iteF ?_⟩
      exact ⟨_, rfl, _, _, _, _, _, rfl, hA, T.cl, T.nN, fr_num _, _, rfl, _, _, _, _, _, rfl, hB, T.cl, T.nD, fr_den _, _, _, rfl, rfl, (op.b1.cm oq.b2), _, rfl, _, _, _, _, _, rfl, hB, T.cl, T.nN, fr_num _, _, rfl, _, _, _, _, _, rfl, hA, T.cl, T.nD, fr_den _, _, _, rfl, rfl, (oq.b1.cm op.b2), _, _, rfl, rfl, _, rfl, _, _, _, _, _, rfl, hA, T.cl, T.nD, fr_den _, _, rfl, _, _, _, _, _, rfl, hB, T.cl, T.nD, fr_den _, _, _, rfl, rfl, (op.b2.cm oq.b2), _, _, rfl, op.mne oq, op.b2.mul oq.b2, fun r H' e hf => k r H' (e1.trans e) hf⟩
    · refine ⟨_, rfl, _, _, _, _, true, rfl, .ty "int", tyI _, kit_II, _, rfl, iteT ?_⟩
      refine ⟨_, rfl, _, _, _, _, _, rfl, hA, T.cl, T.nN, fr_num _, _, rfl, _, rfl, _, _, _, _, _, rfl, hA, T.cl, T.nD, fr_den _, _, _, rfl, rfl, (oq.b1.cm op.b2), _, _, rfl, rfl, _, rfl, _, _, _, _, _, rfl, hA, T.cl, T.nD, fr_den _, _, _, rfl, op.ne, op.b2.bi, fun r H' e hf => k r H' (e1.trans e) ?_⟩
      unfold fsub
      rw [h1, Int.mul_one, Int.mul_one]
      exact hf
theorem scMul : FnScope ["self", "other"] ["self", "other"] (defScope sMul) := ⟨rfl, rfl, rfl, by decide +kernel, rfl, by decide +kernel, by decide +kernel⟩
theorem ok_mul {f : Addr} {fd : FuncData} (F : Fun K "__mul__" "Frac.__mul__" sMul f fd) (T : FT K mg A) (M : MkF P w K mg base A) (N : Cal P w K mg base 1 A.isnum ["value"] (spIsNum A)) : FnOk P w K mg base (L2.CX P w) 3 f fd ["self", "other"] (spB A fmul) := by
  refine F.okX scMul (fun vs H Q E h => ?_) (fun cdv AA outer s H vs Q E hr h => ?_)
  · obtain ⟨a, p, y, q, rfl, _⟩ := h
    rfl
  · obtain ⟨a, p, y, q, rfl, ha, hy, op, oq, k⟩ := h
    obtain ⟨fdN, GN, bN⟩ := N.ex
    refine ⟨_, pss_cons (ps_if (pt_not (pt_val (pe_call GN (hr.mono (by decide)) rfl T.gIs N.kp bN .nil (E := E0) passL (pa_cons (pv 1) pa_nil)))) (pss_one ps_never) pss_nil)
      (pss_cons (ps_if (pt_val (pe_callB call_isi (by rfl) T.isi boot_isi (pa_cons (pv 1) (pa_cons (pe_bltn (v := .ty "int") (by rfl) T.int0 boot_int rfl) pa_nil))))
        (pss_one (ps_ret (pe_frac2 M T hr rfl (pa_cons (pe_op op_mulW (pe_fld (pv 0) rfl) (pv 1)) (pa_cons (pe_fld (pv 0) rfl) pa_nil))))) pss_nil)
      (pss_one (ps_ret (pe_frac2 M T hr rfl (pa_cons (pe_op op_mulW (pe_fld (pv 0) rfl) (pe_fld (pv 1) rfl)) (pa_cons (pe_op op_mulW (pe_fld (pv 0) rfl) (pe_fld (pv 1) rfl)) pa_nil)))))), ?_⟩
    refine ⟨_, rfl, y, q, rfl, hy, fun H1 e1 => ⟨_, rfl, iteF ?_⟩⟩
    obtain ⟨dx, hA⟩ := ha.ext e1
    rcases hy.ext e1 with ⟨b, rfl, hf⟩ | ⟨rfl, h1⟩
    · obtain ⟨dy, hB⟩ := id hf
      refine ⟨_, rfl, _, _, _, _, false, rfl, .ty "int", T.tyF hf, T.kit_CI, _, rfl, iteF ?_⟩
      exact ⟨_, rfl, _, _, _, _, _, rfl, hA, T.cl, T.nN, fr_num _, _, rfl, _, _, _, _, _, rfl, hB, T.cl, T.nN, fr_num _, _, _, rfl, rfl, (op.b1.cm oq.b1), _, rfl, _, _, _, _, _, rfl, hA, T.cl, T.nD, fr_den _, _, rfl, _, _, _, _, _, rfl, hB, T.cl, T.nD, fr_den _, _, _, rfl, rfl, (op.b2.cm oq.b2), _, _, rfl, op.mne oq, op.b2.mul oq.b2, fun r H' e hf => k r H' (e1.trans e) hf⟩
    · refine ⟨_, rfl, _, _, _, _, true, rfl, .ty "int", tyI _, kit_II, _, rfl, iteT ?_⟩
      refine ⟨_, rfl, _, _, _, _, _, rfl, hA, T.cl, T.nN, fr_num _, _, rfl, _, _, rfl, rfl, (op.b1.cm oq.b1), _, rfl, _, _, _, _, _, rfl, hA, T.cl, T.nD, fr_den _, _, _, rfl, op.ne, op.b2.bi, fun r H' e hf => k r H' (e1.trans e) ?_⟩
      unfold fmul
      rw [h1, Int.mul_one]
      exact hf
/-- a promise of one Frac -/
def spU (A : Adr) (g : Int × Int → Int × Int) : Sp := fun vs H Q _ => ∃ a p, vs = [.ref a] ∧ FracAt A.C H a p ∧ Okf p ∧ ∀ r H', Ext H H' → FracAt A.C H' r (g p) → Q (.ref r) H'
def fneg (p : Int × Int) : Int × Int := (-p.1, p.2)
def fabs (p : Int × Int) : Int × Int := ((p.1.natAbs : Int), p.2)
theorem Okf.neg {p : Int × Int} (o : Okf p) : Okf (fneg p) := ⟨low_neg o.low, by unfold Bd fneg; rw [Int.natAbs_neg]; exact o.b1, o.b2⟩
theorem scNeg : FnScope ["self"] ["self"] (defScope sNeg) := ⟨rfl, rfl, rfl, by decide +kernel, rfl, by decide +kernel, by decide +kernel⟩
theorem ok_neg {f : Addr} {fd : FuncData} (F : Fun K "__neg__" "Frac.__neg__" sNeg f fd) (T : FT K mg A) (M : MkF P w K mg base A) : FnOk P w K mg base (L2.CX P w) 3 f fd ["self"] (spU A fneg) := by
  refine F.okX scNeg (fun vs H Q E h => ?_) (fun cdv AA outer s H vs Q E hr h => ?_)
  · obtain ⟨a, p, rfl, _⟩ := h
    rfl
  · obtain ⟨a, p, rfl, ha, op, k⟩ := h
    obtain ⟨dx, hA⟩ := ha
    refine ⟨_, pss_one (ps_ret (pe_frac2 M T hr rfl (pa_cons (pe_un L2.un_neg (pe_fld (pv 0) rfl)) (pa_cons (pe_fld (pv 0) rfl) pa_nil)))), ?_⟩
    refine ⟨_, rfl, _, _, _, _, _, rfl, hA, T.cl, T.nN, fr_num _, _, rfl, _, rfl, _, _, _, _, _, rfl, hA, T.cl, T.nD, fr_den _, _, _, rfl, op.ne, op.b2.bi, fun r H' e hf => k r H' e ?_⟩
    have e2 := low_self (low_neg op.low)
    dsimp only at e2
    rw [e2] at hf
    exact hf
theorem scAbs : FnScope ["self"] ["self"] (defScope sAbs) := ⟨rfl, rfl, rfl, by decide +kernel, rfl, by decide +kernel, by decide +kernel⟩
theorem boot_abs' : bootBuiltins "abs" = some (.builtin "abs") := by decide +kernel
theorem ok_abs {f : Addr} {fd : FuncData} (F : Fun K "__abs__" "Frac.__abs__" sAbs f fd) (T : FT K mg A) (M : MkF P w K mg base A) (ab : mg "abs" = none) : FnOk P w K mg base (L2.CX P w) 3 f fd ["self"] (spU A fabs) := by
  refine F.okX scAbs (fun vs H Q E h => ?_) (fun cdv AA outer s H vs Q E hr h => ?_)
  · obtain ⟨a, p, rfl, _⟩ := h
    rfl
  · obtain ⟨a, p, rfl, ha, op, k⟩ := h
    obtain ⟨dx, hA⟩ := ha
    refine ⟨_, pss_one (ps_ret (pe_frac2 M T hr rfl (pa_cons (pe_callB L2.call_abs (by rfl) ab boot_abs' (pa_cons (pe_fld (pv 0) rfl) pa_nil)) (pa_cons (pe_fld (pv 0) rfl) pa_nil)))), ?_⟩
    refine ⟨_, rfl, _, _, _, _, _, rfl, hA, T.cl, T.nN, fr_num _, _, rfl, _, rfl, _, _, _, _, _, rfl, hA, T.cl, T.nD, fr_den _, _, _, rfl, op.ne, op.b2.bi, fun r H' e hf => k r H' e ?_⟩
    have e2 := low_self (low_abs op.low)
    have e3 : (if p.1 < 0 then -p.1 else p.1) = (p.1.natAbs : Int) := by split <;> omega
    rw [e3] at hf
    dsimp only at e2
    rw [e2] at hf
    exact hf
theorem scRmul : FnScope ["self", "other"] ["self", "other"] (defScope sRmul) := ⟨rfl, rfl, rfl, by decide +kernel, rfl, by decide +kernel, by decide +kernel⟩
theorem fmul_comm (p q : Int × Int) : fmul p q = fmul q p := by unfold fmul; rw [Int.mul_comm p.1 q.1, Int.mul_comm p.2 q.2]
theorem ok_rmul {f : Addr} {fd : FuncData} (F : Fun K "__rmul__" "Frac.__rmul__" sRmul f fd) (T : FT K mg A) (N : Cal P w K mg base 1 A.isnum ["value"] (spIsNum A)) (B : BinF K A.C A.mul .Mult) (c : Cal P w K mg base 3 A.mul ["self", "other"] (spB A fmul)) :
    FnOk P w K mg base (L2.CX P w) 4 f fd ["self", "other"] (spB A fun p q => fmul q p) := by
  refine F.okX scRmul (fun vs H Q E h => ?_) (fun cdv AA outer s H vs Q E hr h => ?_)
  · obtain ⟨a, p, y, q, rfl, _⟩ := h
    rfl
  · obtain ⟨a, p, y, q, rfl, ha, hy, op, oq, k⟩ := h
    obtain ⟨fdN, GN, bN⟩ := N.ex
    refine ⟨_, pss_cons (ps_if (pt_not (pt_val (pe_call GN (hr.mono (by decide)) rfl T.gIs N.kp bN .nil (E := E0) passL (pa_cons (pv 1) pa_nil)))) (pss_one ps_never) pss_nil)
      (pss_one (ps_ret (pe_op (op_BF B c hr) (pv 0) (pv 1)))), ?_⟩
    refine ⟨_, rfl, y, q, rfl, hy, fun H1 e1 => ⟨_, rfl, iteF ?_⟩⟩
    exact ⟨_, rfl, _, rfl, a, p, q, rfl, ha.ext e1, hy.ext e1, op, oq, fun r H' e hf => k r H' (e1.trans e) (by show FracAt A.C H' r (fmul q p); rw [fmul_comm]; exact hf)⟩
theorem scRsub : FnScope ["self", "other"] ["self", "other"] (defScope sRsub) := ⟨rfl, rfl, rfl, by decide +kernel, rfl, by decide +kernel, by decide +kernel⟩
theorem fadd_neg (p q : Int × Int) : fadd (fneg p) q = fsub q p := by
  unfold fadd fsub fneg
  dsimp only
  rw [Int.neg_mul, Int.mul_comm p.2 q.2, show -(p.1 * q.2) + q.1 * p.2 = q.1 * p.2 - p.1 * q.2 by omega]
theorem ok_rsub {f : Addr} {fd : FuncData} (F : Fun K "__rsub__" "Frac.__rsub__" sRsub f fd) (T : FT K mg A) (N : Cal P w K mg base 1 A.isnum ["value"] (spIsNum A)) (B : BinF K A.C A.add .Add) (c : Cal P w K mg base 3 A.add ["self", "other"] (spB A fadd))
    (U : UnF K A.C A.neg "__neg__") (cn : Cal P w K mg base 3 A.neg ["self"] (spU A fneg)) : FnOk P w K mg base (L2.CX P w) 4 f fd ["self", "other"] (spB A fun p q => fsub q p) := by
  refine F.okX scRsub (fun vs H Q E h => ?_) (fun cdv AA outer s H vs Q E hr h => ?_)
  · obtain ⟨a, p, y, q, rfl, _⟩ := h
    rfl
  · obtain ⟨a, p, y, q, rfl, ha, hy, op, oq, k⟩ := h
    obtain ⟨fdN, GN, bN⟩ := N.ex
    obtain ⟨fdn, Gn, bn⟩ := cn.ex
    refine ⟨_, pss_cons (ps_if (pt_not (pt_val (pe_call GN (hr.mono (by decide)) rfl T.gIs N.kp bN .nil (E := E0) passL (pa_cons (pv 1) pa_nil)))) (pss_one ps_never) pss_nil)
      (pss_one (ps_ret (pe_op (op_BF B c hr) (pe_un (o_neg U Gn hr bn (E := E0) passL) (pv 0)) (pv 1)))), ?_⟩
    refine ⟨_, rfl, y, q, rfl, hy, fun H1 e1 => ⟨_, rfl, iteF ?_⟩⟩
    refine ⟨_, rfl, (ha.ext e1).ins, a, p, rfl, ha.ext e1, op, fun r H2 e2 hf => ?_⟩
    exact ⟨_, rfl, r, _, q, rfl, hf, hy.ext (e1.trans e2), op.neg, oq, fun r H' e hf => k r H' ((e1.trans e2).trans e) (by show FracAt A.C H' r (fsub q p); rw [← fadd_neg]; exact hf)⟩
theorem scWq : FnScope ["first", "second"] ["first", "second"] (defScope sWq) := ⟨rfl, rfl, rfl, by decide +kernel, rfl, by decide +kernel, by decide +kernel⟩
/-- _whole_quotient: the floor, or DivisionByZero -/
def spWq (A : Adr) : Sp := fun vs H Q E => ∃ a p b q, vs = [.ref a, .ref b] ∧ FracAt A.C H a p ∧ FracAt A.C H b q ∧ Okf p ∧ Okf q ∧ (q.1 = 0 → E (.ref A.Z) none H) ∧ (q.1 ≠ 0 → Q (.int (fflo p q)) H)
theorem ok_wq {f : Addr} {fd : FuncData} (F : Fun K "_whole_quotient" "_whole_quotient" sWq f fd) (T : FT K mg A) : FnOk P w K mg base (L2.CX P w) 1 f fd ["first", "second"] (spWq A) := by
  refine F.okX scWq (fun vs H Q E h => ?_) (fun cdv AA outer s H vs Q E hr h => ?_)
  · obtain ⟨a, p, b, q, rfl, _⟩ := h
    rfl
  · obtain ⟨a, p, b, q, rfl, ⟨dx, hA⟩, ⟨dy, hB⟩, op, oq, k0, k1⟩ := h
    refine ⟨_, pss_cons (ps_if (pt_cmpR L2.op_eq (pe_fld (pv 1) rfl) pe_int (nomark _)) (pss_one (ps_raise rfl (takes_of rfl rfl rfl rfl) (pmk_own0 PySem.F.excBase_ValueError T.xZ T.gZ T.kZ (raises_own T.bZ T.tZ) rfl))) pss_nil)
      (pss_one (ps_ret (pe_op op_fdivZ (pe_op op_mulW (pe_fld (pv 0) rfl) (pe_fld (pv 1) rfl)) (pe_op op_mulW (pe_fld (pv 0) rfl) (pe_fld (pv 1) rfl))))), ?_⟩
    refine ⟨_, rfl, _, _, _, _, _, rfl, hB, T.cl, T.nN, fr_num _, rfl, _, rfl, ?_⟩
    by_cases hz : q.1 = 0
    · rw [hz]
      exact iteT (k0 hz)
    · rw [show decide (V.int q.1 = V.int 0) = false from decide_eq_false (by intro z; injection z with z; exact hz z)]
      refine iteF ?_
      exact ⟨_, rfl, _, _, _, _, _, rfl, hA, T.cl, T.nN, fr_num _, _, rfl, _, _, _, _, _, rfl, hB, T.cl, T.nD, fr_den _, _, _, rfl, rfl, (op.b1.cm oq.b2), _, rfl, _, _, _, _, _, rfl, hA, T.cl, T.nD, fr_den _, _, rfl, _, _, _, _, _, rfl, hB, T.cl, T.nN, fr_num _, _, _, rfl, rfl, (op.b2.cm oq.b1), _, _, rfl, rfl, ⟨Int.mul_ne_zero op.ne hz, (op.b2.mul oq.b1).log⟩, k1 hz⟩
end
end Fx

set_option Elab.async false
set_option linter.all false
set_option maxRecDepth 100000
set_option maxHeartbeats 4000000
set_option exponentiation.threshold 20000
namespace Fx
open PySem PySem.Spec PyProof.Rows L2 FM
abbrev sMod : Stmt := inClass (top 39) 10
abbrev sRmod : Stmt := inClass (top 39) 11
abbrev sBool : Stmt := inClass (top 39) 15
abbrev sEq : Stmt := inClass (top 39) 16
abbrev sLt : Stmt := inClass (top 39) 17
abbrev sLe : Stmt := inClass (top 39) 18
abbrev sGt : Stmt := inClass (top 39) 19
abbrev sGe : Stmt := inClass (top 39) 20
abbrev sStr : Stmt := inClass (top 39) 21
abbrev sOver : Stmt := inClass (top 39) 22
/-- Frac's static methods are read off it -/
structure StF (K : PySem.W.Frag) (A : Adr) : Prop where
  cr : ClX.CRead K A.C (.type "type")
  sm : SMet K A.C (.type "type") "of" A.pOf A.of_
theorem OpR.or {X : Cx} {f : Value → Value → Sem Value} {r r' : R2} (h : OpR X f r) (h' : OpR X f r') : OpR X f (fun x y H Q => r x y H Q ∨ r' x y H Q) := fun pins s σ H x y v u Q I rx ry q =>
  q.elim (fun q => h pins s σ H x y v u Q I rx ry q) fun q => h' pins s σ H x y v u Q I rx ry q
section
variable {P : Program} {w : World} {K : PySem.W.Frag} {mg : Str → Option Value} {base : Heap} {A : Adr}
theorem scFlo : FnScope ["self", "other"] ["self", "other"] (defScope sFlo) := ⟨rfl, rfl, rfl, by decide +kernel, rfl, by decide +kernel, by decide +kernel⟩
/-- the floor of a quotient, or DivisionByZero -/
def spFlo (A : Adr) : Sp := fun vs H Q E => ∃ a p y q, vs = [.ref a, y] ∧ FracAt A.C H a p ∧ Num A H y q ∧ Okf p ∧ Okf q ∧ (q.1 = 0 → ∀ H', Ext H H' → E (.ref A.Z) none H') ∧ (q.1 ≠ 0 → ∀ H', Ext H H' → Q (.int (fflo p q)) H')
theorem ok_flo {f : Addr} {fd : FuncData} (F : Fun K "__floordiv__" "Frac.__floordiv__" sFlo f fd) (T : FT K mg A) (S : StF K A) (O : Cal P w K mg base 3 A.of_ ["value"] (spOf A)) (N : Cal P w K mg base 1 A.isnum ["value"] (spIsNum A)) (W : Cal P w K mg base 1 A.wq ["first", "second"] (spWq A)) : FnOk P w K mg base (L2.CX P w) 4 f fd ["self", "other"] (spFlo A) := by
  refine F.okX scFlo (fun vs H Q E h => ?_) (fun cdv AA outer s H vs Q E hr h => ?_)
  · obtain ⟨a, p, y, q, rfl, _⟩ := h
    rfl
  · obtain ⟨a, p, y, q, rfl, ha, hy, op, oq, k0, k1⟩ := h
    obtain ⟨fdN, GN, bN⟩ := N.ex
    obtain ⟨fdO, GO, bO⟩ := O.ex
    obtain ⟨fdW, GW, bW⟩ := W.ex
    refine ⟨_, pss_cons (ps_if (pt_not (pt_val (pe_call GN (hr.mono (by decide)) rfl T.gIs N.kp bN .nil (E := E0) passL (pa_cons (pv 1) pa_nil)))) (pss_one ps_never) pss_nil)
      (pss_one (ps_ret (pe_call GW (hr.mono (by decide)) rfl T.gWq W.kp bW .nil (passes_call (takes_of rfl rfl rfl rfl) (fun _ _ _ _ h => h)) (pa_cons (pv 0) (pa_cons (pe_smeth (pe_glob (v := .ref A.C) (by rfl) T.mgC rfl) S.cr S.sm T.tC GO (hr.mono (by decide)) bO (E := E0) passL (pa_cons (pv 1) pa_nil)) pa_nil))))), ?_⟩
    refine ⟨_, rfl, y, q, rfl, hy, fun H1 e1 => ⟨_, rfl, iteF ?_⟩⟩
    exact ⟨_, rfl, rfl, _, rfl, y, q, rfl, hy.ext e1, fun r H2 e2 hf => ⟨a, p, r, q, rfl, ha.ext (e1.trans e2), hf, op, oq, fun z => k0 z _ (e1.trans e2), fun z => k1 z _ (e1.trans e2)⟩⟩
theorem scRflo : FnScope ["self", "other"] ["self", "other"] (defScope sRflo) := ⟨rfl, rfl, rfl, by decide +kernel, rfl, by decide +kernel, by decide +kernel⟩
def spRflo (A : Adr) : Sp := fun vs H Q E => ∃ a p y q, vs = [.ref a, y] ∧ FracAt A.C H a p ∧ Num A H y q ∧ Okf p ∧ Okf q ∧ (p.1 = 0 → ∀ H', Ext H H' → E (.ref A.Z) none H') ∧ (p.1 ≠ 0 → ∀ H', Ext H H' → Q (.int (fflo q p)) H')
theorem ok_rflo {f : Addr} {fd : FuncData} (F : Fun K "__rfloordiv__" "Frac.__rfloordiv__" sRflo f fd) (T : FT K mg A) (S : StF K A) (O : Cal P w K mg base 3 A.of_ ["value"] (spOf A)) (N : Cal P w K mg base 1 A.isnum ["value"] (spIsNum A)) (W : Cal P w K mg base 1 A.wq ["first", "second"] (spWq A)) : FnOk P w K mg base (L2.CX P w) 4 f fd ["self", "other"] (spRflo A) := by
  refine F.okX scRflo (fun vs H Q E h => ?_) (fun cdv AA outer s H vs Q E hr h => ?_)
  · obtain ⟨a, p, y, q, rfl, _⟩ := h
    rfl
  · obtain ⟨a, p, y, q, rfl, ha, hy, op, oq, k0, k1⟩ := h
    obtain ⟨fdN, GN, bN⟩ := N.ex
    obtain ⟨fdO, GO, bO⟩ := O.ex
    obtain ⟨fdW, GW, bW⟩ := W.ex
    refine ⟨_, pss_cons (ps_if (pt_not (pt_val (pe_call GN (hr.mono (by decide)) rfl T.gIs N.kp bN .nil (E := E0) passL (pa_cons (pv 1) pa_nil)))) (pss_one ps_never) pss_nil)
      (pss_one (ps_ret (pe_call GW (hr.mono (by decide)) rfl T.gWq W.kp bW .nil (passes_call (takes_of rfl rfl rfl rfl) (fun _ _ _ _ h => h)) (pa_cons (pe_smeth (pe_glob (v := .ref A.C) (by rfl) T.mgC rfl) S.cr S.sm T.tC GO (hr.mono (by decide)) bO (E := E0) passL (pa_cons (pv 1) pa_nil)) (pa_cons (pv 0) pa_nil))))), ?_⟩
    refine ⟨_, rfl, y, q, rfl, hy, fun H1 e1 => ⟨_, rfl, iteF ?_⟩⟩
    exact ⟨rfl, _, rfl, y, q, rfl, hy.ext e1, fun r H2 e2 hf => ⟨_, rfl, r, q, a, p, rfl, hf, ha.ext (e1.trans e2), oq, op, fun z => k0 z _ (e1.trans e2), fun z => k1 z _ (e1.trans e2)⟩⟩
/-- smaller parts -/
structure Oks (p : Int × Int) : Prop where
  low : Low p
  b1 : p.1.natAbs < 2 ^ 900
  b2 : p.2.natAbs < 2 ^ 900
theorem Oks.ok {p : Int × Int} (o : Oks p) : Okf p := ⟨o.low, Nat.lt_of_lt_of_le o.b1 (Nat.pow_le_pow_right (by decide) (by decide)), Nat.lt_of_lt_of_le o.b2 (Nat.pow_le_pow_right (by decide) (by decide))⟩
theorem fdiv_le (a b : Int) (hb : b ≠ 0) : (a.fdiv b).natAbs ≤ a.natAbs := by
  have key : ∀ a b : Int, 0 < b → (a.fdiv b).natAbs ≤ a.natAbs := fun a b hb => by
    rw [Int.fdiv_eq_ediv_of_nonneg _ (Int.le_of_lt hb)]
    exact Int.natAbs_ediv_le_natAbs a b
  rcases Int.lt_or_lt_of_ne hb with h | h
  · rw [← Int.neg_fdiv_neg]
    have := key (-a) (-b) (by omega)
    rwa [Int.natAbs_neg] at this
  · exact key a b h
def fmod_ (p q : Int × Int) : Int × Int := fsub p (fmul q (fflo p q, 1))
theorem flo_b {p q : Int × Int} (op : Oks p) (oq : Oks q) (hz : q.1 ≠ 0) : (fflo p q).natAbs < 2 ^ 1800 :=
  Nat.lt_of_le_of_lt (fdiv_le _ _ (Int.mul_ne_zero op.ok.ne hz)) (wide_lt op.b1 oq.b2)
theorem flo_mul {p q : Int × Int} (op : Oks p) (oq : Oks q) (hz : q.1 ≠ 0) : (q.1 * fflo p q).natAbs < 2 ^ 2700 := wide_lt oq.b1 (flo_b op oq hz)
theorem flo_bd {p q : Int × Int} (op : Oks p) (oq : Oks q) (hz : q.1 ≠ 0) : Okf (fflo p q, 1) := .int (Nat.lt_of_lt_of_le (flo_b op oq hz) (Nat.pow_le_pow_right (by decide) (by decide)))
theorem fmul_ok {p q : Int × Int} (op : Oks p) (oq : Oks q) (hz : q.1 ≠ 0) : Okf (fmul q (fflo p q, 1)) := by
  have h : q.2 * 1 ≠ 0 := by rw [Int.mul_one]; exact oq.ok.ne
  refine ⟨low_low h, ?_, ?_⟩
  · exact Nat.lt_of_le_of_lt (low_le1 h) (Nat.lt_of_lt_of_le (flo_mul op oq hz) (Nat.pow_le_pow_right (by decide) (by decide)))
  · refine Nat.lt_of_le_of_lt (low_le2 h) ?_
    rw [Int.mul_one]
    exact oq.ok.b2
theorem scMod : FnScope ["self", "other"] ["self", "other"] (defScope sMod) := ⟨rfl, rfl, rfl, by decide +kernel, rfl, by decide +kernel, by decide +kernel⟩
def spMod (A : Adr) : Sp := fun vs H Q E => ∃ a p y q, vs = [.ref a, y] ∧ FracAt A.C H a p ∧ Num A H y q ∧ Oks p ∧ Oks q ∧ (q.1 = 0 → ∀ H', Ext H H' → E (.ref A.Z) none H') ∧ (q.1 ≠ 0 → ∀ r H', Ext H H' → FracAt A.C H' r (fmod_ p q) → Q (.ref r) H')
theorem ok_mod {f : Addr} {fd : FuncData} (F : Fun K "__mod__" "Frac.__mod__" sMod f fd) (T : FT K mg A) (S : StF K A) (O : Cal P w K mg base 3 A.of_ ["value"] (spOf A)) (N : Cal P w K mg base 1 A.isnum ["value"] (spIsNum A)) (W : Cal P w K mg base 1 A.wq ["first", "second"] (spWq A))
    (Bs : BinF K A.C A.sub .Sub) (cs : Cal P w K mg base 3 A.sub ["self", "other"] (spB A fsub)) (Bm : BinF K A.C A.mul .Mult) (cm : Cal P w K mg base 3 A.mul ["self", "other"] (spB A fmul)) : FnOk P w K mg base (L2.CX P w) 4 f fd ["self", "other"] (spMod A) := by
  refine F.okX scMod (fun vs H Q E h => ?_) (fun cdv AA outer s H vs Q E hr h => ?_)
  · obtain ⟨a, p, y, q, rfl, _⟩ := h
    rfl
  · obtain ⟨a, p, y, q, rfl, ha, hy, op, oq, k0, k1⟩ := h
    obtain ⟨fdN, GN, bN⟩ := N.ex
    obtain ⟨fdO, GO, bO⟩ := O.ex
    obtain ⟨fdW, GW, bW⟩ := W.ex
    refine ⟨_, pss_cons (ps_if (pt_not (pt_val (pe_call GN (hr.mono (by decide)) rfl T.gIs N.kp bN .nil (E := E0) passL (pa_cons (pv 1) pa_nil)))) (pss_one ps_never) pss_nil)
      (pss_one (ps_ret (pe_op (op_BF Bs cs hr) (pv 0) (pe_op (OpR.or (op_BF Bm cm hr) op_mulW) (pv 1) (pe_call GW (hr.mono (by decide)) rfl T.gWq W.kp bW .nil (passes_call (takes_of rfl rfl rfl rfl) (fun _ _ _ _ h => h)) (pa_cons (pv 0) (pa_cons (pe_smeth (pe_glob (v := .ref A.C) (by rfl) T.mgC rfl) S.cr S.sm T.tC GO (hr.mono (by decide)) bO (E := E0) passL (pa_cons (pv 1) pa_nil)) pa_nil))))))), ?_⟩
    refine ⟨_, rfl, y, q, rfl, hy, fun H1 e1 => ⟨_, rfl, iteF ?_⟩⟩
    refine ⟨_, rfl, _, rfl, _, rfl, rfl, _, rfl, y, q, rfl, hy.ext e1, fun r H2 e2 hf => ⟨a, p, r, q, rfl, ha.ext (e1.trans e2), hf, op.ok, oq.ok, fun z => k0 z _ (e1.trans e2), fun z => ?_⟩⟩
    have e12 := e1.trans e2
    rcases hy.ext e12 with ⟨b, rfl, hb⟩ | ⟨rfl, h1⟩
    · refine .inl ⟨b, q, (fflo p q, 1), rfl, hb, .int _, oq.ok, flo_bd op oq z, fun r3 H3 e3 h3 => ?_⟩
      exact ⟨a, p, _, rfl, ha.ext (e12.trans e3), .of h3, op.ok, fmul_ok op oq z, fun r H' e hf => k1 z r H' ((e12.trans e3).trans e) hf⟩
    · refine .inr ⟨_, _, rfl, rfl, wide_mul oq.b1 (flo_b op oq z) (by decide) (by decide) (by decide), ?_⟩
      have e5 : fmul q (fflo p q, 1) = (q.1 * fflo p q, 1) := by
        unfold fmul
        rw [h1]
        exact low_int _
      have o5 := fmul_ok op oq z
      rw [e5] at o5
      exact ⟨a, p, _, rfl, ha.ext e12, .int _, op.ok, o5, fun r H' e hf => k1 z r H' (e12.trans e) (by unfold fmod_; rw [e5]; exact hf)⟩
theorem scRmod : FnScope ["self", "other"] ["self", "other"] (defScope sRmod) := ⟨rfl, rfl, rfl, by decide +kernel, rfl, by decide +kernel, by decide +kernel⟩
def spRmod (A : Adr) : Sp := fun vs H Q E => ∃ a p n, vs = [.ref a, .int n] ∧ FracAt A.C H a p ∧ Oks p ∧ Oks (n, 1) ∧ (p.1 = 0 → ∀ H', Ext H H' → E (.ref A.Z) none H') ∧ (p.1 ≠ 0 → ∀ r H', Ext H H' → FracAt A.C H' r (fmod_ (n, 1) p) → Q (.ref r) H')
theorem ok_rmod {f : Addr} {fd : FuncData} (F : Fun K "__rmod__" "Frac.__rmod__" sRmod f fd) (T : FT K mg A) (S : StF K A) (O : Cal P w K mg base 3 A.of_ ["value"] (spOf A)) (N : Cal P w K mg base 1 A.isnum ["value"] (spIsNum A)) (W : Cal P w K mg base 1 A.wq ["first", "second"] (spWq A))
    (Rs : RefF K A.C A.rsub .Sub) (cs : Cal P w K mg base 4 A.rsub ["self", "other"] (spB A fun p q => fsub q p)) (Bm : BinF K A.C A.mul .Mult) (cm : Cal P w K mg base 3 A.mul ["self", "other"] (spB A fmul)) : FnOk P w K mg base (L2.CX P w) 5 f fd ["self", "other"] (spRmod A) := by
  refine F.okX scRmod (fun vs H Q E h => ?_) (fun cdv AA outer s H vs Q E hr h => ?_)
  · obtain ⟨a, p, n, rfl, _⟩ := h
    rfl
  · obtain ⟨a, p, n, rfl, ha, op, on, k0, k1⟩ := h
    obtain ⟨fdN, GN, bN⟩ := N.ex
    obtain ⟨fdO, GO, bO⟩ := O.ex
    obtain ⟨fdW, GW, bW⟩ := W.ex
    refine ⟨_, pss_cons (ps_if (pt_not (pt_val (pe_call GN (hr.mono (by decide)) rfl T.gIs N.kp bN .nil (E := E0) passL (pa_cons (pv 1) pa_nil)))) (pss_one ps_never) pss_nil)
      (pss_one (ps_ret (pe_op (op_BR int_sub Rs cs hr) (pv 1) (pe_op (op_BF Bm cm (hr.mono (by decide))) (pv 0) (pe_call GW (hr.mono (by decide)) rfl T.gWq W.kp bW .nil (passes_call (takes_of rfl rfl rfl rfl) (fun _ _ _ _ h => h)) (pa_cons (pe_smeth (pe_glob (v := .ref A.C) (by rfl) T.mgC rfl) S.cr S.sm T.tC GO (hr.mono (by decide)) bO (E := E0) passL (pa_cons (pv 1) pa_nil)) (pa_cons (pv 0) pa_nil))))))), ?_⟩
    refine ⟨_, rfl, .int n, (n, 1), rfl, .int n, fun H1 e1 => ⟨_, rfl, iteF ?_⟩⟩
    refine ⟨_, rfl, _, rfl, rfl, _, rfl, .int n, (n, 1), rfl, .int n, fun r H2 e2 hf => ⟨_, rfl, r, (n, 1), a, p, rfl, hf, ha.ext (e1.trans e2), on.ok, op.ok, fun z => k0 z _ (e1.trans e2), fun z => ?_⟩⟩
    have e12 := e1.trans e2
    refine ⟨a, p, (fflo (n, 1) p, 1), rfl, ha.ext e12, .int _, op.ok, flo_bd on op z, fun r3 H3 e3 h3 => ?_⟩
    exact ⟨n, r3, _, rfl, rfl, h3, on.ok.b1, fmul_ok on op z, fun r H' e hf => k1 z r H' ((e12.trans e3).trans e) hf⟩
/-- a comparison's promise -/
def spC (A : Adr) (g : Int × Int → Int × Int → Bool) : Sp := fun vs H Q _ => ∃ a p y q, vs = [.ref a, y] ∧ FracAt A.C H a p ∧ Num A H y q ∧ Okf p ∧ Okf q ∧ ∀ H', Ext H H' → Q (.bl (g p q)) H'
def clt (p q : Int × Int) : Bool := decide (p.1 * q.2 < q.1 * p.2)
def cle (p q : Int × Int) : Bool := decide (p.1 * q.2 ≤ q.1 * p.2)
def cgt (p q : Int × Int) : Bool := decide (q.1 * p.2 < p.1 * q.2)
def cge (p q : Int × Int) : Bool := decide (q.1 * p.2 ≤ p.1 * q.2)
def ceq (p q : Int × Int) : Bool := decide (p = q)
theorem scLt : FnScope ["self", "other", "worth"] ["self", "other"] (defScope sLt) := ⟨rfl, rfl, rfl, by decide +kernel, rfl, by decide +kernel, by decide +kernel⟩
theorem ok_lt {f : Addr} {fd : FuncData} (F : Fun K "__lt__" "Frac.__lt__" sLt f fd) (T : FT K mg A) (S : StF K A) (O : Cal P w K mg base 3 A.of_ ["value"] (spOf A)) (N : Cal P w K mg base 1 A.isnum ["value"] (spIsNum A)) : FnOk P w K mg base (L2.CX P w) 4 f fd ["self", "other"] (spC A clt) := by
  refine F.okX scLt (fun vs H Q E h => ?_) (fun cdv AA outer s H vs Q E hr h => ?_)
  · obtain ⟨a, p, y, q, rfl, _⟩ := h
    rfl
  · obtain ⟨a, p, y, q, rfl, ha, hy, op, oq, k⟩ := h
    obtain ⟨fdN, GN, bN⟩ := N.ex
    obtain ⟨fdO, GO, bO⟩ := O.ex
    refine ⟨_, pss_cons (ps_if (pt_not (pt_val (pe_call GN (hr.mono (by decide)) rfl T.gIs N.kp bN .nil (E := E0) passL (pa_cons (pv 1) pa_nil)))) (pss_one ps_never) pss_nil)
      (pss_cons (ps_set (i := 2) scLt.nd rfl (Or.inl rfl) (pe_smeth (pe_glob (v := .ref A.C) (by rfl) T.mgC rfl) S.cr S.sm T.tC GO (hr.mono (by decide)) bO (E := E0) passL (pa_cons (pv 1) pa_nil)))
      (pss_one (ps_ret (pe_cmpR L2.op_lt (pe_op op_mulW (pe_fld (pv 0) rfl) (pe_fld (pv 2) rfl)) (pe_op op_mulW (pe_fld (pv 2) rfl) (pe_fld (pv 0) rfl)) (nomark _))))), ?_⟩
    refine ⟨_, rfl, y, q, rfl, hy, fun H1 e1 => ⟨_, rfl, iteF ?_⟩⟩
    refine ⟨rfl, _, rfl, y, q, rfl, hy.ext e1, fun r H2 e2 hf => ?_⟩
    obtain ⟨dx, hA⟩ := ha.ext (e1.trans e2)
    obtain ⟨dy, hB⟩ := hf
    exact ⟨_, rfl, _, _, _, _, _, rfl, hA, T.cl, T.nN, fr_num _, _, rfl, _, _, _, _, _, rfl, hB, T.cl, T.nD, fr_den _, _, _, rfl, rfl, (op.b1.cm oq.b2), _, rfl, _, _, _, _, _, rfl, hB, T.cl, T.nN, fr_num _, _, rfl, _, _, _, _, _, rfl, hA, T.cl, T.nD, fr_den _, _, _, rfl, rfl, (oq.b1.cm op.b2), _, _, rfl, rfl, k _ (e1.trans e2)⟩
theorem scLe : FnScope ["self", "other", "worth"] ["self", "other"] (defScope sLe) := ⟨rfl, rfl, rfl, by decide +kernel, rfl, by decide +kernel, by decide +kernel⟩
theorem ok_le {f : Addr} {fd : FuncData} (F : Fun K "__le__" "Frac.__le__" sLe f fd) (T : FT K mg A) (S : StF K A) (O : Cal P w K mg base 3 A.of_ ["value"] (spOf A)) (N : Cal P w K mg base 1 A.isnum ["value"] (spIsNum A)) : FnOk P w K mg base (L2.CX P w) 4 f fd ["self", "other"] (spC A cle) := by
  refine F.okX scLe (fun vs H Q E h => ?_) (fun cdv AA outer s H vs Q E hr h => ?_)
  · obtain ⟨a, p, y, q, rfl, _⟩ := h
    rfl
  · obtain ⟨a, p, y, q, rfl, ha, hy, op, oq, k⟩ := h
    obtain ⟨fdN, GN, bN⟩ := N.ex
    obtain ⟨fdO, GO, bO⟩ := O.ex
    refine ⟨_, pss_cons (ps_if (pt_not (pt_val (pe_call GN (hr.mono (by decide)) rfl T.gIs N.kp bN .nil (E := E0) passL (pa_cons (pv 1) pa_nil)))) (pss_one ps_never) pss_nil)
      (pss_cons (ps_set (i := 2) scLe.nd rfl (Or.inl rfl) (pe_smeth (pe_glob (v := .ref A.C) (by rfl) T.mgC rfl) S.cr S.sm T.tC GO (hr.mono (by decide)) bO (E := E0) passL (pa_cons (pv 1) pa_nil)))
      (pss_one (ps_ret (pe_cmpR L2.op_le (pe_op op_mulW (pe_fld (pv 0) rfl) (pe_fld (pv 2) rfl)) (pe_op op_mulW (pe_fld (pv 2) rfl) (pe_fld (pv 0) rfl)) (nomark _))))), ?_⟩
    refine ⟨_, rfl, y, q, rfl, hy, fun H1 e1 => ⟨_, rfl, iteF ?_⟩⟩
    refine ⟨rfl, _, rfl, y, q, rfl, hy.ext e1, fun r H2 e2 hf => ?_⟩
    obtain ⟨dx, hA⟩ := ha.ext (e1.trans e2)
    obtain ⟨dy, hB⟩ := hf
    exact ⟨_, rfl, _, _, _, _, _, rfl, hA, T.cl, T.nN, fr_num _, _, rfl, _, _, _, _, _, rfl, hB, T.cl, T.nD, fr_den _, _, _, rfl, rfl, (op.b1.cm oq.b2), _, rfl, _, _, _, _, _, rfl, hB, T.cl, T.nN, fr_num _, _, rfl, _, _, _, _, _, rfl, hA, T.cl, T.nD, fr_den _, _, _, rfl, rfl, (oq.b1.cm op.b2), _, _, rfl, rfl, k _ (e1.trans e2)⟩
theorem scGt : FnScope ["self", "other", "worth"] ["self", "other"] (defScope sGt) := ⟨rfl, rfl, rfl, by decide +kernel, rfl, by decide +kernel, by decide +kernel⟩
theorem ok_gt {f : Addr} {fd : FuncData} (F : Fun K "__gt__" "Frac.__gt__" sGt f fd) (T : FT K mg A) (S : StF K A) (O : Cal P w K mg base 3 A.of_ ["value"] (spOf A)) (N : Cal P w K mg base 1 A.isnum ["value"] (spIsNum A)) : FnOk P w K mg base (L2.CX P w) 4 f fd ["self", "other"] (spC A cgt) := by
  refine F.okX scGt (fun vs H Q E h => ?_) (fun cdv AA outer s H vs Q E hr h => ?_)
  · obtain ⟨a, p, y, q, rfl, _⟩ := h
    rfl
  · obtain ⟨a, p, y, q, rfl, ha, hy, op, oq, k⟩ := h
    obtain ⟨fdN, GN, bN⟩ := N.ex
    obtain ⟨fdO, GO, bO⟩ := O.ex
    refine ⟨_, pss_cons (ps_if (pt_not (pt_val (pe_call GN (hr.mono (by decide)) rfl T.gIs N.kp bN .nil (E := E0) passL (pa_cons (pv 1) pa_nil)))) (pss_one ps_never) pss_nil)
      (pss_cons (ps_set (i := 2) scGt.nd rfl (Or.inl rfl) (pe_smeth (pe_glob (v := .ref A.C) (by rfl) T.mgC rfl) S.cr S.sm T.tC GO (hr.mono (by decide)) bO (E := E0) passL (pa_cons (pv 1) pa_nil)))
      (pss_one (ps_ret (pe_cmpR L2.op_gt (pe_op op_mulW (pe_fld (pv 0) rfl) (pe_fld (pv 2) rfl)) (pe_op op_mulW (pe_fld (pv 2) rfl) (pe_fld (pv 0) rfl)) (nomark _))))), ?_⟩
    refine ⟨_, rfl, y, q, rfl, hy, fun H1 e1 => ⟨_, rfl, iteF ?_⟩⟩
    refine ⟨rfl, _, rfl, y, q, rfl, hy.ext e1, fun r H2 e2 hf => ?_⟩
    obtain ⟨dx, hA⟩ := ha.ext (e1.trans e2)
    obtain ⟨dy, hB⟩ := hf
    exact ⟨_, rfl, _, _, _, _, _, rfl, hA, T.cl, T.nN, fr_num _, _, rfl, _, _, _, _, _, rfl, hB, T.cl, T.nD, fr_den _, _, _, rfl, rfl, (op.b1.cm oq.b2), _, rfl, _, _, _, _, _, rfl, hB, T.cl, T.nN, fr_num _, _, rfl, _, _, _, _, _, rfl, hA, T.cl, T.nD, fr_den _, _, _, rfl, rfl, (oq.b1.cm op.b2), _, _, rfl, rfl, k _ (e1.trans e2)⟩
theorem scGe : FnScope ["self", "other", "worth"] ["self", "other"] (defScope sGe) := ⟨rfl, rfl, rfl, by decide +kernel, rfl, by decide +kernel, by decide +kernel⟩
theorem ok_ge {f : Addr} {fd : FuncData} (F : Fun K "__ge__" "Frac.__ge__" sGe f fd) (T : FT K mg A) (S : StF K A) (O : Cal P w K mg base 3 A.of_ ["value"] (spOf A)) (N : Cal P w K mg base 1 A.isnum ["value"] (spIsNum A)) : FnOk P w K mg base (L2.CX P w) 4 f fd ["self", "other"] (spC A cge) := by
  refine F.okX scGe (fun vs H Q E h => ?_) (fun cdv AA outer s H vs Q E hr h => ?_)
  · obtain ⟨a, p, y, q, rfl, _⟩ := h
    rfl
  · obtain ⟨a, p, y, q, rfl, ha, hy, op, oq, k⟩ := h
    obtain ⟨fdN, GN, bN⟩ := N.ex
    obtain ⟨fdO, GO, bO⟩ := O.ex
    refine ⟨_, pss_cons (ps_if (pt_not (pt_val (pe_call GN (hr.mono (by decide)) rfl T.gIs N.kp bN .nil (E := E0) passL (pa_cons (pv 1) pa_nil)))) (pss_one ps_never) pss_nil)
      (pss_cons (ps_set (i := 2) scGe.nd rfl (Or.inl rfl) (pe_smeth (pe_glob (v := .ref A.C) (by rfl) T.mgC rfl) S.cr S.sm T.tC GO (hr.mono (by decide)) bO (E := E0) passL (pa_cons (pv 1) pa_nil)))
      (pss_one (ps_ret (pe_cmpR L2.op_ge (pe_op op_mulW (pe_fld (pv 0) rfl) (pe_fld (pv 2) rfl)) (pe_op op_mulW (pe_fld (pv 2) rfl) (pe_fld (pv 0) rfl)) (nomark _))))), ?_⟩
    refine ⟨_, rfl, y, q, rfl, hy, fun H1 e1 => ⟨_, rfl, iteF ?_⟩⟩
    refine ⟨rfl, _, rfl, y, q, rfl, hy.ext e1, fun r H2 e2 hf => ?_⟩
    obtain ⟨dx, hA⟩ := ha.ext (e1.trans e2)
    obtain ⟨dy, hB⟩ := hf
    exact ⟨_, rfl, _, _, _, _, _, rfl, hA, T.cl, T.nN, fr_num _, _, rfl, _, _, _, _, _, rfl, hB, T.cl, T.nD, fr_den _, _, _, rfl, rfl, (op.b1.cm oq.b2), _, rfl, _, _, _, _, _, rfl, hB, T.cl, T.nN, fr_num _, _, rfl, _, _, _, _, _, rfl, hA, T.cl, T.nD, fr_den _, _, _, rfl, rfl, (oq.b1.cm op.b2), _, _, rfl, rfl, k _ (e1.trans e2)⟩
theorem scEq : FnScope ["self", "other"] ["self", "other"] (defScope sEq) := ⟨rfl, rfl, rfl, by decide +kernel, rfl, by decide +kernel, by decide +kernel⟩
theorem ok_eq {f : Addr} {fd : FuncData} (F : Fun K "__eq__" "Frac.__eq__" sEq f fd) (T : FT K mg A) : FnOk P w K mg base (L2.CX P w) 1 f fd ["self", "other"] (spC A ceq) := by
  refine F.okX scEq (fun vs H Q E h => ?_) (fun cdv AA outer s H vs Q E hr h => ?_)
  · obtain ⟨a, p, y, q, rfl, _⟩ := h
    rfl
  · obtain ⟨a, p, y, q, rfl, ha, hy, op, oq, k⟩ := h
    refine ⟨_, pss_cons (ps_if (pt_val (pe_callB call_isi (by rfl) T.isi boot_isi (pa_cons (pv 1) (pa_cons (pe_bltn (v := .ty "int") (by rfl) T.int0 boot_int rfl) pa_nil)))) (pss_one (ps_ret (pe_and (pe_cmpR L2.op_eq (pe_fld (pv 0) rfl) pe_int (nomark _)) (pe_one (pe_cmpR L2.op_eq (pe_fld (pv 0) rfl) (pv 1) (nomark _)))))) pss_nil)
      (pss_cons (ps_if (pt_not (pt_val (pe_callB call_isi (by rfl) T.isi boot_isi (pa_cons (pv 1) (pa_cons (pe_glob (v := .ref A.C) (by rfl) T.mgC rfl) pa_nil))))) (pss_one ps_never) pss_nil)
      (pss_one (ps_ret (pe_and (pe_cmpR L2.op_eq (pe_fld (pv 0) rfl) (pe_fld (pv 1) rfl) (nomark _)) (pe_one (pe_cmpR L2.op_eq (pe_fld (pv 0) rfl) (pe_fld (pv 1) rfl) (nomark _))))))), ?_⟩
    have kk := k H Ext.rfl'
    obtain ⟨dx, hA⟩ := ha
    rcases hy with ⟨b, rfl, hf⟩ | ⟨rfl, h1⟩
    · obtain ⟨dy, hB⟩ := id hf
      refine ⟨_, rfl, _, _, _, _, false, rfl, .ty "int", T.tyF hf, T.kit_CI, _, rfl, iteF ?_⟩
      refine ⟨_, rfl, _, _, _, _, true, rfl, .own A.C, T.tyF hf, kit_CC, _, rfl, iteF ?_⟩
      refine ⟨_, rfl, _, _, _, _, _, rfl, hA, T.cl, T.nN, fr_num _, _, rfl, _, _, _, _, _, rfl, hB, T.cl, T.nN, fr_num _, rfl, _, rfl, ?_⟩
      by_cases h2 : p.1 = q.1
      · rw [decide_eq_true (by rw [h2])]
        refine iteT ⟨_, rfl, _, _, _, _, _, rfl, hA, T.cl, T.nD, fr_den _, _, rfl, _, _, _, _, _, rfl, hB, T.cl, T.nD, fr_den _, rfl, ?_⟩
        have e : ceq p q = decide (V.int p.2 = V.int q.2) := by
          unfold ceq
          rw [Bool.eq_iff_iff]
          simp only [decide_eq_true_eq, V.int.injEq, Prod.ext_iff]
          exact ⟨fun z => z.2, fun z => ⟨h2, z⟩⟩
        rw [e] at kk
        exact kk
      · rw [decide_eq_false (by intro z; injection z with z; exact h2 z)]
        have e : ceq p q = false := decide_eq_false (by intro z; exact h2 (by rw [z]))
        rw [e] at kk
        exact iteF kk
    · refine ⟨_, rfl, _, _, _, _, true, rfl, .ty "int", tyI _, kit_II, _, rfl, iteT ?_⟩
      refine ⟨_, rfl, _, _, _, _, _, rfl, hA, T.cl, T.nD, fr_den _, rfl, _, rfl, ?_⟩
      by_cases h2 : p.2 = 1
      · rw [decide_eq_true (by rw [h2])]
        refine iteT ⟨_, rfl, _, _, _, _, _, rfl, hA, T.cl, T.nN, fr_num _, _, rfl, rfl, ?_⟩
        have e : ceq p q = decide (V.int p.1 = V.int q.1) := by
          unfold ceq
          rw [Bool.eq_iff_iff]
          simp only [decide_eq_true_eq, V.int.injEq, Prod.ext_iff]
          exact ⟨fun z => z.1, fun z => ⟨z, by rw [h1, h2]⟩⟩
        rw [e] at kk
        exact kk
      · rw [decide_eq_false (by intro z; injection z with z; exact h2 z)]
        have e : ceq p q = false := decide_eq_false (by intro z; exact h2 (by rw [z, h1]))
        rw [e] at kk
        exact iteF kk
theorem scBool : FnScope ["self"] ["self"] (defScope sBool) := ⟨rfl, rfl, rfl, by decide +kernel, rfl, by decide +kernel, by decide +kernel⟩
def spBool (A : Adr) : Sp := fun vs H Q _ => ∃ a p, vs = [.ref a] ∧ FracAt A.C H a p ∧ Q (.bl (decide (p.1 ≠ 0))) H
theorem boot_bool : bootBuiltins "bool" = some (.type "bool") := by decide +kernel
theorem ok_bool {f : Addr} {fd : FuncData} (F : Fun K "__bool__" "Frac.__bool__" sBool f fd) (T : FT K mg A) (bo : mg "bool" = none) : FnOk P w K mg base (L2.CX P w) 1 f fd ["self"] (spBool A) := by
  refine F.okX scBool (fun vs H Q E h => ?_) (fun cdv AA outer s H vs Q E hr h => ?_)
  · obtain ⟨a, p, rfl, _⟩ := h
    rfl
  · obtain ⟨a, p, rfl, ⟨dx, hA⟩, k⟩ := h
    refine ⟨_, pss_one (ps_ret (pe_callTy call_bool1 (by rfl) bo boot_bool (pa_cons (pe_cmpR L2.op_ne (pe_fld (pv 0) rfl) pe_int (nomark _)) pa_nil))), ?_⟩
    refine ⟨_, rfl, _, _, _, _, _, rfl, hA, T.cl, T.nN, fr_num _, rfl, .inr ⟨_, rfl, ?_⟩⟩
    have e : decide (p.1 ≠ 0) = !decide (V.int p.1 = V.int 0) := by
      rw [Bool.eq_iff_iff]
      simp
    rw [e] at k
    exact k
theorem scOver : FnScope ["self", "b", "worth"] ["self", "b"] (defScope sOver) := ⟨rfl, rfl, rfl, by decide +kernel, rfl, by decide +kernel, by decide +kernel⟩
/-- over: the quotient, or DivisionByZero -/
def spOver (A : Adr) : Sp := fun vs H Q E => ∃ a p y q, vs = [.ref a, y] ∧ FracAt A.C H a p ∧ Num A H y q ∧ Okf p ∧ Okf q ∧ (q.1 = 0 → ∀ H', Ext H H' → E (.ref A.Z) none H') ∧ (q.1 ≠ 0 → ∀ r H', Ext H H' → FracAt A.C H' r (fover p q) → Q (.ref r) H')
theorem made_ext2 {H : Hp} {x dx : Addr} {o1 o2 : HO} (hx : H x = none) (hdx : H dx = none) : Ext H (upd (upd H dx o1) x o2) := fun a u e => by
  rw [upd_ne (ne_of_none e hx), upd_ne (ne_of_none e hdx)]
  exact e
theorem ok_over {f : Addr} {fd : FuncData} (F : Fun K "over" "Frac.over" sOver f fd) (T : FT K mg A) (S : StF K A) (O : Cal P w K mg base 3 A.of_ ["value"] (spOf A)) (M : MkF P w K mg base A) : FnOk P w K mg base (L2.CX P w) 4 f fd ["self", "b"] (spOver A) := by
  refine F.okX scOver (fun vs H Q E h => ?_) (fun cdv AA outer s H vs Q E hr h => ?_)
  · obtain ⟨a, p, y, q, rfl, _⟩ := h
    rfl
  · obtain ⟨a, p, y, q, rfl, ha, hy, op, oq, k0, k1⟩ := h
    obtain ⟨fdO, GO, bO⟩ := O.ex
    obtain ⟨fdM, GM, bM, _⟩ := M.ex
    refine ⟨_, pss_cons (ps_set (i := 2) scOver.nd rfl (Or.inl rfl) (pe_smeth (pe_glob (v := .ref A.C) (by rfl) T.mgC rfl) S.cr S.sm T.tC GO (hr.mono (by decide)) bO (E := E0) passL (pa_cons (pv 1) pa_nil)))
      (pss_one (ps_ret (pe_make M.mkc GM (hr.mono (by decide)) rfl T.mgC bM .nil (passes_call (takes_of rfl rfl rfl rfl) (fun _ _ _ _ h => h)) (pa_cons (pe_op op_mulW (pe_fld (pv 0) rfl) (pe_fld (pv 2) rfl)) (pa_cons (pe_op op_mulW (pe_fld (pv 0) rfl) (pe_fld (pv 2) rfl)) pa_nil))))), ?_⟩
    refine ⟨rfl, _, rfl, y, q, rfl, hy, fun r H2 e2 hf => ?_⟩
    obtain ⟨dx, hA⟩ := ha.ext e2
    obtain ⟨dy, hB⟩ := hf
    refine ⟨_, rfl, _, _, _, _, _, rfl, hA, T.cl, T.nN, fr_num _, _, rfl, _, _, _, _, _, rfl, hB, T.cl, T.nD, fr_den _, _, _, rfl, rfl, (op.b1.cm oq.b2), _, rfl, _, _, _, _, _, rfl, hA, T.cl, T.nD, fr_den _, _, rfl, _, _, _, _, _, rfl, hB, T.cl, T.nN, fr_num _, _, _, rfl, rfl, (op.b2.cm oq.b1), fun x dx' nx ndx nex => ?_⟩
    refine ⟨x, dx', _, _, rfl, upd_same, op.b2.mul oq.b1, fun z => ?_, fun z => ⟨rfl, ?_⟩⟩
    · refine k0 ?_ _ (e2.trans (made_ext2 nx ndx))
      rcases Int.mul_eq_zero.mp z with z | z
      · exact absurd z op.ne
      · exact z
    · exact k1 (fun z' => z (by rw [z', Int.mul_zero])) x _ (e2.trans (made_ext nx ndx)) ⟨dx', upd_same⟩
theorem scStr : FnScope ["self"] ["self"] (defScope sStr) := ⟨rfl, rfl, rfl, by decide +kernel, rfl, by decide +kernel, by decide +kernel⟩
/-- an int's text -/
def wi (i : Int) : Str := toString i
/-- the written form -/
def wr (p : Int × Int) : Str := if p.2 = 1 then wi p.1 else Str.empty ++ wi p.1 ++ "/" ++ wi p.2
def spStr (A : Adr) : Sp := fun vs H Q _ => ∃ a p, vs = [.ref a] ∧ FracAt A.C H a p ∧ Oks p ∧ Q (.str (wr p)) H
theorem boot_str : bootBuiltins "str" = some (.type "str") := by decide +kernel
theorem wi_len {i : Int} (h : i.natAbs < 2 ^ 900) : (wi i).length ≤ 1921 := int_text_len_1921 (Nat.lt_of_lt_of_le (log2_lt h (by decide)) (by decide))
theorem app_len (x y : Str) : (x ++ y).length = x.length + y.length := by first | exact Str.length_append x y | simp
theorem ok_str {f : Addr} {fd : FuncData} (F : Fun K "__str__" "Frac.__str__" sStr f fd) (T : FT K mg A) (st : mg "str" = none) : FnOk P w K mg base (L2.CX P w) 1 f fd ["self"] (spStr A) := by
  refine F.okX scStr (fun vs H Q E h => ?_) (fun cdv AA outer s H vs Q E hr h => ?_)
  · obtain ⟨a, p, rfl, _⟩ := h
    rfl
  · obtain ⟨a, p, rfl, ⟨dx, hA⟩, op, k⟩ := h
    refine ⟨_, pss_cons (ps_if (pt_cmpR L2.op_eq (pe_fld (pv 0) rfl) pe_int (nomark _)) (pss_one (ps_ret (pe_callTy call_str_int (by rfl) st boot_str (pa_cons (pe_fld (pv 0) rfl) pa_nil)))) pss_nil)
      (pss_one (ps_ret (pe_joined (.cons (pe_fmt (pe_fld (pv 0) rfl)) (.cons pe_str (.cons (pe_fmt (pe_fld (pv 0) rfl)) .nil)))))), ?_⟩
    have l1 : p.1.natAbs.log2 < 1920 := Nat.lt_of_lt_of_le (log2_lt op.b1 (by decide)) (by decide)
    have l2 : p.2.natAbs.log2 < 1920 := Nat.lt_of_lt_of_le (log2_lt op.b2 (by decide)) (by decide)
    refine ⟨_, rfl, _, _, _, _, _, rfl, hA, T.cl, T.nD, fr_den _, rfl, _, rfl, ?_⟩
    unfold wr at k
    by_cases h : p.2 = 1
    · rw [if_pos h] at k
      rw [decide_eq_true (by rw [h])]
      exact iteT ⟨_, rfl, _, _, _, _, _, rfl, hA, T.cl, T.nN, fr_num _, _, rfl, l1, k⟩
    · rw [if_neg h] at k
      rw [decide_eq_false (by intro z; injection z with z; exact h z)]
      have s1 := wi_len op.b1
      have s2 := wi_len op.b2
      have s0 : (Str.empty).length = 0 := rfl
      have s3 : ("/" : Str).length = 1 := rfl
      refine iteF ⟨_, rfl, _, _, _, _, _, rfl, hA, T.cl, T.nN, fr_num _, .inr ⟨_, rfl, l1, _, rfl, ?_, _, rfl, ?_, _, rfl, _, _, _, _, _, rfl, hA, T.cl, T.nD, fr_den _, .inr ⟨_, rfl, l2, _, rfl, ?_, k⟩⟩⟩
      all_goals
        rw [sizeLine_eq]
        simp only [app_len, s0, s3]
        show _ + _ ≤ _
        unfold wi at s1 s2
        omega
end
end Fx

set_option Elab.async false
set_option linter.all false
set_option maxRecDepth 100000
set_option maxHeartbeats 4000000
set_option exponentiation.threshold 20000
namespace Fx
open PySem PySem.Spec PyProof.Rows L2 FM
abbrev sPow : Stmt := inClass (top 39) 12
section
variable {P : Program} {w : World} {K : PySem.W.Frag} {mg : Str → Option Value} {base : Heap} {A : Adr}
theorem pow_bd {x : Int} {b j : Nat} (h : x.natAbs < 2 ^ b) (hj : b * j < 4000) : Bd (x ^ j) := by
  unfold Bd
  rw [Int.natAbs_pow]
  refine Nat.lt_of_le_of_lt (Nat.pow_le_pow_left (Nat.le_of_lt h) j) ?_
  rw [← Nat.pow_mul]
  exact Nat.pow_lt_pow_right (by decide) hj
theorem scPow : FnScope ["self", "other", "num", "den", "_"] ["self", "other"] (defScope sPow) := ⟨rfl, rfl, rfl, by decide +kernel, rfl, by decide +kernel, by decide +kernel⟩
/-- a power -/
def spPow (A : Adr) : Sp := fun vs H Q _ => ∃ a p k b, vs = [.ref a, .int k] ∧ FracAt A.C H a p ∧ Low p ∧ 0 ≤ k ∧ k ≤ 64 ∧ p.1.natAbs < 2 ^ b ∧ p.2.natAbs < 2 ^ b ∧ b < 4000 ∧ b * k.toNat < 4000 ∧ ∀ r H', Ext H H' → FracAt A.C H' r (p.1 ^ k.toNat, p.2 ^ k.toNat) → Q (.ref r) H'
theorem ok_pow {f : Addr} {fd : FuncData} (F : Fun K "__pow__" "Frac.__pow__" sPow f fd) (T : FT K mg A) (M : MkF P w K mg base A) (ra : mg "range" = none) (mp : ∃ t, mg "MOST_POWER" = some (.int 64 t)) : FnOk P w K mg base (L2.CX P w) 3 f fd ["self", "other"] (spPow A) := by
  obtain ⟨tk, mp⟩ := mp
  refine F.okX scPow (fun vs H Q E h => ?_) (fun cdv AA outer s H vs Q E hr h => ?_)
  · obtain ⟨a, p, k, b, rfl, _⟩ := h
    rfl
  · obtain ⟨a, p, k, b, rfl, ⟨dx, hA⟩, lo, k0, k1, b1, b2, b3, b4, kk⟩ := h
    refine ⟨_, pss_cons (ps_if (pt_not (pt_chain L2.op_le L2.op_le pe_int (pv 1) (pe_glob (v := .int 64) (by rfl) mp ⟨_, rfl⟩))) (pss_one ps_never) pss_nil)
      (pss_cons (ps_asg2 pe_int (pg_name (i := 2) scPow.nd rfl (Or.inl rfl)) (pg_name (i := 3) scPow.nd rfl (Or.inl rfl)))
      (pss_cons (ps_for (passes_of rfl) rfl (pi_range1 rfl ra (pa_cons (pv 1) pa_nil)) (pg_name (i := 4) scPow.nd rfl (Or.inl rfl))
        (pss_cons (ps_set (i := 2) scPow.nd rfl (Or.inl rfl) (pe_op op_mulW (pv 2) (pe_fld (pv 0) rfl)))
        (pss_one (ps_set (i := 3) scPow.nd rfl (Or.inl rfl) (pe_op op_mulW (pv 3) (pe_fld (pv 0) rfl))))))
      (pss_one (ps_ret (pe_frac2 M T hr rfl (pa_cons (pv 2) (pa_cons (pv 3) pa_nil))))))), ?_⟩
    refine ⟨_, rfl, _, _, rfl, rfl, _, rfl, ?_⟩
    rw [decide_eq_true k0]
    refine iteT ⟨_, _, rfl, rfl, _, rfl, ?_⟩
    rw [decide_eq_true k1]
    refine iteF ?_
    refine ⟨_, rfl, k, rfl, by omega, by omega, for_range (lo := 0) (n := k.toNat) (fun i σ H2 => H2 = H ∧ ∃ v, σ = [some (.ref a), some (.int k), some (.int (p.1 ^ i)), some (.int (p.2 ^ i)), v]) ⟨rfl, none, by simp [Int.pow_zero]; rfl⟩ ?_ ?_⟩
    · rintro i σ H2 hi ⟨rfl, v, rfl⟩
      have bi : b * i < 4000 := Nat.lt_of_le_of_lt (Nat.mul_le_mul_left b (Nat.le_of_lt hi)) b4
      have c1 := (pow_bd b1 bi).cm (show Bd p.1 from Nat.lt_of_lt_of_le b1 (Nat.pow_le_pow_right (by decide) (Nat.le_of_lt b3)))
      have c2 := (pow_bd b2 bi).cm (show Bd p.2 from Nat.lt_of_lt_of_le b2 (Nat.pow_le_pow_right (by decide) (Nat.le_of_lt b3)))
      refine ⟨_, rfl, _, rfl, _, _, _, _, _, rfl, hA, T.cl, T.nN, fr_num _, _, _, rfl, rfl, c1, _, rfl, _, rfl, _, _, _, _, _, rfl, hA, T.cl, T.nD, fr_den _, _, _, rfl, rfl, c2, rfl, some (.int (0 + i)), ?_⟩
      rw [Int.pow_succ, Int.pow_succ]
      rfl
    · rintro σ H2 ⟨rfl, v, rfl⟩
      have dn : p.2 ^ k.toNat ≠ 0 := by
        have h9 : 0 < p.2 ^ k.toNat := Int.pow_pos lo.pos
        omega
      refine ⟨_, rfl, _, rfl, _, _, rfl, dn, (pow_bd b2 b4).bi, fun r H' e hf => kk r H' e ?_⟩
      have e2 := low_self (low_pow lo k.toNat)
      dsimp only at e2
      rw [e2] at hf
      exact hf
end
/-- a tuple of two ints -/
def TupAt (H : Hp) (r : Addr) (p : Int × Int) : Prop := H r = some (.tup [.int p.1, .int p.2])
structure Prt (p : Int × Int) : Prop where
  b1 : Bd p.1
  b2 : Bd p.2
  ne : p.2 ≠ 0
theorem Okf.prt {p : Int × Int} (o : Okf p) : Prt p := ⟨o.b1, o.b2, o.ne⟩
end Fx

set_option Elab.async false
set_option linter.all false
set_option maxRecDepth 100000
set_option maxHeartbeats 4000000
set_option exponentiation.threshold 20000
/-! What an expression gives, from any later heap. -/
namespace Fx
open PySem PySem.Spec PyProof.Rows L2 FM
/-- from every heap that holds what H0 holds, t gives a value with R, and only makes objects -/
def Gv (σ : L2.St) (H0 : Hp) (t : TE) (R : V → Hp → Prop) : Prop := ∀ H Q, Ext H0 H → (∀ v H', Ext H H' → R v H' → Q v H') → t σ H Q
def GvA (σ : L2.St) (H0 : Hp) (t : TA) (R : List V → Hp → Prop) : Prop := ∀ H Q, Ext H0 H → (∀ v H', Ext H H' → R v H' → Q v H') → t σ H Q
def Mo (R : V → Hp → Prop) : Prop := ∀ v H H', Ext H H' → R v H → R v H'
def All (R : V → Hp → Prop) (n : Nat) : List V → Hp → Prop := fun vs H => vs.length = n ∧ ∀ x ∈ vs, R x H
/-- a list of n things with R -/
def Lst (R : V → Hp → Prop) (n : Nat) : V → Hp → Prop := fun v H => ∃ l xs, v = .ref l ∧ H l = some (.lst xs) ∧ All R n xs H
theorem All.ext {R : V → Hp → Prop} {n : Nat} {vs : List V} {H H' : Hp} (m : Mo R) (h : All R n vs H) (e : Ext H H') : All R n vs H' := ⟨h.1, fun x hx => m x H H' e (h.2 x hx)⟩
theorem mo_lst {R : V → Hp → Prop} {n : Nat} (m : Mo R) : Mo (Lst R n) := fun v H H' e ⟨l, xs, h1, h2, h3⟩ => ⟨l, xs, h1, e _ _ h2, h3.ext m e⟩
section
variable {σ : L2.St} {H0 : Hp} {t t1 t2 : TE} {ta : TA} {R S1 S2 : V → Hp → Prop} {n m : Nat}
theorem Gv.imp (h : Gv σ H0 t R) (i : ∀ v H, R v H → S1 v H) : Gv σ H0 t S1 := fun H Q e k => h H Q e fun v H' e' r => k v H' e' (i v H' r)
theorem gv_c (v : V) : Gv σ H0 (tC v) (fun x _ => x = v) := fun H Q e k => k v H Ext.rfl' rfl
theorem gv_v {i : Nat} {v : V} (h : σ[i]? = some (some v)) (r : R v H0) (mo : Mo R) : Gv σ H0 (tVar i) R := fun H Q e k => ⟨v, h, k v H Ext.rfl' (mo v H0 H e r)⟩
theorem gva_nil : GvA σ H0 tNil (All R 0) := fun H Q e k => k [] H Ext.rfl' ⟨rfl, by simp⟩
theorem gva_cons (mo : Mo R) (h : Gv σ H0 t R) (h2 : GvA σ H0 ta (All R n)) : GvA σ H0 (tCons t ta) (All R (n + 1)) := fun H Q e k =>
  h H _ e fun v H1 e1 r1 => h2 H1 _ (e.trans e1) fun vs H2 e2 r2 => k (v :: vs) H2 (e1.trans e2) ⟨by simp [r2.1], fun x hx => by
    rcases List.mem_cons.mp hx with z | z
    · rw [z]; exact mo v H1 H2 e2 r1
    · exact r2.2 x z⟩
theorem gv_lst (mo : Mo R) (h : GvA σ H0 ta (All R n)) (hn : n ≤ sizeLine) : Gv σ H0 (tLst ta) (Lst R n) := fun H Q e k =>
  h H _ e fun vs H1 e1 r1 => ⟨by rw [r1.1]; exact hn, fun p np => k _ _ (e1.upd' np) ⟨p, vs, rfl, upd_same, r1.ext mo (ext1 np)⟩⟩
theorem gv_pair (mo : Mo S1) (h1 : Gv σ H0 t1 S1) (h2 : Gv σ H0 t2 S2) (mo2 : Mo S2) : Gv σ H0 (tTup (tCons t1 (tCons t2 tNil))) (fun v H => ∃ t a b, v = .ref t ∧ H t = some (.tup [a, b]) ∧ S1 a H ∧ S2 b H) := fun H Q e k =>
  h1 H _ e fun a H1 e1 r1 => h2 H1 _ (e.trans e1) fun b H2 e2 r2 => ⟨by show 2 ≤ sizeLine; decide, fun p np => k _ _ ((e1.trans e2).upd' np) ⟨p, a, b, rfl, upd_same, mo _ _ _ (e2.upd' np) r1, mo2 _ _ _ (ext1 np) r2⟩⟩
theorem gv_cat (mo : Mo R) (h1 : Gv σ H0 t1 (Lst R n)) (h2 : Gv σ H0 t2 (Lst R m)) (hn : n + m ≤ sizeLine) : Gv σ H0 (tOp rCat t1 t2) (Lst R (n + m)) := fun H Q e k =>
  h1 H _ e fun a H1 e1 r1 => h2 H1 _ (e.trans e1) fun b H2 e2 r2 => by
    obtain ⟨l, xs, rfl, hl, r1⟩ := r1
    obtain ⟨l2, ys, rfl, hl2, r2⟩ := r2
    refine ⟨l, l2, xs, ys, rfl, rfl, e2 _ _ hl, hl2, by rw [r1.1, r2.1]; exact hn, fun p np => k _ _ ((e1.trans e2).upd' np) ⟨p, _, rfl, upd_same, by rw [List.length_append, r1.1, r2.1], fun x hx => ?_⟩⟩
    rcases List.mem_append.mp hx with z | z
    · exact mo x _ _ (e2.upd' np) (r1.2 x z)
    · exact mo x _ _ (ext1 np) (r2.2 x z)
theorem gv_op {r : L2.R2} (mo : Mo S1) (h1 : Gv σ H0 t1 S1) (h2 : Gv σ H0 t2 S2) (h : ∀ x y H Q, Ext H0 H → S1 x H → S2 y H → (∀ v H', Ext H H' → R v H' → Q v H') → r x y H Q) : Gv σ H0 (tOp r t1 t2) R := fun H Q e k =>
  h1 H _ e fun a H1 e1 r1 => h2 H1 _ (e.trans e1) fun b H2 e2 r2 => h a b H2 _ ((e.trans e1).trans e2) (mo _ _ _ e2 r1) r2 fun v H' e' r' => k v H' ((e1.trans e2).trans e') r'
theorem gv_un {r : V → Hp → VK → Prop} (h1 : Gv σ H0 t1 S1) (h : ∀ x H Q, Ext H0 H → S1 x H → (∀ v H', Ext H H' → R v H' → Q v H') → r x H Q) : Gv σ H0 (tUn r t1) R := fun H Q e k =>
  h1 H _ e fun a H1 e1 r1 => h a H1 _ (e.trans e1) r1 fun v H' e' r' => k v H' (e1.trans e') r'
/-- statements -/
theorem seq_gv {i : Nat} {u : TS} {D : Ends} {H : Hp} (h : Gv σ H0 t R) (e : Ext H0 H) (k : ∀ v H', Ext H H' → R v H' → u D (σ.set i (some v)) H') : tSeq (tAsg t (gName i)) u D σ H := h H _ e k
theorem ret_gv {D : Ends} {H : Hp} (h : Gv σ H0 t R) (e : Ext H0 H) (k : ∀ v H', Ext H H' → R v H' → D.rt v H') : tRet t D σ H := h H _ e k
/-- all([.. for .. in rows]), each element True -/
theorem gv_all {K : PySem.W.Frag} {i l : Nat} {g : TG} {te : TE} {vs : List Nat} {xs : List V} (hσ : σ[i]? = some (some (.ref l))) (hl : H0 l = some (.lst xs)) (hx : All R n xs H0) (mo : Mo R) (hn : n < sizeLine)
    (step : ∀ (x : V) (H : Hp) (Q : VK) (Q' : Hp → Prop), Ext H0 H → R x H → (∀ H', Ext H H' → Q (.bl true) H') → g x (wipe σ vs) H fun σ2 H2 => wipe σ2 vs = wipe σ vs ∧ tYes σ2 H2 fun b H3 => if b = true then te σ2 H3 Q else Q' H3) :
    Gv σ H0 (tCB (rAll K) (tCons (tLc (iList K (tVar i)) g tYes te vs) tNil)) (fun v _ => v = .bl true) := by
  intro H Q e k
  have hlH := e _ _ hl
  refine ⟨_, hσ, l, rfl, ⟨_, SqL.of hlH⟩, fun D nD => ?_⟩
  have lD : l ≠ D := ne_of_none hlH nD
  refine lc_list (K := K) (a := l) (xs := xs) (fun i H2 => H2 D = some (.lst ((List.replicate i true).map V.bl)) ∧ Ext H H2) ⟨upd_same, ext1 nD⟩ (fun i H2 _ ⟨_, e2⟩ => SqL.of (e2 _ _ hlH)) ?_ ?_
  · rintro i x H2 hi ⟨hD, e2⟩
    have hil : i < n := by rw [← hx.1]; exact (List.getElem?_eq_some_iff.mp hi).1
    refine step x H2 _ _ (e.trans e2) (mo _ _ _ (e.trans e2) (hx.2 x (List.mem_of_getElem? hi))) fun H' e' => ⟨_, e' _ _ hD, ?_, ?_, ?_⟩
    · rw [List.length_map, List.length_replicate]
      exact Nat.lt_trans hil hn
    · rw [upd_same, List.replicate_succ', List.map_append]
      rfl
    · intro a o q
      rw [upd_ne (ne_of_none q nD)]
      exact e' _ _ (e2 _ _ q)
  · rintro H2 ⟨hD, e2⟩
    refine ⟨D, _, rfl, SqL.of hD, ?_⟩
    rw [show (List.replicate xs.length true).all id = true by simp]
    exact k _ _ e2 rfl
end
end Fx

set_option Elab.async false
set_option linter.all false
set_option maxRecDepth 100000
set_option maxHeartbeats 4000000
namespace Fx
open PySem PySem.Spec PyProof.Rows L2 FM
theorem set_set_comm' (σ : L2.St) {i j : Nat} (h : i ≠ j) (a b : Option V) : (σ.set i a).set j b = (σ.set j b).set i a := List.set_comm a b h
theorem wipe2 (σ : L2.St) {i j : Nat} (h : i ≠ j) (a b : Option V) : wipe (((wipe σ [i, j]).set i a).set j b) [i, j] = wipe σ [i, j] := by
  show ((((((σ.set j none).set i none).set i a).set j b).set j none).set i none) = (σ.set j none).set i none
  rw [List.set_set, List.set_set, List.set_comm a none h, List.set_set, List.set_set]
theorem wipe2_i (σ : L2.St) {i j : Nat} (h : i ≠ j) (hi : i < σ.length) (a b : Option V) : (((wipe σ [i, j]).set i a).set j b)[i]? = some a := by
  have hl : (wipe σ [i, j]).length = σ.length := wipe_length _ _
  rw [List.getElem?_set_ne (Ne.symm h), List.getElem?_set_self (by rw [hl]; exact hi)]
theorem wipe2_j (σ : L2.St) {i j : Nat} (hj : j < σ.length) (a b : Option V) : (((wipe σ [i, j]).set i a).set j b)[j]? = some b := by
  have hl : (wipe σ [i, j]).length = σ.length := wipe_length _ _
  rw [List.getElem?_set_self (by rw [List.length_set, hl]; exact hj)]
theorem wipe2_o (σ : L2.St) {i j k : Nat} (hi : k ≠ i) (hj : k ≠ j) (a b : Option V) : (((wipe σ [i, j]).set i a).set j b)[k]? = σ[k]? := by
  rw [List.getElem?_set_ne (Ne.symm hj), List.getElem?_set_ne (Ne.symm hi)]
  show ((σ.set j none).set i none)[k]? = σ[k]?
  rw [List.getElem?_set_ne (Ne.symm hi), List.getElem?_set_ne (Ne.symm hj)]
theorem wipe1 (σ : L2.St) {i : Nat} (a : Option V) : wipe ((wipe σ [i]).set i a) [i] = wipe σ [i] := by
  show (((σ.set i none).set i a).set i none) = σ.set i none
  rw [List.set_set, List.set_set]
theorem wipe1_i (σ : L2.St) {i : Nat} (hi : i < σ.length) (a : Option V) : ((wipe σ [i]).set i a)[i]? = some a := by
  have hl : (wipe σ [i]).length = σ.length := wipe_length _ _
  rw [List.getElem?_set_self (by rw [hl]; exact hi)]
theorem wipe1_o (σ : L2.St) {i k : Nat} (hi : k ≠ i) (a : Option V) : ((wipe σ [i]).set i a)[k]? = σ[k]? := by
  rw [List.getElem?_set_ne (Ne.symm hi)]
  show (σ.set i none)[k]? = σ[k]?
  rw [List.getElem?_set_ne (Ne.symm hi)]
/-- a pair with S -/
def Pr (S : V → V → Hp → Prop) : V → Hp → Prop := fun v H => ∃ t a b, v = .ref t ∧ H t = some (.tup [a, b]) ∧ S a b H
def Mo2 (S : V → V → Hp → Prop) : Prop := ∀ a b H H', Ext H H' → S a b H → S a b H'
theorem mo_pr {S : V → V → Hp → Prop} (m : Mo2 S) : Mo (Pr S) := fun _ _ _ e ⟨t, a, b, h1, h2, h3⟩ => ⟨t, a, b, h1, e _ _ h2, m _ _ _ _ e h3⟩
section
variable {σ : L2.St} {H0 : Hp} {n : Nat}
theorem gv_all2 {K : PySem.W.Frag} {i l i1 i2 : Nat} {te : TE} {xs : List V} {S : V → V → Hp → Prop} (hσ : σ[i]? = some (some (.ref l))) (hl : H0 l = some (.lst xs)) (hx : All (Pr S) n xs H0) (mo : Mo2 S) (hn : n < sizeLine) (hi : i1 ≠ i2) (l1 : i1 < σ.length) (l2 : i2 < σ.length)
    (step : ∀ (τ : L2.St) (a b : V) (H : Hp) (Q : VK), τ[i1]? = some (some a) → τ[i2]? = some (some b) → (∀ k, k ≠ i1 → k ≠ i2 → τ[k]? = σ[k]?) → Ext H0 H → S a b H → (∀ H', Ext H H' → Q (.bl true) H') → te τ H Q) :
    Gv σ H0 (tCB (rAll K) (tCons (tLc (iList K (tVar i)) (gTup K 2 (gCons (gName i1) (gCons (gName i2) gNil))) tYes te [i1, i2]) tNil)) (fun v _ => v = .bl true) :=
  gv_all hσ hl hx (mo_pr mo) hn fun x H Q Q' e ⟨t, a, b, ex, ht, hs⟩ k => by
    refine ⟨t, [a, b], ex, SqT.of ht, rfl, a, [b], rfl, b, [], rfl, rfl, wipe2 σ hi _ _, ?_⟩
    refine @iteT _ (Q' H) ?_
    exact step _ a b H Q (wipe2_i σ hi l1 _ _) (wipe2_j σ l2 _ _) (fun k h1 h2 => wipe2_o σ h1 h2 _ _) e hs k
theorem gv_all1 {K : PySem.W.Frag} {i l i1 : Nat} {te : TE} {xs : List V} {S : V → Hp → Prop} (hσ : σ[i]? = some (some (.ref l))) (hl : H0 l = some (.lst xs)) (hx : All S n xs H0) (mo : Mo S) (hn : n < sizeLine) (l1 : i1 < σ.length)
    (step : ∀ (τ : L2.St) (a : V) (H : Hp) (Q : VK), τ[i1]? = some (some a) → (∀ k, k ≠ i1 → τ[k]? = σ[k]?) → Ext H0 H → S a H → (∀ H', Ext H H' → Q (.bl true) H') → te τ H Q) :
    Gv σ H0 (tCB (rAll K) (tCons (tLc (iList K (tVar i)) (gName i1) tYes te [i1]) tNil)) (fun v _ => v = .bl true) :=
  gv_all hσ hl hx mo hn fun x H Q Q' e hs k => by
    refine ⟨wipe1 σ _, ?_⟩
    refine @iteT _ (Q' H) ?_
    exact step _ x H Q (wipe1_i σ l1 _) (fun k h1 => wipe1_o σ h1 _) e hs k
end
end Fx

set_option Elab.async false
set_option linter.all false
set_option maxRecDepth 100000
set_option maxHeartbeats 8000000
set_option exponentiation.threshold 20000
namespace Fx
open PySem PySem.Spec PyProof.Rows L2 FM
/-- all that is known of Frac -/
structure FA (P : Program) (w : World) (K : PySem.W.Frag) (mg : Str → Option Value) (base : Heap) (A : Adr) : Prop where
  T : FT K mg A
  M : MkF P w K mg base A
  S : StF K A
  O : Cal P w K mg base 3 A.of_ ["value"] (spOf A)
  bAdd : BinF K A.C A.add .Add
  cAdd : Cal P w K mg base 3 A.add ["self", "other"] (spB A fadd)
  rAdd : RefF K A.C A.radd .Add
  cRadd : Cal P w K mg base 4 A.radd ["self", "other"] (spB A fun p q => fadd q p)
  bSub : BinF K A.C A.sub .Sub
  cSub : Cal P w K mg base 3 A.sub ["self", "other"] (spB A fsub)
  rSub : RefF K A.C A.rsub .Sub
  cRsub : Cal P w K mg base 4 A.rsub ["self", "other"] (spB A fun p q => fsub q p)
  bMul : BinF K A.C A.mul .Mult
  cMul : Cal P w K mg base 3 A.mul ["self", "other"] (spB A fmul)
  rMul : RefF K A.C A.rmul .Mult
  cRmul : Cal P w K mg base 4 A.rmul ["self", "other"] (spB A fun p q => fmul q p)
  bFlo : BinF K A.C A.flo .FloorDiv
  cFlo : Cal P w K mg base 4 A.flo ["self", "other"] (spFlo A)
  rFlo : RefF K A.C A.rflo .FloorDiv
  cRflo : Cal P w K mg base 4 A.rflo ["self", "other"] (spRflo A)
  bMod : BinF K A.C A.mod .Mod
  cMod : Cal P w K mg base 4 A.mod ["self", "other"] (spMod A)
  rMod : RefF K A.C A.rmod .Mod
  cRmod : Cal P w K mg base 5 A.rmod ["self", "other"] (spRmod A)
  bPow : BinF K A.C A.pow .Pow
  cPow : Cal P w K mg base 3 A.pow ["self", "other"] (spPow A)
  uNeg : UnF K A.C A.neg "__neg__"
  cNeg : Cal P w K mg base 3 A.neg ["self"] (spU A fneg)
  uAbs : UnF K A.C A.abs "__abs__"
  cAbs : Cal P w K mg base 3 A.abs ["self"] (spU A fabs)
  uBool : UnF K A.C A.bool "__bool__"
  cBool : Cal P w K mg base 1 A.bool ["self"] (spBool A)
  uStr : UnF K A.C A.str "__str__"
  cStr : Cal P w K mg base 1 A.str ["self"] (spStr A)
  kEq : CmpF K A.C A.eq "__eq__"
  cEq : Cal P w K mg base 1 A.eq ["self", "other"] (spC A ceq)
  kLt : CmpF K A.C A.lt "__lt__"
  cLt : Cal P w K mg base 4 A.lt ["self", "other"] (spC A clt)
  kLe : CmpF K A.C A.le "__le__"
  cLe : Cal P w K mg base 4 A.le ["self", "other"] (spC A cle)
  kGt : CmpF K A.C A.gt "__gt__"
  cGt : Cal P w K mg base 4 A.gt ["self", "other"] (spC A cgt)
  kGe : CmpF K A.C A.ge "__ge__"
  cGe : Cal P w K mg base 4 A.ge ["self", "other"] (spC A cge)
  kNe : NeF K A.C A.eq
  mOver : Meth K A.C "over" A.over
  cOver : Cal P w K mg base 4 A.over ["self", "b"] (spOver A)
  noIn : NoIn K A.C
  ab : mg "abs" = none
  all : mg "all" = none
theorem boot_all : bootBuiltins "all" = some (.builtin "all") := by decide +kernel
end Fx

set_option Elab.async false
set_option linter.all false
set_option maxRecDepth 100000
set_option maxHeartbeats 4000000
/-! A try with several named clauses; a def that is handed the exception under way. -/
namespace Fx
open PySem PySem.Spec PyProof.Rows L2 FM
abbrev Clause := Value × Nat × (Addr → Value → Option Addr → TS)
/-- behind the suite of a named clause its name is gone -/
def Ends.gone (D : Ends) (i : Nat) : Ends := { nx := fun σ H => D.nx (σ.set i none) H, rt := D.rt, bk := fun σ H => D.bk (σ.set i none) H, ct := fun σ H => D.ct (σ.set i none) H }
def wNamed (K : PySem.W.Frag) (Wout : WX) (D : Ends) : List Clause → WX
  | [] => Wout
  | (c, i, ts) :: r => fun cls d σ H => ∃ b, PySem.W.exmOne K cls c = some b ∧ (b = true → ∀ a, H a = none → ts a cls d (Ends.gone D i) (σ.set i (some (.ref a))) H) ∧ (b = false → wNamed K Wout D r cls d σ H)
inductive Clauses (X : Cx) : List ExceptHandler → List Clause → Prop
  | nil : Clauses X [] []
  | cons {x n : Str} {i : Nat} {c : Value} {ts : Addr → Value → Option Addr → TS} {b₀ : Stmt} {suite : List Stmt} {np pos' : Pos} {hds : List ExceptHandler} {l : List Clause} (hi : X.N[i]? = some n) (hln : X.env.kindOf n = some .local) (hc : Names X x c)
      (hsu : ∀ (a : Addr) (oe : Obj) (cls : Value) (d : Option Addr) (pn : List (Addr × Obj)), Zc cls d oe → (∃ vs, oe.data = .fields vs) → PSs (X.suite a ((a, oe) :: pn)) (b₀ :: suite) (ts a cls d)) (r : Clauses X hds l) :
      Clauses X (.ExceptHandler (some (.Name x np)) (some n) (b₀ :: suite) pos' :: hds) ((c, i, ts) :: l)
section
variable {X : Cx} {body : List Stmt} {h₀ : ExceptHandler} {hds : List ExceptHandler} {l : List Clause} {pos : Pos} {tb : WX → TS} {Wout : WX}
theorem ps_try_named (hs : X.stack = X.env :: X.outer) (hf : X.env.frame = some X.env.locals) (hN : X.N.Nodup) (tk : Takes X Wout)
    (hb : ∀ (W : WX) (pn : List (Addr × Obj)) (xe : Value → Shared → Prop), Takes (X.tr pn xe) W → PassesOwn (model X.prog X.w) X.A X.env xe → PSs (X.tr pn xe) body (tb W))
    (hh : Clauses X (h₀ :: hds) l) : PS X (.Try body (h₀ :: hds) [] [] pos) (fun D σ H => tb (wNamed X.K Wout D l) D σ H) := by
  refine ⟨fun pins s σ H D I h => ?_⟩
  have ok := I.ok
  have hfr : X.A.frames = some (X.env :: X.outer) := by rw [ok.frames, hs]
  refine wpAny_Try_except ?_
  refine wpAny_mono ((hb (wNamed X.K Wout D l) (X.pn ++ pins) (fun e s₁ => wpAny (model X.prog X.w) X.A (noteFrame e X.env) (fun _ s₂ => wpAny (model X.prog X.w) X.A (setFlight e none) (fun _ s₃ =>
    wpAny (model X.prog X.w) X.A (handleBy e X.env (h₀ :: hds)) (SP X pins D) X.xe s₃) X.xe s₂) X.xe s₁) (fun u s' xx => ?_) PassesOwn.looking).run [] s σ H D (I.toTry _) h) (fun f s1 hsp => ?_) (fun e s1 he => he)
  · obtain ⟨a, B, sI, pins', σ', H', cls, d, rfl, J', nb, up, sky, na, os, ag, w⟩ := xx
    have J : Inv X pins σ' H' sI := J'.ofTry ok
    have sky' : Sky B (X.env :: X.outer) a (Zc cls d) X.env.locals s'.heap := by rw [← hs]; exact sky
    show wpAny (model X.prog X.w) X.A (noteFrame (.ref a) X.env) _ _ _
    refine Sky.land Zc.steady hfr hf sky' fun h3 fl3 up3 => ?_
    have J3 : Inv X pins σ' H' { s' with heap := h3 } := J.landed nb fl3.1 (up.trans up3) os ag
    obtain ⟨oe3, vs3, he3, hz3, hd3⟩ := fl3.there
    have nfr : a ∉ frs (X.env :: X.outer) := fun hm => by
      obtain ⟨_, o', e', hnf⟩ := fl3.2.2.1.mem hm
      rw [he3] at e'; cases e'
      exact hnf _ hd3
    have nL : a ≠ X.env.locals := fun z => nfr (List.mem_filterMap.mpr ⟨X.env, List.mem_cons_self, by rw [hf, z]⟩)
    have nF : a ∉ X.fs := fun hm => by
      obtain ⟨e, he, q⟩ := List.mem_filterMap.mp hm
      exact nfr (List.mem_filterMap.mpr ⟨e, List.mem_cons_of_mem _ he, q⟩)
    have S3 := J3.suite he3 hd3 na nL nF
    have LT : PySem.W.Looks (model X.prog X.w) h3 (typeOf (.ref a)) cls := fun A Q E s k q => wpAny_typeOf_ref (k _ _ he3) (by rw [hz3.1]; exact q)
    clear h
    generalize h₀ :: hds = hs' at hh ⊢
    induction hh with
    | nil =>
      refine wpAny_handleBy_nil ?_
      obtain ⟨k1, k2, k3, oe, vs, T, oT, ts', he, hz, hd, h1, hr⟩ := id fl3
      unfold PySem.passOn
      refine wpAny_bind (wpAny_field he hd h1 ?_)
      rw [if_neg (show ¬ ((Value.ref T == Value.none) = true) from by simp)]
      have fin : wpAny (model X.prog X.w) X.A (setFlight (.ref a) X.env.frame) (fun _ s4 => wpAny (model X.prog X.w) X.A (throw (.ref a) : Sem Flow) (SP X pins D) X.xe s4) X.xe { s' with heap := h3 } := by
        rw [hf]
        exact HandSPX.setFlight_upZ fl3 fun h4 hh4 up4 => wpAny_throw (tk _ _ ⟨a, B, sI, pins, σ', H', cls, d, rfl, J, nb, (up.trans up3).trans up4, .inr (.inr (by rw [hs]; exact hh4)), na, os, ag, w⟩)
      first
        | exact wpAny_bind (wpAny_pure (wpAny_bind fin))
        | exact wpAny_bind fin
    | @cons x n i c ts b₀ suite np pos' hds2 l2 hi hln hc hsu r ih =>
      obtain ⟨b, hb1, hyes, hno⟩ := w
      refine wpAny_handleBy_cons (codeAny_handlers_test ?_) (by intro q; cases q)
      have LM := PySem.W.exm_one (M := model X.prog X.w) (J3.kIn) LT hb1
      have test : ∀ {Q : Value → Shared → Prop} {E : Value → Shared → Prop}, Q c { s' with heap := h3 } → wpAny (model X.prog X.w) (X.A.mark (some (.ref a))) (eval (.Name x np) X.env) Q E { s' with heap := h3 } := fun {Q E} q => by
        obtain ⟨hg, hdbg, hm | ⟨hm, hv, hnn⟩⟩ := hc
        · exact ld_glob (X := X.suite a ((a, oe3) :: (X.pn ++ pins))) S3 hg hm q hdbg
        · exact ld_blt (X := X.suite a ((a, oe3) :: (X.pn ++ pins))) S3 hg hm hv q hnn hdbg
      refine test (LM.here ?_)
      cases b with
      | true =>
        refine codeAny_handlers_suite_as ?_
        refine HandSPX.lands_againZ fl3 fun h4 fl4 up4 => ?_
        have J4 : Inv X pins σ' H' { s' with heap := h4 } := J.landed nb fl4.1 ((up.trans up3).trans up4) os ag
        obtain ⟨oe4, vs4, he4, hz4, hd4⟩ := fl4.there
        have S4 := J4.suite he4 hd4 na nL nF
        refine store_ok (X := X.suite a ((a, oe4) :: (X.pn ++ pins))) (v := .ref a) S4 hN hi (.inl hln) rfl (fun s5 S5 => ?_) (.inr hln)
        refine wpAny_mono ((hsu a oe4 cls d (X.pn ++ pins) hz4 ⟨_, hd4⟩).run [] s5 _ H' _ S5 (hyes rfl a na)) (fun f s6 hsp => ?_) (fun _ _ z => False.elim z)
        cases f with
        | ret u =>
          obtain ⟨v6, σ6, H6, S6, r6, q6⟩ := hsp
          exact gone_ok (S6.unsuite ok) hN hi hln fun s7 J7 => ⟨_, _, _, J7, r6, q6⟩
        | next =>
          obtain ⟨σ6, H6, S6, q6⟩ := hsp
          exact gone_ok (S6.unsuite ok) hN hi hln fun s7 J7 => ⟨_, _, J7, q6⟩
        | brk =>
          obtain ⟨σ6, H6, S6, q6⟩ := hsp
          exact gone_ok (S6.unsuite ok) hN hi hln fun s7 J7 => ⟨_, _, J7, q6⟩
        | cont =>
          obtain ⟨σ6, H6, S6, q6⟩ := hsp
          exact gone_ok (S6.unsuite ok) hN hi hln fun s7 J7 => ⟨_, _, J7, q6⟩
      | false =>
        show wpAny _ X.A (handleBy (.ref a) X.env hds2) _ _ _
        exact ih (hno rfl)
  · cases f with
    | next =>
      obtain ⟨σ', H', J', q⟩ := hsp
      exact wpAny_execs_nil ⟨σ', H', J'.ofTry ok, q⟩
    | brk => exact hsp.imp fun _ ⟨_, J', q⟩ => ⟨_, J'.ofTry ok, q⟩
    | cont => exact hsp.imp fun _ ⟨_, J', q⟩ => ⟨_, J'.ofTry ok, q⟩
    | ret u => exact hsp.imp fun _ ⟨_, _, J', r, q⟩ => ⟨_, _, J'.ofTry ok, r, q⟩
/-- what a callee lets out of a try's body is taken, for frames of the right length -/
theorem passes_len {W : WX} {E : XK} (tk : Takes X W) (hW : ∀ cls d σ H, σ.length = X.N.length → E cls d H → W cls d σ H) : Passes (L2.CX X.prog X.w) X E :=
  fun _ σ _ _ e s' I c => tk e s' (XE.of_call I (fun cls d H' h => hW cls d σ H' I.len h) c)
end
/-! ### isinstance of an exception of an own class, with or without fields -/
section
variable {X : Cx} {a D : Addr} {oe : Obj} {d : Option Addr}
/-- its dict, where it has one, is known -/
def Dk (H : Hp) (d : Option Addr) : Prop := d = none ∨ ∃ dd fs, d = some dd ∧ H dd = some (.xd fs)
def rIsX (K : PySem.W.Frag) (D a : Addr) (d : Option Addr) : List V → Hp → VK → Prop := fun xs H Q => ∃ (c : V) (cv : Value) (b : Bool), xs = [.ref a, c] ∧ (∀ u, RelV c u → u = cv) ∧ PySem.W.kitOne K (.ref D) cv = some b ∧ Dk H d ∧ Q (.bl b) H
theorem call_isX (C : ExcC X.K D) (hin : (a, oe) ∈ X.pn) (hz : Zc (.ref D) d oe) (hf : ∃ vs, oe.data = .fields vs) : CallR X (.builtin "isinstance") (rIsX X.K D a d) := by
  intro pins s σ H xs us Q I r h
  obtain ⟨c, cv, b, rfl, hcv, e, hd, q⟩ := h
  cases r with
  | cons rx rr =>
    cases rr with
    | cons rt rr =>
      cases rr
      cases rx
      have ec := hcv _ rt
      subst ec
      obtain ⟨hget, _⟩ := I.pin (a, oe) (List.mem_append_left _ hin)
      obtain ⟨vs, hv⟩ := hf
      obtain ⟨cd, hcd, _⟩ := PySem.W.any_some C.hd
      have nc : PySem.W.notCls oe = true := by unfold PySem.W.notCls; rw [hv] <;> rfl
      have fin : ∀ od, PySem.W.InstAt s.heap a oe D od → wpAny (model X.prog X.w) X.A (call (.builtin "isinstance") _) (EP X pins σ Q) X.xe s := fun od J =>
        PySem.W.kia_one (PySem.W.kitx_exc (od := od) (by rw [hcd]; rfl) C.hg C.hk C.hs C.ha C.hn C.ht C.hm) I.kIn J e (fun z => nomatch z) fun tk => ⟨.bl b, H, I.kept (t' := tk) fun _ _ z => z, rfl, q⟩
      rcases hd with rfl | ⟨dd, fs, rfl, hx⟩
      · exact fin none ⟨hget, hz.1, nc, by rw [hz.2]; trivial⟩
      · obtain ⟨mA, hns, hr⟩ := I.hok dd _ hx
        obtain ⟨od, ho, hl⟩ := lookIn_ns hns
        exact fin (some od) ⟨hget, hz.1, nc, by rw [hz.2]; exact ho⟩
end
/-! ### a def that is handed the exception under way -/
structure FnZ (P : Program) (w : World) (K : PySem.W.Frag) (mg : Str → Option Value) (base : Heap) (k : Nat) (f : Addr) (fd : FuncData) (ps : List Str) (sp : Addr → Value → Option Addr → Sp) : Prop where
  len : ∀ a cls d vs H Q E, sp a cls d vs H Q E → vs.length = ps.length
  run : ∀ (A : Around) (outer : List Env) (s : Shared) (H : Hp) (args : Args) (us : List Value) (vs : List V) (Q : VK) (p : Addr × Obj) (cls : Value) (d : Option Addr), L2H.RoomH k A → Zc cls d p.2 → (∃ vs, p.2.data = .fields vs) → L2H.PinOk outer H s p → Env0 P w K mg base A outer s H → BindsTo s fd args (ps.zip us) → Vals vs us → sp p.1 cls d vs H Q E0 →
    codeAny (model P w) A (.call (.ref f) args) (CR (L2.CX P w) outer P w H s Q E0) s
theorem fn_ofZ {P : Program} {w : World} {K : PySem.W.Frag} {mg : Str → Option Value} {base : Heap} {k : Nat} {f : Addr} {name qual : Str} {params : Arguments} {body : List Stmt} {scope : Scope} {dV kV doc pm cdv ct oc : Value} {an od : Option Addr}
    {osl : Array (Option Value)} {N ps : List Str} {sp : Addr → Value → Option Addr → Sp} (lk : K.lookup f = some ⟨oc, od, .func (PySem.W.fnOf name qual params body scope dV kV doc pm an cdv ct), osl⟩) (hcd : PySem.W.codeIn K cdv qual = true) (S : FnScope N ps scope)
    (len : ∀ a cls d vs H Q E, sp a cls d vs H Q E → vs.length = ps.length)
    (hbody : ∀ (A : Around) (outer : List Env) (s : Shared) (H : Hp) (vs : List V) (Q : VK) (p : Addr × Obj) (cls : Value) (d : Option Addr), Zc cls d p.2 → (∃ vs, p.2.data = .fields vs) → L2H.RoomH k (A.deeper (envOfC qual scope s.heap.objs.size f cdv)) → sp p.1 cls d vs H Q E0 →
      ∃ t, PSs (L2H.cxH (L2.CX P w) P w K mg base N qual scope f cdv A outer s H E0 p) body t ∧ t { nx := fun _ H' => Q .non H', rt := Q } (L2.start N vs) H) :
    FnZ P w K mg base (k + 1) f (PySem.W.fnOf name qual params body scope dV kV doc pm an cdv ct) ps sp := by
  refine ⟨len, fun A outer s H args us vs Q p cls d hr hz hf hpin e0 hb r hsp => ?_⟩
  have hl := len _ _ _ _ _ _ _ hsp
  have KX : K.In s.heap := e0.mod.kin.keeps fun b o e => (e0.bs b o e).1
  have lim : s.heap.NoLimit := e0.mod.nolimit.keeps fun b o e => (e0.bs b o e).1
  have hkind : ∀ y ∈ ps.zip us, scope.names.lookup y.1 = some .local ∨ (scope.names.lookup y.1 = some .cell ∧ ((cellsFrom (s.heap.objs.size + 1) scope.names []).lookup y.1).isSome = true) := fun ⟨n, v⟩ hy =>
    (S.par n (List.of_mem_zip hy).1).imp id fun q => ⟨q, PySem.W.cellsFrom_some _ _ _ (.inl q)⟩
  refine codeAny_call_function hr.depth (KX _ _ lk) rfl S.co S.gen rfl (PySem.W.codeRec_of KX hcd) (hb _ _ _ _ ?_)
  refine wpAny_newFunctionEnv_cells S.kind hkind fun env he s1 x => ?_
  subst he
  refine ⟨lim.keeps x.toInCall.keep, codeAny_func ?_⟩
  obtain ⟨t, ht, hq⟩ := hbody A outer s H vs Q p cls d hz hf (hr.deeper _) hsp
  refine wpAny_mono (ht.run [] s1 (L2.start N vs) H _ (L2H.inv_startH S hpin e0 hl r x) hq) (fun fl s' hs => ?_) fun e s' hs => hs
  cases fl with
  | ret u =>
    obtain ⟨v, σ', H', J, rv, q⟩ := hs
    exact ⟨v, H', J.os, J.bare, J.base, J.hok, rv, q⟩
  | next =>
    obtain ⟨σ', H', J, q⟩ := hs
    exact ⟨.non, H', J.os, J.bare, J.base, J.hok, rfl, q⟩
  | brk =>
    obtain ⟨_, _, _, q⟩ := hs
    exact False.elim q
  | cont =>
    obtain ⟨_, _, _, q⟩ := hs
    exact False.elim q
section
variable {X : Cx} {k : Nat} {f a : Addr} {oe : Obj} {cls : Value} {d : Option Addr} {fd : FuncData} {ps : List Str} {sp : Addr → Value → Option Addr → Sp} {x : Str} {q pos : Pos} {e : Expr} {es : List Expr} {t : TA}
theorem pe_callZ (F : FnZ X.prog X.w X.K X.mg X.base k f fd ps sp) (hr : L2H.RoomH k X.A) (hin : (a, oe) ∈ X.pn) (hz : Zc cls d oe) (hf : ∃ vs, oe.data = .fields vs) (hg : Gl X x) (hm : X.mg x = some (.ref f)) (hk : PySem.W.keepIn X.K (.ref f) = true) (hb : Binds X.K fd ps [])
    (ha : PA X (e :: es) t) (hdb : (x == ("__debug__" : Str)) = false := by decide) (he : starEach (e :: es) X.env = (false, eval e X.env) :: starEach es X.env := by rfl) (hpl : (backTo pos (starEach es X.env)).any (·.1) = false := by rfl) :
    PE X (.Call (.Name x q) (e :: es) [] pos) (fun σ H Q => t σ H fun vs H1 => sp a cls d vs H1 Q E0) := by
  refine ⟨fun pins s σ H Q I h => ?_⟩
  refine wpAny_Call_Name_kw (ld_glob I hg hm ?_ hdb)
  refine PySem.W.callWith_K (h₀ := X.base) I.ok.mod.kin hk (thn (ha.run pos pins s σ H _ I h) fun us s1 ⟨vs, H1, I1, r, q⟩ => ⟨I1.kIn, ?_⟩) he hpl
  have hl : us.length = ps.length := by rw [← r.length]; exact F.len _ _ _ _ _ _ _ q
  have b := hb s1 us I1.kIn (by rw [List.append_nil]; exact hl)
  rw [List.append_nil] at b
  have P1 := I1.pin (a, oe) (List.mem_append_left _ hin)
  have hpin : L2H.PinOk X.stack H1 s1 (a, oe) := ⟨P1.1, P1.2.1, fun hm => (List.mem_cons.mp (I1.stkSub a hm)).elim P1.2.2.1 P1.2.2.2.1, P1.2.2.2.2⟩
  refine wpAny_call (codeAny_mono (F.run X.A X.stack s1 H1 ⟨us, []⟩ us vs Q (a, oe) cls d hr hz hf hpin I1.env0 b r q) fun r s' hq => ?_)
  cases r with
  | error e =>
    obtain ⟨_, _, _, _, _, _, _, _, _, _, _, _, w⟩ := hq
    exact w.elim
  | ok fl =>
    cases fl with
    | ret u => exact I1.after hq
    | next => exact False.elim hq
    | brk => exact False.elim hq
    | cont => exact False.elim hq
end
end Fx

set_option Elab.async false
set_option linter.all false
set_option maxRecDepth 100000
set_option maxHeartbeats 4000000
set_option exponentiation.threshold 20000
/-! Fractions told by their rational numbers. -/
namespace Fx
open PySem PySem.Spec PyProof.Rows L2 FM KM
/-- a def of the module -/
def LF (P : Program) (w : World) (K : PySem.W.Frag) (mg : Str → Option Value) (base : Heap) (x : Str) (k : Nat) (ps : List Str) (sp : Sp) : Prop := ∃ f, mg x = some (.ref f) ∧ Cal P w K mg base k f ps sp
theorem if_D {c : Prop} [Decidable c] {A B : Prop} (h1 : c → A) (h2 : ¬ c → B) : if decide c = true then A else B := by
  by_cases h : c
  · rw [decide_eq_true h, if_pos rfl]; exact h1 h
  · rw [decide_eq_false h, if_neg Bool.false_ne_true]; exact h2 h
theorem if_ND {c : Prop} [Decidable c] {A B : Prop} (h1 : ¬ c → A) (h2 : c → B) : if (!decide c) = true then A else B := by
  by_cases h : c
  · rw [decide_eq_true h]; exact h2 h
  · rw [decide_eq_false h]; exact h1 h
theorem if_B {b : Bool} {A B : Prop} (h1 : b = true → A) (h2 : b = false → B) : if b = true then A else B := by
  cases b
  · exact if_neg Bool.false_ne_true ▸ h2 rfl
  · exact if_pos rfl ▸ h1 rfl
/-- the pair of a rational number -/
def pr (r : Rat) : Int × Int := (r.num, (r.den : Int))
theorem low_pr (r : Rat) : Low (pr r) := ⟨by have := r.den_pos; show (0 : Int) < (r.den : Int); omega, by have := r.reduced; exact this⟩
theorem val_pr (r : Rat) : val (pr r) = r := by
  show ((r.num : Int) : Rat) / (((r.den : Nat) : Int) : Rat) = r
  rw [← Rat.divInt_eq_div]
  exact Rat.num_divInt_den r
theorem pr_val {p : Int × Int} (h : Low p) : pr (val p) = p := val_inj (low_pr _) h (val_pr _)
theorem pr_inj {r s : Rat} (h : pr r = pr s) : r = s := by rw [← val_pr r, ← val_pr s, h]
theorem pr_add (r s : Rat) : fadd (pr r) (pr s) = pr (r + s) := val_inj (low_fadd (low_pr r) (low_pr s)) (low_pr _) (by rw [val_add (low_pr r) (low_pr s), val_pr, val_pr, val_pr])
theorem pr_sub (r s : Rat) : fsub (pr r) (pr s) = pr (r - s) := val_inj (low_fsub (low_pr r) (low_pr s)) (low_pr _) (by rw [val_sub (low_pr r) (low_pr s), val_pr, val_pr, val_pr])
theorem pr_mul (r s : Rat) : fmul (pr r) (pr s) = pr (r * s) := val_inj (low_fmul (low_pr r) (low_pr s)) (low_pr _) (by rw [val_mul (low_pr r) (low_pr s), val_pr, val_pr, val_pr])
theorem pr_zero {r : Rat} : (pr r).1 = 0 ↔ r = 0 := by
  have := val_zero (low_pr r)
  rw [val_pr] at this
  exact this.symm
theorem pr_over {r s : Rat} (h : s ≠ 0) : fover (pr r) (pr s) = pr (r / s) := by
  have h1 : (pr s).1 ≠ 0 := fun z => h (pr_zero.mp z)
  exact val_inj (low_fover (low_pr r) h1) (low_pr _) (by rw [val_over (low_pr r) (low_pr s) h1, val_pr, val_pr, val_pr])
theorem pr_int (n : Int) : pr (n : Rat) = (n, 1) := val_inj (low_pr _) (lowInt n) (by rw [val_pr, val_int])
theorem pr_low {n d : Int} (h : d ≠ 0) : pr ((n : Rat) / (d : Rat)) = low n d := val_inj (low_pr _) (low_low h) (by rw [val_pr, val_low h])
theorem pr_pos {r : Rat} : 0 < (pr r).1 ↔ 0 < r := by
  show 0 < r.num ↔ 0 < r
  rw [Rat.lt_iff]
  simp
theorem pr_cle {r s : Rat} : cle (pr r) (pr s) = decide (r ≤ s) := by
  unfold cle
  have : ((pr r).1 * (pr s).2 ≤ (pr s).1 * (pr r).2) ↔ r ≤ s := by
    rw [Rat.le_iff]
    exact Iff.rfl
  exact decide_eq_decide.mpr this
theorem pr_ceq {r s : Rat} : ceq (pr r) (pr s) = decide (r = s) := by
  unfold ceq
  exact decide_eq_decide.mpr ⟨pr_inj, fun h => by rw [h]⟩
/-- no number of it has more than 4,000 bits -/
def Ok4 (r : Rat) : Prop := Okf (pr r)
theorem ok4_rep {D M : Nat} {r : Rat} (h : Rep D M r) (h0 : 0 < D) (h1 : D < 2 ^ 4000) (h2 : M < 2 ^ 4000) : Ok4 r := by
  have q := Rep.dvd (p := pr r) (low_pr r) (by rw [val_pr]; exact h) h0
  exact ⟨low_pr r, Nat.lt_of_le_of_lt q.2 h2, Nat.lt_of_le_of_lt q.1 h1⟩
theorem ok4_int {n : Int} (h : Bd n) : Ok4 (n : Rat) := by unfold Ok4; rw [pr_int]; exact .int h
/-- a fraction of this number stands at a -/
def FQ (A : Adr) (H : Hp) (a : Addr) (r : Rat) : Prop := FracAt A.C H a (pr r)
theorem FQ.ext {A : Adr} {H H' : Hp} {a : Addr} {r : Rat} (h : FQ A H a r) (e : Ext H H') : FQ A H' a r := FracAt.ext h e
/-- a value that is a fraction -/
def FV (A : Adr) (x : V) (r : Rat) (H : Hp) : Prop := ∃ a, x = .ref a ∧ FQ A H a r
theorem FV.ext {A : Adr} {H H' : Hp} {x : V} {r : Rat} (h : FV A x r H) (e : Ext H H') : FV A x r H' := let ⟨a, h1, h2⟩ := h; ⟨a, h1, h2.ext e⟩
/-- a value that is a number -/
def NV (A : Adr) (x : V) (r : Rat) (H : Hp) : Prop := Num A H x (pr r)
theorem NV.ext {A : Adr} {H H' : Hp} {x : V} {r : Rat} (h : NV A x r H) (e : Ext H H') : NV A x r H' := Num.ext h e
theorem FV.num {A : Adr} {x : V} {r : Rat} {H : Hp} (h : FV A x r H) : NV A x r H := let ⟨a, h1, h2⟩ := h; .inl ⟨a, h1, h2⟩
theorem NV.int {A : Adr} (n : Int) {H : Hp} : NV A (.int n) (n : Rat) H := by unfold NV; rw [pr_int]; exact .int n
/-- all that is no list stays -/
def ExtL (H H' : Hp) : Prop := ∀ b o, H b = some o → (∀ xs, o ≠ .lst xs) → H' b = some o
theorem Ext.l {H H' : Hp} (e : Ext H H') : ExtL H H' := fun b o h _ => e b o h
theorem ExtL.trans {H H1 H2 : Hp} (a : ExtL H H1) (b : ExtL H1 H2) : ExtL H H2 := fun c o h n => b c o (a c o h n) n
theorem ExtL.rfl' {H : Hp} : ExtL H H := fun _ _ h _ => h
theorem ExtL.upd {H : Hp} {l : Addr} {xs : List V} {o : HO} (h : H l = some (.lst xs)) : ExtL H (upd H l o) := fun b u hb hn => by
  rw [upd_ne]
  · exact hb
  · intro z
    rw [z, h] at hb
    exact hn xs (Option.some.inj hb).symm
theorem FracAt.l {C : Addr} {H H' : Hp} {a : Addr} {p : Int × Int} (h : FracAt C H a p) (e : ExtL H H') : FracAt C H' a p := let ⟨dx, h⟩ := h; ⟨dx, e _ _ h fun xs z => by cases z⟩
theorem FQ.l {A : Adr} {H H' : Hp} {a : Addr} {r : Rat} (h : FQ A H a r) (e : ExtL H H') : FQ A H' a r := FracAt.l h e
theorem FV.l {A : Adr} {H H' : Hp} {x : V} {r : Rat} (h : FV A x r H) (e : ExtL H H') : FV A x r H' := let ⟨a, h1, h2⟩ := h; ⟨a, h1, h2.l e⟩
theorem NV.l {A : Adr} {H H' : Hp} {x : V} {r : Rat} (h : NV A x r H) (e : ExtL H H') : NV A x r H' := h.elim (fun ⟨b, h1, h2⟩ => .inl ⟨b, h1, h2.l e⟩) .inr
/-- what stands while lists change -/
def MoX {β : Type} (R : V → β → Hp → Prop) : Prop := ∀ x y H H', ExtL H H' → R x y H → R x y H'
theorem moFV {A : Adr} : MoX (FV A) := fun _ _ _ _ e h => h.l e
theorem moNV {A : Adr} : MoX (NV A) := fun _ _ _ _ e h => h.l e
theorem moInt : MoX (fun (x : V) (n : Int) (_ : Hp) => x = .int n) := fun _ _ _ _ _ h => h
/-- item by item -/
def All2 {β : Type} (R : V → β → Hp → Prop) (xs : List V) (ys : List β) (H : Hp) : Prop := xs.length = ys.length ∧ ∀ (i : Nat) (x : V) (y : β), xs[i]? = some x → ys[i]? = some y → R x y H
section
variable {β : Type} {R : V → β → Hp → Prop} {xs : List V} {ys : List β} {H H' : Hp}
theorem All2.l (m : MoX R) (h : All2 R xs ys H) (e : ExtL H H') : All2 R xs ys H' := ⟨h.1, fun i x y a b => m _ _ _ _ e (h.2 i x y a b)⟩
theorem All2.ext (m : MoX R) (h : All2 R xs ys H) (e : Ext H H') : All2 R xs ys H' := h.l m (Ext.l e)
theorem All2.nil : All2 R [] [] H := ⟨rfl, fun i x y a => by simp at a⟩
theorem All2.cons {x : V} {y : β} (h1 : R x y H) (h : All2 R xs ys H) : All2 R (x :: xs) (y :: ys) H := by
  refine ⟨by simp [h.1], fun i a b p q => ?_⟩
  cases i with
  | zero => simp at p q; subst p q; exact h1
  | succ i => exact h.2 i a b (by simpa using p) (by simpa using q)
theorem All2.append {us : List V} {vs : List β} (h : All2 R xs ys H) (h2 : All2 R us vs H) : All2 R (xs ++ us) (ys ++ vs) H := by
  refine ⟨by simp [h.1, h2.1], fun i a b p q => ?_⟩
  by_cases hi : i < xs.length
  · rw [List.getElem?_append_left hi] at p
    rw [List.getElem?_append_left (by rw [← h.1]; exact hi)] at q
    exact h.2 i a b p q
  · rw [List.getElem?_append_right (by omega)] at p
    rw [List.getElem?_append_right (by rw [← h.1]; omega), ← h.1] at q
    exact h2.2 _ a b p q
theorem All2.snoc {x : V} {y : β} (h : All2 R xs ys H) (h1 : R x y H) : All2 R (xs ++ [x]) (ys ++ [y]) H := h.append (.cons h1 .nil)
theorem All2.take (h : All2 R xs ys H) (n : Nat) : All2 R (xs.take n) (ys.take n) H := by
  refine ⟨by simp [h.1], fun i a b p q => ?_⟩
  rw [List.getElem?_take] at p q
  split at p <;> simp_all
  exact h.2 i a b p q
theorem All2.drop (h : All2 R xs ys H) (n : Nat) : All2 R (xs.drop n) (ys.drop n) H := by
  refine ⟨by simp [h.1], fun i a b p q => ?_⟩
  rw [List.getElem?_drop] at p q
  exact h.2 _ a b p q
theorem All2.reverse (h : All2 R xs ys H) : All2 R xs.reverse ys.reverse H := by
  refine ⟨by simp [h.1], fun i a b p q => ?_⟩
  have h1 : i < xs.length := by
    have := (List.getElem?_eq_some_iff.mp p).1
    simpa using this
  rw [List.getElem?_reverse h1] at p
  rw [List.getElem?_reverse (by rw [← h.1]; exact h1), ← h.1] at q
  exact h.2 _ a b p q
theorem All2.get (h : All2 R xs ys H) {i : Nat} {y : β} (e : ys[i]? = some y) : ∃ x, xs[i]? = some x ∧ R x y H := by
  have h1 : i < xs.length := by
    have := (List.getElem?_eq_some_iff.mp e).1
    rw [h.1]; exact this
  exact ⟨xs[i], List.getElem?_eq_getElem h1, h.2 i _ y (List.getElem?_eq_getElem h1) e⟩
theorem All2.get' (h : All2 R xs ys H) {i : Nat} {x : V} (e : xs[i]? = some x) : ∃ y, ys[i]? = some y ∧ R x y H := by
  have h1 : i < ys.length := by
    have := (List.getElem?_eq_some_iff.mp e).1
    rw [← h.1]; exact this
  exact ⟨ys[i], List.getElem?_eq_getElem h1, h.2 i x _ e (List.getElem?_eq_getElem h1)⟩
theorem All2.imp {γ : Type} {S : V → γ → Hp → Prop} {zs : List γ} {f : β → γ} (h : All2 R xs ys H) (i : ∀ x y, R x y H → S x (f y) H') (e : zs = ys.map f) : All2 S xs zs H' := by
  subst e
  refine ⟨by simp [h.1], fun j a b p q => ?_⟩
  rw [List.getElem?_map] at q
  obtain ⟨y, h1, h2⟩ := Option.map_eq_some_iff.mp q
  subst h2
  exact i _ _ (h.2 j a y p h1)
end
/-- a list at l -/
def LstB (R : V → Rat → Hp → Prop) (H : Hp) (l : Addr) (rs : List Rat) : Prop := ∃ xs, H l = some (.lst xs) ∧ All2 R xs rs H
theorem OpR.mono {X : Cx} {f : Value → Value → Sem Value} {r r' : R2} (h : OpR X f r) (i : ∀ x y H Q, r' x y H Q → r x y H Q) : OpR X f r' := fun pins s σ H x y v u Q I rx ry k => h pins s σ H x y v u Q I rx ry (i x y H Q k)
/-- a fraction with a number -/
def rQF (A : Adr) (g : Rat → Rat → Rat) : R2 := fun x y H Q => ∃ r s, FV A x r H ∧ NV A y s H ∧ Ok4 r ∧ Ok4 s ∧ ∀ v H', Ext H H' → FV A v (g r s) H' → Q v H'
/-- an int with a fraction -/
def rQR (A : Adr) (g : Rat → Rat → Rat) : R2 := fun x y H Q => ∃ n s, x = .int n ∧ FV A y s H ∧ Bd n ∧ Ok4 s ∧ ∀ v H', Ext H H' → FV A v (g n s) H' → Q v H'
section
variable {X : Cx} {A : Adr}
theorem o_add (F_ : FA X.prog X.w X.K X.mg X.base A) (hr : Room 3 X.A) : OpR X (binaryOp .Add) (rQF A (· + ·)) :=
  OpR.mono (op_BF F_.bAdd F_.cAdd hr) fun x y H Q ⟨r, s, ⟨a, e, f⟩, n, o1, o2, k⟩ => ⟨a, _, _, e, f, n, o1, o2, fun v H' e h => k _ H' e ⟨v, rfl, by rw [pr_add] at h; exact h⟩⟩
theorem o_sub (F_ : FA X.prog X.w X.K X.mg X.base A) (hr : Room 3 X.A) : OpR X (binaryOp .Sub) (rQF A (· - ·)) :=
  OpR.mono (op_BF F_.bSub F_.cSub hr) fun x y H Q ⟨r, s, ⟨a, e, f⟩, n, o1, o2, k⟩ => ⟨a, _, _, e, f, n, o1, o2, fun v H' e h => k _ H' e ⟨v, rfl, by rw [pr_sub] at h; exact h⟩⟩
theorem o_mul (F_ : FA X.prog X.w X.K X.mg X.base A) (hr : Room 3 X.A) : OpR X (binaryOp .Mult) (rQF A (· * ·)) :=
  OpR.mono (op_BF F_.bMul F_.cMul hr) fun x y H Q ⟨r, s, ⟨a, e, f⟩, n, o1, o2, k⟩ => ⟨a, _, _, e, f, n, o1, o2, fun v H' e h => k _ H' e ⟨v, rfl, by rw [pr_mul] at h; exact h⟩⟩
theorem o_rmul (F_ : FA X.prog X.w X.K X.mg X.base A) (hr : Room 4 X.A) : OpR X (binaryOp .Mult) (rQR A (· * ·)) :=
  OpR.mono (op_BR (idl := "int.__mul__") int_mul F_.rMul F_.cRmul hr) fun x y H Q ⟨n, s, e1, ⟨b, e2, f⟩, bn, o, k⟩ => ⟨n, b, _, e1, e2, f, bn, o, fun v H' e h => k _ H' e ⟨v, rfl, by rw [← pr_int, pr_mul] at h; exact h⟩⟩
theorem o_radd (F_ : FA X.prog X.w X.K X.mg X.base A) (hr : Room 4 X.A) : OpR X (binaryOp .Add) (rQR A (· + ·)) :=
  OpR.mono (op_BR (idl := "int.__add__") int_add F_.rAdd F_.cRadd hr) fun x y H Q ⟨n, s, e1, ⟨b, e2, f⟩, bn, o, k⟩ => ⟨n, b, _, e1, e2, f, bn, o, fun v H' e h => k _ H' e ⟨v, rfl, by rw [← pr_int, pr_add] at h; exact h⟩⟩
end
/-- Frac.of, told by numbers -/
theorem of_of {A : Adr} {x : V} {r : Rat} {H : Hp} {Q : VK} {E : XK} (h : NV A x r H) (k : ∀ v H', Ext H H' → FV A v r H' → Q v H') : spOf A [x] H Q E := ⟨x, _, rfl, h, fun a H' e f => k _ H' e ⟨a, rfl, f⟩⟩
/-- over, told by numbers -/
theorem over_of {A : Adr} {x y : V} {r s : Rat} {H : Hp} {Q : VK} {E : XK} (h1 : FV A x r H) (h2 : NV A y s H) (o1 : Ok4 r) (o2 : Ok4 s) (hs : s ≠ 0) (k : ∀ v H', Ext H H' → FV A v (r / s) H' → Q v H') : spOver A [x, y] H Q E := by
  obtain ⟨a, rfl, f⟩ := h1
  exact ⟨a, _, y, _, rfl, f, h2, o1, o2, fun z => absurd (pr_zero.mp z) hs, fun _ v H' e f' => k _ H' e ⟨v, rfl, by rw [pr_over hs] at f'; exact f'⟩⟩
end Fx

set_option Elab.async false
set_option linter.all false
set_option maxRecDepth 100000
set_option maxHeartbeats 4000000
set_option exponentiation.threshold 20000
/-! sum(xs, start=Frac(0)) -/
namespace Fx
open PySem PySem.Spec PyProof.Rows L2 FM KM
theorem call_treeK {prog : Program} {w : World} {A : Around} {E : Value → Shared → Prop} {s : Shared} {id : String} {b : Builtin} {args : List Value} {kw : List (Str × Value)} {Q : Value → Shared → Prop} (hk : builtinKind id = none) (hp : plainId id = true)
    (hb : entryFor table id = some b) (ha : argsOk id ⟨args, kw⟩)
    (hc : wpAny (model prog w) A.in1 (b ⟨args, kw⟩) (fun fin s' => match fin with
      | .done f => (match (Except.ok f : Result) with | .ok (.ret v) => Q v s' | .ok _ => False | .error e => E e s')
      | .again c' => c'.quiet = true ∧ codeAny (model prog w) A c' (fun r s' => match r with | .ok (.ret v) => Q v s' | .ok _ => False | .error e => E e s') s') E s) :
    wpAny (model prog w) A (call (.builtin id) args kw) Q E s := by
  refine wpAny_call (codeAny_call_builtin hp hb ?_)
  simp only [checkBuiltinCall, hk]
  cases hsig : Manifest.signature? id with
  | none => exact wpAny_pure hc
  | some sig =>
    simp only [argsOk, hsig] at ha
    have h2 : Bind.checkArgs id sig ⟨args, kw⟩ = pure () := ha
    show wpAny _ A.in1 (Bind.checkArgs id sig ⟨args, kw⟩) _ _ s
    rw [h2]; exact wpAny_pure hc
theorem args_sumS (a b : Value) : argsOk "sum" ⟨[a], [(Str.ofString "start", b)]⟩ := by unfold argsOk; kernel_rfl
/-- a class that is no text and no bytes -/
structure NoTxt (K : PySem.W.Frag) (C : Addr) : Prop where
  s : PySem.W.subIn K (.ref C) (.type "str") = some false
  b : PySem.W.subIn K (.ref C) (.type "bytes") = some false
  y : PySem.W.subIn K (.ref C) (.type "bytearray") = some false
section
variable {X : Cx} {k : Nat} {f : Addr} {fd : FuncData} {ps : List Str} {sp : Sp}
/-- the callee runs and raises nothing -/
theorem run_fnN {A : Around} {E : Value → Shared → Prop} {pins : List (Addr × Obj)} {σ : L2.St} {H : Hp} {s : Shared} {Q : VK} {us : List Value} {vs : List V} (F : FnOk X.prog X.w X.K X.mg X.base (L2.CX X.prog X.w) k f fd ps sp) (hr : Room k A) (hfr : A.frames = X.A.frames) (hb : Binds X.K fd ps [])
    (I : Inv X pins σ H s) (r : Vals vs us) (h : sp vs H Q E0) : wpAny (model X.prog X.w) A (call (.ref f) us) (EP X pins σ Q) E s := by
  have hl : us.length = ps.length := by rw [← r.length]; exact F.len _ _ _ _ h
  have e0 : Env0 X.prog X.w X.K X.mg X.base A X.stack s H := by
    have e := I.env0
    exact ⟨by rw [hfr]; exact e.frames, e.mod, e.bs, e.bsz, e.funs, e.frf, e.hok, e.bare⟩
  have hb' : BindsTo s fd ⟨us, []⟩ (ps.zip us) := by
    have := hb s us I.kIn (by simpa using hl)
    simpa using this
  refine wpAny_call (codeAny_mono (F.run A X.stack s H ⟨us, []⟩ us vs Q E0 hr e0 hb' r h) fun r s' hq => ?_)
  cases r with
  | error e =>
    obtain ⟨_, _, _, _, _, _, _, _, _, _, _, _, z⟩ := hq
    exact z.elim
  | ok fl =>
    cases fl with
    | ret u => exact I.after hq
    | next => exact False.elim hq
    | brk => exact False.elim hq
    | cont => exact False.elim hq
/-- what a sum comes to -/
def psum (s : Rat) (rs : List Rat) (j : Nat) : Rat := s + (rs.take j).sum
theorem psum_succ {s : Rat} {rs : List Rat} {j : Nat} {r : Rat} (h : rs[j]? = some r) : psum s rs (j + 1) = psum s rs j + r := by
  unfold psum
  rw [List.take_add_one, h, List.sum_append]
  simp
  grind
theorem nextB {prog : Program} {w : World} {A : Around} {E : Value → Shared → Prop} {s : Shared} {kd : Bool} {it a : Addr} {i : Nat} {items : Array Value} {x : Value} {Q : Option Value → Shared → Prop} (h1 : ItB kd s.heap it a i) (h2 : HsB kd s.heap a items) (hx : items[i]? = some x)
    (hQ : ∀ h', ItB kd h' it a (i + 1) → Heap.SameBut it s.heap h' → Q (some x) { s with heap := h' }) : wpAny (model prog w) A (pyNext (.ref it)) Q E s := by
  cases kd
  · exact wpAny_pyNext_tuple_item h1 h2 hx hQ
  · exact wpAny_pyNext_list_item h1 h2 hx hQ
theorem endB {prog : Program} {w : World} {A : Around} {E : Value → Shared → Prop} {s : Shared} {kd : Bool} {it a : Addr} {i : Nat} {items : Array Value} {Q : Option Value → Shared → Prop} (hh : A.handled = none) (h1 : ItB kd s.heap it a i) (h2 : HsB kd s.heap a items) (hx : items[i]? = none)
    (hQ : ∀ h', Heap.ExtBut it s.heap h' → Q none { s with heap := h' }) : wpAny (model prog w) A (pyNext (.ref it)) Q E s := by
  cases kd
  · exact wpAny_pyNext_tuple_end hh h1 h2 hx hQ
  · exact wpAny_pyNext_list_end hh h1 h2 hx hQ
end
section
variable {X : Cx} {A : Adr}
theorem sum_loopO (hc : X.calm = true) (F_ : FA X.prog X.w X.K X.mg X.base A) (hr : Room 4 X.A) {kd : Bool} {a S it : Addr} {xs : List V} {rs : List Rat} {s0 : Rat} {H0 : Hp} {pins : List (Addr × Obj)} {σ : L2.St} {R : Result → Shared → Prop}
    (hs : SqB kd X.K H0 a xs) (hxs : All2 (FV A) xs rs H0) (o1 : ∀ j, j ≤ rs.length → Ok4 (psum s0 rs j)) (o2 : ∀ r ∈ rs, Ok4 r) (hne : S ≠ it) (hSa : S ≠ a) (hita : it ≠ a)
    (hR : ∀ s' H' t, Inv X pins σ H' s' → Ext H0 H' → FQ A H' t (psum s0 rs rs.length) → R (.ok (.ret (.ref t))) s') :
    ∀ (k i : Nat) (s : Shared) (H : Hp) (t : Addr) (c : Nat), rs.length - i = k → i ≤ rs.length → Inv X pins σ H s → Ext H0 H → FQ A H t (psum s0 rs i) → FpOk X pins H S → FpOk X pins H it →
      s.heap.get? S = some { cls := .type "list", dict := none, data := .seq #[.ref t] c, slots := #[] } → ItB kd s.heap it a i →
      codeAny (model X.prog X.w) X.A (.builtin "sum.loop" ⟨[.ref it, .ref S, rawInt 2, rawInt 0], []⟩) R s := by
  intro k
  induction k with
  | zero =>
    intro i s H t c hk hi I e hT fS fI hS hI
    have hin : i = rs.length := by omega
    subst hin
    obtain ⟨its, rv, p⟩ := inv_B I (hs.ext e)
    have hl := rv.length
    have hl2 := hxs.1
    refine codeAny_builtin F.entry_sum_loop ?_
    rw [Around.under_plainId F.plain_sum_loop _]
    show wpAny _ X.A.in1 (seqItems? (.ref S) >>= _) _ _ s
    refine wpAny_bind (wpAny_seqItems hS rfl ?_)
    show wpAny _ X.A.in1 (tryCatch (pyNext (.ref it)) _ >>= _) _ _ s
    refine wpAny_bind (wpAny_tryCatch (endB (A := X.A.in1) (I.ok.hd hc) hI p (by simp; omega) fun h' eb => ?_))
    exact wpAny_pure (hR _ H t (I.turned (t' := s.toks) (fun b o hb q => eb b o hb q) fI.1 fI.2.1 fI.2.2.2.1 fI.2.2.2.2.1 fI.2.2.2.2.2) e hT)
  | succ k ih =>
    intro i s H t c hk hi I e hT fS fI hS hI
    have hlt : i < rs.length := by omega
    obtain ⟨its, rv, p⟩ := inv_B I (hs.ext e)
    have hl := rv.length
    have hl2 := hxs.1
    have hxi : xs[i]? = some xs[i] := List.getElem?_eq_getElem (by omega)
    have hri : rs[i]? = some rs[i] := List.getElem?_eq_getElem hlt
    obtain ⟨b, eb, fb⟩ := hxs.2 i _ _ hxi hri
    obtain ⟨u, hu, ru⟩ := rv.get hxi
    rw [eb] at ru
    obtain rfl : u = Value.ref b := ru
    refine codeAny_builtin F.entry_sum_loop ?_
    rw [Around.under_plainId F.plain_sum_loop _]
    show wpAny _ X.A.in1 (seqItems? (.ref S) >>= _) _ _ s
    refine wpAny_bind (wpAny_seqItems hS rfl ?_)
    show wpAny _ X.A.in1 (tryCatch (pyNext (.ref it)) _ >>= _) _ _ s
    refine wpAny_bind (wpAny_tryCatch (nextB hI p (x := .ref b) (by simpa using hu) fun h' hI' sb => ?_))
    have I1 : Inv X pins σ H { s with heap := h' } := I.turned (t' := s.toks) (fun b o hb q => sb.extBut b o hb q) fI.1 fI.2.1 fI.2.2.2.1 fI.2.2.2.2.1 fI.2.2.2.2.2
    have hS' : h'.get? S = some { cls := .type "list", dict := none, data := .seq #[.ref t] c, slots := #[] } := sb.extBut _ _ hne hS
    obtain ⟨oi, hoi, cell⟩ := hI'.live
    show wpAny _ X.A.in1 ((holding [Value.ref b] (binaryOp .Add (.ref t) (.ref b))).attempt >>= _) _ _ _
    have I2 : Inv X ((S, ({ cls := .type "list", dict := none, data := .seq #[.ref t] c, slots := #[] } : Obj)) :: (it, oi) :: pins) σ H { s with heap := h' } := by
      refine I1.pins_of fun z hz => ?_
      rcases List.mem_cons.mp hz with q | hz
      · subst q
        exact ⟨hS', fS.1, fS.2.1, fS.2.2.1, fun v q => nomatch q⟩
      rcases List.mem_cons.mp hz with q | hz
      · subst q
        exact ⟨hoi, fI.1, fI.2.1, fI.2.2.1, cell⟩
      · exact I1.pin z (List.mem_append_right _ hz)
    obtain ⟨dt, hta⟩ := id hT
    obtain ⟨dt2, htb⟩ := FQ.ext fb e
    obtain ⟨mA, J, _⟩ := ins_get I2.hok hta
    obtain ⟨od, J, _⟩ := J.look
    obtain ⟨mB, J', _⟩ := ins_get I2.hok htb
    obtain ⟨od', J', _⟩ := J'.look
    obtain ⟨m, hF⟩ := I2.fr
    obtain ⟨fdA, GA, bA⟩ := F_.cAdd.ex
    have ok1 := o1 i hi
    have ok2 := o2 _ (List.getElem_mem hlt)
    have run : wpAny (model X.prog X.w) X.A.in1 (call (.ref A.add) [.ref t, .ref b]) (PySem.W.CmpBack (EP X ((S, ({ cls := .type "list", dict := none, data := .seq #[.ref t] c, slots := #[] } : Obj)) :: (it, oi) :: pins) σ
        fun v H' => Ext H H' ∧ FV A v (psum s0 rs (i + 1)) H')) (fun _ _ => False) { s with heap := h' } :=
      wpAny_mono (run_fnN (us := [.ref t, .ref b]) (vs := [.ref t, .ref b]) GA hr.in1 rfl bA I2 (.cons rfl (.cons rfl .nil))
        ⟨t, _, .ref b, _, rfl, hT, .of (FQ.ext fb e), ok1, ok2, fun r H' e' hf => ⟨e', r, rfl, by rw [pr_add] at hf; unfold FQ; rw [psum_succ hri]; exact hf⟩⟩) (fun _ _ z => cmpBack_EP z) fun _ _ z => z
    refine wpAny_bind (wpAny_attempt (wpAny_holding (wpAny_mono (PySem.W.binop_K hF I2.ok.mod.kin J J'.type F_.bAdd.sf F_.bAdd.at_ F_.bAdd.fn run) (fun r s' z => ?_) fun _ _ z => z.elim)))
    obtain ⟨v, H', I3, rv3, e3, t', ev, fv⟩ := z
    subst ev
    obtain rfl : r = Value.ref t' := rv3
    have pS := (I3.pin _ (List.mem_append_right _ List.mem_cons_self))
    have pI := (I3.pin (it, oi) (List.mem_append_right _ (List.mem_cons_of_mem _ List.mem_cons_self)))
    have I4 : Inv X pins σ H' s' := I3.pins_of fun z hz => I3.pin z (List.mem_append_right _ (List.mem_cons_of_mem _ (List.mem_cons_of_mem _ hz)))
    have fS' : FpOk X pins H' S := ⟨pS.2.1, fS.2⟩
    have fI' : FpOk X pins H' it := ⟨pI.2.1, fI.2⟩
    have hI3 : ItB kd s'.heap it a (i + 1) := hI'.at fun o q => by rw [hoi] at q; cases q; exact pI.1
    show wpAny _ X.A.in1 (updateSeq S (fun _ => #[Value.ref t']) >>= _) _ _ _
    refine wpAny_bind ?_
    refine wpAny_updateSeq pS.1 rfl ?_
    have hS2 := Heap.get?_update_self (Obj.mapSeq fun _ => #[Value.ref t']) pS.1 rfl
    refine wpAny_bind (wpAny_letGo ?_)
    refine wpAny_bind ?_
    refine wpAny_updateSeq hS2 rfl (wpAny_pure ⟨plainId_quiet F.plain_sum_loop _, ?_⟩)
    have I5 : Inv X pins σ H' { s' with heap := s'.heap.update S (Obj.mapSeq fun _ => #[Value.ref t']) } := I4.turned (it := S) (t' := s'.toks) (fun b o hb q => (Heap.get?_update_other _ _ (Ne.symm hb)).trans q) fS'.1 fS'.2.1 fS'.2.2.2.1 fS'.2.2.2.2.1 fS'.2.2.2.2.2
    refine ih (i + 1) _ H' t' _ (by omega) hlt (I5.turned (it := S) (t' := s'.toks) (fun b o hb q => (Heap.get?_update_other _ _ (Ne.symm hb)).trans q) fS'.1 fS'.2.1 fS'.2.2.2.1 fS'.2.2.2.2.1 fS'.2.2.2.2.2) (e.trans e3) fv fS' fI' (Heap.get?_update_self _ hS2 rfl) (hI3.at fun o q => ?_)
    exact (Heap.get?_update_other _ _ hne).trans ((Heap.get?_update_other _ _ hne).trans q)
/-- sum(xs, start=t) of fractions -/
def rSumS (K : PySem.W.Frag) (A : Adr) : List V → List V → Hp → VK → Prop := fun vs zs H Q => ∃ (kd : Bool) (a t : Addr) (xs : List V) (rs : List Rat) (s0 : Rat), vs = [V.ref a] ∧ zs = [V.ref t] ∧ SqB kd K H a xs ∧ All2 (FV A) xs rs H ∧ FQ A H t s0 ∧
  (∀ j, j ≤ rs.length → Ok4 (psum s0 rs j)) ∧ (∀ r ∈ rs, Ok4 r) ∧ ∀ v H', Ext H H' → FV A v (psum s0 rs rs.length) H' → Q v H'
theorem cr_sumS (hc : X.calm = true) (F_ : FA X.prog X.w X.K X.mg X.base A) (N : NoTxt X.K A.C) (hr : Room 4 X.A) : CallRK X (.builtin "sum") [Str.ofString "start"] (rSumS X.K A) := by
  intro pins s σ H vs zs us ws Q I r rz h
  obtain ⟨kd, a, t, xs, rs, s0, rfl, rfl, hs, hxs, ht, o1, o2, q⟩ := h
  obtain rfl := Vals.ref1 r
  obtain rfl := Vals.ref1 rz
  obtain ⟨its, rv, p⟩ := inv_B I hs
  show wpAny (model X.prog X.w) X.A (call (.builtin "sum") [.ref a] [(Str.ofString "start", .ref t)]) _ _ s
  refine call_treeK F.kind_sum F.plain_sum F.entry_sum (args_sumS _ _) ?_
  unfold Builtin.«sum»
  simp only [List.length_cons, List.length_nil]
  rw [if_neg (by decide)]
  refine wpAny_bind (wpAny_of_eq (show Builtin.Builtins.bindParams "sum" ["start"] 0 ⟨[], [(Str.ofString "start", .ref t)]⟩ = pure [some (.ref t)] from rfl) ?_)
  obtain ⟨o, bg, gI⟩ := begins_B kd a its.toArray
  refine wpAny_bind (bg.iter _ _ _ _ _ _ p ?_)
  have I1 : Inv X pins σ H { s with heap := s.heap.push o } := I.kept (t' := s.toks) fun _ _ e => Heap.get?_push_of_some _ e
  have ho : (s.heap.push o).get? s.heap.objs.size = some o := Heap.get?_push_size _ bg.free
  obtain ⟨dt, hta⟩ := id ht
  obtain ⟨mA, J, _⟩ := ins_get I1.hok hta
  obtain ⟨od, J, _⟩ := J.look
  refine wpAny_bind (wpAny_pure ?_)
  simp only [List.forIn_cons, List.forIn_nil]
  have l1 : PySem.W.Looks (model X.prog X.w) (s.heap.push o) (isInstance (.ref t) (.type "str")) false := J.type.andThen (PySem.W.looks_subIn I1.kIn N.s)
  have l2 : PySem.W.Looks (model X.prog X.w) (s.heap.push o) (isInstance (.ref t) (.type "bytes")) false := J.type.andThen (PySem.W.looks_subIn I1.kIn N.b)
  have l3 : PySem.W.Looks (model X.prog X.w) (s.heap.push o) (isInstance (.ref t) (.type "bytearray")) false := J.type.andThen (PySem.W.looks_subIn I1.kIn N.y)
  refine wpAny_bind (wpAny_bind (wpAny_bind (l1.here ?_)))
  simp only [Bool.false_eq_true, if_false]
  refine wpAny_pure (wpAny_bind (wpAny_bind (l2.here ?_)))
  simp only [Bool.false_eq_true, if_false]
  refine wpAny_pure (wpAny_bind (wpAny_bind (l3.here ?_)))
  simp only [Bool.false_eq_true, if_false]
  refine wpAny_pure (wpAny_pure ?_)
  refine wpAny_bind (wpAny_newObj_type ?_)
  have sz : (s.heap.push o).objs.size = s.heap.objs.size + 1 := Heap.size_push ..
  have I2 : Inv X pins σ H { s with heap := (s.heap.push o).push { cls := .type "list", data := .seq #[.ref t] } } := I1.kept (t' := s.toks) fun _ _ e => Heap.get?_push_of_some _ e
  have fI : FpOk X pins H s.heap.objs.size := I.fpOk (Nat.le_refl _) (I.hok.fresh (Nat.le_refl _))
  have fS : FpOk X pins H (s.heap.push o).objs.size := I.fpOk (by rw [sz]; exact Nat.le_succ _) (I.hok.fresh (by rw [sz]; exact Nat.le_succ _))
  have la := p.lt
  refine wpAny_pure ⟨plainId_quiet F.plain_sum_loop _, sum_loopO hc F_ hr (S := (s.heap.push o).objs.size) (it := s.heap.objs.size) (s0 := s0) hs hxs o1 o2 (by rw [sz]; exact Nat.succ_ne_self _) (by rw [sz]; exact Nat.ne_of_gt (Nat.lt_succ_of_lt la)) (Nat.ne_of_gt la)
    (fun s' H' t' I' e' f' => ⟨.ref t', H', I', rfl, q _ _ e' ⟨t', rfl, f'⟩⟩) rs.length 0 _ H t 0 rfl (Nat.zero_le _) I2 Ext.rfl' ?_ fS fI (Heap.get?_push_size _ rfl) (gI _ _ (Heap.get?_push_of_some _ ho))⟩
  have e0 : psum s0 rs 0 = s0 := by unfold psum; simp; grind
  rw [e0]
  exact ht
end
end Fx

set_option Elab.async false
set_option linter.all false
set_option maxRecDepth 100000
set_option maxHeartbeats 4000000
set_option exponentiation.threshold 20000
/-! Comprehensions and loops that make lists, item by item. -/
namespace Fx
open PySem PySem.Spec PyProof.Rows L2 FM KM
theorem tlc_cps {wi : TI} {g : TG} {te : TE} {vs : List Nat} {σ : L2.St} {H : Hp} {Q : VK} {P : It → Hp → Prop} (hw : ∀ R : It → Hp → Prop, (∀ J H1, P J H1 → R J H1) → wi σ H R) (h : ∀ J H1, P J H1 → tLc (fun _ H R => R J H) g tYes te vs σ H1 Q) : tLc wi g tYes te vs σ H Q := hw _ fun J H1 p => h J H1 p
theorem tret_of {te : TE} {D : Ends} {σ : L2.St} {H : Hp} (h : te σ H D.rt) : tRet te D σ H := h
section
variable {J : It} {n : Nat} {G : Hp → Prop} {Y : Nat → Hp → V → Hp → Prop} {g : TG} {te : TE} {vs : List Nat} {σ : L2.St} {H H1 : Hp} {Q : VK} {wi : TI}
/-- a comprehension: R says of each item what stands while only the list that is made changes -/
theorem tlc_D {R : Addr → Nat → V → Hp → Prop} (w : Walk J n G Y) (hw : ∀ R, R J H1 → wi σ H R) (hn : n ≤ sizeLine) (hG : ∀ H, Ext H1 H → G H)
    (mo : ∀ D acc i v H H', H D = some (.lst acc) → (∀ b o, b ≠ D → H b = some o → H' b = some o) → R D i v H → R D i v H')
    (step : ∀ D acc i x H H', i < n → H1 D = none → H D = some (.lst acc) → Ext H1 H → Y i H x H' → ∀ Qy : VK, (∀ y H4, Ext H H4 → R D i y H4 → Qy y H4) → g x (wipe σ vs) H' fun σ2 H2 => wipe σ2 vs = wipe σ vs ∧ te σ2 H2 Qy)
    (gmono : ∀ x σ H (P Q : L2.St → Hp → Prop), (∀ σ H, P σ H → Q σ H) → g x σ H P → g x σ H Q)
    (hd : ∀ D xs H', H1 D = none → Ext H1 H' → H' D = some (.lst xs) → xs.length = n → (∀ j x, xs[j]? = some x → R D j x H') → Q (.ref D) H') : tLc wi g tYes te vs σ H Q := by
  refine hw _ fun D nD => lc_it w (fun i H => ∃ acc : List V, H D = some (.lst acc) ∧ acc.length = i ∧ (∀ j x, acc[j]? = some x → R D j x H) ∧ Ext H1 H) ⟨[], upd_same, rfl, fun j x hj => by simp at hj, ext1 nD⟩ (fun i H _ ⟨_, _, _, _, e⟩ => hG H e) ?_ (fun H' ⟨acc, h1, h2, h3, h4⟩ => hd D acc H' nD h4 h1 h2 h3)
  rintro i x H2 H' hi ⟨acc, hD, hl, ha, e⟩ hY
  refine gmono _ _ _ _ _ ?_ (step D acc i x H2 H' hi nD hD e hY (fun y H4 => ∃ acc, H4 D = some (.lst acc) ∧ acc.length < sizeLine ∧ ∃ acc' : List V, upd H4 D (.lst (acc ++ [y])) D = some (.lst acc') ∧ acc'.length = i + 1 ∧ (∀ j x, acc'[j]? = some x → R D j x (upd H4 D (.lst (acc ++ [y])))) ∧ Ext H1 (upd H4 D (.lst (acc ++ [y])))) ?_)
  · rintro σ2 H3 ⟨e1, e2⟩
    exact ⟨e1, @iteT _ (∃ acc : List V, H3 D = some (.lst acc) ∧ acc.length = i + 1 ∧ (∀ j x, acc[j]? = some x → R D j x H3) ∧ Ext H1 H3) e2⟩
  · intro y H4 e4 hy
    refine ⟨acc, e4 _ _ hD, by omega, acc ++ [y], upd_same, by rw [List.length_append, hl]; rfl, ?_, ?_⟩
    · have el : ∀ b o, b ≠ D → H4 b = some o → upd H4 D (.lst (acc ++ [y])) b = some o := fun b o hb e => by rw [upd_ne hb]; exact e
      intro j x hj
      by_cases hji : j < acc.length
      · rw [List.getElem?_append_left hji] at hj
        exact mo D acc j x H2 _ hD (fun b o hb q => el b o hb (e4 b o q)) (ha j x hj)
      · rw [List.getElem?_append_right (by omega)] at hj
        have e0 : j - acc.length = 0 := by
          have := (List.getElem?_eq_some_iff.mp hj).1
          simp at this
          omega
        rw [e0] at hj
        have ex : y = x := by simpa using hj
        have ej : j = i := by omega
        rw [← ex, ej]
        exact mo D acc i y H4 _ (e4 _ _ hD) el hy
    · intro b o hb
      rw [upd_ne (ne_of_none hb nD)]
      exact e4 _ _ (e _ _ hb)
/-- .. whose items stand while lists change -/
theorem tlc_X {β : Type} {R : V → β → Hp → Prop} {ys : List β} (w : Walk J ys.length G Y) (hw : ∀ R, R J H1 → wi σ H R) (mo : MoX R) (hn : ys.length ≤ sizeLine) (hG : ∀ H, Ext H1 H → G H)
    (step : ∀ i x H H' y, ys[i]? = some y → Ext H1 H → Y i H x H' → ∀ Qy : VK, (∀ v H4, Ext H H4 → R v y H4 → Qy v H4) → g x (wipe σ vs) H' fun σ2 H2 => wipe σ2 vs = wipe σ vs ∧ te σ2 H2 Qy)
    (gmono : ∀ x σ H (P Q : L2.St → Hp → Prop), (∀ σ H, P σ H → Q σ H) → g x σ H P → g x σ H Q)
    (hd : ∀ D xs H', H1 D = none → Ext H1 H' → H' D = some (.lst xs) → All2 R xs ys H' → Q (.ref D) H') : tLc wi g tYes te vs σ H Q := by
  refine tlc_D (R := fun _ i v H => ∀ y, ys[i]? = some y → R v y H) w hw hn hG (fun D acc i v H H' hD k r y hy => mo _ _ _ _ (fun b o hb hn => k b o (fun z => hn acc (by rw [z, hD] at hb; exact (Option.some.inj hb).symm)) hb) (r y hy)) ?_ gmono ?_
  · intro D acc i x H H' hi nD hD e hY Qy k
    have hy : ys[i]? = some ys[i] := List.getElem?_eq_getElem hi
    exact step i x H H' _ hy e hY Qy fun v H4 e4 r => k v H4 e4 fun y hy' => by rw [hy] at hy'; cases hy'; exact r
  · intro D xs H' nD e hD hl hr
    exact hd D xs H' nD e hD ⟨hl, fun i x y hx hy => hr i x hx y hy⟩
theorem gmono1 {i : Nat} (x : V) (σ : L2.St) (H : Hp) (P Q : L2.St → Hp → Prop) (h : ∀ σ H, P σ H → Q σ H) (k : gName i x σ H P) : gName i x σ H Q := h _ _ k
/-- a target passes on what follows -/
def GM (g : TG) : Prop := ∀ x σ H (P Q : L2.St → Hp → Prop), (∀ σ H, P σ H → Q σ H) → g x σ H P → g x σ H Q
theorem gm_name {i : Nat} : GM (gName i) := gmono1
/-- .. several of them -/
def GMs (g : TGs) : Prop := ∀ xs σ H (P Q : L2.St → Hp → Prop), (∀ σ H, P σ H → Q σ H) → g xs σ H P → g xs σ H Q
theorem gms_nil : GMs gNil := fun xs σ H P Q h k => ⟨k.1, h _ _ k.2⟩
theorem gms_cons {g : TG} {gs : TGs} (h1 : GM g) (h2 : GMs gs) : GMs (gCons g gs) := fun xs σ H P Q h k => by
  obtain ⟨v, vs, e, k⟩ := k
  exact ⟨v, vs, e, h1 _ _ _ _ _ (fun σ H k => h2 _ _ _ _ _ h k) k⟩
theorem gm_tup {K : PySem.W.Frag} {n : Nat} {gs : TGs} (h1 : GMs gs) : GM (gTup K n gs) := fun x σ H P Q h k => by
  obtain ⟨a, xs, e1, e2, e3, k⟩ := k
  exact ⟨a, xs, e1, e2, e3, h1 _ _ _ _ _ h k⟩
end
theorem pi_or {X : Cx} {tg l : Expr} {w1 w2 : TI} (h1 : PI X tg l w1) (h2 : PI X tg l w2) : PI X tg l (fun σ H R => w1 σ H R ∨ w2 σ H R) := ⟨fun pins s σ H R I h => h.elim (h1.run pins s σ H R I) (h2.run pins s σ H R I)⟩
/-- a list or a tuple walked -/
def ItS (K : PySem.W.Frag) : Bool → Addr → It
  | true => Itl K
  | false => Itt K
theorem walk_S {K : PySem.W.Frag} {k : Bool} {a : Addr} {xs : List V} : Walk (ItS K k a) xs.length (fun H => SqB k K H a xs) (YAt xs) := by
  cases k
  · exact walk_tup
  · exact walk_list
def iSeq (K : PySem.W.Frag) (te : TE) : TI := fun σ H R => te σ H fun v H1 => ∃ k a xs, v = .ref a ∧ SqB k K H1 a xs ∧ R (ItS K k a) H1
theorem pi_seq {X : Cx} {tg l : Expr} {tl : TE} (hl : PE X l tl) : PI X tg l (iSeq X.K tl) := by
  refine ⟨fun pins s σ H R I h => ?_⟩
  refine thn (hl.run pins s σ H _ I h) fun v s1 ⟨x, H1, I1, r1, q1⟩ => ?_
  obtain ⟨k, a, xs, e, hq, q⟩ := q1
  subst e
  cases r1
  cases k
  · obtain ⟨its, rv, p, hz⟩ := I1.tuple hq
    refine wpAny_pyIter_tuple (show s1.heap.IsTuple a its.toArray from p) ?_
    refine ⟨s1.heap.objs.size, [s1.heap.objs.size], _, _, H1, rfl, I1.kept (t' := s1.toks) fun b o e => Heap.get?_push_of_some _ e, turn_tuple a _, ⟨_, Heap.get?_push_size _ rfl, rfl, rfl⟩, fun b hb => ?_, q⟩
    have e : b = s1.heap.objs.size := by simpa using hb
    subst e
    exact I1.fpOk (Nat.le_refl _) (I1.hok.fresh (Nat.le_refl _))
  · obtain ⟨its, rv, p, hz⟩ := I1.list hq
    refine wpAny_pyIter_list p.isList ?_
    refine ⟨s1.heap.objs.size, [s1.heap.objs.size], _, _, H1, rfl, I1.kept (t' := s1.toks) fun b o e => Heap.get?_push_of_some _ e, turn_list a _, ⟨_, Heap.get?_push_size _ rfl, rfl, rfl⟩, fun b hb => ?_, q⟩
    have e : b = s1.heap.objs.size := by simpa using hb
    subst e
    exact I1.fpOk (Nat.le_refl _) (I1.hok.fresh (Nat.le_refl _))
theorem sqB_or {k : Bool} {K : PySem.W.Frag} {H : Hp} {a : Addr} {xs : List V} (h : SqB k K H a xs) : SqL K H a xs ∨ SqT K H a xs := by
  cases k
  · exact .inr h
  · exact .inl h
theorem sqB_of {K : PySem.W.Frag} {H : Hp} {a : Addr} {xs : List V} (h : SqL K H a xs ∨ SqT K H a xs) : ∃ k, SqB k K H a xs := h.elim (fun h => ⟨true, h⟩) fun h => ⟨false, h⟩
end Fx

set_option Elab.async false
set_option linter.all false
set_option maxRecDepth 100000
set_option maxHeartbeats 4000000
set_option exponentiation.threshold 20000
namespace Fx
open PySem PySem.Spec PyProof.Rows L2 FM KM
/-! ### looks at arguments, where nothing is refused -/
theorem flatS {s : Str} : flatV (.str s) = true := rfl
section
variable {P : Program} {w : World} {K : PySem.W.Frag} {mg : Str → Option Value} {base : Heap} {A : Adr}
theorem scCc : FnScope ["count", "low", "high"] ["count", "low", "high"] (defScope (top 21)) := ⟨rfl, rfl, rfl, by decide +kernel, rfl, by decide +kernel, by decide +kernel⟩
def spCc : Sp := fun vs H Q _ => ∃ n a b, vs = [.int n, .int a, .int b] ∧ a ≤ n ∧ n ≤ b ∧ Q .non H
theorem ok_Cc {f : Addr} {fd : FuncData} (F : Fun K "check_count" "check_count" (top 21) f fd)  : FnOk P w K mg base (L2.CX P w) 1 f fd ["count", "low", "high"] spCc := by
  refine F.okX scCc (fun vs H Q E h => ?_) (fun cdv AA outer s H vs Q E hr h => ?_)
  · obtain ⟨n, a, b, rfl, _⟩ := h; rfl
  · obtain ⟨n, a, b, rfl, h1, h2, k⟩ := h
    refine ⟨_, (pss_one (ps_if (pt_not (pt_chain L2.op_le L2.op_le (pv 1) (pv 0) (pv 2))) (pss_one ps_never) pss_nil)), ?_⟩
    exact ⟨_, rfl, _, rfl, _, _, rfl, rfl, _, rfl, if_D (fun _ => ⟨_, rfl, _, _, rfl, rfl, _, rfl, if_ND (fun z => absurd h2 z) (fun _ => k)⟩) (fun z => absurd h1 z)⟩
theorem scCs : FnScope ["size", "most"] ["size", "most"] (defScope (top 22)) := ⟨rfl, rfl, rfl, by decide +kernel, rfl, by decide +kernel, by decide +kernel⟩
def spCs : Sp := fun vs H Q _ => ∃ n a, vs = [.int n, .int a] ∧ n ≤ a ∧ Q .non H
theorem ok_Cs {f : Addr} {fd : FuncData} (F : Fun K "check_size" "check_size" (top 22) f fd)  : FnOk P w K mg base (L2.CX P w) 1 f fd ["size", "most"] spCs := by
  refine F.okX scCs (fun vs H Q E h => ?_) (fun cdv AA outer s H vs Q E hr h => ?_)
  · obtain ⟨n, a, rfl, _⟩ := h; rfl
  · obtain ⟨n, a, rfl, h1, k⟩ := h
    refine ⟨_, (pss_one (ps_if (pt_cmpR L2.op_gt (pv 0) (pv 1) (nomark _)) (pss_one ps_never) pss_nil)), ?_⟩
    exact ⟨_, rfl, _, rfl, _, _, rfl, rfl, _, rfl, if_D (fun z => by omega) (fun _ => k)⟩
theorem scCl : FnScope ["numbers", "wanted"] ["numbers", "wanted"] (defScope (top 23)) := ⟨rfl, rfl, rfl, by decide +kernel, rfl, by decide +kernel, by decide +kernel⟩
def spCl (K : PySem.W.Frag) : Sp := fun vs H Q _ => ∃ k a xs, vs = [.ref a, .int (xs.length : Nat)] ∧ SqB k K H a xs ∧ Q .non H
theorem ok_Cl {f : Addr} {fd : FuncData} (F : Fun K "check_length" "check_length" (top 23) f fd) (le : mg "len" = none) : FnOk P w K mg base (L2.CX P w) 1 f fd ["numbers", "wanted"] (spCl K) := by
  refine F.okX scCl (fun vs H Q E h => ?_) (fun cdv AA outer s H vs Q E hr h => ?_)
  · obtain ⟨k, a, xs, rfl, _⟩ := h; rfl
  · obtain ⟨k, a, xs, rfl, hs, q⟩ := h
    refine ⟨_, (pss_one (ps_if (pt_cmpR L2.op_ne (pe_callB call_len_seq (by rfl) le PySem.boot_len (pa_cons (pv 0) pa_nil)) (pv 1) (nomark _)) (pss_one ps_never) pss_nil)), ?_⟩
    exact ⟨_, rfl, a, xs, rfl, sqB_or hs, _, rfl, rfl, _, rfl, if_ND (fun z => absurd rfl z) (fun _ => q)⟩
/-- the kinds of joints, by a Bool: level or stream -/
def kS (b : Bool) : Str := if b = true then "level" else "stream"
theorem scCk : FnScope ["kind"] ["kind"] (defScope (top 24)) := ⟨rfl, rfl, rfl, by decide +kernel, rfl, by decide +kernel, by decide +kernel⟩
def spCk : Sp := fun vs H Q _ => ∃ b, vs = [.str (kS b)] ∧ Q .non H
theorem ok_Ck {f : Addr} {fd : FuncData} (F : Fun K "check_kind" "check_kind" (top 24) f fd) {kk : Addr} (mK : mg "KINDS" = some (.ref kk)) (sK : ∀ H, SqT K H kk [.str "level", .str "stream"]) : FnOk P w K mg base (L2.CX P w) 1 f fd ["kind"] spCk := by
  refine F.okX scCk (fun vs H Q E h => ?_) (fun cdv AA outer s H vs Q E hr h => ?_)
  · obtain ⟨b, rfl, _⟩ := h; rfl
  · obtain ⟨b, rfl, q⟩ := h
    refine ⟨_, (pss_one (ps_if (pt_cmpR op_notIn_seq (pv 0) (pe_glob (v := .ref kk) rfl mK rfl) (by rfl)) (pss_one ps_never) pss_nil)), ?_⟩
    refine ⟨_, rfl, kk, _, rfl, .inr (sK _), rfl, rfl, _, rfl, ?_⟩
    have e : inV (V.str (kS b)) [.str "level", .str "stream"] = true := by
      cases b <;> decide +kernel
    rw [e]
    exact iteF q
theorem OpR.orX {X : Cx} {f : Value → Value → Sem Value} {r r' : R2} (h : OpR X f r) (h' : OpR X f r') : OpR X f (fun x y H Q => r x y H Q ∨ r' x y H Q) := fun pins s σ H x y v u Q I rx ry k => k.elim (h pins s σ H x y v u Q I rx ry) (h' pins s σ H x y v u Q I rx ry)
/-- a fraction beside a number, compared -/
def rQC (A : Adr) (g : Rat → Rat → Bool) : R2 := fun x y H Q => ∃ r s, FV A x r H ∧ NV A y s H ∧ Ok4 r ∧ Ok4 s ∧ ∀ H', Ext H H' → Q (.bl (g r s)) H'
theorem o_le {X : Cx} {A : Adr} (F_ : FA X.prog X.w X.K X.mg X.base A) (hr : Room 4 X.A) : OpR X (compareOp .LtE) (rQC A fun r s => decide (r ≤ s)) := by
  obtain ⟨fd, G, b⟩ := F_.cLe.ex
  refine OpR.mono (op_cmp (op := .LtE) F_.kLe G hr b (E := E0) passL (fun _ _ => rfl)) fun x y H Q h => ?_
  obtain ⟨r, s, ⟨a, rfl, f⟩, n, o1, o2, k⟩ := h
  refine ⟨FracAt.ins f, n.elim (fun ⟨b, e, f⟩ => .inl (by rw [e]; exact f.ins)) (fun e => .inr ⟨_, e.1⟩), a, _, y, _, rfl, f, n, o1, o2, fun H' e => ?_⟩
  rw [pr_cle]
  exact k H' e
theorem scCg : FnScope ["strength"] ["strength"] (defScope (top 25)) := ⟨rfl, rfl, rfl, by decide +kernel, rfl, by decide +kernel, by decide +kernel⟩
def spCg (A : Adr) : Sp := fun vs H Q _ => ∃ x r, vs = [x] ∧ NV A x r H ∧ 0 < r ∧ Ok4 r ∧ ∀ H', Ext H H' → Q .non H'
theorem ok_Cg {f : Addr} {fd : FuncData} (F : Fun K "check_strength" "check_strength" (top 25) f fd) (F_ : FA P w K mg base A) : FnOk P w K mg base (L2.CX P w) 5 f fd ["strength"] (spCg A) := by
  refine F.okX scCg (fun vs H Q E h => ?_) (fun cdv AA outer s H vs Q E hr h => ?_)
  · obtain ⟨x, r, rfl, _⟩ := h; rfl
  · obtain ⟨x, r, rfl, nx, hp, or, k⟩ := h
    refine ⟨_, (pss_one (ps_if (pt_cmpR (OpR.orX (o_le F_ (hr.mono (by decide))) L2.op_le) (pv 0) pe_int (nomark _)) (pss_one ps_never) pss_nil)), ?_⟩
    refine ⟨_, rfl, ?_⟩
    have ng : ¬ (r ≤ 0) := by grind
    rcases nx with ⟨a, rfl, f⟩ | ⟨rfl, e⟩
    · refine .inl ⟨r, 0, ⟨a, rfl, f⟩, NV.int 0, or, ok4_int (by unfold Bd; decide), fun H' e => ?_⟩
      exact ⟨_, rfl, if_D (fun z => absurd z ng) (fun _ => k H' e)⟩
    · refine .inr ⟨_, _, rfl, rfl, _, rfl, if_D (fun z => ?_) (fun _ => k H Ext.rfl')⟩
      have := pr_pos.mpr hp
      omega
theorem scCr : FnScope ["length"] ["length"] (defScope (top 26)) := ⟨rfl, rfl, rfl, by decide +kernel, rfl, by decide +kernel, by decide +kernel⟩
def spCr : Sp := fun vs H Q _ => ∃ n, vs = [.int n] ∧ 1 ≤ n ∧ n ≤ 12 ∧ Q .non H
theorem ok_Cr {f : Addr} {fd : FuncData} (F : Fun K "check_rod_length" "check_rod_length" (top 26) f fd) (mL : ∃ t, mg "MOST_LENGTH" = some (.int 12 t)) : FnOk P w K mg base (L2.CX P w) 1 f fd ["length"] spCr := by
  refine F.okX scCr (fun vs H Q E h => ?_) (fun cdv AA outer s H vs Q E hr h => ?_)
  · obtain ⟨n, rfl, _⟩ := h; rfl
  · obtain ⟨n, rfl, h1, h2, k⟩ := h; obtain ⟨tk, mL⟩ := mL
    refine ⟨_, (pss_one (ps_if (pt_not (pt_chain L2.op_le L2.op_le pe_int (pv 0) (pe_glob (v := .int 12) (by rfl) mL ⟨_, rfl⟩))) (pss_one ps_never) pss_nil)), ?_⟩
    exact ⟨_, rfl, _, _, rfl, rfl, _, rfl, if_D (fun _ => ⟨_, _, rfl, rfl, _, rfl, if_ND (fun z => absurd h2 z) (fun _ => k)⟩) (fun z => absurd h1 z)⟩
theorem scCt : FnScope ["twist"] ["twist"] (defScope (top 27)) := ⟨rfl, rfl, rfl, by decide +kernel, rfl, by decide +kernel, by decide +kernel⟩
def spCt : Sp := fun vs H Q _ => ∃ n : Int, vs = [.int n] ∧ (n = 1 ∨ n = -1) ∧ ∀ H', Ext H H' → Q .non H'
theorem ok_Ct {f : Addr} {fd : FuncData} (F : Fun K "check_twist" "check_twist" (top 27) f fd)  : FnOk P w K mg base (L2.CX P w) 1 f fd ["twist"] spCt := by
  refine F.okX scCt (fun vs H Q E h => ?_) (fun cdv AA outer s H vs Q E hr h => ?_)
  · obtain ⟨n, rfl, _⟩ := h; rfl
  · obtain ⟨n, rfl, h1, k⟩ := h
    refine ⟨_, (pss_one (ps_if (pt_cmpR op_notIn_seq (pv 0) (pe_tup (pa_cons pe_int (pa_cons (pe_un L2.un_neg pe_int) pa_nil))) (by rfl)) (pss_one ps_never) pss_nil)), ?_⟩
    refine ⟨_, rfl, _, rfl, by show 2 ≤ sizeLine; decide, fun t nt => ?_⟩
    refine ⟨t, _, rfl, .inr (SqT.of upd_same), rfl, rfl, _, rfl, ?_⟩
    have e : inV (V.int n) [.int 1, .int (-1)] = true := by rcases h1 with rfl | rfl <;> rfl
    rw [e]
    exact iteF (k _ (ext1 nt))
theorem scCj : FnScope ["joint", "count"] ["joint", "count"] (defScope (top 28)) := ⟨rfl, rfl, rfl, by decide +kernel, rfl, by decide +kernel, by decide +kernel⟩
def spCj : Sp := fun vs H Q _ => ∃ n c, vs = [.int n, .int c] ∧ 0 ≤ n ∧ n < c ∧ Q .non H
theorem ok_Cj {f : Addr} {fd : FuncData} (F : Fun K "check_joint" "check_joint" (top 28) f fd)  : FnOk P w K mg base (L2.CX P w) 1 f fd ["joint", "count"] spCj := by
  refine F.okX scCj (fun vs H Q E h => ?_) (fun cdv AA outer s H vs Q E hr h => ?_)
  · obtain ⟨n, c, rfl, _⟩ := h; rfl
  · obtain ⟨n, c, rfl, h1, h2, k⟩ := h
    refine ⟨_, (pss_one (ps_if (pt_not (pt_chain L2.op_le L2.op_lt pe_int (pv 0) (pv 1))) (pss_one ps_never) pss_nil)), ?_⟩
    exact ⟨_, rfl, _, _, rfl, rfl, _, rfl, if_D (fun _ => ⟨_, rfl, _, _, rfl, rfl, _, rfl, if_ND (fun z => absurd h2 z) (fun _ => k)⟩) (fun z => absurd h1 z)⟩
theorem scCo : FnScope ["rod", "count"] ["rod", "count"] (defScope (top 29)) := ⟨rfl, rfl, rfl, by decide +kernel, rfl, by decide +kernel, by decide +kernel⟩
def spCo : Sp := fun vs H Q _ => ∃ n c, vs = [.int n, .int c] ∧ 0 ≤ n ∧ n < c ∧ Q .non H
theorem ok_Co {f : Addr} {fd : FuncData} (F : Fun K "check_rod" "check_rod" (top 29) f fd)  : FnOk P w K mg base (L2.CX P w) 1 f fd ["rod", "count"] spCo := by
  refine F.okX scCo (fun vs H Q E h => ?_) (fun cdv AA outer s H vs Q E hr h => ?_)
  · obtain ⟨n, c, rfl, _⟩ := h; rfl
  · obtain ⟨n, c, rfl, h1, h2, k⟩ := h
    refine ⟨_, (pss_one (ps_if (pt_not (pt_chain L2.op_le L2.op_lt pe_int (pv 0) (pv 1))) (pss_one ps_never) pss_nil)), ?_⟩
    exact ⟨_, rfl, _, _, rfl, rfl, _, rfl, if_D (fun _ => ⟨_, rfl, _, _, rfl, rfl, _, rfl, if_ND (fun z => absurd h2 z) (fun _ => k)⟩) (fun z => absurd h1 z)⟩
end
end Fx

set_option linter.all false
set_option exponentiation.threshold 20000
set_option maxRecDepth 100000
/-! What a joint does, over the rational numbers, and how great the numbers become. -/
namespace KM
open FM
theorem Rep.zero (D M : Nat) : Rep D M 0 := ⟨0, by have e : ((0 : Int) : Rat) = 0 := rfl; rw [e]; grind, Nat.zero_le _⟩
theorem Rep.add {D M M' : Nat} {x y : Rat} (h : Rep D M x) (h' : Rep D M' y) : Rep D (M + M') (x + y) := by
  obtain ⟨N, a, b⟩ := h
  obtain ⟨N', a', b'⟩ := h'
  refine ⟨N + N', ?_, by omega⟩
  push_cast
  rw [← a, ← a']
  grind
theorem Rep.mulR {D D' M M' : Nat} {x y : Rat} (h : Rep D M x) (h' : Rep D' M' y) : Rep (D * D') (M * M') (x * y) := by
  obtain ⟨N, a, b⟩ := h
  obtain ⟨N', a', b'⟩ := h'
  refine ⟨N * N', ?_, ?_⟩
  · push_cast
    rw [← a, ← a']
    grind
  · rw [Int.natAbs_mul]
    exact Nat.mul_le_mul b b'
theorem Rep.int {D M : Nat} {n : Int} (h : n.natAbs * D ≤ M) : Rep D M (n : Rat) := ⟨n * D, by push_cast; rfl, by rw [Int.natAbs_mul]; simpa using h⟩
theorem Rep.sum {D M : Nat} : ∀ {xs : List Rat}, (∀ x ∈ xs, Rep D M x) → Rep D (xs.length * M) xs.sum
  | [], _ => by simpa using Rep.zero D (0 * M)
  | x :: xs, h => by
    rw [List.sum_cons, List.length_cons, Nat.succ_mul, Nat.add_comm]
    exact (h x (List.mem_cons_self ..)).add (Rep.sum fun y hy => h y (List.mem_cons_of_mem _ hy))
theorem Rep.scale {D M k : Nat} {x : Rat} (h : Rep D M x) : Rep (D * k) (M * k) x := h.mul k
/-- the bottom divides the common one -/
theorem Rep.den {D M : Nat} {x : Rat} (h : Rep D M x) : x.den ∣ D := by
  obtain ⟨N, a, b⟩ := h
  have e1 : x.num * (D : Int) = N * (x.den : Int) := by
    have hd : ((x.den : Nat) : Rat) ≠ 0 := by
      have := x.den_nz
      intro z
      exact this (by exact_mod_cast z)
    have e : ((x.num : Int) : Rat) / ((x.den : Nat) : Rat) = x := by
      have := Rat.num_divInt_den x
      rw [Rat.divInt_eq_div] at this
      exact this
    have : ((x.num : Int) : Rat) * ((D : Nat) : Rat) = ((N : Int) : Rat) * ((x.den : Nat) : Rat) := by
      rw [← a]
      grind
    exact_mod_cast this
  have e2 : x.num.natAbs * D = N.natAbs * x.den := by
    have := congrArg Int.natAbs e1
    rw [Int.natAbs_mul, Int.natAbs_mul] at this
    simpa using this
  refine Nat.Coprime.dvd_of_dvd_mul_left (m := x.num.natAbs) ?_ ⟨N.natAbs, by rw [e2, Nat.mul_comm]⟩
  have := x.reduced
  exact Nat.Coprime.symm this
/-- the sum of products, place by place -/
def dotR (zs as : List Rat) : Rat := (List.zipWith (· * ·) zs as).sum
theorem dot_rep {D D' M M' : Nat} : ∀ {zs as : List Rat}, (∀ z ∈ zs, Rep D M z) → (∀ a ∈ as, Rep D' M' a) → Rep (D * D') (zs.length * (M * M')) (dotR zs as)
  | [], as, _, _ => by unfold dotR; simpa using Rep.zero (D * D') (0 * (M * M'))
  | z :: zs, [], _, _ => by unfold dotR; simpa using Rep.zero (D * D') _
  | z :: zs, a :: as, h, h' => by
    have ih := dot_rep (zs := zs) (as := as) (fun x hx => h x (List.mem_cons_of_mem _ hx)) (fun x hx => h' x (List.mem_cons_of_mem _ hx))
    unfold dotR at ih ⊢
    rw [List.zipWith_cons_cons, List.sum_cons, List.length_cons, Nat.succ_mul, Nat.add_comm]
    exact ((h z (List.mem_cons_self ..)).mulR (h' a (List.mem_cons_self ..))).add ih
/-- the common number of a joint -/
def cmn (lv : Bool) (zs as : List Rat) : Rat :=
  if zs = [] then 0 else if lv = true then 2 * dotR zs as / zs.sum else 2 * as.sum / (zs.map fun z => 1 / z).sum
/-- what leaves -/
def scat (lv : Bool) (zs as : List Rat) : List Rat :=
  if lv = true then as.map fun a => cmn lv zs as - a else List.zipWith (fun z a => a - cmn lv zs as / z) zs as
theorem sum_pos : ∀ {zs : List Rat}, zs ≠ [] → (∀ z ∈ zs, 0 < z) → 0 < zs.sum
  | [], h, _ => absurd rfl h
  | [z], _, h => by
    have := h z (List.mem_cons_self ..)
    simp
    grind
  | z :: y :: zs, _, h => by
    have h1 := h z (List.mem_cons_self ..)
    have h2 := sum_pos (zs := y :: zs) (by simp) fun x hx => h x (List.mem_cons_of_mem _ hx)
    rw [List.sum_cons]
    grind
theorem one_div_pos {z : Rat} (h : 0 < z) : 0 < 1 / z := by
  have : (1 : Rat) / z = z⁻¹ := by grind
  rw [this]
  exact Rat.inv_pos.mpr h
/-- sizes at a joint: strengths zs with a bottom Z (their inverses with a bottom Zi), numbers as with a bottom D -/
structure SzJ (Z B Zi Bi D M : Nat) (zs as : List Rat) : Prop where
  len : zs.length = as.length
  n : zs.length ≤ 20
  z0 : 0 < Z
  i0 : 0 < Zi
  d0 : 0 < D
  z1 : Z < 2 ^ 600
  b1 : B < 2 ^ 600
  i1 : Zi < 2 ^ 600
  bi1 : Bi < 2 ^ 600
  d1 : D < 2 ^ 2600
  m1 : M < 2 ^ 2600
  pos : ∀ z ∈ zs, 0 < z
  zs_ : ∀ z ∈ zs, Rep Z B z
  iz : ∀ z ∈ zs, Rep Zi Bi (1 / z)
  as_ : ∀ a ∈ as, Rep D M a
section
variable {Z B Zi Bi D M : Nat} {zs as : List Rat}
theorem SzJ.inv (s : SzJ Z B Zi Bi D M zs as) : ∀ x ∈ zs.map (fun z => 1 / z), Rep Zi Bi x := fun x hx => by
  obtain ⟨z, hz, rfl⟩ := List.mem_map.mp hx
  exact s.iz z hz
/-- the factor by which the common bottom grows -/
theorem level_rep (s : SzJ Z B Zi Bi D M zs as) (h : zs ≠ []) : ∃ G : Nat, 0 < G ∧ G ≤ zs.length * B ∧ Rep (D * G) (2 * (zs.length * (B * M))) (cmn true zs as) := by
  obtain ⟨N, e, hN⟩ := Rep.sum s.zs_
  have sp := sum_pos h s.pos
  have hZ : (0 : Rat) < (Z : Rat) := by exact_mod_cast s.z0
  have hNp : (0 : Rat) < (N : Rat) := by rw [← e]; exact Rat.mul_pos sp hZ
  have hNi : 0 < N := by exact_mod_cast hNp
  obtain ⟨T, f, hT⟩ := dot_rep s.zs_ s.as_
  have eN : ((N.natAbs : Nat) : Rat) = (N : Rat) := by
    have : ((N.natAbs : Nat) : Int) = N := by omega
    exact_mod_cast congrArg (fun z : Int => (z : Rat)) this
  refine ⟨N.natAbs, by omega, hN, 2 * T, ?_, ?_⟩
  · unfold cmn
    rw [if_neg h, if_pos rfl]
    push_cast at f ⊢
    rw [eN, ← e, ← f]
    have := Rat.ne_of_gt sp
    grind
  · rw [Int.natAbs_mul]
    exact Nat.mul_le_mul_left 2 hT
theorem stream_rep (s : SzJ Z B Zi Bi D M zs as) (h : zs ≠ []) : ∃ G : Nat, 0 < G ∧ G ≤ zs.length * Bi ∧ Rep (D * G) (2 * (zs.length * M) * Zi) (cmn false zs as) ∧ ∀ z ∈ zs, Rep (D * G) (2 * (zs.length * M) * Bi) (cmn false zs as / z) := by
  obtain ⟨N, e, hN⟩ := Rep.sum s.inv
  rw [List.length_map] at hN
  have sp : 0 < (zs.map fun z => 1 / z).sum := sum_pos (by simpa using h) fun x hx => by
    obtain ⟨z, hz, rfl⟩ := List.mem_map.mp hx
    exact one_div_pos (s.pos z hz)
  have hZ : (0 : Rat) < (Zi : Rat) := by exact_mod_cast s.i0
  have hNp : (0 : Rat) < (N : Rat) := by rw [← e]; exact Rat.mul_pos sp hZ
  have hNi : 0 < N := by exact_mod_cast hNp
  obtain ⟨T, f, hT⟩ := Rep.sum s.as_
  rw [← s.len] at hT
  have eN : ((N.natAbs : Nat) : Rat) = (N : Rat) := by
    have : ((N.natAbs : Nat) : Int) = N := by omega
    exact_mod_cast congrArg (fun z : Int => (z : Rat)) this
  have sn := Rat.ne_of_gt sp
  refine ⟨N.natAbs, by omega, hN, ⟨2 * T * Zi, ?_, ?_⟩, fun z hz => ?_⟩
  · unfold cmn
    rw [if_neg h, if_neg (by decide)]
    push_cast at f ⊢
    rw [eN, ← e, ← f]
    grind
  · rw [Int.natAbs_mul, Int.natAbs_mul]
    exact Nat.mul_le_mul_right _ (Nat.mul_le_mul_left 2 hT)
  · obtain ⟨w, g, hw⟩ := s.iz z hz
    have zn := Rat.ne_of_gt (s.pos z hz)
    refine ⟨2 * T * w, ?_, ?_⟩
    · unfold cmn
      rw [if_neg h, if_neg (by decide)]
      push_cast at f g ⊢
      rw [eN, ← e, ← f, ← g]
      grind
    · rw [Int.natAbs_mul, Int.natAbs_mul]
      exact Nat.mul_le_mul (Nat.mul_le_mul_left 2 hT) hw
end
end KM

set_option Elab.async false
set_option linter.all false
set_option maxRecDepth 100000
set_option maxHeartbeats 4000000
set_option exponentiation.threshold 20000
namespace Fx
open PySem PySem.Spec PyProof.Rows L2 FM
theorem log_of {n k : Nat} (h : n < 2 ^ k) (hk : 0 < k) : n.log2 < k := by
  by_cases z : n = 0
  · rw [z, Nat.log2_zero]
    exact hk
  · exact (Nat.log2_lt z).mpr h
/-- math.lcm of two ints of any size below 2 ** 8900 -/
def rLcm : List V → Hp → VK → Prop := fun vs H Q => ∃ a b : Int, vs = [.int a, .int b] ∧ Bi a ∧ Bi b ∧ Q (.int ((Nat.lcm a.natAbs b.natAbs : Nat) : Int)) H
theorem cr_lcm {X : Cx} : CallR X (.builtin "math.lcm") rLcm := by
  intro pins s σ H vs us Q I r h
  obtain ⟨a, b, rfl, ha, hb, q⟩ := h
  obtain ⟨t, u, rfl⟩ := Vals.int2 r
  have one : 1 < 2 ^ 8900 := Nat.one_lt_two_pow (by decide)
  have h1 : (max 1 a.natAbs).log2 < 8900 := log_of (Nat.max_lt.mpr ⟨one, ha⟩) (by decide)
  have h2 : (max a.natAbs b.natAbs).log2 < 8900 := log_of (Nat.max_lt.mpr ⟨ha, hb⟩) (by decide)
  have e : (Nat.lcm 1 a.natAbs).lcm b.natAbs = Nat.lcm a.natAbs b.natAbs := by rw [Nat.lcm_one_left]
  have le : Nat.lcm a.natAbs b.natAbs ≤ a.natAbs * b.natAbs := by
    unfold Nat.lcm
    exact Nat.div_le_self _ _
  have lt : a.natAbs * b.natAbs < 2 ^ 8900 * 2 ^ 8900 := Nat.mul_lt_mul'' ha hb
  have h3 : (Nat.lcm a.natAbs b.natAbs).log2 < 17800 := log_of (Nat.lt_of_le_of_lt le (by rw [show 17800 = 8900 + 8900 from rfl, Nat.pow_add]; exact lt)) (by decide)
  have g := PySem.W.mg_run_lcm a t b u (by omega) (by omega) (by
    rw [e]
    exact Nat.lt_trans h3 (by decide))
  rw [e] at g
  exact PySem.call_function_meets PySem.W.MGF.kind_lcm PySem.W.MGF.plain_lcm PySem.W.MGF.entry_lcm (PySem.W.MGF.args_lcm _ _) g.meets ⟨.int _, H, I.tok _, ⟨_, rfl⟩, q⟩
end Fx

set_option Elab.async false
set_option linter.all false
set_option maxRecDepth 100000
set_option maxHeartbeats 4000000
set_option exponentiation.threshold 20000
namespace Fx
open PySem PySem.Spec PyProof.Rows L2 FM KM
/-! ### fracs_of, shared, dot, sums -/
theorem all2_len {R : V → Rat → Hp → Prop} {xs : List V} {rs : List Rat} {H : Hp} (h : All2 R xs rs H) : xs.length = rs.length := h.1
theorem pow_mul {a b i j k : Nat} (ha : a < 2 ^ i) (hb : b < 2 ^ j) (h : i + j ≤ k) : a * b < 2 ^ k := by
  refine Nat.lt_of_lt_of_le (Nat.mul_lt_mul'' ha hb) ?_
  rw [← Nat.pow_add]
  exact Nat.pow_le_pow_right (by decide) h
theorem pow_le {a i k : Nat} (ha : a < 2 ^ i) (h : i ≤ k) : a < 2 ^ k := Nat.lt_of_lt_of_le ha (Nat.pow_le_pow_right (by decide) h)
theorem lcm_dvd {a b d : Nat} (h1 : a ∣ d) (h2 : b ∣ d) : Nat.lcm a b ∣ d := Nat.lcm_dvd h1 h2
/-- ints above one bottom -/
def Tops (ns : List Int) (d : Nat) (rs : List Rat) : Prop := ns.map (fun n : Int => (n : Rat)) = rs.map (· * (d : Rat))
def dotI (ns ms : List Int) : Int := (List.zipWith (· * ·) ns ms).sum
theorem dotI_cast : ∀ (ns ms : List Int), ((dotI ns ms : Int) : Rat) = dotR (ns.map (fun n : Int => (n : Rat))) (ms.map (fun n : Int => (n : Rat)))
  | [], ms => by unfold dotI dotR; simp
  | n :: ns, [] => by unfold dotI dotR; simp
  | n :: ns, m :: ms => by
    have ih := dotI_cast ns ms
    unfold dotI dotR at ih ⊢
    rw [List.zipWith_cons_cons, List.sum_cons, List.map_cons, List.map_cons, List.zipWith_cons_cons, List.sum_cons, ← ih]
    push_cast
    rfl
theorem dotR_scale (d e : Rat) : ∀ (rs as : List Rat), dotR (rs.map (· * d)) (as.map (· * e)) = dotR rs as * (d * e)
  | [], as => by unfold dotR; simp
  | r :: rs, [] => by unfold dotR; simp
  | r :: rs, a :: as => by
    have ih := dotR_scale d e rs as
    unfold dotR at ih ⊢
    rw [List.map_cons, List.map_cons, List.zipWith_cons_cons, List.sum_cons, List.zipWith_cons_cons, List.sum_cons, ih]
    grind
theorem tops_le {D M d : Nat} {r : Rat} {n : Int} (h : Rep D M r) (hd : d ∣ D) (h0 : 0 < D) (e : (n : Rat) = r * (d : Rat)) : n.natAbs ≤ M := by
  obtain ⟨N, a, b⟩ := h
  obtain ⟨q, rfl⟩ := hd
  have q0 : 0 < q := Nat.pos_of_ne_zero fun z => by rw [z] at h0; simp at h0
  have e2 : ((n * (q : Int) : Int) : Rat) = (N : Rat) := by
    push_cast at a ⊢
    rw [e, ← a]
    grind
  have e3 : n * (q : Int) = N := by exact_mod_cast e2
  have e4 : n.natAbs * q = N.natAbs := by
    have := congrArg Int.natAbs e3
    rw [Int.natAbs_mul] at this
    simpa using this
  have := Nat.le_mul_of_pos_right n.natAbs q0
  omega
theorem num_top {r : Rat} {d : Nat} (h : r.den ∣ d) : ((r.num * ((d : Int).fdiv (r.den : Int)) : Int) : Rat) = r * (d : Rat) := by
  obtain ⟨q, rfl⟩ := h
  have hd : ((r.den : Nat) : Rat) ≠ 0 := by
    have := r.den_nz
    intro z
    exact this (by exact_mod_cast z)
  have e : ((r.num : Int) : Rat) / ((r.den : Nat) : Rat) = r := by
    have := Rat.num_divInt_den r
    rw [Rat.divInt_eq_div] at this
    exact this
  have e1 : (((r.den * q : Nat) : Int).fdiv (r.den : Int)) = (q : Int) := by
    have : ((r.den * q : Nat) : Int) = (r.den : Int) * (q : Int) := by push_cast; rfl
    rw [this, Int.mul_fdiv_cancel_left _ (by have := r.den_nz; omega)]
  rw [e1]
  push_cast
  have e2 : r * ((r.den : Nat) : Rat) = ((r.num : Int) : Rat) := by
    rw [← e]
    have e3 : ((r.num : Int) : Rat) / ((r.den : Nat) : Rat) * ((r.den : Nat) : Rat) = ((r.num : Int) : Rat) := by grind
    rw [e]; rw [← e3, e]
  rw [← e2]
  grind
theorem ints_eq {H : Hp} : ∀ {xs : List V} {ns : List Int}, All2 (fun (x : V) (n : Int) (_ : Hp) => x = .int n) xs ns H → xs = ns.map V.int
  | [], [], _ => rfl
  | [], _ :: _, h => absurd h.1 (by simp)
  | _ :: _, [], h => absurd h.1 (by simp)
  | x :: xs, n :: ns, h => by
    have e := h.2 0 x n rfl rfl
    rw [List.map_cons, e, ints_eq (H := H) (xs := xs) (ns := ns) ⟨by have := h.1; simpa using this, fun i a b p q => h.2 (i + 1) a b (by simpa using p) (by simpa using q)⟩]
theorem ints_all {ns : List Int} {H : Hp} : All2 (fun (x : V) (n : Int) (_ : Hp) => x = .int n) (ns.map V.int) ns H := ⟨by simp, fun i x n a b => by
  rw [List.getElem?_map, b] at a
  exact (Option.some.inj a).symm⟩
theorem pe_fldK {X : Cx} {K : PySem.W.Frag} {e : Expr} {f : Str} {pos : Pos} {ta : TE} (he : PE X e ta) (hb : attributeBase e f X.env (eval e X.env) = eval e X.env) (hK : X.K = K := by rfl) : PE X (.Attribute e f pos) (tFld K ta f) := hK ▸ pe_fld he hb
theorem boot_sumX : bootBuiltins "sum" = some (.builtin "sum") := by decide +kernel
theorem ttup_of {t : TA} {σ : L2.St} {H : Hp} {Q : VK} (h : t σ H fun xs H1 => xs.length ≤ sizeLine ∧ ∀ p, H1 p = none → Q (.ref p) (L2.upd H1 p (.tup xs))) : tTup t σ H Q := h
theorem tcons_of {ta : TE} {tr : TA} {σ : L2.St} {H : Hp} {Q : List V → Hp → Prop} (h : ta σ H fun x H1 => tr σ H1 fun xs H2 => Q (x :: xs) H2) : tCons ta tr σ H Q := h
theorem bi_nat {d : Nat} (h : d < 2 ^ 8900) : Bi (d : Int) := by unfold Bi; simpa using h
theorem bd_nat {d : Nat} (h : d < 2 ^ 4000) : Bd (d : Int) := by unfold Bd; simpa using h
section
variable {P : Program} {w : World} {K : PySem.W.Frag} {mg : Str → Option Value} {base : Heap} {A : Adr}
theorem scFo : FnScope ["numbers", "number"] ["numbers"] (defScope (top 41)) := ⟨rfl, rfl, rfl, by decide +kernel, rfl, by decide +kernel, by decide +kernel⟩
def spFo (K : PySem.W.Frag) (A : Adr) : Sp := fun vs H Q _ => ∃ k l ys rs, vs = [.ref l] ∧ SqB k K H l ys ∧ All2 (NV A) ys rs H ∧ rs.length ≤ 1000 ∧ ∀ r xs H', H r = none → Ext H H' → H' r = some (.lst xs) → All2 (FV A) xs rs H' → Q (.ref r) H'
theorem ok_Fo {f : Addr} {fd : FuncData} (F : Fun K "fracs_of" "fracs_of" (top 41) f fd) (F_ : FA P w K mg base A) : FnOk P w K mg base (L2.CX P w) 4 f fd ["numbers"] (spFo K A) := by
  refine F.okX scFo (fun vs H Q E h => ?_) (fun cdv AA outer s H vs Q E hr h => ?_)
  · obtain ⟨k, l, ys, rs, rfl, _⟩ := h; rfl
  · obtain ⟨k, l, ys, rs, rfl, hs, hN, hn, q⟩ := h
    obtain ⟨fdO, GO, bO⟩ := F_.O.ex
    refine ⟨_, (pss_one (ps_ret (pe_lc (own := [("number", 1)]) (g := (gName 1)) rfl scFo.nd (pi_seq (pv 0)) (blkOk_by (own := [("number", 1)]) (N := ["numbers", "number"]) (sc := defScope (top 41)) (by decide +kernel)) (fun _ _ _ _ _ => (pg_name (i := 1) scFo.nd rfl (Or.inl rfl))) (fun _ _ _ _ _ => pts_nil) (fun _ _ _ _ _ => (pe_smeth (pe_glob (v := .ref A.C) (by rfl) F_.T.mgC rfl) F_.S.cr F_.S.sm F_.T.tC GO (hr.mono (by decide)) bO (E := E0) passL (pa_cons (pv 1) pa_nil)))))), ?_⟩
    refine tret_of ?_
    refine tlc_X (R := FV A) (ys := rs) (H1 := H) (by rw [← hN.1]; exact walk_S (K := K) (k := k) (a := l) (xs := ys)) (fun R r => ⟨_, rfl, k, l, ys, rfl, hs, r⟩) moFV (by rw [sizeLine_eq]; omega) (fun H2 e => hs.ext e) ?_ gm_name fun D xs H' nD e hD hx => q D xs H' nD e hD hx
    rintro i x H2 _ r hr e ⟨rfl, hx⟩ Qy kk
    refine ⟨rfl, ?_⟩
    exact ⟨rfl, _, rfl, of_of (E := E0) ((hN.2 i x r hx hr).ext e) fun v H4 e4 f => kk v H4 e4 f⟩
theorem scSh : FnScope ["numbers", "den", "number"] ["numbers"] (defScope (top 42)) := ⟨rfl, rfl, rfl, by decide +kernel, rfl, by decide +kernel, by decide +kernel⟩
def spSh (K : PySem.W.Frag) (A : Adr) : Sp := fun vs H Q _ => ∃ k l xs rs D M, vs = [.ref l] ∧ SqB k K H l xs ∧ All2 (FV A) xs rs H ∧ rs.length ≤ 1000 ∧ 0 < D ∧ D < 2 ^ 4000 ∧ M < 2 ^ 4000 ∧ (∀ r ∈ rs, Rep D M r) ∧
  ∀ t tl ns (d : Nat) H', Ext H H' → H' t = some (.tup [.ref tl, .int d]) → H' tl = some (.lst (ns.map V.int)) → 0 < d → d ≤ D → (∀ n ∈ ns, n.natAbs ≤ M) → Tops ns d rs → Q (.ref t) H'
theorem ok_Sh {f : Addr} {fd : FuncData} (F : Fun K "shared" "shared" (top 42) f fd) (F_ : FA P w K mg base A) (lc : mg "lcm" = some (.builtin "math.lcm")) : FnOk P w K mg base (L2.CX P w) 1 f fd ["numbers"] (spSh K A) := by
  refine F.okX scSh (fun vs H Q E h => ?_) (fun cdv AA outer s H vs Q E hr h => ?_)
  · obtain ⟨k, l, xs, rs, D, M, rfl, _⟩ := h; rfl
  · obtain ⟨k, l, xs, rs, D, M, rfl, hs, hN, hn, D0, D1, M1, hR, q⟩ := h
    refine ⟨_, (pss_cons (ps_set (i := 1) scSh.nd rfl (Or.inr rfl) pe_int)
      (pss_cons (ps_for (passes_of rfl) rfl (pi_seq (pv 0)) (pg_name (i := 2) scSh.nd rfl (Or.inl rfl)) (pss_one (ps_set (i := 1) scSh.nd rfl (Or.inr rfl) (pe_callBfun cr_lcm (by rfl) lc (pa_cons (pv 1) (pa_cons (pe_fld (pv 2) rfl) pa_nil))))))
      (pss_one (ps_ret (pe_tup (pa_cons (pe_lc (own := [("number", 2)]) (g := (gName 2)) rfl scSh.nd (pi_seq (pv 0)) (blkOk_by (own := [("number", 2)]) (N := ["numbers", "den", "number"]) (sc := defScope (top 42)) (by decide +kernel)) (fun _ _ _ _ _ => (pg_name (i := 2) scSh.nd rfl (Or.inl rfl))) (fun _ _ _ _ _ => pts_nil) (fun _ _ _ _ _ => (pe_op op_mulW (pe_fldK (K := K) (pv 2) rfl) (pe_op op_fdivZ (pv 1) (pe_fldK (K := K) (pv 2) rfl))))) (pa_cons (pv 1) pa_nil))))))), ?_⟩
    refine ⟨_, rfl, k, l, xs, rfl, hs, for_it walk_S (fun i σ H' => H' = H ∧ ∃ (d : Nat) (z : Option V), σ = [some (.ref l), some (.int d), z] ∧ 0 < d ∧ d ∣ D ∧ ∀ j r, j < i → rs[j]? = some r → r.den ∣ d) ⟨rfl, 1, _, rfl, by decide, Nat.one_dvd _, fun j r hj => absurd hj (by omega)⟩ (fun i σ H' _ e => by rw [e.1]; exact hs) ?_ ?_⟩
    · rintro i x σ _ _ hi ⟨rfl, d, z, rfl, d0, dd, hd⟩ ⟨rfl, hx⟩
      have hri : rs[i]? = some (rs[i]'(by rw [← hN.1]; exact hi)) := List.getElem?_eq_getElem _
      obtain ⟨a, rfl, fa⟩ := hN.2 i x _ hx hri
      obtain ⟨dx, ha⟩ := id fa
      have hm := List.getElem_mem (l := rs) (n := i) (by rw [← hN.1]; exact hi)
      have dv := (hR _ hm).den
      have dle := Nat.le_of_dvd D0 dd
      have dle2 := Nat.le_of_dvd D0 dv
      refine ⟨_, rfl, _, rfl, _, _, _, _, _, rfl, ha, F_.T.cl, F_.T.nD, fr_den _, _, _, rfl, bi_nat (pow_le (Nat.lt_of_le_of_lt dle D1) (by decide)), bi_nat (pow_le (Nat.lt_of_le_of_lt dle2 D1) (by decide)), ?_⟩
      refine ⟨rfl, Nat.lcm d (rs[i]'(by rw [← hN.1]; exact hi)).den, _, rfl, Nat.pos_of_ne_zero (Nat.lcm_ne_zero (by omega) (Rat.den_nz _)), Nat.lcm_dvd dd dv, fun j r hj hr => ?_⟩
      by_cases e : j = i
      · subst e
        rw [hri] at hr
        cases hr
        exact Nat.dvd_lcm_right _ _
      · exact Nat.dvd_trans (hd j r (by omega) hr) (Nat.dvd_lcm_left _ _)
    · rintro σ _ ⟨rfl, d, z, rfl, d0, dd, hd⟩
      have dle := Nat.le_of_dvd D0 dd
      have hall : ∀ r ∈ rs, r.den ∣ d := fun r hr => by
        obtain ⟨j, hj, e⟩ := List.getElem_of_mem hr
        exact hd j r (by rw [hN.1]; exact hj) (by rw [← e]; exact List.getElem?_eq_getElem hj)
      dsimp only
      refine tret_of (ttup_of (tcons_of ?_))
      refine tlc_X (R := fun (x : V) (n : Int) (_ : Hp) => x = .int n) (ys := rs.map fun r => r.num * ((d : Int).fdiv (r.den : Int))) (by rw [List.length_map, ← hN.1]; exact walk_S (K := K) (k := k) (a := l) (xs := xs)) (fun R r => ⟨_, rfl, k, l, xs, rfl, hs, r⟩) moInt (by rw [List.length_map, sizeLine_eq]; omega) (fun H2 e => hs.ext e) ?_ gm_name fun D' ys H' nD e hD hx => ?_
      · rintro i x H2 _ n hn' e ⟨rfl, hx⟩ Qy kk
        rw [List.getElem?_map] at hn'
        obtain ⟨r, hr', rfl⟩ := Option.map_eq_some_iff.mp hn'
        obtain ⟨a, rfl, fa⟩ := hN.2 i x _ hx hr'
        obtain ⟨dx, ha⟩ := FQ.ext fa e
        have hm := List.mem_of_getElem? hr'
        have o := ok4_rep (hR r hm) D0 D1 M1
        have dz : (r.den : Int) ≠ 0 := by have := r.den_nz; omega
        have dv := hall r hm
        have bd1 : Bd ((d : Int).fdiv (r.den : Int)) := by
          have := fdiv_le (d : Int) (r.den : Int) dz
          unfold Bd
          refine Nat.lt_of_le_of_lt this ?_
          rw [Int.natAbs_natCast]
          exact Nat.lt_of_le_of_lt dle D1
        exact ⟨rfl, _, rfl, _, _, _, _, _, rfl, ha, F_.T.cl, F_.T.nN, fr_num _, _, rfl, _, rfl, _, _, _, _, _, rfl, ha, F_.T.cl, F_.T.nD, fr_den _, _, _, rfl, rfl, ⟨dz, (Bd.bi o.b2).log⟩, _, _, rfl, rfl, Bd.cm o.b1 bd1, kk _ _ Ext.rfl' rfl⟩
      · have ex := ints_eq hx
        subst ex
        refine ⟨_, rfl, by show 2 ≤ sizeLine; decide, fun t nt => ?_⟩
        have et := ext1 (o := .tup [.ref D', .int (d : Nat)]) nt
        have tp : Tops (rs.map fun r => r.num * ((d : Int).fdiv (r.den : Int))) d rs := by
          unfold Tops
          rw [List.map_map]
          exact List.map_congr_left fun r hr => num_top (hall r hr)
        refine q t D' _ d _ (e.trans et) upd_same (et _ _ hD) d0 dle (fun n hn' => ?_) tp
        obtain ⟨r, hr', rfl⟩ := List.mem_map.mp hn'
        exact tops_le (hR r hr') dd D0 (num_top (hall r hr'))
theorem scDo : FnScope ["first", "second", "tops", "den", "others", "other_den", "one", "other"] ["first", "second"] (defScope (top 43)) := ⟨rfl, rfl, rfl, by decide +kernel, rfl, by decide +kernel, by decide +kernel⟩
def spDo (K : PySem.W.Frag) (A : Adr) : Sp := fun vs H Q _ => ∃ k1 l1 xs rs k2 l2 ys as D M D' M', vs = [.ref l1, .ref l2] ∧ SqB k1 K H l1 xs ∧ All2 (FV A) xs rs H ∧ SqB k2 K H l2 ys ∧ All2 (FV A) ys as H ∧ rs.length = as.length ∧ rs.length ≤ 1000 ∧
  0 < D ∧ D < 2 ^ 4000 ∧ M < 2 ^ 4000 ∧ (∀ r ∈ rs, Rep D M r) ∧ 0 < D' ∧ D' < 2 ^ 4000 ∧ M' < 2 ^ 4000 ∧ (∀ r ∈ as, Rep D' M' r) ∧ ∀ v H', Ext H H' → FV A v (dotR rs as) H' → Q v H'
theorem ok_Do {f : Addr} {fd : FuncData} (F : Fun K "dot" "dot" (top 43) f fd) (F_ : FA P w K mg base A) (hS : LF P w K mg base "shared" 1 ["numbers"] (spSh K A)) (zi : mg "zip" = none) (su : mg "sum" = none) : FnOk P w K mg base (L2.CX P w) 3 f fd ["first", "second"] (spDo K A) := by
  refine F.okX scDo (fun vs H Q E h => ?_) (fun cdv AA outer s H vs Q E hr h => ?_)
  · obtain ⟨k1, l1, xs, rs, k2, l2, ys, as, D, M, D2, M2, rfl, _⟩ := h; rfl
  · obtain ⟨k1, l1, xs, rs, k2, l2, ys, as, D, M, D', M', rfl, hs1, hx1, hs2, hx2, hln, hn, D0, D1, M1, hR, D0', D1', M1', hR', q⟩ := h
    obtain ⟨fS, gS, cS⟩ := hS
    obtain ⟨fdS, GS, bS⟩ := cS.ex
    refine ⟨_, (pss_cons (ps_asg (pe_call GS (hr.mono (by decide)) rfl gS cS.kp bS .nil (E := E0) passL (pa_cons (pv 0) pa_nil)) (pg_tup rfl (pgs_cons (pg_name (i := 2) scDo.nd rfl (Or.inl rfl)) (pgs_cons (pg_name (i := 3) scDo.nd rfl (Or.inl rfl)) pgs_nil))))
      (pss_cons (ps_asg (pe_call GS (hr.mono (by decide)) rfl gS cS.kp bS .nil (E := E0) passL (pa_cons (pv 1) pa_nil)) (pg_tup rfl (pgs_cons (pg_name (i := 4) scDo.nd rfl (Or.inl rfl)) (pgs_cons (pg_name (i := 5) scDo.nd rfl (Or.inl rfl)) pgs_nil))))
      (pss_one (ps_ret (pe_frac2 F_.M F_.T (hr.mono (by decide)) rfl (pa_cons (pe_callB (cr_sum rfl) (by rfl) su boot_sumX (pa_cons (pe_lc (own := [("one", 6), ("other", 7)]) (g := (gTup K 2 (gCons (gName 6) (gCons (gName 7) gNil)))) rfl scDo.nd (pi_zip2 rfl zi (pa_cons (pv 2) (pa_cons (pv 4) pa_nil))) (blkOk_by (own := [("one", 6), ("other", 7)]) (N := ["first", "second", "tops", "den", "others", "other_den", "one", "other"]) (sc := defScope (top 43)) (by decide +kernel)) (fun _ _ _ _ _ => (pg_tup rfl (pgs_cons (pg_name (i := 6) scDo.nd rfl (Or.inl rfl)) (pgs_cons (pg_name (i := 7) scDo.nd rfl (Or.inl rfl)) pgs_nil)))) (fun _ _ _ _ _ => pts_nil) (fun _ _ _ _ _ => (pe_op op_mulW (pv 6) (pv 7)))) pa_nil)) (pa_cons (pe_op op_mulW (pv 3) (pv 5)) pa_nil))))))), ?_⟩
    refine ⟨_, rfl, k1, l1, xs, rs, D, M, rfl, hs1, hx1, hn, D0, D1, M1, hR, fun t1 tl1 ns d1 H1 e1 ht1 htl1 d10 d1l mn tp1 => ?_⟩
    refine ⟨t1, _, rfl, SqT.of ht1, rfl, _, _, rfl, _, _, rfl, rfl, ?_⟩
    refine ⟨_, rfl, k2, l2, ys, as, D', M', rfl, hs2.ext e1, hx2.ext moFV e1, by omega, D0', D1', M1', hR', fun t2 tl2 ms d2 H2 e2 ht2 htl2 d20 d2l mm tp2 => ?_⟩
    refine ⟨t2, _, rfl, SqT.of ht2, rfl, _, _, rfl, _, _, rfl, rfl, ?_⟩
    have ln : ns.length = rs.length := by have := congrArg List.length tp1; simpa using this
    have lm : ms.length = as.length := by have := congrArg List.length tp2; simpa using this
    have lz : (List.zipWith (· * ·) ns ms).length = ns.length := by simp; omega
    dsimp only
    refine tret_of ?_
    refine tcons_of ?_
    refine tcons_of ?_
    refine tlc_X (R := fun (x : V) (n : Int) (_ : Hp) => x = .int n) (ys := List.zipWith (· * ·) ns ms) (H1 := H2) (walk_zip2 (K := K) (k1 := true) (k2 := true) (a := tl1) (b := tl2) (xs := ns.map V.int) (ys := ms.map V.int) (by rw [List.length_map, lz]) (by rw [List.length_map, lz]; omega)) (fun R r => ⟨_, rfl, _, rfl, true, true, tl1, tl2, _, _, rfl, SqL.of (e2 _ _ htl1), SqL.of htl2, r⟩) moInt (by rw [lz, sizeLine_eq]; omega) (fun H3 e => ⟨SqL.of (e _ _ (e2 _ _ htl1)), SqL.of (e _ _ htl2)⟩) ?_ (gm_tup (gms_cons gm_name (gms_cons gm_name gms_nil))) fun D3 zs H3 nD e3 hD hz => ?_
    · rintro i x H3 _ n hn' e ⟨T, u, v, rfl, nT, rfl, hu, hv⟩ Qy kk
      dsimp only at hu hv
      rw [List.getElem?_map] at hu hv
      obtain ⟨n1, hn1, rfl⟩ := Option.map_eq_some_iff.mp hu
      obtain ⟨n2, hn2, rfl⟩ := Option.map_eq_some_iff.mp hv
      have en : n = n1 * n2 := by
        rw [List.getElem?_zipWith, hn1, hn2] at hn'
        exact (Option.some.inj hn').symm
      have b1 : Bd n1 := Nat.lt_of_le_of_lt (mn _ (List.mem_of_getElem? hn1)) M1
      have b2 : Bd n2 := Nat.lt_of_le_of_lt (mm _ (List.mem_of_getElem? hn2)) M1'
      refine ⟨T, _, rfl, SqT.of upd_same, rfl, _, _, rfl, _, _, rfl, rfl, rfl, ?_⟩
      exact ⟨_, rfl, _, rfl, _, _, rfl, rfl, Bd.cm b1 b2, kk _ _ (ext1 nT) (by rw [en])⟩
    · have ex := ints_eq hz
      subst ex
      refine ⟨D3, _, rfl, SqL.of hD, _, rfl, _, rfl, _, _, rfl, rfl, Bd.cm (bd_nat (Nat.lt_of_le_of_lt d1l D1)) (bd_nat (Nat.lt_of_le_of_lt d2l D1')), _, _, rfl, ?_, ?_, fun r H4 e4 f4 => ?_⟩
      · exact Int.mul_ne_zero (by omega) (by omega)
      · exact Bd.mul (bd_nat (Nat.lt_of_le_of_lt d1l D1)) (bd_nat (Nat.lt_of_le_of_lt d2l D1'))
      · refine q _ H4 (((e1.trans e2).trans e3).trans e4) ⟨r, rfl, ?_⟩
        have nz : (d1 : Int) * (d2 : Int) ≠ 0 := Int.mul_ne_zero (by omega) (by omega)
        have ev : dotR rs as = ((dotI ns ms : Int) : Rat) / (((d1 : Int) * (d2 : Int) : Int) : Rat) := by
          rw [dotI_cast, tp1, tp2, dotR_scale]
          have h1 : ((d1 : Nat) : Rat) ≠ 0 := by
            intro z
            have : d1 = 0 := by exact_mod_cast z
            omega
          have h2 : ((d2 : Nat) : Rat) ≠ 0 := by
            intro z
            have : d2 = 0 := by exact_mod_cast z
            omega
          push_cast
          grind
        unfold FQ
        rw [ev, pr_low nz]
        exact f4
theorem scTo : FnScope ["numbers"] ["numbers"] (defScope (top 58)) := ⟨rfl, rfl, rfl, by decide +kernel, rfl, by decide +kernel, by decide +kernel⟩
def spTo (K : PySem.W.Frag) (A : Adr) : Sp := fun vs H Q _ => ∃ k l xs rs, vs = [.ref l] ∧ SqB k K H l xs ∧ All2 (FV A) xs rs H ∧ (∀ j, j ≤ rs.length → Ok4 (psum 0 rs j)) ∧ (∀ r ∈ rs, Ok4 r) ∧ ∀ v H', Ext H H' → FV A v rs.sum H' → Q v H'
theorem ok_To {f : Addr} {fd : FuncData} (F : Fun K "_total" "_total" (top 58) f fd) (F_ : FA P w K mg base A) (NT : NoTxt K A.C) (su : mg "sum" = none) : FnOk P w K mg base (L2.CX P w) 5 f fd ["numbers"] (spTo K A) := by
  refine F.okX scTo (fun vs H Q E h => ?_) (fun cdv AA outer s H vs Q E hr h => ?_)
  · obtain ⟨k, l, xs, rs, rfl, _⟩ := h; rfl
  · obtain ⟨k, l, xs, rs, rfl, hs, hx, o1, o2, q⟩ := h
    refine ⟨_, (pss_one (ps_ret (pe_callBK (cr_sumS rfl F_ NT (hr.mono (by decide))) (by rfl) su boot_sumX (pa_cons (pv 0) pa_nil) (pk_cons (pe_frac1 F_.M F_.T (hr.mono (by decide)) rfl (pa_cons pe_int pa_nil)) pk_nil)))), ?_⟩
    have e0 : (0 : Rat) = ((0 : Int) : Rat) := rfl
    refine ⟨_, rfl, 0, rfl, fun t H1 e1 f1 => ⟨k, l, t, xs, rs, 0, rfl, rfl, hs.ext e1, hx.ext moFV e1, by unfold FQ; rw [e0, pr_int]; exact f1, o1, o2, fun v H' e f => q v H' (e1.trans e) ?_⟩⟩
    have : psum 0 rs rs.length = rs.sum := by
      unfold psum
      rw [List.take_length]
      grind
    rw [← this]
    exact f
end
end Fx

set_option Elab.async false
set_option linter.all false
set_option maxRecDepth 100000
set_option maxHeartbeats 4000000
set_option exponentiation.threshold 20000
namespace Fx
open PySem PySem.Spec PyProof.Rows L2 FM KM
/-! ### scatter -/
section
variable {Z B Zi Bi D M : Nat} {zs as : List Rat}
theorem pow_mul3 {a b c i j k n : Nat} (ha : a < 2 ^ i) (hb : b < 2 ^ j) (hc : c < 2 ^ k) (h : i + j + k ≤ n) : a * (b * c) < 2 ^ n := pow_mul ha (pow_mul hb hc (Nat.le_refl _)) (by omega)
theorem _root_.KM.SzJ.n5 (s : SzJ Z B Zi Bi D M zs as) : zs.length < 2 ^ 5 := Nat.lt_of_le_of_lt s.n (by decide)
theorem _root_.KM.SzJ.okz (s : SzJ Z B Zi Bi D M zs as) : ∀ z ∈ zs, Ok4 z := fun z hz => ok4_rep (s.zs_ z hz) s.z0 (pow_le s.z1 (by decide)) (pow_le s.b1 (by decide))
theorem _root_.KM.SzJ.oki (s : SzJ Z B Zi Bi D M zs as) : ∀ z ∈ zs, Ok4 (1 / z) := fun z hz => ok4_rep (s.iz z hz) s.i0 (pow_le s.i1 (by decide)) (pow_le s.bi1 (by decide))
theorem _root_.KM.SzJ.oka (s : SzJ Z B Zi Bi D M zs as) : ∀ a ∈ as, Ok4 a := fun a ha => ok4_rep (s.as_ a ha) s.d0 (pow_le s.d1 (by decide)) (pow_le s.m1 (by decide))
theorem _root_.KM.SzJ.dot (s : SzJ Z B Zi Bi D M zs as) : Rep (Z * D) (zs.length * (B * M)) (dotR zs as) := dot_rep s.zs_ s.as_
theorem _root_.KM.SzJ.dz (s : SzJ Z B Zi Bi D M zs as) : Z * D < 2 ^ 4000 := pow_mul s.z1 s.d1 (by decide)
theorem _root_.KM.SzJ.okd (s : SzJ Z B Zi Bi D M zs as) : Ok4 (dotR zs as) := ok4_rep s.dot (Nat.mul_pos s.z0 s.d0) s.dz (pow_mul3 s.n5 s.b1 s.m1 (by decide))
theorem two_rep {x : Rat} (h : Rep D M x) : Rep D (2 * M) (2 * x) := by
  have := h.add h
  rw [← Nat.two_mul, show x + x = 2 * x by grind] at this
  exact this
theorem _root_.KM.SzJ.ok2d (s : SzJ Z B Zi Bi D M zs as) : Ok4 (2 * dotR zs as) := ok4_rep (two_rep s.dot) (Nat.mul_pos s.z0 s.d0) s.dz (pow_mul (i := 2) (by decide) (pow_mul3 s.n5 s.b1 s.m1 (Nat.le_refl _)) (by decide))
theorem okps {D M : Nat} {xs : List Rat} (h : ∀ x ∈ xs, Rep D M x) (d0 : 0 < D) (d1 : D < 2 ^ 4000) (m1 : M < 2 ^ 3000) (hn : xs.length ≤ 20) (j : Nat) : Ok4 (psum 0 xs j) := by
  have r := Rep.sum (xs := xs.take j) fun x hx => h x (List.mem_of_mem_take hx)
  have e : psum 0 xs j = (xs.take j).sum := by unfold psum; grind
  rw [e]
  refine ok4_rep r d0 d1 (pow_mul (i := 5) ?_ m1 (by decide))
  have := List.length_take_le j xs
  exact Nat.lt_of_le_of_lt (Nat.le_trans (List.length_take_le' j xs) hn) (by decide)
theorem oksum {D M : Nat} {xs : List Rat} (h : ∀ x ∈ xs, Rep D M x) (d0 : 0 < D) (d1 : D < 2 ^ 4000) (m1 : M < 2 ^ 3000) (hn : xs.length ≤ 20) : Ok4 xs.sum := by
  have := okps h d0 d1 m1 hn xs.length
  unfold psum at this
  rw [List.take_length] at this
  rw [show xs.sum = 0 + xs.sum by grind]
  exact this
theorem _root_.KM.SzJ.ok2a (s : SzJ Z B Zi Bi D M zs as) : Ok4 (2 * as.sum) := by
  refine ok4_rep (two_rep (Rep.sum s.as_)) s.d0 (pow_le s.d1 (by decide)) (pow_mul (i := 2) (by decide) (pow_mul (i := 5) ?_ s.m1 (Nat.le_refl _)) (by decide))
  rw [← s.len]
  exact s.n5
theorem _root_.KM.SzJ.sum_ne (s : SzJ Z B Zi Bi D M zs as) (h : zs ≠ []) : zs.sum ≠ 0 := Rat.ne_of_gt (sum_pos h s.pos)
theorem _root_.KM.SzJ.isum_ne (s : SzJ Z B Zi Bi D M zs as) (h : zs ≠ []) : (zs.map fun z => 1 / z).sum ≠ 0 := Rat.ne_of_gt (sum_pos (by simpa using h) fun x hx => by
  obtain ⟨z, hz, rfl⟩ := List.mem_map.mp hx
  exact one_div_pos (s.pos z hz))
theorem _root_.KM.SzJ.okc (s : SzJ Z B Zi Bi D M zs as) (b : Bool) : Ok4 (cmn b zs as) := by
  by_cases h : zs = []
  · unfold cmn
    rw [if_pos h]
    exact ok4_int (n := 0) (by unfold Bd; decide)
  · cases b
    · obtain ⟨G, g0, gl, r, _⟩ := stream_rep s h
      refine ok4_rep r (Nat.mul_pos s.d0 g0) (pow_mul s.d1 (j := 605) (Nat.lt_of_le_of_lt gl (pow_mul s.n5 s.bi1 (Nat.le_refl _))) (by decide)) ?_
      exact pow_mul (pow_mul (i := 2) (by decide) (pow_mul s.n5 s.m1 (Nat.le_refl _)) (Nat.le_refl _)) s.i1 (by decide)
    · obtain ⟨G, g0, gl, r⟩ := level_rep s h
      refine ok4_rep r (Nat.mul_pos s.d0 g0) (pow_mul s.d1 (j := 605) (Nat.lt_of_le_of_lt gl (pow_mul s.n5 s.b1 (Nat.le_refl _))) (by decide)) ?_
      exact pow_mul (i := 2) (by decide) (pow_mul3 s.n5 s.b1 s.m1 (Nat.le_refl _)) (by decide)
theorem _root_.KM.SzJ.okq (s : SzJ Z B Zi Bi D M zs as) {z : Rat} (hz : z ∈ zs) : Ok4 (cmn false zs as / z) := by
  obtain ⟨G, g0, gl, _, r⟩ := stream_rep s (List.ne_nil_of_mem hz)
  refine ok4_rep (r z hz) (Nat.mul_pos s.d0 g0) (pow_mul s.d1 (j := 605) (Nat.lt_of_le_of_lt gl (pow_mul s.n5 s.bi1 (Nat.le_refl _))) (by decide)) ?_
  exact pow_mul (pow_mul (i := 2) (by decide) (pow_mul s.n5 s.m1 (Nat.le_refl _)) (Nat.le_refl _)) s.bi1 (by decide)
end
section
variable {P : Program} {w : World} {K : PySem.W.Frag} {mg : Str → Option Value} {base : Heap} {A : Adr}
theorem scCa : FnScope ["kind", "strengths", "arriving", "strength"] ["kind", "strengths", "arriving"] (defScope (top 56)) := ⟨rfl, rfl, rfl, by decide +kernel, rfl, by decide +kernel, by decide +kernel⟩
def spCa (K : PySem.W.Frag) (A : Adr) : Sp := fun vs H Q _ => ∃ b k1 l1 xs zs k2 l2 ys, vs = [.str (kS b), .ref l1, .ref l2] ∧ SqB k1 K H l1 xs ∧ All2 (NV A) xs zs H ∧ SqB k2 K H l2 ys ∧ ys.length = xs.length ∧ (∀ z ∈ zs, 0 < z ∧ Ok4 z) ∧ ∀ H', Ext H H' → Q .non H'
theorem ok_Ca {f : Addr} {fd : FuncData} (F : Fun K "_check_joint_arms" "_check_joint_arms" (top 56) f fd) (hK : LF P w K mg base "check_kind" 1 ["kind"] spCk) (hG : LF P w K mg base "check_strength" 5 ["strength"] (spCg A)) (hL : LF P w K mg base "check_length" 1 ["numbers", "wanted"] (spCl K)) (le : mg "len" = none) : FnOk P w K mg base (L2.CX P w) 6 f fd ["kind", "strengths", "arriving"] (spCa K A) := by
  refine F.okX scCa (fun vs H Q E h => ?_) (fun cdv AA outer s H vs Q E hr h => ?_)
  · obtain ⟨b, k1, l1, xs, zs, k2, l2, ys, rfl, _⟩ := h; rfl
  · obtain ⟨b, k1, l1, xs, zs, k2, l2, ys, rfl, hs1, hx1, hs2, hln, hz, q⟩ := h
    obtain ⟨fK, gK, cK⟩ := hK
    obtain ⟨fdK, GK, bK⟩ := cK.ex
    obtain ⟨fG, gG, cG⟩ := hG
    obtain ⟨fdG, GG, bG⟩ := cG.ex
    obtain ⟨fL, gL, cL⟩ := hL
    obtain ⟨fdL, GL, bL⟩ := cL.ex
    refine ⟨_, (pss_cons (ps_expr (pe_call GK (hr.mono (by decide)) rfl gK cK.kp bK .nil (E := E0) passL (pa_cons (pv 0) pa_nil)))
      (pss_cons (ps_for (passes_of rfl) rfl (pi_seq (pv 1)) (pg_name (i := 3) scCa.nd rfl (Or.inl rfl)) (pss_one (ps_expr (pe_call GG (hr.mono (by decide)) rfl gG cG.kp bG .nil (E := E0) passL (pa_cons (pv 3) pa_nil)))))
      (pss_one (ps_expr (pe_call GL (hr.mono (by decide)) rfl gL cL.kp bL .nil (E := E0) passL (pa_cons (pv 2) (pa_cons (pe_callB call_len_seq (by rfl) le PySem.boot_len (pa_cons (pv 1) pa_nil)) pa_nil))))))), ?_⟩
    refine ⟨_, rfl, b, rfl, ?_⟩
    refine ⟨_, rfl, k1, l1, xs, rfl, hs1, for_it walk_S (fun i σ H' => Ext H H' ∧ ∃ z, σ = [some (.str (kS b)), some (.ref l1), some (.ref l2), z]) ⟨Ext.rfl', _, rfl⟩ (fun i σ H' _ e => hs1.ext e.1) ?_ ?_⟩
    · rintro i x σ H1 _ hi ⟨e1, z, rfl⟩ ⟨rfl, hx⟩
      obtain ⟨r, hr', hv⟩ := hx1.get' hx
      have hp := hz r (List.mem_of_getElem? hr')
      exact ⟨_, rfl, x, r, rfl, hv.ext e1, hp.1, hp.2, fun H' e => ⟨e1.trans e, _, rfl⟩⟩
    · rintro σ H1 ⟨e1, z, rfl⟩
      exact ⟨_, rfl, _, rfl, l1, xs, rfl, sqB_or (hs1.ext e1), k2, l2, ys, by rw [hln]; rfl, hs2.ext e1, q _ e1⟩
theorem scCn : FnScope ["kind", "strengths", "arriving", "strength"] ["kind", "strengths", "arriving"] (defScope (top 57)) := ⟨rfl, rfl, rfl, by decide +kernel, rfl, by decide +kernel, by decide +kernel⟩
def spCn (K : PySem.W.Frag) (A : Adr) : Sp := fun vs H Q _ => ∃ b l1 xs zs l2 ys as Z B Zi Bi D M, vs = [.str (kS b), .ref l1, .ref l2] ∧ H l1 = some (.lst xs) ∧ All2 (FV A) xs zs H ∧ H l2 = some (.lst ys) ∧ All2 (FV A) ys as H ∧ SzJ Z B Zi Bi D M zs as ∧ ∀ v H', Ext H H' → FV A v (cmn b zs as) H' → Q v H'
theorem ok_Cn {f : Addr} {fd : FuncData} (F : Fun K "_common_number" "_common_number" (top 57) f fd) (F_ : FA P w K mg base A) (hD : LF P w K mg base "dot" 3 ["first", "second"] (spDo K A)) (hT : LF P w K mg base "_total" 5 ["numbers"] (spTo K A)) : FnOk P w K mg base (L2.CX P w) 6 f fd ["kind", "strengths", "arriving"] (spCn K A) := by
  refine F.okX scCn (fun vs H Q E h => ?_) (fun cdv AA outer s H vs Q E hr h => ?_)
  · obtain ⟨b, l1, xs, zs, l2, ys, as, Z, B, Zi, Bi, D, M, rfl, _⟩ := h; rfl
  · obtain ⟨b, l1, xs, zs, l2, ys, as, Z, B, Zi, Bi, D, M, rfl, hs1, hx1, hs2, hx2, s9, q⟩ := h
    obtain ⟨fD, gD, cD⟩ := hD
    obtain ⟨fdD, GD, bD⟩ := cD.ex
    obtain ⟨fT, gT, cT⟩ := hT
    obtain ⟨fdT, GT, bT⟩ := cT.ex
    obtain ⟨fdV, GV, bV⟩ := F_.cOver.ex
    refine ⟨_, (pss_cons (ps_if (pt_not (pt_truth (pv 1) (by intro _; rfl))) (pss_one (ps_ret (pe_frac1 F_.M F_.T (hr.mono (by decide)) rfl (pa_cons pe_int pa_nil)))) pss_nil)
      (pss_cons (ps_if (pt_cmpR L2.op_eq (pv 0) pe_str (nomark _)) (pss_one (ps_ret (pe_meth (pe_op (o_rmul F_ (hr.mono (by decide))) pe_int (pe_call GD (hr.mono (by decide)) rfl gD cD.kp bD .nil (E := E0) passL (pa_cons (pv 1) (pa_cons (pv 2) pa_nil)))) F_.T.cl F_.mOver GV (hr.mono (by decide)) bV .nil (E := E0) passL (pa_cons (pe_call GT (hr.mono (by decide)) rfl gT cT.kp bT .nil (E := E0) passL (pa_cons (pv 1) pa_nil)) pa_nil)))) pss_nil)
      (pss_one (ps_ret (pe_meth (pe_op (o_rmul F_ (hr.mono (by decide))) pe_int (pe_call GT (hr.mono (by decide)) rfl gT cT.kp bT .nil (E := E0) passL (pa_cons (pv 2) pa_nil))) F_.T.cl F_.mOver GV (hr.mono (by decide)) bV .nil (E := E0) passL (pa_cons (pe_call GT (hr.mono (by decide)) rfl gT cT.kp bT .nil (E := E0) passL (pa_cons (pe_lc (own := [("strength", 3)]) (g := (gName 3)) rfl scCn.nd (pi_seq (pv 1)) (blkOk_by (own := [("strength", 3)]) (N := ["kind", "strengths", "arriving", "strength"]) (sc := defScope (top 57)) (by decide +kernel)) (fun _ _ _ _ _ => (pg_name (i := 3) scCn.nd rfl (Or.inl rfl))) (fun _ _ _ _ _ => pts_nil) (fun _ _ _ _ _ => (pe_meth (pe_frac1 F_.M F_.T (hr.mono (by decide)) rfl (pa_cons pe_int pa_nil)) F_.T.cl F_.mOver GV (hr.mono (by decide)) bV .nil (E := E0) passL (pa_cons (pv 3) pa_nil)))) pa_nil)) pa_nil)))))), ?_⟩
    have hln := s9.len
    have h20 := s9.n
    refine ⟨_, rfl, _, .inl ⟨xs, SqL.of hs1, rfl⟩, ?_⟩
    by_cases hz : zs = []
    · have hx0 : xs = [] := List.length_eq_zero_iff.mp (by rw [hx1.1, hz]; rfl)
      subst hx0
      refine iteT ⟨0, rfl, fun v H' e f => q _ H' e ⟨v, rfl, ?_⟩⟩
      unfold cmn FQ
      rw [if_pos hz]
      exact (pr_int 0) ▸ f
    have hx0 : xs ≠ [] := fun z => hz (List.length_eq_zero_iff.mp (by rw [← hx1.1, z]; rfl))
    have he : xs.isEmpty = false := by cases xs with | nil => exact absurd rfl hx0 | cons a b => rfl
    rw [he]
    refine iteF ?_
    have two : Bd 2 := by unfold Bd; decide
    cases b
    · refine ⟨_, rfl, rfl, _, rfl, iteF ?_⟩
      refine ⟨_, rfl, true, l2, ys, as, rfl, SqL.of hs2, hx2, fun j _ => okps s9.as_ s9.d0 (pow_le s9.d1 (by decide)) (pow_le s9.m1 (by decide)) (by omega) j, s9.oka, fun v1 H1 e1 f1 => ?_⟩
      refine ⟨2, _, rfl, f1, two, oksum s9.as_ s9.d0 (pow_le s9.d1 (by decide)) (pow_le s9.m1 (by decide)) (by omega), fun v2 H2 e2 f2 => ?_⟩
      obtain ⟨a2, rfl, f2⟩ := f2
      obtain ⟨dx2, h2⟩ := id f2
      refine ⟨a2, dx2, _, rfl, h2, rfl, ?_⟩
      refine tcons_of ?_
      refine tcons_of ?_
      have e12 := e1.trans e2
      refine tlc_X (R := FV A) (ys := zs.map fun z => 1 / z) (H1 := H2) (by rw [List.length_map, ← hx1.1]; exact walk_S (K := K) (k := true) (a := l1) (xs := xs)) (fun R r => ⟨_, rfl, true, l1, xs, rfl, SqL.of (e12 _ _ hs1), r⟩) moFV (by rw [List.length_map, sizeLine_eq]; omega) (fun H3 e => SqL.of (e _ _ (e12 _ _ hs1))) ?_ gm_name fun D3 us H3 nD e3 hD hu => ?_
      · rintro i x H3 _ r hr' e ⟨rfl, hx⟩ Qy kk
        rw [List.getElem?_map] at hr'
        obtain ⟨z, hz', rfl⟩ := Option.map_eq_some_iff.mp hr'
        have mz := List.mem_of_getElem? hz'
        refine ⟨rfl, 1, rfl, fun v H4 e4 f4 => ?_⟩
        obtain ⟨dv, hv⟩ := id f4
        refine ⟨v, dv, _, rfl, hv, rfl, _, rfl, over_of ⟨v, rfl, by unfold FQ; rw [pr_int]; exact f4⟩ ((hx1.2 i x z hx hz').ext ((e12.trans e).trans e4)).num (ok4_int (by unfold Bd; decide)) (s9.okz z mz) (Rat.ne_of_gt (s9.pos z mz)) fun v5 H5 e5 f5 => kk v5 H5 (e4.trans e5) f5⟩
      · refine ⟨true, D3, us, _, rfl, SqL.of hD, hu, fun j _ => okps s9.inv s9.i0 (pow_le s9.i1 (by decide)) (pow_le s9.bi1 (by decide)) (by rw [List.length_map]; omega) j, fun r hr' => ?_, fun v4 H4 e4 f4 => ?_⟩
        · obtain ⟨z, hz', rfl⟩ := List.mem_map.mp hr'
          exact s9.oki z hz'
        · refine over_of ⟨a2, rfl, f2.ext (e3.trans e4)⟩ f4.num s9.ok2a (oksum s9.inv s9.i0 (pow_le s9.i1 (by decide)) (pow_le s9.bi1 (by decide)) (by rw [List.length_map]; omega)) (s9.isum_ne hz) fun v5 H5 e5 f5 => q v5 H5 ((e12.trans (e3.trans e4)).trans e5) ?_
          unfold cmn
          rw [if_neg hz, if_neg (by decide)]
          exact f5
    · refine ⟨_, rfl, rfl, _, rfl, iteT ?_⟩
      refine ⟨_, rfl, _, rfl, true, l1, xs, zs, true, l2, ys, as, Z, B, D, M, rfl, SqL.of hs1, hx1, SqL.of hs2, hx2, hln, by omega, s9.z0, pow_le s9.z1 (by decide), pow_le s9.b1 (by decide), s9.zs_, s9.d0, pow_le s9.d1 (by decide), pow_le s9.m1 (by decide), s9.as_, fun v1 H1 e1 f1 => ?_⟩
      refine ⟨2, _, rfl, f1, two, s9.okd, fun v2 H2 e2 f2 => ?_⟩
      obtain ⟨a2, rfl, f2⟩ := f2
      obtain ⟨dx2, h2⟩ := id f2
      have e12 := e1.trans e2
      refine ⟨a2, dx2, _, rfl, h2, rfl, ?_⟩
      refine ⟨_, rfl, true, l1, xs, zs, rfl, SqL.of (e12 _ _ hs1), hx1.ext moFV e12, fun j _ => okps s9.zs_ s9.z0 (pow_le s9.z1 (by decide)) (pow_le s9.b1 (by decide)) h20 j, s9.okz, fun v4 H4 e4 f4 => ?_⟩
      refine over_of ⟨a2, rfl, f2.ext e4⟩ f4.num s9.ok2d (oksum s9.zs_ s9.z0 (pow_le s9.z1 (by decide)) (pow_le s9.b1 (by decide)) h20) (s9.sum_ne hz) fun v5 H5 e5 f5 => q v5 H5 ((e12.trans e4).trans e5) ?_
      unfold cmn
      rw [if_neg hz, if_pos rfl]
      exact f5
end
end Fx

set_option Elab.async false
set_option linter.all false
set_option maxRecDepth 100000
set_option maxHeartbeats 4000000
set_option exponentiation.threshold 20000
namespace Fx
open PySem PySem.Spec PyProof.Rows L2 FM KM
/-! ### scatter -/
theorem ext_none {H H' : Hp} {p : Addr} (e : Ext H H') (h : H' p = none) : H p = none := by
  cases q : H p with
  | none => rfl
  | some o => rw [e _ _ q] at h; cases h
theorem scat_len {b : Bool} {zs as : List Rat} (h : zs.length = as.length) : (scat b zs as).length = as.length := by
  unfold scat
  split
  · simp
  · simp; omega
section
variable {P : Program} {w : World} {K : PySem.W.Frag} {mg : Str → Option Value} {base : Heap} {A : Adr}
theorem scSc : FnScope ["kind", "strengths", "arriving", "sizes", "numbers", "middle", "number", "size"] ["kind", "strengths", "arriving"] (defScope (top 55)) := ⟨rfl, rfl, rfl, by decide +kernel, rfl, by decide +kernel, by decide +kernel⟩
def spSc (K : PySem.W.Frag) (A : Adr) : Sp := fun vs H Q _ => ∃ b k1 l1 xs zs k2 l2 ys as Z B Zi Bi D M, vs = [.str (kS b), .ref l1, .ref l2] ∧ SqB k1 K H l1 xs ∧ All2 (NV A) xs zs H ∧ SqB k2 K H l2 ys ∧ All2 (NV A) ys as H ∧ SzJ Z B Zi Bi D M zs as ∧
  ∀ r us H', H r = none → Ext H H' → H' r = some (.lst us) → All2 (FV A) us (scat b zs as) H' → Q (.ref r) H'
theorem ok_Sc {f : Addr} {fd : FuncData} (F : Fun K "scatter" "scatter" (top 55) f fd) (F_ : FA P w K mg base A) (hA : LF P w K mg base "_check_joint_arms" 6 ["kind", "strengths", "arriving"] (spCa K A)) (hF : LF P w K mg base "fracs_of" 4 ["numbers"] (spFo K A)) (hN : LF P w K mg base "_common_number" 6 ["kind", "strengths", "arriving"] (spCn K A)) (zi : mg "zip" = none) : FnOk P w K mg base (L2.CX P w) 7 f fd ["kind", "strengths", "arriving"] (spSc K A) := by
  refine F.okX scSc (fun vs H Q E h => ?_) (fun cdv AA outer s H vs Q E hr h => ?_)
  · obtain ⟨b, k1, l1, xs, zs, k2, l2, ys, as, Z, B, Zi, Bi, D, M, rfl, _⟩ := h; rfl
  · obtain ⟨b, k1, l1, xs, zs, k2, l2, ys, as, Z, B, Zi, Bi, D, M, rfl, hs1, hx1, hs2, hx2, s9, q⟩ := h
    obtain ⟨fA, gA, cA⟩ := hA
    obtain ⟨fdA, GA, bA⟩ := cA.ex
    obtain ⟨fF, gF, cF⟩ := hF
    obtain ⟨fdF, GF, bF⟩ := cF.ex
    obtain ⟨fN, gN, cN⟩ := hN
    obtain ⟨fdN, GN, bN⟩ := cN.ex
    obtain ⟨fdV, GV, bV⟩ := F_.cOver.ex
    refine ⟨_, (pss_cons (ps_expr (pe_call GA (hr.mono (by decide)) rfl gA cA.kp bA .nil (E := E0) passL (pa_cons (pv 0) (pa_cons (pv 1) (pa_cons (pv 2) pa_nil)))))
      (pss_cons (ps_set (i := 3) scSc.nd rfl (Or.inl rfl) (pe_call GF (hr.mono (by decide)) rfl gF cF.kp bF .nil (E := E0) passL (pa_cons (pv 1) pa_nil)))
      (pss_cons (ps_set (i := 4) scSc.nd rfl (Or.inl rfl) (pe_call GF (hr.mono (by decide)) rfl gF cF.kp bF .nil (E := E0) passL (pa_cons (pv 2) pa_nil)))
      (pss_cons (ps_set (i := 5) scSc.nd rfl (Or.inr rfl) (pe_call GN (hr.mono (by decide)) rfl gN cN.kp bN .nil (E := E0) passL (pa_cons (pv 0) (pa_cons (pv 3) (pa_cons (pv 4) pa_nil)))))
      (pss_cons (ps_if (pt_cmpR L2.op_eq (pv 0) pe_str (nomark _)) (pss_one (ps_ret (pe_lc (own := [("number", 6)]) (g := (gName 6)) rfl scSc.nd (pi_seq (pv 4)) (blkOk_by (own := [("number", 6)]) (N := ["kind", "strengths", "arriving", "sizes", "numbers", "middle", "number", "size"]) (sc := defScope (top 55)) (by decide +kernel)) (fun _ _ _ _ _ => (pg_name (i := 6) scSc.nd rfl (Or.inl rfl))) (fun _ _ _ _ _ => pts_nil) (fun _ _ _ _ _ => (pe_op (o_sub F_ (hr.mono (by decide))) (pv 5) (pv 6)))))) pss_nil)
      (pss_one (ps_ret (pe_lc (own := [("size", 7), ("number", 6)]) (g := (gTup K 2 (gCons (gName 7) (gCons (gName 6) gNil)))) rfl scSc.nd (pi_zip2 rfl zi (pa_cons (pv 3) (pa_cons (pv 4) pa_nil))) (blkOk_by (own := [("size", 7), ("number", 6)]) (N := ["kind", "strengths", "arriving", "sizes", "numbers", "middle", "number", "size"]) (sc := defScope (top 55)) (by decide +kernel)) (fun _ _ _ _ _ => (pg_tup rfl (pgs_cons (pg_name (i := 7) scSc.nd rfl (Or.inl rfl)) (pgs_cons (pg_name (i := 6) scSc.nd rfl (Or.inl rfl)) pgs_nil)))) (fun _ _ _ _ _ => pts_nil) (fun _ _ _ _ _ => (pe_op (o_sub F_ (hr.mono (by decide))) (pv 6) (pe_meth (pv 5) F_.T.cl F_.mOver GV (hr.mono (by decide)) bV .nil (E := E0) passL (pa_cons (pv 7) pa_nil)))))))))))), ?_⟩
    have hln := s9.len
    have h20 := s9.n
    refine ⟨_, rfl, _, rfl, _, rfl, b, k1, l1, xs, zs, k2, l2, ys, rfl, hs1, hx1, hs2, by rw [hx1.1, hx2.1, hln], fun z hz => ⟨s9.pos z hz, s9.okz z hz⟩, fun H1 e1 => ?_⟩
    refine ⟨_, rfl, k1, l1, xs, zs, rfl, hs1.ext e1, hx1.ext moNV e1, by omega, fun r2 us2 H2 n2 e2 h2 f2 => ?_⟩
    have e12 := e1.trans e2
    refine ⟨_, rfl, k2, l2, ys, as, rfl, hs2.ext e12, hx2.ext moNV e12, by omega, fun r3 us3 H3 n3 e3 h3 f3 => ?_⟩
    refine ⟨_, rfl, _, rfl, _, rfl, b, r2, us2, zs, r3, us3, as, Z, B, Zi, Bi, D, M, rfl, e3 _ _ h2, f2.ext moFV e3, h3, f3, s9, fun v4 H4 e4 f4 => ?_⟩
    have e14 := (e12.trans e3).trans e4
    cases b
    · refine ⟨_, rfl, rfl, _, rfl, iteF ?_⟩
      unfold tNext
      dsimp only
      refine tret_of ?_
      have sl := scat_len (b := false) hln
      refine tlc_X (R := FV A) (ys := scat false zs as) (H1 := H4) (walk_zip2 (K := K) (k1 := true) (k2 := true) (a := r2) (b := r3) (xs := us2) (ys := us3) (by rw [f2.1, sl, hln]) (by rw [f3.1, sl])) (fun R r => ⟨_, rfl, _, rfl, true, true, r2, r3, _, _, rfl, SqL.of (e4 _ _ (e3 _ _ h2)), SqL.of (e4 _ _ h3), r⟩) moFV (by rw [sl, sizeLine_eq]; omega) (fun H5 e => ⟨SqL.of (e _ _ (e4 _ _ (e3 _ _ h2))), SqL.of (e _ _ (e4 _ _ h3))⟩) ?_ (gm_tup (gms_cons gm_name (gms_cons gm_name gms_nil))) fun D5 ws H5 n5 e5 h5 f5 => q D5 ws H5 (ext_none e14 n5) (e14.trans e5) h5 f5
      rintro i x H5 _ r hr' e ⟨T, u, v, rfl, nT, rfl, hu, hv⟩ Qy kk
      dsimp only at hu hv
      obtain ⟨z, hz, fz⟩ := f2.get' hu
      obtain ⟨a, ha, fa⟩ := f3.get' hv
      have er : r = a - cmn false zs as / z := by
        unfold scat at hr'
        rw [if_neg (by decide), List.getElem?_zipWith, hz, ha] at hr'
        exact (Option.some.inj hr').symm
      have mz := List.mem_of_getElem? hz
      have ma := List.mem_of_getElem? ha
      have eT : Ext H5 (upd H5 T (.tup [u, v])) := ext1 nT
      have eH := e.trans eT
      refine ⟨T, _, rfl, SqT.of upd_same, rfl, _, _, rfl, _, _, rfl, rfl, rfl, ?_⟩
      obtain ⟨a4, rfl, f4'⟩ := f4
      obtain ⟨dx4, h4⟩ := FQ.ext f4' eH
      refine ⟨_, rfl, _, rfl, a4, dx4, _, rfl, h4, rfl, _, rfl, ?_⟩
      refine over_of (E := E0) (Q := fun y H2 => rQF A (· - ·) v y H2 Qy) ⟨a4, rfl, f4'.ext eH⟩ ((fz.ext (e3.trans e4)).ext eH).num (s9.okc false) (s9.okz z mz) (Rat.ne_of_gt (s9.pos z mz)) fun v6 H6 e6 f6 => ?_
      exact ⟨a, _, (((fa.ext e4).ext eH).ext e6), f6.num, s9.oka a ma, s9.okq mz, fun v7 H7 e7 f7 => kk v7 H7 ((eT.trans e6).trans e7) (by rw [er]; exact f7)⟩
    · refine ⟨_, rfl, rfl, _, rfl, iteT ?_⟩
      dsimp only
      refine tret_of ?_
      have sl := scat_len (b := true) hln
      refine tlc_X (R := FV A) (ys := scat true zs as) (H1 := H4) (by rw [sl, ← f3.1]; exact walk_S (K := K) (k := true) (a := r3) (xs := us3)) (fun R r => ⟨_, rfl, true, r3, us3, rfl, SqL.of (e4 _ _ h3), r⟩) moFV (by rw [sl, sizeLine_eq]; omega) (fun H5 e => SqL.of (e _ _ (e4 _ _ h3))) ?_ gm_name fun D5 ws H5 n5 e5 h5 f5 => q D5 ws H5 (ext_none e14 n5) (e14.trans e5) h5 f5
      rintro i x H5 _ r hr' e ⟨rfl, hx⟩ Qy kk
      obtain ⟨a, ha, fa⟩ := f3.get' hx
      have er : r = cmn true zs as - a := by
        unfold scat at hr'
        rw [if_pos rfl, List.getElem?_map, ha] at hr'
        exact (Option.some.inj hr').symm
      exact ⟨rfl, _, rfl, _, rfl, _, a, f4.ext e, ((fa.ext e4).ext e).num, s9.okc true, s9.oka a (List.mem_of_getElem? ha), fun v7 H7 e7 f7 => kk v7 H7 e7 (by rw [er]; exact f7)⟩
end
end Fx

set_option linter.all false
set_option exponentiation.threshold 20000
set_option maxRecDepth 100000
/-! Webs over the rational numbers: arms, a tick, the content. -/
namespace KM
open FM
inductive Side where
  | st | en | ea
  deriving DecidableEq
abbrev Arm := Side × Nat
structure RodD where
  st : Nat
  en : Nat
  len : Nat
  z : Rat
  tw : Int
structure EarD where
  pl : Nat
  z : Rat
structure WebD where
  kinds : List Bool
  rods : List RodD
  ears : List EarD
def zeroRod : RodD := ⟨0, 0, 1, 0, 1⟩
def zeroEar : EarD := ⟨0, 0⟩
namespace WebD
variable (w : WebD)
def rod (i : Nat) : RodD := w.rods[i]?.getD zeroRod
def ear (i : Nat) : EarD := w.ears[i]?.getD zeroEar
def cellsTo (k : Nat) : Nat := ((w.rods.take k).map fun r => 2 * r.len).sum
def cells : Nat := w.cellsTo w.rods.length
def rodArm (j i : Nat) : List Arm := (if (w.rod i).st = j then [(Side.st, i)] else []) ++ (if (w.rod i).en = j then [(Side.en, i)] else [])
def earArm (j i : Nat) : List Arm := if (w.ear i).pl = j then [(Side.ea, i)] else []
def armsAt (j : Nat) : List Arm := (List.range w.rods.length).flatMap (w.rodArm j) ++ (List.range w.ears.length).flatMap (w.earArm j)
def armZ : Arm → Rat
  | (.st, i) => (w.rod i).z
  | (.en, i) => (w.rod i).z
  | (.ea, i) => (w.ear i).z
def armJ : Arm → Nat
  | (.st, i) => (w.rod i).st
  | (.en, i) => (w.rod i).en
  | (.ea, i) => (w.ear i).pl
def arr (x u : List Rat) : Arm → Rat
  | (.en, i) => ((w.rod i).tw : Rat) * x[w.cellsTo i + (w.rod i).len - 1]?.getD 0
  | (.st, i) => ((w.rod i).tw : Rat) * x[w.cellsTo i + 2 * (w.rod i).len - 1]?.getD 0
  | (.ea, i) => u[i]?.getD 0
def zsAt (j : Nat) : List Rat := (w.armsAt j).map w.armZ
def kind (j : Nat) : Bool := w.kinds[j]?.getD true
def mid (x u : List Rat) (j : Nat) : Rat := cmn (w.kind j) (w.zsAt j) ((w.armsAt j).map (w.arr x u))
def lv (x u : List Rat) (a : Arm) : Rat :=
  if w.kind (w.armJ a) = true then w.mid x u (w.armJ a) - w.arr x u a else w.arr x u a - w.mid x u (w.armJ a) / w.armZ a
def piece (x u : List Rat) (i : Nat) : List Rat :=
  (w.lv x u (.st, i) :: (x.drop (w.cellsTo i)).take ((w.rod i).len - 1)) ++ (w.lv x u (.en, i) :: (x.drop (w.cellsTo i + (w.rod i).len)).take ((w.rod i).len - 1))
def newTo (x u : List Rat) (k : Nat) : List Rat := (List.range k).flatMap (w.piece x u)
def new (x u : List Rat) : List Rat := w.newTo x u w.rods.length
def out (x u : List Rat) : List Rat := (List.range w.ears.length).map fun i => w.lv x u (.ea, i)
def wsTo (k : Nat) : List Rat := (List.range k).flatMap fun i => List.replicate (2 * (w.rod i).len) (w.rod i).z
def ws : List Rat := w.wsTo w.rods.length
def zs : List Rat := w.ears.map (·.z)
/-- as a web must be -/
structure Ok : Prop where
  st : ∀ r ∈ w.rods, r.st < w.kinds.length
  en : ∀ r ∈ w.rods, r.en < w.kinds.length
  len : ∀ r ∈ w.rods, 1 ≤ r.len
  pl : ∀ e ∈ w.ears, e.pl < w.kinds.length
  rz : ∀ r ∈ w.rods, 0 < r.z
  ez : ∀ e ∈ w.ears, 0 < e.z
  tw : ∀ r ∈ w.rods, r.tw = 1 ∨ r.tw = -1
  n : w.kinds.length ≤ 8
  m : w.rods.length ≤ 8
  e : w.ears.length ≤ 4
  c : w.cells ≤ 24
end WebD
namespace WebD
variable {w : WebD}
theorem rod_at {i : Nat} (h : i < w.rods.length) : w.rods[i]? = some (w.rod i) := by
  unfold rod
  rw [List.getElem?_eq_getElem h]
  rfl
theorem ear_at {i : Nat} (h : i < w.ears.length) : w.ears[i]? = some (w.ear i) := by
  unfold ear
  rw [List.getElem?_eq_getElem h]
  rfl
theorem rod_mem {i : Nat} (h : i < w.rods.length) : w.rod i ∈ w.rods := List.mem_of_getElem? (rod_at h)
theorem ear_mem {i : Nat} (h : i < w.ears.length) : w.ear i ∈ w.ears := List.mem_of_getElem? (ear_at h)
theorem cellsTo_zero : w.cellsTo 0 = 0 := by simp [cellsTo]
theorem cellsTo_succ {i : Nat} (h : i < w.rods.length) : w.cellsTo (i + 1) = w.cellsTo i + 2 * (w.rod i).len := by
  unfold cellsTo
  rw [List.take_add_one, rod_at h]
  simp
theorem cellsTo_mono {i : Nat} (h : i < w.rods.length) : w.cellsTo i + 2 * (w.rod i).len ≤ w.cells := by
  have key : ∀ k j : Nat, j + k = w.rods.length → w.cellsTo j ≤ w.cells := by
    intro k
    induction k with
    | zero => intro j hj; unfold cells; rw [show j = w.rods.length by omega]; exact Nat.le_refl _
    | succ k ih =>
      intro j hj
      have := ih (j + 1) (by omega)
      rw [cellsTo_succ (by omega)] at this
      omega
  have := key (w.rods.length - (i + 1)) (i + 1) (by omega)
  rw [cellsTo_succ h] at this
  exact this
theorem rodArm_mem {j i : Nat} {a : Arm} (h : a ∈ w.rodArm j i) : (a = (.st, i) ∧ (w.rod i).st = j) ∨ (a = (.en, i) ∧ (w.rod i).en = j) := by
  unfold rodArm at h
  rcases List.mem_append.mp h with h | h
  · split at h
    · exact .inl ⟨by simpa using h, by assumption⟩
    · simp at h
  · split at h
    · exact .inr ⟨by simpa using h, by assumption⟩
    · simp at h
theorem earArm_mem {j i : Nat} {a : Arm} (h : a ∈ w.earArm j i) : a = (.ea, i) ∧ (w.ear i).pl = j := by
  unfold earArm at h
  split at h
  · exact ⟨by simpa using h, by assumption⟩
  · simp at h
/-- an arm of the web -/
def IsArm (w : WebD) : Arm → Prop
  | (.ea, i) => i < w.ears.length
  | (_, i) => i < w.rods.length
theorem armsAt_mem {j : Nat} {a : Arm} (h : a ∈ w.armsAt j) : w.IsArm a ∧ w.armJ a = j := by
  unfold armsAt at h
  rcases List.mem_append.mp h with h | h
  · obtain ⟨i, hi, h⟩ := List.mem_flatMap.mp h
    have hi := List.mem_range.mp hi
    rcases rodArm_mem h with ⟨rfl, e⟩ | ⟨rfl, e⟩ <;> exact ⟨hi, e⟩
  · obtain ⟨i, hi, h⟩ := List.mem_flatMap.mp h
    have hi := List.mem_range.mp hi
    obtain ⟨rfl, e⟩ := earArm_mem h
    exact ⟨hi, e⟩
theorem mem_armsAt {a : Arm} (h : w.IsArm a) : a ∈ w.armsAt (w.armJ a) := by
  unfold armsAt
  obtain ⟨s, i⟩ := a
  cases s with
  | st => exact List.mem_append_left _ (List.mem_flatMap.mpr ⟨i, List.mem_range.mpr h, by unfold rodArm armJ; simp⟩)
  | en => exact List.mem_append_left _ (List.mem_flatMap.mpr ⟨i, List.mem_range.mpr h, by unfold rodArm armJ; simp⟩)
  | ea => exact List.mem_append_right _ (List.mem_flatMap.mpr ⟨i, List.mem_range.mpr h, by unfold earArm armJ; simp⟩)
theorem armJ_lt (ok : w.Ok) {a : Arm} (h : w.IsArm a) : w.armJ a < w.kinds.length := by
  obtain ⟨s, i⟩ := a
  cases s with
  | st => exact ok.st _ (rod_mem h)
  | en => exact ok.en _ (rod_mem h)
  | ea => exact ok.pl _ (ear_mem h)
theorem armZ_pos (ok : w.Ok) {a : Arm} (h : w.IsArm a) : 0 < w.armZ a := by
  obtain ⟨s, i⟩ := a
  cases s with
  | st => exact ok.rz _ (rod_mem h)
  | en => exact ok.rz _ (rod_mem h)
  | ea => exact ok.ez _ (ear_mem h)
theorem len_flatMap_le {α β : Type} {f : α → List β} {k : Nat} (h : ∀ a, (f a).length ≤ k) : ∀ xs : List α, (xs.flatMap f).length ≤ k * xs.length
  | [] => by simp
  | x :: xs => by
    rw [List.flatMap_cons, List.length_append, List.length_cons, Nat.mul_succ]
    have := len_flatMap_le h xs
    have := h x
    omega
theorem armsAt_len {j : Nat} : (w.armsAt j).length ≤ 2 * w.rods.length + w.ears.length := by
  unfold armsAt
  rw [List.length_append]
  have h1 := len_flatMap_le (f := w.rodArm j) (k := 2) (fun a => by unfold rodArm; rw [List.length_append]; split <;> split <;> simp) (List.range w.rods.length)
  have h2 := len_flatMap_le (f := w.earArm j) (k := 1) (fun a => by unfold earArm; split <;> simp) (List.range w.ears.length)
  rw [List.length_range] at h1 h2
  omega
end WebD
/-! ### sums -/
theorem sum_ite {c : Rat} {s : Nat} : ∀ {n : Nat}, s < n → ((List.range n).map fun j => if s = j then c else 0).sum = c := by
  intro n
  induction n with
  | zero => intro h; omega
  | succ n ih =>
    intro h
    rw [List.range_succ, List.map_append, List.sum_append]
    by_cases e : s = n
    · have z : ∀ m, m ≤ s → ((List.range m).map fun j => if s = j then c else 0).sum = 0 := by
        intro m
        induction m with
        | zero => intro _; rfl
        | succ m ihm =>
          intro hm
          rw [List.range_succ, List.map_append, List.sum_append, ihm (by omega)]
          have : ¬ s = m := by omega
          simp [this]
          grind
      rw [z n (by omega)]
      simp [e]
      grind
    · rw [ih (by omega)]
      simp [e]
      grind
theorem sum_map_add {α : Type} {f g : α → Rat} : ∀ xs : List α, (xs.map fun a => f a + g a).sum = (xs.map f).sum + (xs.map g).sum
  | [] => by simp; grind
  | x :: xs => by
    rw [List.map_cons, List.sum_cons, sum_map_add xs, List.map_cons, List.sum_cons, List.map_cons, List.sum_cons]
    grind
theorem sum_map_zero {α : Type} : ∀ xs : List α, (xs.map fun _ => (0 : Rat)).sum = 0
  | [] => rfl
  | x :: xs => by rw [List.map_cons, List.sum_cons, sum_map_zero xs]; grind
theorem sum_map_congr {α : Type} {f g : α → Rat} {xs : List α} (h : ∀ a ∈ xs, f a = g a) : (xs.map f).sum = (xs.map g).sum := by
  rw [List.map_congr_left h]
theorem sum_flatMap {α β : Type} {f : β → Rat} {g : α → List β} : ∀ xs : List α, ((xs.flatMap g).map f).sum = (xs.map fun a => ((g a).map f).sum).sum
  | [] => rfl
  | x :: xs => by rw [List.flatMap_cons, List.map_append, List.sum_append, sum_flatMap xs, List.map_cons, List.sum_cons]
theorem sum_swap {α β : Type} {f : α → β → Rat} (xs : List α) : ∀ ys : List β, (xs.map fun a => (ys.map fun b => f a b).sum).sum = (ys.map fun b => (xs.map fun a => f a b).sum).sum
  | [] => by simp only [List.map_nil]; rw [show (([] : List Rat).sum) = 0 from rfl]; exact sum_map_zero xs
  | y :: ys => by
    rw [List.map_cons, List.sum_cons, ← sum_swap xs ys, ← sum_map_add]
    rfl
/-- over all joints, over the arms of each: over all rods' ends and all ears -/
theorem sum_arms {w : WebD} (ok : w.Ok) (f : Arm → Rat) : ((List.range w.kinds.length).map fun j => ((w.armsAt j).map f).sum).sum =
    ((List.range w.rods.length).map fun i => f (.st, i) + f (.en, i)).sum + ((List.range w.ears.length).map fun i => f (.ea, i)).sum := by
  have e : ∀ j, ((w.armsAt j).map f).sum = ((List.range w.rods.length).map fun i => (if (w.rod i).st = j then f (.st, i) else 0) + (if (w.rod i).en = j then f (.en, i) else 0)).sum + ((List.range w.ears.length).map fun i => if (w.ear i).pl = j then f (.ea, i) else 0).sum := by
    intro j
    unfold WebD.armsAt
    rw [List.map_append, List.sum_append, sum_flatMap, sum_flatMap]
    congr 1
    · refine sum_map_congr fun i _ => ?_
      unfold WebD.rodArm
      rw [List.map_append, List.sum_append]
      split <;> split <;> simp <;> grind
    · refine sum_map_congr fun i _ => ?_
      unfold WebD.earArm
      split <;> simp <;> grind
  rw [sum_map_congr (fun j _ => e j), sum_map_add]
  congr 1
  · rw [sum_swap]
    refine sum_map_congr fun i hi => ?_
    have hi := List.mem_range.mp hi
    rw [sum_map_add, sum_ite (ok.st _ (WebD.rod_mem hi)), sum_ite (ok.en _ (WebD.rod_mem hi))]
  · rw [sum_swap]
    refine sum_map_congr fun i hi => ?_
    have hi := List.mem_range.mp hi
    exact sum_ite (ok.pl _ (WebD.ear_mem hi))
/-- products, place by place, over one list -/
theorem dotR_map {α : Type} (f g : α → Rat) : ∀ xs : List α, dotR (xs.map f) (xs.map g) = (xs.map fun a => f a * g a).sum
  | [] => rfl
  | x :: xs => by
    have ih := dotR_map f g xs
    unfold dotR at ih ⊢
    rw [List.map_cons, List.map_cons, List.zipWith_cons_cons, List.sum_cons, ih, List.map_cons, List.sum_cons]
theorem dotR_append {as bs cs ds : List Rat} (h : as.length = cs.length) : dotR (as ++ bs) (cs ++ ds) = dotR as cs + dotR bs ds := by
  unfold dotR
  rw [List.zipWith_append h, List.sum_append]
theorem dotR_rep {z : Rat} : ∀ {n : Nat} {xs : List Rat}, xs.length = n → dotR (List.replicate n z) xs = z * xs.sum
  | 0, xs, h => by
    have : xs = [] := List.length_eq_zero_iff.mp h
    subst this
    unfold dotR
    simp
    try grind
  | n + 1, [], h => by simp at h
  | n + 1, x :: xs, h => by
    have ih := dotR_rep (z := z) (n := n) (xs := xs) (by simpa using h)
    unfold dotR at ih ⊢
    rw [List.replicate_succ, List.zipWith_cons_cons, List.sum_cons, ih, List.sum_cons]
    grind
/-- what arrives at a level joint leaves it, strengths counted -/
theorem joint_even {α : Type} {f g : α → Rat} {xs : List α} (h : ∀ a ∈ xs, 0 < f a) : (xs.map fun a => f a * (cmn true (xs.map f) (xs.map g) - g a)).sum = (xs.map fun a => f a * g a).sum := by
  by_cases e : xs = []
  · subst e; rfl
  have sp := sum_pos (zs := xs.map f) (by simpa using e) fun z hz => by
    obtain ⟨a, ha, rfl⟩ := List.mem_map.mp hz
    exact h a ha
  have hc : cmn true (xs.map f) (xs.map g) * (xs.map f).sum = 2 * (xs.map fun a => f a * g a).sum := by
    unfold cmn
    rw [if_neg (by simpa using e), if_pos rfl, dotR_map]
    have := Rat.ne_of_gt sp
    grind
  have e1 : ∀ (c : Rat) (ys : List α), (ys.map fun a => f a * (c - g a)).sum = c * (ys.map f).sum - (ys.map fun a => f a * g a).sum := by
    intro c ys
    induction ys with
    | nil => simp; grind
    | cons y ys ih => rw [List.map_cons, List.sum_cons, ih, List.map_cons, List.sum_cons, List.map_cons, List.sum_cons]; grind
  rw [e1, hc]
  grind
end KM

set_option linter.all false
set_option exponentiation.threshold 20000
set_option maxRecDepth 100000
/-! Plain webs: the content stays, one number stays; how great the numbers become. -/
namespace KM
open FM
namespace WebD
variable {w : WebD}
/-- all joints level, no rod twisted -/
structure Plain (w : WebD) : Prop where
  lv : ∀ j, w.kind j = true
  tw : ∀ r ∈ w.rods, r.tw = 1
theorem lv_plain (p : w.Plain) {x u : List Rat} {a : Arm} : w.lv x u a = cmn true (w.zsAt (w.armJ a)) ((w.armsAt (w.armJ a)).map (w.arr x u)) - w.arr x u a := by
  unfold lv mid
  rw [if_pos (p.lv _), p.lv]
theorem even_all (ok : w.Ok) (p : w.Plain) (x u : List Rat) :
    ((List.range w.rods.length).map fun i => w.armZ (.st, i) * w.lv x u (.st, i) + w.armZ (.en, i) * w.lv x u (.en, i)).sum + ((List.range w.ears.length).map fun i => w.armZ (.ea, i) * w.lv x u (.ea, i)).sum =
    ((List.range w.rods.length).map fun i => w.armZ (.st, i) * w.arr x u (.st, i) + w.armZ (.en, i) * w.arr x u (.en, i)).sum + ((List.range w.ears.length).map fun i => w.armZ (.ea, i) * w.arr x u (.ea, i)).sum := by
  rw [← sum_arms ok (fun a => w.armZ a * w.lv x u a), ← sum_arms ok (fun a => w.armZ a * w.arr x u a)]
  refine sum_map_congr fun j _ => ?_
  rw [← joint_even (f := w.armZ) (g := w.arr x u) (xs := w.armsAt j) fun a ha => armZ_pos ok (armsAt_mem ha).1]
  refine sum_map_congr fun a ha => ?_
  rw [lv_plain p, (armsAt_mem ha).2]
  rfl
theorem sum_drop_take {x : List Rat} {a l : Nat} (hl : 1 ≤ l) (h : a + l ≤ x.length) : ((x.drop a).take l).sum = ((x.drop a).take (l - 1)).sum + x[a + l - 1]?.getD 0 := by
  have e : ((x.drop a).take ((l - 1) + 1)) = (x.drop a).take (l - 1) ++ [x[a + l - 1]?.getD 0] := by
    rw [List.take_add_one, List.getElem?_drop]
    have h2 : a + (l - 1) < x.length := by omega
    rw [List.getElem?_eq_getElem h2, show a + l - 1 = a + (l - 1) by omega, List.getElem?_eq_getElem h2]
    rfl
  rw [show (l - 1) + 1 = l by omega] at e
  rw [e, List.sum_append]
  simp
  try grind
theorem piece_len {x u : List Rat} {i : Nat} (hl : 1 ≤ (w.rod i).len) (h : w.cellsTo i + 2 * (w.rod i).len ≤ x.length) : (w.piece x u i).length = 2 * (w.rod i).len := by
  unfold piece
  simp
  omega
theorem newTo_succ {x u : List Rat} {k : Nat} : w.newTo x u (k + 1) = w.newTo x u k ++ w.piece x u k := by
  unfold newTo
  rw [List.range_succ, List.flatMap_append]
  simp
theorem wsTo_succ {k : Nat} : w.wsTo (k + 1) = w.wsTo k ++ List.replicate (2 * (w.rod k).len) (w.rod k).z := by
  unfold wsTo
  rw [List.range_succ, List.flatMap_append]
  simp
theorem newTo_len (ok : w.Ok) {x u : List Rat} (hx : x.length = w.cells) : ∀ {k : Nat}, k ≤ w.rods.length → (w.newTo x u k).length = w.cellsTo k := by
  intro k
  induction k with
  | zero => intro _; rw [cellsTo_zero]; rfl
  | succ k ih =>
    intro h
    have := cellsTo_mono (w := w) (i := k) (by omega)
    rw [newTo_succ, List.length_append, ih (by omega), cellsTo_succ (by omega), piece_len (ok.len _ (rod_mem (by omega))) (by omega)]
theorem new_len (ok : w.Ok) {x u : List Rat} (hx : x.length = w.cells) : (w.new x u).length = w.cells := newTo_len ok hx (Nat.le_refl _)
theorem wsTo_len : ∀ {k : Nat}, k ≤ w.rods.length → (w.wsTo k).length = w.cellsTo k := by
  intro k
  induction k with
  | zero => intro _; rw [cellsTo_zero]; rfl
  | succ k ih =>
    intro h
    rw [wsTo_succ, List.length_append, ih (by omega), cellsTo_succ (by omega)]
    simp
theorem ws_len : w.ws.length = w.cells := wsTo_len (Nat.le_refl _)
theorem content_new (ok : w.Ok) {x u : List Rat} (hx : x.length = w.cells) : ∀ {k : Nat}, k ≤ w.rods.length → dotR (w.wsTo k) (w.newTo x u k) = ((List.range k).map fun i => (w.rod i).z * (w.piece x u i).sum).sum := by
  intro k
  induction k with
  | zero => intro _; rfl
  | succ k ih =>
    intro h
    have := cellsTo_mono (w := w) (i := k) (by omega)
    have l1 := wsTo_len (w := w) (k := k) (by omega)
    have l2 := newTo_len ok (u := u) hx (k := k) (by omega)
    rw [newTo_succ, wsTo_succ, dotR_append (by rw [l1, l2]), ih (by omega), dotR_rep (piece_len (ok.len _ (rod_mem (by omega))) (by omega)), List.range_succ, List.map_append, List.sum_append]
    simp
    try grind
theorem content_old (ok : w.Ok) {x : List Rat} (hx : x.length = w.cells) : ∀ {k : Nat}, k ≤ w.rods.length → dotR (w.wsTo k) (x.take (w.cellsTo k)) = ((List.range k).map fun i => (w.rod i).z * ((x.drop (w.cellsTo i)).take (2 * (w.rod i).len)).sum).sum := by
  intro k
  induction k with
  | zero => intro _; rfl
  | succ k ih =>
    intro h
    have := cellsTo_mono (w := w) (i := k) (by omega)
    have l1 := wsTo_len (w := w) (k := k) (by omega)
    have e : x.take (w.cellsTo (k + 1)) = x.take (w.cellsTo k) ++ (x.drop (w.cellsTo k)).take (2 * (w.rod k).len) := by
      rw [cellsTo_succ (by omega), List.take_add]
    rw [e, wsTo_succ, dotR_append (by rw [l1, List.length_take]; omega), ih (by omega), dotR_rep (by simp; omega), List.range_succ, List.map_append, List.sum_append]
    simp
    try grind
theorem range_getD (f : Nat → Rat) : ∀ {u : List Rat}, ((List.range u.length).map fun i => f i * u[i]?.getD 0).sum = dotR ((List.range u.length).map f) u := by
  intro u
  have : u = (List.range u.length).map fun i => u[i]?.getD 0 := by
    refine List.ext_getElem (by simp) fun i h1 h2 => ?_
    simp [List.getElem?_eq_getElem h1]
  conv => rhs; rw [this]
  rw [List.length_map, List.length_range, dotR_map]
theorem zs_range : w.zs = (List.range w.ears.length).map fun i => (w.ear i).z := by
  refine List.ext_getElem (by simp [zs]) fun i h1 h2 => ?_
  have hi : i < w.ears.length := by simpa [zs] using h1
  have := ear_at hi
  rw [List.getElem?_eq_getElem hi] at this
  simp [zs]
  rw [Option.some.inj this]
/-- the content stays -/
theorem content (ok : w.Ok) (p : w.Plain) {x u : List Rat} (hx : x.length = w.cells) (hu : u.length = w.ears.length) :
    dotR w.ws (w.new x u) + dotR w.zs (w.out x u) = dotR w.ws x + dotR w.zs u := by
  have h1 := content_new ok (u := u) hx (k := w.rods.length) (Nat.le_refl _)
  have h2 := content_old ok hx (k := w.rods.length) (Nat.le_refl _)
  rw [show w.cellsTo w.rods.length = w.cells from rfl, List.take_of_length_le (by omega)] at h2
  have e1 : dotR w.ws (w.new x u) = ((List.range w.rods.length).map fun i => (w.rod i).z * (w.piece x u i).sum).sum := h1
  have e2 : dotR w.ws x = ((List.range w.rods.length).map fun i => (w.rod i).z * ((x.drop (w.cellsTo i)).take (2 * (w.rod i).len)).sum).sum := h2
  have e3 : dotR w.zs (w.out x u) = ((List.range w.ears.length).map fun i => w.armZ (.ea, i) * w.lv x u (.ea, i)).sum := by
    rw [zs_range]
    unfold out
    rw [dotR_map]
    rfl
  have e4 : dotR w.zs u = ((List.range w.ears.length).map fun i => w.armZ (.ea, i) * w.arr x u (.ea, i)).sum := by
    rw [zs_range, ← hu, ← range_getD]
    rfl
  have key := even_all ok p x u
  have e5 : ∀ i ∈ List.range w.rods.length, (w.rod i).z * (w.piece x u i).sum = ((w.armZ (.st, i) * w.lv x u (.st, i) + w.armZ (.en, i) * w.lv x u (.en, i)) + (w.rod i).z * (((x.drop (w.cellsTo i)).take ((w.rod i).len - 1)).sum + ((x.drop (w.cellsTo i + (w.rod i).len)).take ((w.rod i).len - 1)).sum)) := by
    intro i _
    unfold piece armZ
    rw [List.sum_append, List.sum_cons, List.sum_cons]
    grind
  have e6 : ∀ i ∈ List.range w.rods.length, (w.rod i).z * ((x.drop (w.cellsTo i)).take (2 * (w.rod i).len)).sum = ((w.armZ (.st, i) * w.arr x u (.st, i) + w.armZ (.en, i) * w.arr x u (.en, i)) + (w.rod i).z * (((x.drop (w.cellsTo i)).take ((w.rod i).len - 1)).sum + ((x.drop (w.cellsTo i + (w.rod i).len)).take ((w.rod i).len - 1)).sum)) := by
    intro i hi
    have hi := List.mem_range.mp hi
    have c1 := cellsTo_mono (w := w) hi
    have c2 := ok.len _ (rod_mem hi)
    have c3 := p.tw _ (rod_mem hi)
    have s1 := sum_drop_take (x := x) (a := w.cellsTo i) (l := (w.rod i).len) c2 (by omega)
    have s2 := sum_drop_take (x := x) (a := w.cellsTo i + (w.rod i).len) (l := (w.rod i).len) c2 (by omega)
    have s3 : (x.drop (w.cellsTo i)).take (2 * (w.rod i).len) = (x.drop (w.cellsTo i)).take (w.rod i).len ++ (x.drop (w.cellsTo i + (w.rod i).len)).take (w.rod i).len := by
      rw [Nat.two_mul, List.take_add, List.drop_drop]
    rw [s3, List.sum_append, s1, s2]
    unfold armZ arr
    dsimp only
    rw [c3, show w.cellsTo i + (w.rod i).len + (w.rod i).len - 1 = w.cellsTo i + 2 * (w.rod i).len - 1 by omega]
    have one : (((1 : Int) : Int) : Rat) = 1 := rfl
    rw [one]
    grind
  rw [e1, e2, e3, e4, sum_map_congr e5, sum_map_congr e6, sum_map_add, sum_map_add]
  have fin : ∀ (a b c d e : Rat), a + b = c + d → a + e + b = c + e + d := by
    intro a b c d e h
    grind
  simp only [sum_map_add] at key ⊢
  have e9 := fin _ _ _ _ (((List.range w.rods.length).map fun a => (w.rod a).z * (((x.drop (w.cellsTo a)).take ((w.rod a).len - 1)).sum + ((x.drop (w.cellsTo a + (w.rod a).len)).take ((w.rod a).len - 1)).sum)).sum) key
  exact e9
/-! ### one number stays -/
theorem replicate_get {n i : Nat} {c : Rat} (h : i < n) : (List.replicate n c)[i]?.getD 0 = c := by
  rw [List.getElem?_replicate, if_pos h]
  rfl
theorem arr_rep (ok : w.Ok) (p : w.Plain) {c : Rat} {a : Arm} (h : w.IsArm a) : w.arr (List.replicate w.cells c) (List.replicate w.ears.length c) a = c := by
  obtain ⟨s, i⟩ := a
  cases s with
  | ea => exact replicate_get h
  | st =>
    have c1 := cellsTo_mono (w := w) h
    have c2 := ok.len _ (rod_mem h)
    have c3 := p.tw _ (rod_mem h)
    unfold arr
    dsimp only
    rw [replicate_get (by omega), c3]
    have one : (((1 : Int) : Int) : Rat) = 1 := rfl
    rw [one]
    grind
  | en =>
    have c1 := cellsTo_mono (w := w) h
    have c2 := ok.len _ (rod_mem h)
    have c3 := p.tw _ (rod_mem h)
    unfold arr
    dsimp only
    rw [replicate_get (by omega), c3]
    have one : (((1 : Int) : Int) : Rat) = 1 := rfl
    rw [one]
    grind
theorem dot_const {c : Rat} : ∀ zs : List Rat, dotR zs (zs.map fun _ => c) = c * zs.sum
  | [] => by unfold dotR; simp; try grind
  | z :: zs => by
    have ih := dot_const (c := c) zs
    unfold dotR at ih ⊢
    rw [List.map_cons, List.zipWith_cons_cons, List.sum_cons, ih, List.sum_cons]
    grind
theorem lv_rep (ok : w.Ok) (p : w.Plain) {c : Rat} {a : Arm} (h : w.IsArm a) : w.lv (List.replicate w.cells c) (List.replicate w.ears.length c) a = c := by
  rw [lv_plain p, arr_rep ok p h]
  have hm := mem_armsAt h
  have e1 : (w.armsAt (w.armJ a)).map (w.arr (List.replicate w.cells c) (List.replicate w.ears.length c)) = (w.zsAt (w.armJ a)).map fun _ => c := by
    unfold zsAt
    rw [List.map_map]
    refine List.map_congr_left fun b hb => ?_
    rw [arr_rep ok p (armsAt_mem hb).1]
    rfl
  have hz : w.zsAt (w.armJ a) ≠ [] := by
    unfold zsAt
    intro z
    rw [List.map_eq_nil_iff] at z
    rw [z] at hm
    simp at hm
  have sp := sum_pos hz fun z hz => by
    unfold zsAt at hz
    obtain ⟨b, hb, rfl⟩ := List.mem_map.mp hz
    exact armZ_pos ok (armsAt_mem hb).1
  have : cmn true (w.zsAt (w.armJ a)) ((w.armsAt (w.armJ a)).map (w.arr (List.replicate w.cells c) (List.replicate w.ears.length c))) = 2 * c := by
    unfold cmn
    rw [if_neg hz, if_pos rfl, e1, dot_const]
    have := Rat.ne_of_gt sp
    grind
  rw [this]
  grind
theorem newTo_rep (ok : w.Ok) (p : w.Plain) {c : Rat} : ∀ {k : Nat}, k ≤ w.rods.length → w.newTo (List.replicate w.cells c) (List.replicate w.ears.length c) k = List.replicate (w.cellsTo k) c := by
  intro k
  induction k with
  | zero => intro _; rw [cellsTo_zero]; rfl
  | succ k ih =>
    intro h
    have c1 := cellsTo_mono (w := w) (i := k) (by omega)
    have c2 := ok.len _ (rod_mem (w := w) (i := k) (by omega))
    rw [newTo_succ, ih (by omega), cellsTo_succ (by omega), ← List.replicate_append_replicate]
    congr 1
    unfold piece
    rw [lv_rep ok p (a := (.st, k)) (by show k < _; omega), lv_rep ok p (a := (.en, k)) (by show k < _; omega), List.drop_replicate, List.take_replicate, List.drop_replicate, List.take_replicate,
      ← List.replicate_succ, ← List.replicate_succ, List.replicate_append_replicate]
    congr 1
    omega
theorem new_rep (ok : w.Ok) (p : w.Plain) {c : Rat} : w.new (List.replicate w.cells c) (List.replicate w.ears.length c) = List.replicate w.cells c := newTo_rep ok p (Nat.le_refl _)
theorem out_rep (ok : w.Ok) (p : w.Plain) {c : Rat} : w.out (List.replicate w.cells c) (List.replicate w.ears.length c) = List.replicate w.ears.length c := by
  unfold out
  refine List.ext_getElem (by simp) fun i h1 h2 => ?_
  simp
  exact lv_rep ok p (a := (.ea, i)) (by show i < _; simpa using h2)
end WebD
end KM

set_option linter.all false
set_option exponentiation.threshold 20000
set_option maxRecDepth 100000
/-! How great the numbers of a web become. -/
namespace KM
open FM
theorem Rep.neg {D M : Nat} {x : Rat} (h : Rep D M x) : Rep D M (-x) := by
  obtain ⟨N, a, b⟩ := h
  refine ⟨-N, ?_, by simpa using b⟩
  push_cast
  rw [← a]
  grind
theorem Rep.subR {D M M' : Nat} {x y : Rat} (h : Rep D M x) (h' : Rep D M' y) : Rep D (M + M') (x - y) := by
  have := h.add h'.neg
  rwa [show x + -y = x - y by grind] at this
/-- one common bottom, all below 2 ^ a -/
def Szb (a : Nat) (xs : List Rat) : Prop := ∃ D M : Nat, 0 < D ∧ D < 2 ^ a ∧ M < 2 ^ a ∧ ∀ x ∈ xs, Rep D M x
theorem Szb.nil : Szb 1 [] := ⟨1, 1, by decide, by decide, by decide, by simp⟩
theorem Szb.mono {a b : Nat} {xs : List Rat} (h : Szb a xs) (l : a ≤ b) : Szb b xs := by
  obtain ⟨D, M, d0, d1, m1, r⟩ := h
  exact ⟨D, M, d0, Nat.lt_of_lt_of_le d1 (Nat.pow_le_pow_right (by decide) l), Nat.lt_of_lt_of_le m1 (Nat.pow_le_pow_right (by decide) l), r⟩
theorem Szb.sub {a : Nat} {xs ys : List Rat} (h : Szb a xs) (s : ∀ y ∈ ys, y ∈ xs) : Szb a ys := by
  obtain ⟨D, M, d0, d1, m1, r⟩ := h
  exact ⟨D, M, d0, d1, m1, fun y hy => r y (s y hy)⟩
theorem mul_pow {a b i j : Nat} (ha : a < 2 ^ i) (hb : b < 2 ^ j) : a * b < 2 ^ (i + j) := by
  rw [Nat.pow_add]
  exact Nat.mul_lt_mul'' ha hb
theorem Szb.append {a b : Nat} {xs ys : List Rat} (h : Szb a xs) (h' : Szb b ys) : Szb (a + b) (xs ++ ys) := by
  obtain ⟨D, M, d0, d1, m1, r⟩ := h
  obtain ⟨D', M', d0', d1', m1', r'⟩ := h'
  refine ⟨D * D', max (M * D') (M' * D), Nat.mul_pos d0 d0', mul_pow d1 d1', Nat.max_lt.mpr ⟨mul_pow m1 d1', by rw [Nat.add_comm]; exact mul_pow m1' d1⟩, fun x hx => ?_⟩
  rcases List.mem_append.mp hx with hx | hx
  · exact (r x hx).scale.le (Nat.le_max_left _ _)
  · have := (r' x hx).scale (k := D)
    rw [Nat.mul_comm D' D] at this
    exact this.le (Nat.le_max_right _ _)
theorem rep_self {p : Int × Int} (h : Low p) : Rep p.2.natAbs p.1.natAbs (val p) := by
  refine ⟨p.1, ?_, Nat.le_refl _⟩
  have h2 : ((p.2.natAbs : Nat) : Int) = p.2 := by have := h.1; omega
  have h3 : ((p.2.natAbs : Nat) : Rat) = (p.2 : Rat) := by exact_mod_cast congrArg (fun z : Int => (z : Rat)) h2
  have h4 : (p.2 : Rat) ≠ 0 := by
    intro z
    have : p.2 = 0 := by exact_mod_cast z
    have := h.1
    omega
  unfold val
  rw [h3]
  grind
theorem szb_one {a : Nat} {p : Int × Int} (h : Low p) (h1 : p.1.natAbs < 2 ^ a) (h2 : p.2.natAbs < 2 ^ a) : Szb a [val p] := by
  refine ⟨p.2.natAbs, p.1.natAbs, by have := h.1; omega, h2, h1, fun x hx => ?_⟩
  rw [List.mem_singleton.mp hx]
  exact rep_self h
theorem szb_all {a : Nat} (a1 : 1 ≤ a) : ∀ {xs : List Rat}, (∀ x ∈ xs, Szb a [x]) → Szb (a * xs.length + 1) xs
  | [], _ => Szb.nil.mono (by omega)
  | x :: xs, h => by
    have := (h x (List.mem_cons_self ..)).append (szb_all a1 (xs := xs) fun y hy => h y (List.mem_cons_of_mem _ hy))
    exact this.mono (by rw [List.length_cons, Nat.mul_succ]; omega)
namespace WebD
variable {w : WebD}
/-- strengths of the web, whole above Z, at most B; their inverses too -/
structure SzZ (w : WebD) (Z B Zi Bi : Nat) : Prop where
  z0 : 0 < Z
  i0 : 0 < Zi
  z1 : Z < 2 ^ 600
  b1 : B < 2 ^ 600
  i1 : Zi < 2 ^ 600
  bi1 : Bi < 2 ^ 600
  z : ∀ a, w.IsArm a → Rep Z B (w.armZ a) ∧ Rep Zi Bi (1 / w.armZ a)
theorem rep_getD {D M : Nat} {x : List Rat} {i : Nat} (h : ∀ y ∈ x, Rep D M y) : Rep D M (x[i]?.getD 0) := by
  cases e : x[i]? with
  | none => exact Rep.zero D M
  | some y => exact h y (List.mem_of_getElem? e)
theorem rep_tw {D M : Nat} {y : Rat} {t : Int} (ht : t = 1 ∨ t = -1) (h : Rep D M y) : Rep D M ((t : Rat) * y) := by
  rcases ht with rfl | rfl
  · rw [show ((1 : Int) : Rat) * y = y by rw [show ((1 : Int) : Rat) = 1 from rfl]; grind]
    exact h
  · rw [show ((-1 : Int) : Rat) * y = -y by rw [show ((-1 : Int) : Rat) = -1 from rfl]; grind]
    exact h.neg
theorem rep_arr (ok : w.Ok) {D M : Nat} {x u : List Rat} (hx : ∀ y ∈ x, Rep D M y) (hu : ∀ y ∈ u, Rep D M y) {a : Arm} (ha : w.IsArm a) : Rep D M (w.arr x u a) := by
  obtain ⟨s, i⟩ := a
  cases s with
  | ea => exact rep_getD hu
  | st => exact rep_tw (ok.tw _ (rod_mem ha)) (rep_getD hx)
  | en => exact rep_tw (ok.tw _ (rod_mem ha)) (rep_getD hx)
theorem szj (ok : w.Ok) {Z B Zi Bi D M : Nat} {x u : List Rat} (s : w.SzZ Z B Zi Bi) (d0 : 0 < D) (d1 : D < 2 ^ 2600) (m1 : M < 2 ^ 2600) (hx : ∀ y ∈ x, Rep D M y) (hu : ∀ y ∈ u, Rep D M y) (j : Nat) :
    SzJ Z B Zi Bi D M (w.zsAt j) ((w.armsAt j).map (w.arr x u)) where
  len := by unfold zsAt; rw [List.length_map, List.length_map]
  n := by unfold zsAt; rw [List.length_map]; have := armsAt_len (w := w) (j := j); have := ok.m; have := ok.e; omega
  z0 := s.z0
  i0 := s.i0
  d0 := d0
  z1 := s.z1
  b1 := s.b1
  i1 := s.i1
  bi1 := s.bi1
  d1 := d1
  m1 := m1
  pos := fun z hz => by
    obtain ⟨a, ha, rfl⟩ := List.mem_map.mp hz
    exact armZ_pos ok (armsAt_mem ha).1
  zs_ := fun z hz => by
    obtain ⟨a, ha, rfl⟩ := List.mem_map.mp hz
    exact (s.z a (armsAt_mem ha).1).1
  iz := fun z hz => by
    obtain ⟨a, ha, rfl⟩ := List.mem_map.mp hz
    exact (s.z a (armsAt_mem ha).1).2
  as_ := fun z hz => by
    obtain ⟨a, ha, rfl⟩ := List.mem_map.mp hz
    exact rep_arr ok hx hu (armsAt_mem ha).1
/-- one joint: by what the common bottom grows (all level) -/
theorem lv_rep1 (ok : w.Ok) (p : w.Plain) {Z B Zi Bi D M : Nat} {x u : List Rat} (s : w.SzZ Z B Zi Bi) (d0 : 0 < D) (d1 : D < 2 ^ 2600) (m1 : M < 2 ^ 2600) (hx : ∀ y ∈ x, Rep D M y) (hu : ∀ y ∈ u, Rep D M y) {b : Nat} (b0 : 0 < b) (b20 : 20 * B < 2 ^ b) (j : Nat) :
    ∃ G : Nat, 0 < G ∧ G < 2 ^ b ∧ ∀ a, w.IsArm a → w.armJ a = j → Rep (D * G) (M * 2 ^ (b + 2)) (w.lv x u a) := by
  by_cases h : w.zsAt j = []
  · refine ⟨1, by decide, Nat.one_lt_two_pow (by omega), fun a ha e => ?_⟩
    have hm := mem_armsAt ha
    rw [e] at hm
    unfold zsAt at h
    rw [List.map_eq_nil_iff] at h
    rw [h] at hm
    simp at hm
  · have sj := szj ok s d0 d1 m1 hx hu j
    obtain ⟨G, g0, g1, r⟩ := level_rep sj h
    have n20 : (w.zsAt j).length ≤ 20 := sj.n
    have nB : (w.zsAt j).length * B ≤ 20 * B := Nat.mul_le_mul_right _ n20
    refine ⟨G, g0, by omega, fun a ha e => ?_⟩
    have ra := (rep_arr ok hx hu ha).scale (k := G)
    rw [lv_plain p, e]
    refine (r.subR ra).le ?_
    have e1 : 2 * ((w.zsAt j).length * (B * M)) + M * G = M * (2 * ((w.zsAt j).length * B) + G) := by
      rw [Nat.mul_add, Nat.mul_left_comm M 2, Nat.mul_comm M ((w.zsAt j).length * B), Nat.mul_assoc]
    rw [e1]
    refine Nat.mul_le_mul_left _ ?_
    rw [Nat.pow_add]
    have : (2 : Nat) ^ 2 = 4 := rfl
    omega
theorem lv_rep2 (ok : w.Ok) (p : w.Plain) {Z B Zi Bi D M : Nat} {x u : List Rat} (s : w.SzZ Z B Zi Bi) (d0 : 0 < D) (d1 : D < 2 ^ 2600) (m1 : M < 2 ^ 2600) (hx : ∀ y ∈ x, Rep D M y) (hu : ∀ y ∈ u, Rep D M y) {b : Nat} (b0 : 0 < b) (b20 : 20 * B < 2 ^ b) :
    ∀ n : Nat, ∃ G : Nat, 0 < G ∧ G < 2 ^ (b * n + 1) ∧ ∀ a, w.IsArm a → w.armJ a < n → Rep (D * G) (M * 2 ^ (b + 2) * G) (w.lv x u a)
  | 0 => ⟨1, by decide, by rw [Nat.mul_zero]; decide, fun a _ h => absurd h (by omega)⟩
  | n + 1 => by
    obtain ⟨G, g0, g1, r⟩ := lv_rep2 ok p s d0 d1 m1 hx hu b0 b20 n
    obtain ⟨G', g0', g1', r'⟩ := lv_rep1 ok p s d0 d1 m1 hx hu b0 b20 n
    refine ⟨G * G', Nat.mul_pos g0 g0', ?_, fun a ha hj => ?_⟩
    · have := mul_pow g1 g1'
      rw [show b * (n + 1) + 1 = b * n + 1 + b by rw [Nat.mul_succ]; omega]
      exact this
    · by_cases e : w.armJ a = n
      · have := (r' a ha e).scale (k := G)
        rw [show D * G' * G = D * (G * G') by rw [Nat.mul_assoc, Nat.mul_comm G' G]] at this
        refine this.le ?_
        rw [← Nat.mul_assoc (M * 2 ^ (b + 2)) G G']
        exact Nat.le_mul_of_pos_right _ g0'
      · have := (r a ha (by omega)).scale (k := G')
        rw [Nat.mul_assoc, Nat.mul_assoc] at this
        exact this
/-- a tick: from a bits to a + (8 b + b + 3) bits -/
theorem tick_szb (ok : w.Ok) (p : w.Plain) {Z B Zi Bi a b : Nat} {x u : List Rat} (s : w.SzZ Z B Zi Bi) (h : Szb a (x ++ u)) (ha : a ≤ 2600) (b0 : 0 < b) (b20 : 20 * B < 2 ^ b) :
    Szb (a + (b * 9 + 3)) (w.new x u ++ w.out x u) := by
  obtain ⟨D, M, d0, d1, m1, r⟩ := h
  have d2 : D < 2 ^ 2600 := Nat.lt_of_lt_of_le d1 (Nat.pow_le_pow_right (by decide) ha)
  have m2 : M < 2 ^ 2600 := Nat.lt_of_lt_of_le m1 (Nat.pow_le_pow_right (by decide) ha)
  have hx : ∀ y ∈ x, Rep D M y := fun y hy => r y (List.mem_append_left _ hy)
  have hu : ∀ y ∈ u, Rep D M y := fun y hy => r y (List.mem_append_right _ hy)
  obtain ⟨G, g0, g1, q⟩ := lv_rep2 ok p s d0 d2 m2 hx hu b0 b20 w.kinds.length
  have g2 : G < 2 ^ (b * 8 + 1) := Nat.lt_of_lt_of_le g1 (Nat.pow_le_pow_right (by decide) (by have := Nat.mul_le_mul_left b ok.n; omega))
  have q' : ∀ c, w.IsArm c → Rep (D * G) (M * 2 ^ (b + 2) * G) (w.lv x u c) := fun c hc => q c hc (armJ_lt ok hc)
  have keep : ∀ y ∈ x, Rep (D * G) (M * 2 ^ (b + 2) * G) y := fun y hy => ((hx y hy).scale (k := G)).le (Nat.mul_le_mul_right _ (Nat.le_mul_of_pos_right _ (Nat.two_pow_pos _)))
  refine ⟨D * G, M * 2 ^ (b + 2) * G, Nat.mul_pos d0 g0, ?_, ?_, fun y hy => ?_⟩
  · exact Nat.lt_of_lt_of_le (mul_pow d1 g2) (Nat.pow_le_pow_right (by decide) (by omega))
  · have e : M * 2 ^ (b + 2) < 2 ^ (a + (b + 2)) := by
      rw [Nat.pow_add 2 a]
      exact Nat.mul_lt_mul_of_pos_right m1 (Nat.two_pow_pos _)
    exact Nat.lt_of_lt_of_le (mul_pow e g2) (Nat.pow_le_pow_right (by decide) (by omega))
  · rcases List.mem_append.mp hy with hy | hy
    · unfold new newTo at hy
      obtain ⟨i, hi, hy⟩ := List.mem_flatMap.mp hy
      have hi := List.mem_range.mp hi
      unfold piece at hy
      rcases List.mem_append.mp hy with hy | hy
      · rcases List.mem_cons.mp hy with rfl | hy
        · exact q' _ hi
        · exact keep _ (List.mem_of_mem_drop (List.mem_of_mem_take hy))
      · rcases List.mem_cons.mp hy with rfl | hy
        · exact q' _ hi
        · exact keep _ (List.mem_of_mem_drop (List.mem_of_mem_take hy))
    · unfold out at hy
      obtain ⟨i, hi, rfl⟩ := List.mem_map.mp hy
      exact q' _ (show i < _ from List.mem_range.mp hi)
end WebD
end KM

set_option Elab.async false
set_option linter.all false
set_option maxRecDepth 100000
set_option maxHeartbeats 4000000
set_option exponentiation.threshold 20000
/-! Webs in memory: what stands where; rules that the program's webs want. -/
namespace Fx
open PySem PySem.Spec PyProof.Rows L2 FM KM
/-- all but r stays -/
def Kp (r : Addr) (H H' : Hp) : Prop := ∀ b o, H b = some o → b ≠ r → H' b = some o
theorem Kp.refl {r : Addr} {H : Hp} : Kp r H H := fun _ _ h _ => h
theorem Kp.trans {r : Addr} {H H1 H2 : Hp} (a : Kp r H H1) (b : Kp r H1 H2) : Kp r H H2 := fun c o h n => b c o (a c o h n) n
theorem Kp.upd {r : Addr} {H H1 : Hp} {o : HO} (a : Kp r H H1) : Kp r H (L2.upd H1 r o) := fun c u h n => by rw [upd_ne n]; exact a c u h n
theorem Kp.ext {r : Addr} {H H1 H2 : Hp} (a : Kp r H H1) (b : Ext H1 H2) : Kp r H H2 := fun c o h n => b c o (a c o h n)
theorem Kp.new {r p : Addr} {H H1 : Hp} {o : HO} (a : Kp r H H1) (hp : H1 p = none) : Kp r H (L2.upd H1 p o) := a.ext (ext1 hp)
theorem Kp.of {r : Addr} {H H1 : Hp} (e : Ext H H1) : Kp r H H1 := fun c o h _ => e c o h
/-! ### slices of a list or a tuple -/
theorem SlR.mono {X : Cx} {r r' : V → Option Int → Option Int → Hp → VK → Prop} (h : SlR X r) (i : ∀ x lo hi H Q, r' x lo hi H Q → r x lo hi H Q) : SlR X r' := fun pins s σ H x v vl vu lo hi sl Q I rx hs pl pu k => h pins s σ H x v vl vu lo hi sl Q I rx hs pl pu (i _ _ _ _ _ k)
theorem cutV_whole {xs : List V} {lo hi : Option Int} (h : HT.sIx xs.length 0 lo = 0 ∧ HT.sIx xs.length xs.length hi = xs.length) : cutV xs lo hi = xs := by
  unfold cutV
  rw [h.1, h.2]
  simp
def rSlB (K : PySem.W.Frag) : V → Option Int → Option Int → Hp → VK → Prop := fun x lo hi H Q => ∃ k a xs, x = .ref a ∧ SqB k K H a xs ∧ ∀ k2 p H', Ext H H' → SqB k2 K H' p (cutV xs lo hi) → Q (.ref p) H'
theorem sl_B {X : Cx} : SlR X (rSlB X.K) := by
  refine SlR.mono (SlR.or sl_list sl_tupA) fun x lo hi H Q h => ?_
  obtain ⟨k, a, xs, rfl, hs, q⟩ := h
  cases k
  · refine .inr ⟨a, xs, rfl, hs, fun w => ?_, fun w p np => ?_⟩
    · exact q false a H Ext.rfl' (by rw [cutV_whole w]; exact hs)
    · exact q false p _ (ext1 np) (SqT.of upd_same)
  · exact .inl ⟨a, xs, rfl, hs, fun p np => q true p _ (ext1 np) (SqL.of upd_same)⟩
theorem sl_BK {X : Cx} {K : PySem.W.Frag} (hK : X.K = K := by rfl) : SlR X (rSlB K) := hK ▸ sl_B
theorem pi_seqK {X : Cx} {K : PySem.W.Frag} {tg l : Expr} {tl : TE} (hl : PE X l tl) (hK : X.K = K := by rfl) : PI X tg l (iSeq K tl) := hK ▸ pi_seq hl
theorem call_tuple_ofK {X : Cx} {K : PySem.W.Frag} (hK : X.K = K := by rfl) : CallR X (.type "tuple") (fun xs H Q => ∃ p ys, xs = [.ref p] ∧ ((SqL K H p ys ∧ ∀ l, H l = none → Q (.ref l) (upd H l (.tup ys))) ∨ (SqT K H p ys ∧ Q (.ref p) H))) := hK ▸ call_tuple_of
theorem call_list_ofK {X : Cx} {K : PySem.W.Frag} (hK : X.K = K := by rfl) : CallR X (.type "list") (fun xs H Q => ∃ p ys, xs = [.ref p] ∧ (SqL K H p ys ∨ SqT K H p ys) ∧ ∀ l, H l = none → Q (.ref l) (upd H l (.lst ys))) := hK ▸ call_list_of
/-! ### a plain def read off a class and called -/
structure BMet (K : PySem.W.Frag) (C : Addr) (mc : Value) (m : Str) (g : Addr) : Prop where
  at_ : PySem.W.findCls K (.ref C) mc m = some (.val (.ref g))
  kp : PySem.W.keepIn K (.ref g) = true
theorem pe_bmethC {X : Cx} {CX : CXT} {k : Nat} {C : Addr} {fd : FuncData} {ps : List Str} {sp : Sp} {E : XK} {pl : Sem Bool} {mc : Value} {g : Addr} {o e : Expr} {es : List Expr} {m : Str} {pos apos : Pos} {ta : TE} {t : TA} (he : PE X o ta) (r : ClX.CRead X.K C mc) (c : BMet X.K C mc m g) (F : FnOk X.prog X.w X.K X.mg X.base CX k g fd ps sp) (hr : Room k X.A) (hb : Binds X.K fd ps []) (hx : Passes CX X E) (ha : PA X (e :: es) t)
    (hst : starEach (e :: es) X.env = (false, eval e X.env) :: starEach es X.env := by rfl) (hpl : (backTo pos (starEach es X.env)).any (·.1) = false := by rfl)
    (ht : eval (.Call (.Attribute o m apos) (e :: es) [] pos) X.env = (do
      let ov ← eval o X.env
      standAt apos.atName
      let (f, first) ← holding [ov] (getMethod ov m pl)
      callWith pos f first (backTo pos (starEach (e :: es) X.env)) (backToKw pos (keywordEach [] X.env))) := by rfl) :
    PE X (.Call (.Attribute o m apos) (e :: es) [] pos) (tSMeth C sp E ta t) := by
  refine ⟨fun pins s σ H Q I h => ?_⟩
  refine PySem.W.methodCall_KW (pl := pl) (thn (he.run pins s σ H _ I h) fun u s1 ⟨x, H1, I1, rx, ex, q⟩ => ?_) ht
  subst ex
  obtain rfl : u = Value.ref C := rx
  refine PySem.W.method_cls I1.kIn r.ga ?_
  refine PySem.W.cls_value I1.kIn r.rd c.at_ rfl ?_
  refine PySem.W.callWith_K (first := []) (h₀ := X.base) I.ok.mod.kin c.kp (thn (ha.run pos pins _ σ H1 _ (I1.tok _) q) fun us s2 ⟨vs, H2, I2, r2, q2⟩ => ⟨I2.kIn, ?_⟩) hst hpl
  exact run_fnA (us := us) (vs := vs) F hr rfl hb hx I2 r2 q2
/-! ### webs in memory -/
def sideS : Side → Str
  | .st => "start"
  | .en => "end"
  | .ea => "ear"
theorem sideS_inj {a b : Side} (h : sideS a = sideS b) : a = b := by
  cases a <;> cases b <;> first | rfl | exact absurd h (by decide +kernel)
def kArm (a : Arm) : List Key := [Sum.inr (sideS a.1), Sum.inl (a.2 : Int)]
theorem kArm_inj {a b : Arm} (h : kArm a = kArm b) : a = b := by
  unfold kArm at h
  injection h with h1 h2
  injection h2 with h2 _
  have e1 := sideS_inj (Sum.inr.inj h1)
  have e2 : (a.2 : Int) = (b.2 : Int) := Sum.inl.inj h2
  exact Prod.ext e1 (by omega)
theorem kArm_V (a : Arm) : (kArm a).map kV = [.str (sideS a.1), .int (a.2 : Int)] := rfl
/-- a tuple, item by item -/
def TupL {β : Type} (R : V → β → Hp → Prop) (v : V) (ys : List β) (H : Hp) : Prop := ∃ a xs, v = .ref a ∧ H a = some (.tup xs) ∧ All2 R xs ys H
theorem moTupL {β : Type} {R : V → β → Hp → Prop} (m : MoX R) : MoX (TupL R) := fun x y H H' e h => by
  obtain ⟨a, xs, h1, h2, h3⟩ := h
  exact ⟨a, xs, h1, e _ _ h2 (fun ys z => by cases z), h3.l m e⟩
def RodV (A : Adr) (v : V) (r : RodD) (H : Hp) : Prop := ∃ a s, v = .ref a ∧ H a = some (.tup [.int (r.st : Int), .int (r.en : Int), .int (r.len : Int), s, .int r.tw]) ∧ FV A s r.z H
theorem moRodV {A : Adr} : MoX (RodV A) := fun x y H H' e h => by
  obtain ⟨a, s, h1, h2, h3⟩ := h
  exact ⟨a, s, h1, e _ _ h2 (fun ys z => by cases z), h3.l e⟩
def EarV (A : Adr) (v : V) (r : EarD) (H : Hp) : Prop := ∃ a s, v = .ref a ∧ H a = some (.tup [.int (r.pl : Int), s]) ∧ FV A s r.z H
theorem moEarV {A : Adr} : MoX (EarV A) := fun x y H H' e h => by
  obtain ⟨a, s, h1, h2, h3⟩ := h
  exact ⟨a, s, h1, e _ _ h2 (fun ys z => by cases z), h3.l e⟩
def ArmV (v : V) (a : Arm) (H : Hp) : Prop := ∃ p, v = .ref p ∧ H p = some (.tup ((kArm a).map kV))
theorem moArmV : MoX ArmV := fun x y H H' e h => by
  obtain ⟨a, h1, h2⟩ := h
  exact ⟨a, h1, e _ _ h2 (fun ys z => by cases z)⟩
def KindV (v : V) (b : Bool) (_ : Hp) : Prop := v = .str (kS b)
theorem moKindV : MoX KindV := fun _ _ _ _ _ h => h
def NatV (v : V) (n : Nat) (_ : Hp) : Prop := v = .int (n : Int)
theorem moNatV : MoX NatV := fun _ _ _ _ _ h => h
/-- the fields of a web -/
def webF (j r e : V) (c : Nat) (s : V) (n : Nat) (f al az cz : V) : List (Str × V) := [("joints", j), ("rods", r), ("ear_list", e), ("cells", .int (c : Int)), ("strengths", s), ("ears", .int (n : Int)), ("first_cells", f), ("arm_lists", al), ("arm_strengths", az), ("cell_strengths", cz)]
/-- a web stands at a -/
structure WebAt (A : Adr) (C : Addr) (H : Hp) (a : Addr) (w : WebD) : Prop where
  ok : w.Ok
  ex : ∃ dx j r e s f al az cz, H a = some (.ins C dx (webF j r e w.cells s w.ears.length f al az cz)) ∧ TupL KindV j w.kinds H ∧ TupL (RodV A) r w.rods H ∧ TupL (EarV A) e w.ears H ∧ TupL (FV A) s w.zs H ∧
    TupL NatV f ((List.range w.rods.length).map w.cellsTo) H ∧ TupL (TupL ArmV) al ((List.range w.kinds.length).map w.armsAt) H ∧ TupL (TupL (FV A)) az ((List.range w.kinds.length).map w.zsAt) H ∧ TupL (FV A) cz w.ws H
theorem WebAt.l {A : Adr} {C : Addr} {H H' : Hp} {a : Addr} {w : WebD} (h : WebAt A C H a w) (e : ExtL H H') : WebAt A C H' a w := by
  obtain ⟨ok, dx, j, r, ee, s, f, al, az, cz, h0, h1, h2, h3, h4, h5, h6, h7, h8⟩ := h
  exact ⟨ok, dx, j, r, ee, s, f, al, az, cz, e _ _ h0 (fun ys z => by cases z), moTupL moKindV _ _ _ _ e h1, moTupL moRodV _ _ _ _ e h2, moTupL moEarV _ _ _ _ e h3, moTupL moFV _ _ _ _ e h4, moTupL moNatV _ _ _ _ e h5, moTupL (moTupL moArmV) _ _ _ _ e h6, moTupL (moTupL moFV) _ _ _ _ e h7, moTupL moFV _ _ _ _ e h8⟩
theorem WebAt.ext {A : Adr} {C : Addr} {H H' : Hp} {a : Addr} {w : WebD} (h : WebAt A C H a w) (e : Ext H H') : WebAt A C H' a w := h.l (Ext.l e)
section
variable {j r e s f al az cz : V} {c n : Nat}
theorem wf_joints : (webF j r e c s n f al az cz).lookup ("joints" : Str) = some j := by simp [webF, List.lookup]
theorem wf_rods : (webF j r e c s n f al az cz).lookup ("rods" : Str) = some r := by
  have q1 : (("rods" : Str) == ("joints" : Str)) = false := by decide +kernel
  simp [webF, List.lookup, q1]
theorem wf_ear_list : (webF j r e c s n f al az cz).lookup ("ear_list" : Str) = some e := by
  have q1 : (("ear_list" : Str) == ("joints" : Str)) = false := by decide +kernel
  have q2 : (("ear_list" : Str) == ("rods" : Str)) = false := by decide +kernel
  simp [webF, List.lookup, q1, q2]
theorem wf_cells : (webF j r e c s n f al az cz).lookup ("cells" : Str) = some (.int (c : Int)) := by
  have q1 : (("cells" : Str) == ("joints" : Str)) = false := by decide +kernel
  have q2 : (("cells" : Str) == ("rods" : Str)) = false := by decide +kernel
  have q3 : (("cells" : Str) == ("ear_list" : Str)) = false := by decide +kernel
  simp [webF, List.lookup, q1, q2, q3]
theorem wf_strengths : (webF j r e c s n f al az cz).lookup ("strengths" : Str) = some s := by
  have q1 : (("strengths" : Str) == ("joints" : Str)) = false := by decide +kernel
  have q2 : (("strengths" : Str) == ("rods" : Str)) = false := by decide +kernel
  have q3 : (("strengths" : Str) == ("ear_list" : Str)) = false := by decide +kernel
  have q4 : (("strengths" : Str) == ("cells" : Str)) = false := by decide +kernel
  simp [webF, List.lookup, q1, q2, q3, q4]
theorem wf_ears : (webF j r e c s n f al az cz).lookup ("ears" : Str) = some (.int (n : Int)) := by
  have q1 : (("ears" : Str) == ("joints" : Str)) = false := by decide +kernel
  have q2 : (("ears" : Str) == ("rods" : Str)) = false := by decide +kernel
  have q3 : (("ears" : Str) == ("ear_list" : Str)) = false := by decide +kernel
  have q4 : (("ears" : Str) == ("cells" : Str)) = false := by decide +kernel
  have q5 : (("ears" : Str) == ("strengths" : Str)) = false := by decide +kernel
  simp [webF, List.lookup, q1, q2, q3, q4, q5]
theorem wf_first_cells : (webF j r e c s n f al az cz).lookup ("first_cells" : Str) = some f := by
  have q1 : (("first_cells" : Str) == ("joints" : Str)) = false := by decide +kernel
  have q2 : (("first_cells" : Str) == ("rods" : Str)) = false := by decide +kernel
  have q3 : (("first_cells" : Str) == ("ear_list" : Str)) = false := by decide +kernel
  have q4 : (("first_cells" : Str) == ("cells" : Str)) = false := by decide +kernel
  have q5 : (("first_cells" : Str) == ("strengths" : Str)) = false := by decide +kernel
  have q6 : (("first_cells" : Str) == ("ears" : Str)) = false := by decide +kernel
  simp [webF, List.lookup, q1, q2, q3, q4, q5, q6]
theorem wf_arm_lists : (webF j r e c s n f al az cz).lookup ("arm_lists" : Str) = some al := by
  have q1 : (("arm_lists" : Str) == ("joints" : Str)) = false := by decide +kernel
  have q2 : (("arm_lists" : Str) == ("rods" : Str)) = false := by decide +kernel
  have q3 : (("arm_lists" : Str) == ("ear_list" : Str)) = false := by decide +kernel
  have q4 : (("arm_lists" : Str) == ("cells" : Str)) = false := by decide +kernel
  have q5 : (("arm_lists" : Str) == ("strengths" : Str)) = false := by decide +kernel
  have q6 : (("arm_lists" : Str) == ("ears" : Str)) = false := by decide +kernel
  have q7 : (("arm_lists" : Str) == ("first_cells" : Str)) = false := by decide +kernel
  simp [webF, List.lookup, q1, q2, q3, q4, q5, q6, q7]
theorem wf_arm_strengths : (webF j r e c s n f al az cz).lookup ("arm_strengths" : Str) = some az := by
  have q1 : (("arm_strengths" : Str) == ("joints" : Str)) = false := by decide +kernel
  have q2 : (("arm_strengths" : Str) == ("rods" : Str)) = false := by decide +kernel
  have q3 : (("arm_strengths" : Str) == ("ear_list" : Str)) = false := by decide +kernel
  have q4 : (("arm_strengths" : Str) == ("cells" : Str)) = false := by decide +kernel
  have q5 : (("arm_strengths" : Str) == ("strengths" : Str)) = false := by decide +kernel
  have q6 : (("arm_strengths" : Str) == ("ears" : Str)) = false := by decide +kernel
  have q7 : (("arm_strengths" : Str) == ("first_cells" : Str)) = false := by decide +kernel
  have q8 : (("arm_strengths" : Str) == ("arm_lists" : Str)) = false := by decide +kernel
  simp [webF, List.lookup, q1, q2, q3, q4, q5, q6, q7, q8]
theorem wf_no {m : Str} (h : m ∉ (["joints", "rods", "ear_list", "cells", "strengths", "ears", "first_cells", "arm_lists", "arm_strengths", "cell_strengths"] : List Str)) : (webF j r e c s n f al az cz).lookup m = none := by
  simp only [List.mem_cons, List.not_mem_nil, or_false, not_or] at h
  have q : ∀ k : Str, m ≠ k → (m == k) = false := fun k z => by simpa using z
  simp [webF, List.lookup, q _ h.1, q _ h.2.1, q _ h.2.2.1, q _ h.2.2.2.1, q _ h.2.2.2.2.1, q _ h.2.2.2.2.2.1, q _ h.2.2.2.2.2.2.1, q _ h.2.2.2.2.2.2.2.1, q _ h.2.2.2.2.2.2.2.2.1, q _ h.2.2.2.2.2.2.2.2.2]
end
/-- what the walk asks of the class Web -/
structure WT (K : PySem.W.Frag) (mg : Str → Option Value) (C : Addr) : Prop where
  cl : Cls K C
  mgC : mg "Web" = some (.ref C)
  tC : ∃ mc, PySem.W.typeIn K (.ref C) = some mc ∧ ClX.CRead K C mc ∧ (∃ t, ClX.CVal K C mc "MOST_JOINTS" (.int 8) (.int 8 t)) ∧ (∃ t, ClX.CVal K C mc "MOST_RODS" (.int 8) (.int 8 t)) ∧ (∃ t, ClX.CVal K C mc "MOST_EARS" (.int 4) (.int 4 t)) ∧ (∃ t, ClX.CVal K C mc "MOST_CELLS" (.int 24) (.int 24 t))
  n0 : NoAttr K C "joints"
  n1 : NoAttr K C "rods"
  n2 : NoAttr K C "ear_list"
  n3 : NoAttr K C "cells"
  n4 : NoAttr K C "strengths"
  n5 : NoAttr K C "ears"
  n6 : NoAttr K C "first_cells"
  n7 : NoAttr K C "arm_lists"
  n8 : NoAttr K C "arm_strengths"
  n9 : NoAttr K C "cell_strengths"
end Fx

set_option Elab.async false
set_option linter.all false
set_option maxRecDepth 100000
set_option maxHeartbeats 4000000
set_option exponentiation.threshold 20000
namespace Fx
open PySem PySem.Spec PyProof.Rows L2 FM KM
/-! ### the small defs of webs -/
theorem bd_le {n : Int} (h : n.natAbs ≤ 1000) : Bd n := Nat.lt_of_le_of_lt h (by decide)
theorem tcb_of {r : List V → Hp → VK → Prop} {t : TA} {σ : L2.St} {H : Hp} {Q : VK} (h : t σ H fun vs H1 => r vs H1 Q) : tCB r t σ H Q := h
/-- a rod's length -/
def LenV (K : PySem.W.Frag) (v : V) (l : Nat) (H : Hp) : Prop := ∃ p x0 x1 x3 x4, v = .ref p ∧ SqT K H p [x0, x1, .int (l : Int), x3, x4]
theorem LenV.ext {K : PySem.W.Frag} {v : V} {l : Nat} {H H' : Hp} (h : LenV K v l H) (e : Ext H H') : LenV K v l H' := let ⟨p, a, b, c, d, h1, h2⟩ := h; ⟨p, a, b, c, d, h1, SqT.ext h2 e⟩
section
variable {P : Program} {w : World} {K : PySem.W.Frag} {mg : Str → Option Value} {base : Heap} {A : Adr} {CW : Addr}
theorem scRt : FnScope ["rod"] ["rod"] (defScope (top 63)) := ⟨rfl, rfl, rfl, by decide +kernel, rfl, by decide +kernel, by decide +kernel⟩
def spRt (K : PySem.W.Frag) : Sp := fun vs H Q _ => ∃ a xs, vs = [.ref a] ∧ SqT K H a xs ∧ ((xs.length = 4 ∧ ∀ p, H p = none → Q (.ref p) (upd H p (.tup (xs ++ [.int 1])))) ∨ (xs.length = 5 ∧ Q (.ref a) H))
theorem ok_Rt {f : Addr} {fd : FuncData} (F : Fun K "rod_with_twist" "rod_with_twist" (top 63) f fd) (le : mg "len" = none) (tu : mg "tuple" = none) : FnOk P w K mg base (L2.CX P w) 1 f fd ["rod"] (spRt K) := by
  refine F.okX scRt (fun vs H Q E h => ?_) (fun cdv AA outer s H vs Q E hr h => ?_)
  · obtain ⟨a, xs, rfl, _⟩ := h; rfl
  · obtain ⟨a, xs, rfl, hs, h⟩ := h
    refine ⟨_, (pss_cons (ps_if (pt_cmpR L2.op_eq (pe_callB call_len_seq (by rfl) le PySem.boot_len (pa_cons (pv 0) pa_nil)) pe_int (nomark _)) (pss_one (ps_ret (pe_tup (StX.pa_star (pv 0) (pa_cons pe_int pa_nil))))) pss_nil)
      (pss_one (ps_ret (pe_callTy call_tuple_of (by rfl) tu boot_tuple (pa_cons (pv 0) pa_nil))))), ?_⟩
    refine ⟨_, rfl, a, xs, rfl, .inr hs, rfl, _, rfl, ?_⟩
    rcases h with ⟨h4, q⟩ | ⟨h5, q⟩
    · refine if_D (fun _ => ?_) (fun z => absurd (by rw [h4]; rfl) z)
      exact ⟨_, rfl, a, xs, rfl, .inl hs, by rw [List.length_append, h4]; show 5 ≤ sizeLine; decide, fun p np => q p np⟩
    · refine if_D (fun z => ?_) (fun _ => ?_)
      · injection z with z; omega
      · exact ⟨_, rfl, a, xs, rfl, .inr ⟨hs, q⟩⟩
theorem scCc2 : FnScope ["rods", "_", "length"] ["rods"] (defScope (top 64)) := ⟨rfl, rfl, rfl, by decide +kernel, rfl, by decide +kernel, by decide +kernel⟩
def spCo2 (K : PySem.W.Frag) : Sp := fun vs H Q _ => ∃ k a xs ls, vs = [.ref a] ∧ SqB k K H a xs ∧ All2 (LenV K) xs ls H ∧ ls.length ≤ 1000 ∧ (∀ l ∈ ls, l ≤ 12) ∧ ∀ H', Ext H H' → Q (.int (((ls.map fun l => 2 * l).sum : Nat) : Int)) H'
theorem sum_cast (ls : List Nat) : (ls.map fun l : Nat => (2 * (l : Int))).sum = (((ls.map fun l => 2 * l).sum : Nat) : Int) := by
  induction ls with
  | nil => rfl
  | cons l ls ih => rw [List.map_cons, List.sum_cons, ih, List.map_cons, List.sum_cons]; push_cast; rfl
theorem ok_Cc2 {f : Addr} {fd : FuncData} (F : Fun K "cell_count" "cell_count" (top 64) f fd) (su : mg "sum" = none) : FnOk P w K mg base (L2.CX P w) 1 f fd ["rods"] (spCo2 K) := by
  refine F.okX scCc2 (fun vs H Q E h => ?_) (fun cdv AA outer s H vs Q E hr h => ?_)
  · obtain ⟨k, a, xs, ls, rfl, _⟩ := h; rfl
  · obtain ⟨k, a, xs, ls, rfl, hs, hx, hn, hl, q⟩ := h
    refine ⟨_, (pss_one (ps_ret (pe_callB (cr_sum rfl) (by rfl) su boot_sumX (pa_cons (pe_lc (own := [("_", 1), ("length", 2)]) (g := (gTup K 5 (gCons (gName 1) (gCons (gName 1) (gCons (gName 2) (gCons (gName 1) (gCons (gName 1) gNil))))))) rfl scCc2.nd (pi_seq (pv 0)) (blkOk_by (own := [("_", 1), ("length", 2)]) (N := ["rods", "_", "length"]) (sc := defScope (top 64)) (by decide +kernel)) (fun _ _ _ _ _ => (pg_tup rfl (pgs_cons (pg_name (i := 1) scCc2.nd rfl (Or.inl rfl)) (pgs_cons (pg_name (i := 1) scCc2.nd rfl (Or.inl rfl)) (pgs_cons (pg_name (i := 2) scCc2.nd rfl (Or.inl rfl)) (pgs_cons (pg_name (i := 1) scCc2.nd rfl (Or.inl rfl)) (pgs_cons (pg_name (i := 1) scCc2.nd rfl (Or.inl rfl)) pgs_nil))))))) (fun _ _ _ _ _ => pts_nil) (fun _ _ _ _ _ => (pe_op op_mulW pe_int (pv 2)))) pa_nil)))), ?_⟩
    refine tret_of ?_
    refine tcb_of ?_
    refine tcons_of ?_
    refine tlc_X (R := fun (x : V) (n : Int) (_ : Hp) => x = .int n) (ys := ls.map fun l : Nat => (2 * (l : Int))) (H1 := H) (by rw [List.length_map, ← hx.1]; exact walk_S (K := K) (k := k) (a := a) (xs := xs)) (fun R r => ⟨_, rfl, k, a, xs, rfl, hs, r⟩) moInt (by rw [List.length_map, sizeLine_eq]; omega) (fun H2 e => hs.ext e) ?_ (gm_tup (gms_cons gm_name (gms_cons gm_name (gms_cons gm_name (gms_cons gm_name (gms_cons gm_name gms_nil)))))) fun D us H3 nD e3 hD hu => ?_
    · rintro i x H2 _ y hy e ⟨rfl, hxi⟩ Qy kk
      rw [List.getElem?_map] at hy
      obtain ⟨l, hl', rfl⟩ := Option.map_eq_some_iff.mp hy
      obtain ⟨p, x0, x1, x3, x4, rfl, hp⟩ := (hx.2 i x l hxi hl').ext e
      have h12 := hl l (List.mem_of_getElem? hl')
      refine ⟨p, _, rfl, hp, rfl, _, _, rfl, _, _, rfl, _, _, rfl, _, _, rfl, _, _, rfl, rfl, rfl, ?_⟩
      exact ⟨_, rfl, _, _, rfl, rfl, (bd_le (by decide)).cm (bd_le (by omega)), kk _ _ Ext.rfl' rfl⟩
    · have eu := ints_eq hu
      subst eu
      refine ⟨D, _, rfl, SqL.of hD, ?_⟩
      rw [sum_cast]
      exact q _ e3
theorem scCce : FnScope ["count"] ["count"] (defScope (top 65)) := ⟨rfl, rfl, rfl, by decide +kernel, rfl, by decide +kernel, by decide +kernel⟩
def spCce : Sp := fun vs H Q _ => ∃ n : Int, vs = [.int n] ∧ n ≤ 24 ∧ Q .non H
theorem ok_Cce {f : Addr} {fd : FuncData} (F : Fun K "check_cells" "check_cells" (top 65) f fd) (W_ : WT K mg CW) (hS : LF P w K mg base "check_size" 1 ["size", "most"] spCs) : FnOk P w K mg base (L2.CX P w) 2 f fd ["count"] spCce := by
  refine F.okX scCce (fun vs H Q E h => ?_) (fun cdv AA outer s H vs Q E hr h => ?_)
  · obtain ⟨n, rfl, _⟩ := h; rfl
  · obtain ⟨n, rfl, hn, q⟩ := h
    obtain ⟨fS, gS, cS⟩ := hS
    obtain ⟨fdS, GS, bS⟩ := cS.ex
    obtain ⟨mc, tc, cr, ⟨_, c8⟩, ⟨_, c8r⟩, ⟨_, c4⟩, ⟨_, c24⟩⟩ := W_.tC
    refine ⟨_, (pss_one (ps_expr (pe_call GS (hr.mono (by decide)) rfl gS cS.kp bS .nil (E := E0) passL (pa_cons (pv 0) (pa_cons (ClX.pe_cval (pe_glob (v := .ref CW) (by rfl) W_.mgC rfl)) pa_nil))))), ?_⟩
    exact ⟨_, rfl, CW, mc, _, _, rfl, cr, c24, n, 24, rfl, hn, q⟩
theorem scCjs : FnScope ["joints", "kind"] ["joints"] (defScope (top 66)) := ⟨rfl, rfl, rfl, by decide +kernel, rfl, by decide +kernel, by decide +kernel⟩
def spCjs (K : PySem.W.Frag) : Sp := fun vs H Q _ => ∃ k a xs bs, vs = [.ref a] ∧ SqB k K H a xs ∧ All2 KindV xs bs H ∧ bs.length ≤ 8 ∧ Q .non H
theorem ok_Cjs {f : Addr} {fd : FuncData} (F : Fun K "_check_joints" "_check_joints" (top 66) f fd) (W_ : WT K mg CW) (le : mg "len" = none) (hC : LF P w K mg base "check_count" 1 ["count", "low", "high"] spCc) (hK : LF P w K mg base "check_kind" 1 ["kind"] spCk) : FnOk P w K mg base (L2.CX P w) 2 f fd ["joints"] (spCjs K) := by
  refine F.okX scCjs (fun vs H Q E h => ?_) (fun cdv AA outer s H vs Q E hr h => ?_)
  · obtain ⟨k, a, xs, bs, rfl, _⟩ := h; rfl
  · obtain ⟨k, a, xs, bs, rfl, hs, hx, hn, q⟩ := h
    obtain ⟨fC, gC, cC⟩ := hC
    obtain ⟨fdC, GC, bC⟩ := cC.ex
    obtain ⟨fK, gK, cK⟩ := hK
    obtain ⟨fdK, GK, bK⟩ := cK.ex
    obtain ⟨mc, tc, cr, ⟨_, c8⟩, ⟨_, c8r⟩, ⟨_, c4⟩, ⟨_, c24⟩⟩ := W_.tC
    refine ⟨_, (pss_cons (ps_expr (pe_call GC (hr.mono (by decide)) rfl gC cC.kp bC .nil (E := E0) passL (pa_cons (pe_callB call_len_seq (by rfl) le PySem.boot_len (pa_cons (pv 0) pa_nil)) (pa_cons pe_int (pa_cons (ClX.pe_cval (pe_glob (v := .ref CW) (by rfl) W_.mgC rfl)) pa_nil)))))
      (pss_one (ps_for (passes_of rfl) rfl (pi_seq (pv 0)) (pg_name (i := 1) scCjs.nd rfl (Or.inl rfl)) (pss_one (ps_expr (pe_call GK (hr.mono (by decide)) rfl gK cK.kp bK .nil (E := E0) passL (pa_cons (pv 1) pa_nil))))))), ?_⟩
    refine ⟨_, rfl, a, xs, rfl, sqB_or hs, CW, mc, _, _, rfl, cr, c8, _, 0, 8, rfl, Int.natCast_nonneg _, by rw [hx.1]; omega, ?_⟩
    refine ⟨_, rfl, k, a, xs, rfl, hs, for_it walk_S (fun i σ H' => H' = H ∧ ∃ z, σ = [some (.ref a), z]) ⟨rfl, _, rfl⟩ (fun i σ H' _ e => by rw [e.1]; exact hs) ?_ (fun σ H' e => by rw [e.1]; exact q)⟩
    rintro i x σ _ _ hi ⟨rfl, z, rfl⟩ ⟨rfl, hxi⟩
    obtain ⟨b, hb, hv⟩ := hx.get' hxi
    exact ⟨_, rfl, b, by rw [show x = _ from hv]; rfl, rfl, _, rfl⟩
end
end Fx

set_option Elab.async false
set_option linter.all false
set_option maxRecDepth 100000
set_option maxHeartbeats 4000000
set_option exponentiation.threshold 20000
namespace Fx
open PySem PySem.Spec PyProof.Rows L2 FM KM
/-! ### rods and ears are looked at -/
def RodN (A : Adr) (v : V) (r : RodD) (H : Hp) : Prop := ∃ a s, v = .ref a ∧ H a = some (.tup [.int (r.st : Int), .int (r.en : Int), .int (r.len : Int), s, .int r.tw]) ∧ NV A s r.z H
theorem moRodN {A : Adr} : MoX (RodN A) := fun x y H H' e h => by
  obtain ⟨a, s, h1, h2, h3⟩ := h
  exact ⟨a, s, h1, e _ _ h2 (fun ys z => by cases z), h3.l e⟩
def EarN (A : Adr) (v : V) (r : EarD) (H : Hp) : Prop := ∃ a s, v = .ref a ∧ H a = some (.tup [.int (r.pl : Int), s]) ∧ NV A s r.z H
theorem moEarN {A : Adr} : MoX (EarN A) := fun x y H H' e h => by
  obtain ⟨a, s, h1, h2, h3⟩ := h
  exact ⟨a, s, h1, e _ _ h2 (fun ys z => by cases z), h3.l e⟩
structure RodOk (n : Nat) (r : RodD) : Prop where
  st : r.st < n
  en : r.en < n
  l1 : 1 ≤ r.len
  l2 : r.len ≤ 12
  z : 0 < r.z
  o : Ok4 r.z
  tw : r.tw = 1 ∨ r.tw = -1
structure EarOk (n : Nat) (r : EarD) : Prop where
  pl : r.pl < n
  z : 0 < r.z
  o : Ok4 r.z
theorem RodN.len {A : Adr} {K : PySem.W.Frag} {v : V} {r : RodD} {H : Hp} (h : RodN A v r H) : LenV K v r.len H := let ⟨a, s, h1, h2, _⟩ := h; ⟨a, _, _, s, _, h1, SqT.of h2⟩
theorem RodV.len {A : Adr} {K : PySem.W.Frag} {v : V} {r : RodD} {H : Hp} (h : RodV A v r H) : LenV K v r.len H := let ⟨a, s, h1, h2, _⟩ := h; ⟨a, _, _, s, _, h1, SqT.of h2⟩
theorem all2_lens {A : Adr} {K : PySem.W.Frag} {R : V → RodD → Hp → Prop} (f : ∀ v r H, R v r H → LenV K v r.len H) {xs : List V} {rs : List RodD} {H : Hp} (h : All2 R xs rs H) : All2 (LenV K) xs (rs.map (·.len)) H := h.imp (f := fun r => r.len) (fun x y => f x y H) rfl
section
variable {P : Program} {w : World} {K : PySem.W.Frag} {mg : Str → Option Value} {base : Heap} {A : Adr} {CW : Addr}
theorem scCrs : FnScope ["rods", "joint_count", "start", "end", "length", "strength", "twist"] ["rods", "joint_count"] (defScope (top 67)) := ⟨rfl, rfl, rfl, by decide +kernel, rfl, by decide +kernel, by decide +kernel⟩
def spCrs (K : PySem.W.Frag) (A : Adr) : Sp := fun vs H Q _ => ∃ k a xs rs n, vs = [.ref a, .int (n : Nat)] ∧ SqB k K H a xs ∧ All2 (RodN A) xs rs H ∧ rs.length ≤ 8 ∧ (∀ r ∈ rs, RodOk n r) ∧ (rs.map fun r => 2 * r.len).sum ≤ 24 ∧ ∀ H', Ext H H' → Q .non H'
theorem ok_Crs {f : Addr} {fd : FuncData} (F : Fun K "_check_rods" "_check_rods" (top 67) f fd) (W_ : WT K mg CW) (le : mg "len" = none) (hC : LF P w K mg base "check_count" 1 ["count", "low", "high"] spCc) (hJ : LF P w K mg base "check_joint" 1 ["joint", "count"] spCj) (hR : LF P w K mg base "check_rod_length" 1 ["length"] spCr) (hG : LF P w K mg base "check_strength" 5 ["strength"] (spCg A)) (hT : LF P w K mg base "check_twist" 1 ["twist"] spCt) (hE : LF P w K mg base "check_cells" 2 ["count"] spCce) (hN : LF P w K mg base "cell_count" 1 ["rods"] (spCo2 K)) : FnOk P w K mg base (L2.CX P w) 6 f fd ["rods", "joint_count"] (spCrs K A) := by
  refine F.okX scCrs (fun vs H Q E h => ?_) (fun cdv AA outer s H vs Q E hr h => ?_)
  · obtain ⟨k, a, xs, rs, n, rfl, _⟩ := h; rfl
  · obtain ⟨k, a, xs, rs, n, rfl, hs, hx, hn, hok, hsum, q⟩ := h
    obtain ⟨fC, gC, cC⟩ := hC
    obtain ⟨fdC, GC, bC⟩ := cC.ex
    obtain ⟨fJ, gJ, cJ⟩ := hJ
    obtain ⟨fdJ, GJ, bJ⟩ := cJ.ex
    obtain ⟨fR, gR, cR⟩ := hR
    obtain ⟨fdR, GR, bR⟩ := cR.ex
    obtain ⟨fG, gG, cG⟩ := hG
    obtain ⟨fdG, GG, bG⟩ := cG.ex
    obtain ⟨fT, gT, cT⟩ := hT
    obtain ⟨fdT, GT, bT⟩ := cT.ex
    obtain ⟨fE, gE, cE⟩ := hE
    obtain ⟨fdE, GE, bE⟩ := cE.ex
    obtain ⟨fN, gN, cN⟩ := hN
    obtain ⟨fdN, GN, bN⟩ := cN.ex
    obtain ⟨mc, tc, cr, ⟨_, c8⟩, ⟨_, c8r⟩, ⟨_, c4⟩, ⟨_, c24⟩⟩ := W_.tC
    refine ⟨_, (pss_cons (ps_expr (pe_call GC (hr.mono (by decide)) rfl gC cC.kp bC .nil (E := E0) passL (pa_cons (pe_callB call_len_seq (by rfl) le PySem.boot_len (pa_cons (pv 0) pa_nil)) (pa_cons pe_int (pa_cons (ClX.pe_cval (pe_glob (v := .ref CW) (by rfl) W_.mgC rfl)) pa_nil)))))
      (pss_cons (ps_for (passes_of rfl) rfl (pi_seq (pv 0)) (pg_tup rfl (pgs_cons (pg_name (i := 2) scCrs.nd rfl (Or.inl rfl)) (pgs_cons (pg_name (i := 3) scCrs.nd rfl (Or.inl rfl)) (pgs_cons (pg_name (i := 4) scCrs.nd rfl (Or.inl rfl)) (pgs_cons (pg_name (i := 5) scCrs.nd rfl (Or.inl rfl)) (pgs_cons (pg_name (i := 6) scCrs.nd rfl (Or.inl rfl)) pgs_nil)))))) (pss_cons (ps_expr (pe_call GJ (hr.mono (by decide)) rfl gJ cJ.kp bJ .nil (E := E0) passL (pa_cons (pv 2) (pa_cons (pv 1) pa_nil))))
      (pss_cons (ps_expr (pe_call GJ (hr.mono (by decide)) rfl gJ cJ.kp bJ .nil (E := E0) passL (pa_cons (pv 3) (pa_cons (pv 1) pa_nil))))
      (pss_cons (ps_expr (pe_call GR (hr.mono (by decide)) rfl gR cR.kp bR .nil (E := E0) passL (pa_cons (pv 4) pa_nil)))
      (pss_cons (ps_expr (pe_call GG (hr.mono (by decide)) rfl gG cG.kp bG .nil (E := E0) passL (pa_cons (pv 5) pa_nil)))
      (pss_one (ps_expr (pe_call GT (hr.mono (by decide)) rfl gT cT.kp bT .nil (E := E0) passL (pa_cons (pv 6) pa_nil)))))))))
      (pss_one (ps_expr (pe_call GE (hr.mono (by decide)) rfl gE cE.kp bE .nil (E := E0) passL (pa_cons (pe_call GN (hr.mono (by decide)) rfl gN cN.kp bN .nil (E := E0) passL (pa_cons (pv 0) pa_nil)) pa_nil)))))), ?_⟩
    refine ⟨_, rfl, a, xs, rfl, sqB_or hs, CW, mc, _, _, rfl, cr, c8r, _, 0, 8, rfl, Int.natCast_nonneg _, by rw [hx.1]; omega, ?_⟩
    refine ⟨_, rfl, k, a, xs, rfl, hs, for_it walk_S (fun i σ H' => Ext H H' ∧ ∃ z1 z2 z3 z4 z5, σ = [some (.ref a), some (.int (n : Nat)), z1, z2, z3, z4, z5]) ⟨Ext.rfl', _, _, _, _, _, rfl⟩ (fun i σ H' _ e => hs.ext e.1) ?_ ?_⟩
    · rintro i x σ H1 _ hi ⟨e1, z1, z2, z3, z4, z5, rfl⟩ ⟨rfl, hxi⟩
      obtain ⟨r, hr', hv⟩ := hx.get' hxi
      obtain ⟨p, s, rfl, hp, hz⟩ := moRodN _ _ _ _ (Ext.l e1) hv
      have ro := hok r (List.mem_of_getElem? hr')
      refine ⟨p, _, rfl, SqT.of hp, rfl, _, _, rfl, _, _, rfl, _, _, rfl, _, _, rfl, _, _, rfl, rfl, ?_⟩
      refine ⟨_, rfl, _, rfl, _, _, rfl, Int.natCast_nonneg _, by have := ro.st; omega, ?_⟩
      refine ⟨_, rfl, _, rfl, _, _, rfl, Int.natCast_nonneg _, by have := ro.en; omega, ?_⟩
      refine ⟨_, rfl, _, rfl, by have := ro.l1; omega, by have := ro.l2; omega, ?_⟩
      refine ⟨_, rfl, s, r.z, rfl, hz, ro.z, ro.o, fun H2 e2 => ?_⟩
      exact ⟨_, rfl, _, rfl, ro.tw, fun H3 e3 => ⟨(e1.trans e2).trans e3, _, _, _, _, _, rfl⟩⟩
    · rintro σ H1 ⟨e1, z1, z2, z3, z4, z5, rfl⟩
      refine ⟨_, rfl, k, a, xs, rs.map (·.len), rfl, hs.ext e1, all2_lens (A := A) (K := K) (fun v r H => RodN.len) (hx.ext moRodN e1), by rw [List.length_map]; omega, fun l hl => ?_, fun H2 e2 => ?_⟩
      · obtain ⟨r, hr', rfl⟩ := List.mem_map.mp hl
        exact (hok r hr').l2
      · refine ⟨_, rfl, ?_, q _ (e1.trans e2)⟩
        rw [List.map_map]
        have e : ((fun l => 2 * l) ∘ fun r : RodD => r.len) = fun r => 2 * r.len := rfl
        rw [e]
        omega
theorem scCes : FnScope ["ears", "joint_count", "joint", "strength"] ["ears", "joint_count"] (defScope (top 68)) := ⟨rfl, rfl, rfl, by decide +kernel, rfl, by decide +kernel, by decide +kernel⟩
def spCes (K : PySem.W.Frag) (A : Adr) : Sp := fun vs H Q _ => ∃ k a xs es n, vs = [.ref a, .int (n : Nat)] ∧ SqB k K H a xs ∧ All2 (EarN A) xs es H ∧ es.length ≤ 4 ∧ (∀ r ∈ es, EarOk n r) ∧ ∀ H', Ext H H' → Q .non H'
theorem ok_Ces {f : Addr} {fd : FuncData} (F : Fun K "_check_ears" "_check_ears" (top 68) f fd) (W_ : WT K mg CW) (le : mg "len" = none) (hC : LF P w K mg base "check_count" 1 ["count", "low", "high"] spCc) (hJ : LF P w K mg base "check_joint" 1 ["joint", "count"] spCj) (hG : LF P w K mg base "check_strength" 5 ["strength"] (spCg A)) : FnOk P w K mg base (L2.CX P w) 6 f fd ["ears", "joint_count"] (spCes K A) := by
  refine F.okX scCes (fun vs H Q E h => ?_) (fun cdv AA outer s H vs Q E hr h => ?_)
  · obtain ⟨k, a, xs, es, n, rfl, _⟩ := h; rfl
  · obtain ⟨k, a, xs, es, n, rfl, hs, hx, hn, hok, q⟩ := h
    obtain ⟨fC, gC, cC⟩ := hC
    obtain ⟨fdC, GC, bC⟩ := cC.ex
    obtain ⟨fJ, gJ, cJ⟩ := hJ
    obtain ⟨fdJ, GJ, bJ⟩ := cJ.ex
    obtain ⟨fG, gG, cG⟩ := hG
    obtain ⟨fdG, GG, bG⟩ := cG.ex
    obtain ⟨mc, tc, cr, ⟨_, c8⟩, ⟨_, c8r⟩, ⟨_, c4⟩, ⟨_, c24⟩⟩ := W_.tC
    refine ⟨_, (pss_cons (ps_expr (pe_call GC (hr.mono (by decide)) rfl gC cC.kp bC .nil (E := E0) passL (pa_cons (pe_callB call_len_seq (by rfl) le PySem.boot_len (pa_cons (pv 0) pa_nil)) (pa_cons pe_int (pa_cons (ClX.pe_cval (pe_glob (v := .ref CW) (by rfl) W_.mgC rfl)) pa_nil)))))
      (pss_one (ps_for (passes_of rfl) rfl (pi_seq (pv 0)) (pg_tup rfl (pgs_cons (pg_name (i := 2) scCes.nd rfl (Or.inl rfl)) (pgs_cons (pg_name (i := 3) scCes.nd rfl (Or.inl rfl)) pgs_nil))) (pss_cons (ps_expr (pe_call GJ (hr.mono (by decide)) rfl gJ cJ.kp bJ .nil (E := E0) passL (pa_cons (pv 2) (pa_cons (pv 1) pa_nil))))
      (pss_one (ps_expr (pe_call GG (hr.mono (by decide)) rfl gG cG.kp bG .nil (E := E0) passL (pa_cons (pv 3) pa_nil)))))))), ?_⟩
    refine ⟨_, rfl, a, xs, rfl, sqB_or hs, CW, mc, _, _, rfl, cr, c4, _, 0, 4, rfl, Int.natCast_nonneg _, by rw [hx.1]; omega, ?_⟩
    refine ⟨_, rfl, k, a, xs, rfl, hs, for_it walk_S (fun i σ H' => Ext H H' ∧ ∃ z1 z2, σ = [some (.ref a), some (.int (n : Nat)), z1, z2]) ⟨Ext.rfl', _, _, rfl⟩ (fun i σ H' _ e => hs.ext e.1) ?_ ?_⟩
    · rintro i x σ H1 _ hi ⟨e1, z1, z2, rfl⟩ ⟨rfl, hxi⟩
      obtain ⟨r, hr', hv⟩ := hx.get' hxi
      obtain ⟨p, s, rfl, hp, hz⟩ := moEarN _ _ _ _ (Ext.l e1) hv
      have ro := hok r (List.mem_of_getElem? hr')
      refine ⟨p, _, rfl, SqT.of hp, rfl, _, _, rfl, _, _, rfl, rfl, ?_⟩
      refine ⟨_, rfl, _, rfl, _, _, rfl, Int.natCast_nonneg _, by have := ro.pl; omega, ?_⟩
      exact ⟨_, rfl, s, r.z, rfl, hz, ro.z, ro.o, fun H2 e2 => ⟨e1.trans e2, _, _, rfl⟩⟩
    · rintro σ H1 ⟨e1, z1, z2, rfl⟩
      exact q _ e1
end
end Fx

set_option Elab.async false
set_option linter.all false
set_option maxRecDepth 100000
set_option maxHeartbeats 4000000
set_option exponentiation.threshold 20000
namespace Fx
open PySem PySem.Spec PyProof.Rows L2 FM KM
/-! ### strengths of cells, arms -/
theorem all2_replicate {β : Type} {R : V → β → Hp → Prop} {x : V} {y : β} {H : Hp} (h : R x y H) (n : Nat) : All2 R (List.replicate n x) (List.replicate n y) H := ⟨by simp, fun i a b p q => by
  rw [List.getElem?_replicate] at p q
  split at p
  · rw [if_pos (by assumption)] at q
    rw [← Option.some.inj p, ← Option.some.inj q]
    exact h
  · simp at p⟩
theorem flat_one (n : Nat) (x : V) : (List.replicate n [x]).flatten = List.replicate n x := by
  induction n with
  | zero => rfl
  | succ n ih => rw [List.replicate_succ, List.flatten_cons, ih, List.replicate_succ]; rfl
theorem kpl {H H1 : Hp} {l : Addr} {o : HO} (hn : H l = none) (e : ∀ b u, H b = some u → H1 b = some u) : ∀ b u, H b = some u → upd H1 l o b = some u := fun b u h => by
  rw [upd_ne (ne_of_none h hn)]
  exact e b u h
section
variable {P : Program} {w : World} {K : PySem.W.Frag} {mg : Str → Option Value} {base : Heap} {A : Adr} {CW : Addr}
theorem scCsg : FnScope ["rods", "out", "_", "length", "strength"] ["rods"] (defScope (top 69)) := ⟨rfl, rfl, rfl, by decide +kernel, rfl, by decide +kernel, by decide +kernel⟩
def spCsg (K : PySem.W.Frag) (A : Adr) : Sp := fun vs H Q _ => ∃ (k : Bool) (a : Addr) (xs : List V) (rs : List RodD), vs = [.ref a] ∧ SqB k K H a xs ∧ All2 (RodV A) xs rs H ∧ rs.length ≤ 8 ∧ (∀ r ∈ rs, r.len ≤ 12) ∧ ∀ t H', Ext H H' → TupL (FV A) (.ref t) (rs.flatMap fun r => List.replicate (2 * r.len) r.z) H' → Q (.ref t) H'
theorem ok_Csg {f : Addr} {fd : FuncData} (F : Fun K "_cell_strengths" "_cell_strengths" (top 69) f fd) (tu : mg "tuple" = none) : FnOk P w K mg base (L2.CX P w) 1 f fd ["rods"] (spCsg K A) := by
  refine F.okX scCsg (fun vs H Q E h => ?_) (fun cdv AA outer s H vs Q E hr h => ?_)
  · obtain ⟨k, a, xs, rs, rfl, _⟩ := h; rfl
  · obtain ⟨k, a, xs, rs, rfl, hs, hx, hn, hok, q⟩ := h
    refine ⟨_, (pss_cons (ps_set (i := 1) scCsg.nd rfl (Or.inl rfl) (pe_lst pa_nil))
      (pss_cons (ps_for (passes_of rfl) rfl (pi_seq (pv 0)) (pg_tup rfl (pgs_cons (pg_name (i := 2) scCsg.nd rfl (Or.inl rfl)) (pgs_cons (pg_name (i := 2) scCsg.nd rfl (Or.inl rfl)) (pgs_cons (pg_name (i := 3) scCsg.nd rfl (Or.inl rfl)) (pgs_cons (pg_name (i := 4) scCsg.nd rfl (Or.inl rfl)) (pgs_cons (pg_name (i := 2) scCsg.nd rfl (Or.inl rfl)) pgs_nil)))))) (pss_one (ps_expr (pe_bm PySem.F.plainAttrs_list PySem.F.slot_list_extend PySem.F.type_list_extend mt_extend (pv 1) (pa_cons (pe_op L2.op_rep (pe_lst (pa_cons (pv 4) pa_nil)) (pe_op op_mulW pe_int (pv 3))) pa_nil)))))
      (pss_one (ps_ret (pe_callTy call_tuple_of (by rfl) tu boot_tuple (pa_cons (pv 1) pa_nil)))))), ?_⟩
    refine ⟨by decide, fun l nl => ?_⟩
    refine ⟨_, rfl, k, a, xs, rfl, hs.ext (ext1 nl), for_it walk_S (fun i σ H' => Ext H H' ∧ ∃ us z1 z2 z3, σ = [some (.ref a), some (.ref l), z1, z2, z3] ∧ H' l = some (.lst us) ∧ us.length ≤ 24 * i ∧ All2 (FV A) us ((rs.take i).flatMap fun r => List.replicate (2 * r.len) r.z) H') ⟨ext1 nl, [], _, _, _, rfl, upd_same, Nat.zero_le _, by simpa using All2.nil⟩ (fun i σ H' _ e => hs.ext e.1) ?_ ?_⟩
    · rintro i x σ _ H1 hi ⟨e1, us, z1, z2, z3, rfl, hl, hul, hu⟩ ⟨rfl, hxi⟩
      obtain ⟨r, hr', hv⟩ := hx.get' hxi
      obtain ⟨p, s, rfl, hp, hz⟩ := moRodV _ _ _ _ (Ext.l e1) hv
      have r12 := hok r (List.mem_of_getElem? hr')
      have hi8 : i < 8 := by have := hx.1; omega
      have e5 : (2 * (r.len : Int)).toNat = 2 * r.len := by omega
      refine ⟨p, _, rfl, SqT.of hp, rfl, _, _, rfl, _, _, rfl, _, _, rfl, _, _, rfl, _, _, rfl, rfl, ?_⟩
      refine ⟨_, rfl, .inl ⟨rfl, _, SqL.of hl⟩, _, rfl, (by show 1 ≤ sizeLine; decide), fun m nm => ⟨_, rfl, _, _, rfl, rfl, (bd_le (by decide)).cm (bd_le (by omega)), m, _, _, rfl, rfl, upd_same, by omega, by omega, by rw [e5, sizeLine_eq]; show 1 * (2 * r.len) ≤ _; omega, fun d nd => ?_⟩⟩
      rw [e5, flat_one]
      have lm : l ≠ m := ne_of_none hl nm
      have ld : l ≠ d := ne_of_none (by rw [upd_ne lm]; exact hl) nd
      refine ⟨l, d, us, _, rfl, rfl, by rw [upd_ne ld, upd_ne lm]; exact hl, upd_same, by rw [List.length_replicate, sizeLine_eq]; omega, ?_⟩
      have ee : ExtL H1 (upd (upd (upd H1 m (.lst [s])) d (.lst (List.replicate (2 * r.len) s))) l (.lst (us ++ List.replicate (2 * r.len) s))) := ((Ext.l (ext1 nm)).trans (Ext.l (ext1 nd))).trans (ExtL.upd (xs := us) (by rw [upd_ne ld, upd_ne lm]; exact hl))
      refine ⟨kpl nl ((e1.trans (ext1 nm)).trans (ext1 nd)), _, _, _, _, rfl, upd_same, by rw [List.length_append, List.length_replicate]; omega, ?_⟩
      have et : rs.take (i + 1) = rs.take i ++ [r] := by rw [List.take_add_one, hr']; rfl
      rw [et, List.flatMap_append]
      refine (hu.l moFV ee).append ?_
      simp only [List.flatMap_cons, List.flatMap_nil, List.append_nil]
      exact all2_replicate (moFV _ _ _ _ ee hz) _
    · rintro σ H1 ⟨e1, us, z1, z2, z3, rfl, hl, hul, hu⟩
      rw [List.take_of_length_le (by rw [hx.1]; exact Nat.le_refl _)] at hu
      exact ⟨_, rfl, l, us, rfl, .inl ⟨SqL.of hl, fun t nt => q t _ (e1.trans (ext1 nt)) ⟨t, us, rfl, upd_same, hu.ext moFV (ext1 nt)⟩⟩⟩
end
end Fx

set_option Elab.async false
set_option linter.all false
set_option maxRecDepth 100000
set_option maxHeartbeats 4000000
set_option exponentiation.threshold 20000
namespace Fx
open PySem PySem.Spec PyProof.Rows L2 FM KM
/-! ### the strength of an arm -/
section
variable {P : Program} {w : World} {K : PySem.W.Frag} {mg : Str → Option Value} {base : Heap} {A : Adr} {CW : Addr}
theorem scAs : FnScope ["web", "arm", "side", "index"] ["web", "arm"] (defScope (top 71)) := ⟨rfl, rfl, rfl, by decide +kernel, rfl, by decide +kernel, by decide +kernel⟩
def spAs (A : Adr) (CW : Addr) : Sp := fun vs H Q _ => ∃ a dx fs rv sv, ∃ w : WebD, ∃ m p, vs = [.ref a, .ref p] ∧ H a = some (.ins CW dx fs) ∧ fs.lookup ("rods" : Str) = some rv ∧ TupL (RodV A) rv w.rods H ∧ fs.lookup ("strengths" : Str) = some sv ∧ TupL (FV A) sv w.zs H ∧ H p = some (.tup ((kArm m).map kV)) ∧ w.IsArm m ∧ ∀ v, FV A v (w.armZ m) H → Q v H
theorem ok_As {f : Addr} {fd : FuncData} (F : Fun K "_arm_strength" "_arm_strength" (top 71) f fd) (W_ : WT K mg CW) : FnOk P w K mg base (L2.CX P w) 1 f fd ["web", "arm"] (spAs A CW) := by
  refine F.okX scAs (fun vs H Q E h => ?_) (fun cdv AA outer s H vs Q E hr h => ?_)
  · obtain ⟨a, dx, fs, rv, sv, w, m, p, rfl, _⟩ := h; rfl
  · obtain ⟨a, dx, fs, rv, sv, w, m, p, rfl, ha, lr, hr1, ls, hs1, hp, hm, q⟩ := h
    refine ⟨_, (pss_cons (ps_asg (pv 1) (pg_tup rfl (pgs_cons (pg_name (i := 2) scAs.nd rfl (Or.inl rfl)) (pgs_cons (pg_name (i := 3) scAs.nd rfl (Or.inl rfl)) pgs_nil))))
      (pss_cons (ps_if (pt_cmpR L2.op_eq (pv 2) pe_str (nomark _)) (pss_one (ps_ret (pe_ix ix_tup (pe_fld (pv 0) rfl) (pv 3) (fun _ _ => rfl)))) pss_nil)
      (pss_one (ps_ret (pe_ix ix_tup (pe_ix ix_tup (pe_fld (pv 0) rfl) (pv 3) (fun _ _ => rfl)) pe_int (fun _ _ => rfl)))))), ?_⟩
    obtain ⟨ra, rx, rfl, hra, hrx⟩ := hr1
    obtain ⟨sa, sx, rfl, hsa, hsx⟩ := hs1
    obtain ⟨sd, i⟩ := m
    refine ⟨_, rfl, p, _, rfl, SqT.of hp, rfl, _, _, rfl, _, _, rfl, rfl, ?_⟩
    refine ⟨_, rfl, rfl, _, rfl, if_D (fun c => ?_) (fun c => ?_)⟩
    · have es : sd = Side.ea := by
        injection c with c
        exact sideS_inj (b := .ea) c
      subst es
      have hi : i < w.ears.length := hm
      have hz : w.zs[i]? = some (w.ear i).z := by
        unfold WebD.zs
        rw [List.getElem?_map, WebD.ear_at hi]
        rfl
      obtain ⟨y, hy, fy⟩ := hsx.get hz
      exact ⟨_, rfl, a, CW, dx, fs, _, rfl, ha, W_.cl, W_.n4, ls, _, rfl, sa, _, _, _, rfl, rfl, SqT.of hsa, atI_nat hy, q y fy⟩
    · have es : sd ≠ Side.ea := fun z => c (by rw [z]; rfl)
      have hi : i < w.rods.length := by
        cases sd with
        | st => exact hm
        | en => exact hm
        | ea => exact absurd rfl es
      have hz : w.armZ (sd, i) = (w.rod i).z := by
        cases sd with
        | st => rfl
        | en => rfl
        | ea => exact absurd rfl es
      obtain ⟨y, hy, b, s, rfl, hb, fs'⟩ := hrx.get (WebD.rod_at hi)
      exact ⟨_, rfl, a, CW, dx, fs, _, rfl, ha, W_.cl, W_.n1, lr, _, rfl, ra, _, _, _, rfl, rfl, SqT.of hra, atI_nat hy, b, _, _, s, rfl, rfl, SqT.of hb, rfl, q s (by rw [hz]; exact fs')⟩
end
end Fx

set_option Elab.async false
set_option linter.all false
set_option maxRecDepth 100000
set_option maxHeartbeats 4000000
set_option exponentiation.threshold 20000
namespace Fx
open PySem PySem.Spec PyProof.Rows L2 FM KM
/-! ### level, plain; the cells of a rod -/
theorem cut_nat {xs : List V} {i n : Nat} (h : i + n ≤ xs.length) : cutV xs (some (i : Int)) (some ((i : Int) + (n : Int))) = (xs.drop i).take n := by
  unfold cutV
  have e : ((i : Int) + (n : Int)) = ((i + n : Nat) : Int) := by push_cast; rfl
  rw [e, HT.sIx_nat, HT.sIx_nat, Nat.min_eq_left h, Nat.min_eq_left (show i ≤ xs.length by omega)]
  congr 1
  omega
theorem cut_last {xs : List V} : cutV xs none (some (-1)) = xs.take (xs.length - 1) := by
  unfold cutV
  have e1 : HT.sIx xs.length 0 none = 0 := rfl
  have e2 : HT.sIx xs.length xs.length (some (-1)) = xs.length - 1 := by
    show (if (-1 : Int) < 0 then ((-1 : Int) + (xs.length : Int)).toNat else min (-1 : Int).toNat xs.length) = _
    rw [if_pos (by decide)]
    omega
  rw [e1, e2]
  simp
section
variable {P : Program} {w : World} {K : PySem.W.Frag} {mg : Str → Option Value} {base : Heap} {A : Adr} {CW : Addr}
theorem bls_eq {H : Hp} {xs : List V} {bs : List Bool} (h : All2 (fun (x : V) (n : Bool) (_ : Hp) => x = .bl n) xs bs H) : xs = bs.map V.bl := by
  refine List.ext_getElem (by simp [h.1]) fun i h1 h2 => ?_
  have hb : i < bs.length := by simpa using h2
  have := h.2 i xs[i] bs[i] (List.getElem?_eq_getElem h1) (List.getElem?_eq_getElem hb)
  rw [this]
  simp
theorem scLvl : FnScope ["self", "kind"] ["self"] (defScope (inClass (top 62) 6)) := ⟨rfl, rfl, rfl, by decide +kernel, rfl, by decide +kernel, by decide +kernel⟩
def spLvl (A : Adr) (CW : Addr) : Sp := fun vs H Q _ => ∃ a w, vs = [.ref a] ∧ WebAt A CW H a w ∧ ∀ H', Ext H H' → Q (.bl (w.kinds.all id)) H'
theorem ok_Lvl {f : Addr} {fd : FuncData} (F : Fun K "level" "Web.level" (inClass (top 62) 6) f fd) (W_ : WT K mg CW) (al : mg "all" = none) : FnOk P w K mg base (L2.CX P w) 1 f fd ["self"] (spLvl A CW) := by
  refine F.okX scLvl (fun vs H Q E h => ?_) (fun cdv AA outer s H vs Q E hr h => ?_)
  · obtain ⟨a, w, rfl, _⟩ := h; rfl
  · obtain ⟨a, w, rfl, hw, q⟩ := h
    refine ⟨_, (pss_one (ps_ret (pe_callB (cr_all rfl) (by rfl) al boot_all (pa_cons (pe_lc (own := [("kind", 1)]) (g := (gName 1)) rfl scLvl.nd (pi_seq (pe_fld (pv 0) rfl)) (blkOk_by (own := [("kind", 1)]) (N := ["self", "kind"]) (sc := defScope (inClass (top 62) 6)) (by decide +kernel)) (fun _ _ _ _ _ => (pg_name (i := 1) scLvl.nd rfl (Or.inl rfl))) (fun _ _ _ _ _ => pts_nil) (fun _ _ _ _ _ => (pe_cmpR L2.op_eq (pv 1) pe_str (nomark _)))) pa_nil)))), ?_⟩
    obtain ⟨ok, dx, j, r, e, sv, fv, al, az, cz, h0, ⟨ja, jx, rfl, hja, hjx⟩, h2, h3, h4, h5, h6, h7, h8⟩ := hw
    refine tret_of ?_
    refine tcb_of ?_
    refine tcons_of ?_
    refine tlc_X (R := fun (x : V) (n : Bool) (_ : Hp) => x = .bl n) (ys := w.kinds) (H1 := H) (by rw [← hjx.1]; exact walk_S (K := K) (k := false) (a := ja) (xs := jx)) (fun R r => ⟨_, rfl, a, CW, dx, _, _, rfl, h0, W_.cl, W_.n0, wf_joints, false, ja, jx, rfl, SqT.of hja, r⟩) (fun _ _ _ _ _ h => h) (by have := ok.n; rw [sizeLine_eq]; omega) (fun H2 e => SqT.of (e _ _ hja)) ?_ gm_name fun D us H3 nD e3 hD hu => ?_
    · rintro i x H2 _ y hy e ⟨rfl, hxi⟩ Qy kk
      have hv : x = .str (kS y) := hjx.2 i x y hxi hy
      subst hv
      refine ⟨rfl, _, rfl, rfl, kk _ _ Ext.rfl' ?_⟩
      cases y <;> rfl
    · refine ⟨D, w.kinds, rfl, SqL.of (by rw [hD]; congr 2; exact bls_eq hu), q _ e3⟩
end
end Fx

set_option Elab.async false
set_option linter.all false
set_option maxRecDepth 100000
set_option maxHeartbeats 4000000
set_option exponentiation.threshold 20000
namespace Fx
open PySem PySem.Spec PyProof.Rows L2 FM KM
/-! ### the cells of a rod -/
/-- the web's fields, open -/
theorem web_open {A : Adr} {CW : Addr} {H : Hp} {a : Addr} {w : WebD} (h : WebAt A CW H a w) : ∃ dx j ra rx e s fa fx al az cz, H a = some (.ins CW dx (webF j (.ref ra) e w.cells s w.ears.length (.ref fa) al az cz)) ∧ H ra = some (.tup rx) ∧ All2 (RodV A) rx w.rods H ∧ H fa = some (.tup fx) ∧ All2 NatV fx ((List.range w.rods.length).map w.cellsTo) H := by
  obtain ⟨ok, dx, j, r, e, sv, fv, al, az, cz, h0, h1, ⟨ra, rx, rfl, hra, hrx⟩, h3, h4, ⟨fa, fx, rfl, hfa, hfx⟩, h6, h7, h8⟩ := h
  exact ⟨dx, j, ra, rx, e, sv, fa, fx, al, az, cz, h0, hra, hrx, hfa, hfx⟩
/-- what the numbers of a rod's cells are -/
def spFb (K : PySem.W.Frag) (A : Adr) (CW : Addr) (off : RodD → Nat) : Sp := fun vs H Q _ => ∃ a k x xs rs, ∃ w : WebD, ∃ i : Nat, vs = [.ref a, .ref x, .int (i : Int)] ∧ WebAt A CW H a w ∧ SqB k K H x xs ∧ All2 (NV A) xs rs H ∧ rs.length = w.cells ∧ i < w.rods.length ∧
  ∀ r us H', H r = none → Ext H H' → H' r = some (.lst us) → All2 (FV A) us ((rs.drop (w.cellsTo i + off (w.rod i))).take (w.rod i).len) H' → Q (.ref r) H'
section
variable {P : Program} {w : World} {K : PySem.W.Frag} {mg : Str → Option Value} {base : Heap} {A : Adr} {CW : Addr}
theorem scFr : FnScope ["self", "state", "rod", "first"] ["self", "state", "rod"] (defScope (inClass (top 62) 14)) := ⟨rfl, rfl, rfl, by decide +kernel, rfl, by decide +kernel, by decide +kernel⟩
theorem ok_Fr {f : Addr} {fd : FuncData} (F : Fun K "forth" "Web.forth" (inClass (top 62) 14) f fd) (W_ : WT K mg CW) (le : mg "len" = none) (hL : LF P w K mg base "check_length" 1 ["numbers", "wanted"] (spCl K)) (hR : LF P w K mg base "check_rod" 1 ["rod", "count"] spCo) (hF : LF P w K mg base "fracs_of" 4 ["numbers"] (spFo K A)) : FnOk P w K mg base (L2.CX P w) 5 f fd ["self", "state", "rod"] (spFb K A CW (fun _ => 0)) := by
  refine F.okX scFr (fun vs H Q E h => ?_) (fun cdv AA outer s H vs Q E hr h => ?_)
  · obtain ⟨a, k, x, xs, rs, w, i, rfl, _⟩ := h; rfl
  · obtain ⟨a, k, x, xs, rs, w, i, rfl, hw, hs, hx, hl, hi, q⟩ := h
    obtain ⟨fL, gL, cL⟩ := hL
    obtain ⟨fdL, GL, bL⟩ := cL.ex
    obtain ⟨fR, gR, cR⟩ := hR
    obtain ⟨fdR, GR, bR⟩ := cR.ex
    obtain ⟨fF, gF, cF⟩ := hF
    obtain ⟨fdF, GF, bF⟩ := cF.ex
    refine ⟨_, (pss_cons (ps_expr (pe_call GL (hr.mono (by decide)) rfl gL cL.kp bL .nil (E := E0) passL (pa_cons (pv 1) (pa_cons (pe_fld (pv 0) rfl) pa_nil))))
      (pss_cons (ps_expr (pe_call GR (hr.mono (by decide)) rfl gR cR.kp bR .nil (E := E0) passL (pa_cons (pv 2) (pa_cons (pe_callB call_len_seq (by rfl) le PySem.boot_len (pa_cons (pe_fld (pv 0) rfl) pa_nil)) pa_nil))))
      (pss_cons (ps_set (i := 3) scFr.nd rfl (Or.inl rfl) (pe_ix ix_tup (pe_fld (pv 0) rfl) (pv 2) (fun _ _ => rfl)))
      (pss_one (ps_ret (pe_call GF (hr.mono (by decide)) rfl gF cF.kp bF .nil (E := E0) passL (pa_cons (pe_slice sl_B (pv 1) (po_some (pv 3)) (po_some (pe_op L2.op_add (pv 3) (pe_ix ix_tup (pe_ix ix_tup (pe_fld (pv 0) rfl) (pv 2) (fun _ _ => rfl)) pe_int (fun _ _ => rfl))))) pa_nil))))))), ?_⟩
    obtain ⟨dx, j, ra, rx, e, sv, fa, fx, al, az, cz, h0, hra, hrx, hfa, hfx⟩ := web_open hw
    have ok := hw.ok
    obtain ⟨y, hy, hfv⟩ := hfx.get (i := i) (y := w.cellsTo i) (by rw [List.getElem?_map, List.getElem?_range hi]; rfl)
    obtain ⟨rv, hrd, p, s9, rfl, hp, hz⟩ := hrx.get (WebD.rod_at hi)
    have c1 := WebD.cellsTo_mono (w := w) hi
    refine ⟨_, rfl, _, rfl, a, CW, dx, _, _, rfl, h0, W_.cl, W_.n3, wf_cells, k, x, xs, by rw [hx.1, hl]; rfl, hs, ?_⟩
    refine ⟨_, rfl, _, rfl, a, CW, dx, _, _, rfl, h0, W_.cl, W_.n1, wf_rods, ra, rx, rfl, .inr (SqT.of hra), _, _, rfl, Int.natCast_nonneg _, by rw [hrx.1]; omega, ?_⟩
    refine ⟨_, rfl, a, CW, dx, _, _, rfl, h0, W_.cl, W_.n6, wf_first_cells, _, rfl, fa, _, _, _, rfl, rfl, SqT.of hfa, atI_nat hy, ?_⟩
    have hy' : y = .int ((w.cellsTo i : Nat) : Int) := hfv
    subst hy'
    refine ⟨_, rfl, _, rfl, _, rfl, _, rfl, _, rfl, a, CW, dx, _, _, rfl, h0, W_.cl, W_.n1, wf_rods, _, rfl, ra, _, _, _, rfl, rfl, SqT.of hra, atI_nat hrd, p, _, _, _, rfl, rfl, SqT.of hp, rfl, _, _, rfl, rfl, _, rfl, k, x, xs, rfl, hs, fun k2 l2 H2 e2 hs2 => ?_⟩
    have ec : cutV xs (some (w.cellsTo i : Int)) (some ((w.cellsTo i : Int) + ((w.rod i).len : Int))) = (xs.drop (w.cellsTo i + 0)).take (w.rod i).len := cut_nat (i := w.cellsTo i) (by rw [hx.1, hl]; omega)
    refine ⟨k2, l2, _, _, rfl, hs2, by rw [ec]; exact ((hx.ext moNV e2).drop _).take _, by rw [List.length_take, List.length_drop, hl]; have := ok.c; omega, fun r us H3 n3 e3 h3 f3 => ?_⟩
    exact q r us H3 (ext_none e2 n3) (e2.trans e3) h3 f3
theorem scBk : FnScope ["self", "state", "rod", "first"] ["self", "state", "rod"] (defScope (inClass (top 62) 15)) := ⟨rfl, rfl, rfl, by decide +kernel, rfl, by decide +kernel, by decide +kernel⟩
theorem ok_Bk {f : Addr} {fd : FuncData} (F : Fun K "backs" "Web.backs" (inClass (top 62) 15) f fd) (W_ : WT K mg CW) (le : mg "len" = none) (hL : LF P w K mg base "check_length" 1 ["numbers", "wanted"] (spCl K)) (hR : LF P w K mg base "check_rod" 1 ["rod", "count"] spCo) (hF : LF P w K mg base "fracs_of" 4 ["numbers"] (spFo K A)) : FnOk P w K mg base (L2.CX P w) 5 f fd ["self", "state", "rod"] (spFb K A CW (fun r => r.len)) := by
  refine F.okX scBk (fun vs H Q E h => ?_) (fun cdv AA outer s H vs Q E hr h => ?_)
  · obtain ⟨a, k, x, xs, rs, w, i, rfl, _⟩ := h; rfl
  · obtain ⟨a, k, x, xs, rs, w, i, rfl, hw, hs, hx, hl, hi, q⟩ := h
    obtain ⟨fL, gL, cL⟩ := hL
    obtain ⟨fdL, GL, bL⟩ := cL.ex
    obtain ⟨fR, gR, cR⟩ := hR
    obtain ⟨fdR, GR, bR⟩ := cR.ex
    obtain ⟨fF, gF, cF⟩ := hF
    obtain ⟨fdF, GF, bF⟩ := cF.ex
    refine ⟨_, (pss_cons (ps_expr (pe_call GL (hr.mono (by decide)) rfl gL cL.kp bL .nil (E := E0) passL (pa_cons (pv 1) (pa_cons (pe_fld (pv 0) rfl) pa_nil))))
      (pss_cons (ps_expr (pe_call GR (hr.mono (by decide)) rfl gR cR.kp bR .nil (E := E0) passL (pa_cons (pv 2) (pa_cons (pe_callB call_len_seq (by rfl) le PySem.boot_len (pa_cons (pe_fld (pv 0) rfl) pa_nil)) pa_nil))))
      (pss_cons (ps_set (i := 3) scBk.nd rfl (Or.inl rfl) (pe_op L2.op_add (pe_ix ix_tup (pe_fld (pv 0) rfl) (pv 2) (fun _ _ => rfl)) (pe_ix ix_tup (pe_ix ix_tup (pe_fld (pv 0) rfl) (pv 2) (fun _ _ => rfl)) pe_int (fun _ _ => rfl))))
      (pss_one (ps_ret (pe_call GF (hr.mono (by decide)) rfl gF cF.kp bF .nil (E := E0) passL (pa_cons (pe_slice sl_B (pv 1) (po_some (pv 3)) (po_some (pe_op L2.op_add (pv 3) (pe_ix ix_tup (pe_ix ix_tup (pe_fld (pv 0) rfl) (pv 2) (fun _ _ => rfl)) pe_int (fun _ _ => rfl))))) pa_nil))))))), ?_⟩
    obtain ⟨dx, j, ra, rx, e, sv, fa, fx, al, az, cz, h0, hra, hrx, hfa, hfx⟩ := web_open hw
    have ok := hw.ok
    obtain ⟨y, hy, hfv⟩ := hfx.get (i := i) (y := w.cellsTo i) (by rw [List.getElem?_map, List.getElem?_range hi]; rfl)
    obtain ⟨rv, hrd, p, s9, rfl, hp, hz⟩ := hrx.get (WebD.rod_at hi)
    have c1 := WebD.cellsTo_mono (w := w) hi
    refine ⟨_, rfl, _, rfl, a, CW, dx, _, _, rfl, h0, W_.cl, W_.n3, wf_cells, k, x, xs, by rw [hx.1, hl]; rfl, hs, ?_⟩
    refine ⟨_, rfl, _, rfl, a, CW, dx, _, _, rfl, h0, W_.cl, W_.n1, wf_rods, ra, rx, rfl, .inr (SqT.of hra), _, _, rfl, Int.natCast_nonneg _, by rw [hrx.1]; omega, ?_⟩
    refine ⟨_, rfl, a, CW, dx, _, _, rfl, h0, W_.cl, W_.n6, wf_first_cells, _, rfl, fa, _, _, _, rfl, rfl, SqT.of hfa, atI_nat hy, ?_⟩
    have hy' : y = .int ((w.cellsTo i : Nat) : Int) := hfv
    subst hy'
    refine ⟨_, rfl, a, CW, dx, _, _, rfl, h0, W_.cl, W_.n1, wf_rods, _, rfl, ra, _, _, _, rfl, rfl, SqT.of hra, atI_nat hrd, p, _, _, _, rfl, rfl, SqT.of hp, rfl, _, _, rfl, rfl, ?_⟩
    refine ⟨_, rfl, _, rfl, _, rfl, _, rfl, _, rfl, a, CW, dx, _, _, rfl, h0, W_.cl, W_.n1, wf_rods, _, rfl, ra, _, _, _, rfl, rfl, SqT.of hra, atI_nat hrd, p, _, _, _, rfl, rfl, SqT.of hp, rfl, _, _, rfl, rfl, _, rfl, k, x, xs, rfl, hs, fun k2 l2 H2 e2 hs2 => ?_⟩
    have ec : cutV xs (some ((w.cellsTo i : Int) + ((w.rod i).len : Int))) (some (((w.cellsTo i : Int) + ((w.rod i).len : Int)) + ((w.rod i).len : Int))) = (xs.drop (w.cellsTo i + (w.rod i).len)).take (w.rod i).len := by rw [show ((w.cellsTo i : Int) + ((w.rod i).len : Int)) = ((w.cellsTo i + (w.rod i).len : Nat) : Int) by push_cast; rfl]; exact cut_nat (i := w.cellsTo i + (w.rod i).len) (by rw [hx.1, hl]; omega)
    refine ⟨k2, l2, _, _, rfl, hs2, by rw [ec]; exact ((hx.ext moNV e2).drop _).take _, by rw [List.length_take, List.length_drop, hl]; have := ok.c; omega, fun r us H3 n3 e3 h3 f3 => ?_⟩
    exact q r us H3 (ext_none e2 n3) (e2.trans e3) h3 f3
end
end Fx

set_option Elab.async false
set_option linter.all false
set_option maxRecDepth 100000
set_option maxHeartbeats 4000000
set_option exponentiation.threshold 20000
namespace Fx
open PySem PySem.Spec PyProof.Rows L2 FM KM
/-! ### what arrives -/
theorem atI_lastE {α : Type} {xs : List α} {v : α} (h0 : 0 < xs.length) (h : xs[xs.length - 1]? = some v) : atI xs (-1) = some v := by
  have hne : xs ≠ [] := fun z => by rw [z] at h0; simp at h0
  have e := List.dropLast_concat_getLast hne
  have e2 : xs.getLast hne = v := by
    rw [List.getLast_eq_getElem]
    rw [List.getElem?_eq_getElem (by omega)] at h
    exact Option.some.inj h
  rw [← e, e2]
  exact atI_last _ _
theorem FV.updT {A : Adr} {x : V} {r : Rat} {H : Hp} {d : Addr} {o u : HO} (h : FV A x r H) (hd : H d = some o) (ho : ∀ C dx fs, o ≠ .ins C dx fs) : FV A x r (upd H d u) := by
  obtain ⟨a, rfl, dx, h⟩ := h
  refine ⟨a, rfl, dx, ?_⟩
  rw [upd_ne]
  · exact h
  · intro z
    rw [z, hd] at h
    exact ho _ _ _ (Option.some.inj h)
/-- a dict of arms -/
def DictA (A : Adr) (H : Hp) (d : Addr) (f : Arm → Rat) (dom : Arm → Prop) (n : Nat) : Prop := ∃ kvs : List (List Key × V), H d = some (.dT kvs) ∧ kvs.length ≤ n ∧ ∀ a, dom a → ∃ v, valV kvs (kArm a) = some v ∧ FV A v (f a) H
theorem DictA.ext {A : Adr} {H H' : Hp} {d : Addr} {f : Arm → Rat} {dom : Arm → Prop} {n : Nat} (h : DictA A H d f dom n) (e : Ext H H') : DictA A H' d f dom n := by
  obtain ⟨kvs, h1, h2, h3⟩ := h
  refine ⟨kvs, e _ _ h1, h2, fun a ha => ?_⟩
  obtain ⟨v, h4, h5⟩ := h3 a ha
  exact ⟨v, h4, h5.ext e⟩
/-- .. lists change -/
theorem DictA.l {A : Adr} {H H' : Hp} {d : Addr} {f : Arm → Rat} {dom : Arm → Prop} {n : Nat} (h : DictA A H d f dom n) (e : ExtL H H') : DictA A H' d f dom n := by
  obtain ⟨kvs, h1, h2, h3⟩ := h
  refine ⟨kvs, e _ _ h1 (fun ys z => by cases z), h2, fun a ha => ?_⟩
  obtain ⟨v, h4, h5⟩ := h3 a ha
  exact ⟨v, h4, h5.l e⟩
theorem DictA.put {A : Adr} {H : Hp} {d b : Addr} {f : Arm → Rat} {dom dom' : Arm → Prop} {n : Nat} {m : Arm} {v : V} (h : DictA A H d f dom n) (hb : H b = some (.tup ((kArm m).map kV))) (hv : FV A v (f m) H) (hd : ∀ a, dom' a → dom a ∨ a = m) (hn : n < 1000) :
    ∃ H', DPut H d (.ref b) v H' ∧ DictA A H' d f dom' (n + 1) ∧ (∀ c, c ≠ d → H' c = H c) := by
  obtain ⟨kvs, h1, h2, h3⟩ := h
  refine ⟨_, DPut.t h1 hb (by rw [sizeLine_eq]; omega), ⟨_, upd_same, ?_, fun a ha => ?_⟩, fun c hc => upd_ne hc⟩
  · have := length_putK kvs (kArm m) v
    omega
  · rw [valV_put]
    by_cases e : a = m
    · subst e
      exact ⟨v, if_pos rfl, hv.updT h1 fun _ _ _ z => by cases z⟩
    · obtain ⟨y, h4, h5⟩ := h3 a ((hd a ha).resolve_right e)
      exact ⟨y, by rw [if_neg fun z => e (kArm_inj z)]; exact h4, h5.updT h1 fun _ _ _ z => by cases z⟩
theorem key_at {H : Hp} {t : Addr} {sd : Side} {i : Nat} : upd H t (.tup [.str (sideS sd), .int (i : Int)]) t = some (.tup ((kArm (sd, i)).map kV)) := upd_same
theorem dom_succ {b : Arm} {i : Nat} (hb : b.1 ≠ Side.ea ∧ b.2 < i + 1) : ((b.1 ≠ Side.ea ∧ b.2 < i) ∨ b = (Side.en, i)) ∨ b = (Side.st, i) := by
  obtain ⟨b1, b2⟩ := b
  rcases Nat.lt_or_ge b2 i with hlt | hge
  · exact .inl (.inl ⟨hb.1, hlt⟩)
  · have eb : b2 = i := by have := hb.2; dsimp only at this; omega
    subst eb
    cases b1 with
    | st => exact .inr rfl
    | en => exact .inl (.inr rfl)
    | ea => exact absurd rfl hb.1
theorem dom_ear {b : Arm} {i n : Nat} (hb : (b.1 ≠ Side.ea ∧ b.2 < n) ∨ (b.1 = Side.ea ∧ b.2 < i + 1)) : ((b.1 ≠ Side.ea ∧ b.2 < n) ∨ (b.1 = Side.ea ∧ b.2 < i)) ∨ b = (Side.ea, i) := by
  rcases hb with hb | ⟨hb1, hb2⟩
  · exact .inl (.inl hb)
  · rcases Nat.lt_or_ge b.2 i with hlt | hge
    · exact .inl (.inr ⟨hb1, hlt⟩)
    · exact .inr (Prod.ext hb1 (by dsimp only; omega))
theorem tnil_of {σ : L2.St} {H : Hp} {Q : List V → Hp → Prop} (h : Q [] H) : tNil σ H Q := h
theorem getD_some {xs : List Rat} {i : Nat} (h : i < xs.length) : xs[i]? = some (xs[i]?.getD 0) := by rw [List.getElem?_eq_getElem h]; rfl
/-- the last of a rod's numbers -/
theorem last_of {A : Adr} {us : List V} {rs : List Rat} {c l : Nat} {H : Hp} (h : All2 (FV A) us ((rs.drop c).take l) H) (hl : 1 ≤ l) (hc : c + l ≤ rs.length) : ∃ v, atI us (-1) = some v ∧ FV A v (rs[c + l - 1]?.getD 0) H := by
  have hn : us.length = l := by rw [h.1, List.length_take, List.length_drop]; omega
  have e : ((rs.drop c).take l)[l - 1]? = some (rs[c + l - 1]?.getD 0) := by
    rw [List.getElem?_take, if_pos (by omega), List.getElem?_drop, show c + (l - 1) = c + l - 1 by omega]
    exact getD_some (by omega)
  obtain ⟨x, hx, hv⟩ := h.get e
  exact ⟨x, atI_lastE (by omega) (by rw [hn]; exact hx), hv⟩
theorem tw_bd {t : Int} (h : t = 1 ∨ t = -1) : Bd t := by rcases h with rfl | rfl <;> exact bd_le (by decide)
/-- all but d stays -/
theorem kpd {H H1 H2 : Hp} {d : Addr} (hn : H d = none) (e : Ext H H1) (h : ∀ c, c ≠ d → H2 c = H1 c) : Ext H H2 := fun b u hb => by
  rw [h b (ne_of_none hb hn)]
  exact e b u hb
section
variable {P : Program} {w : World} {K : PySem.W.Frag} {mg : Str → Option Value} {base : Heap} {A : Adr} {CW : Addr}
theorem scArr : FnScope ["self", "state", "knocks", "out", "rod", "_", "twist", "ear", "number"] ["self", "state", "knocks"] (defScope (inClass (top 62) 17)) := ⟨rfl, rfl, rfl, by decide +kernel, rfl, by decide +kernel, by decide +kernel⟩
def spArr (K : PySem.W.Frag) (A : Adr) (CW : Addr) : Sp := fun vs H Q _ => ∃ a k x xs rs k2 u us ks, ∃ w : WebD, vs = [.ref a, .ref x, .ref u] ∧ WebAt A CW H a w ∧ SqB k K H x xs ∧ All2 (NV A) xs rs H ∧ rs.length = w.cells ∧ SqB k2 K H u us ∧ All2 (NV A) us ks H ∧ ks.length = w.ears.length ∧ (∀ r ∈ rs, Ok4 r) ∧
  ∀ d H', H d = none → Ext H H' → DictA A H' d (w.arr rs ks) w.IsArm 20 → Q (.ref d) H'
theorem ok_Arr {f : Addr} {fd : FuncData} (F : Fun K "_arriving" "Web._arriving" (inClass (top 62) 17) f fd) (W_ : WT K mg CW) (F_ : FA P w K mg base A) (hL : LF P w K mg base "check_length" 1 ["numbers", "wanted"] (spCl K)) {ff fb : Addr} (mF : Meth K CW "forth" ff) (kF : Cal P w K mg base 5 ff ["self", "state", "rod"] (spFb K A CW fun _ => 0)) (mB : Meth K CW "backs" fb) (kB : Cal P w K mg base 5 fb ["self", "state", "rod"] (spFb K A CW fun r => r.len)) (en : mg "enumerate" = none) : FnOk P w K mg base (L2.CX P w) 6 f fd ["self", "state", "knocks"] (spArr K A CW) := by
  refine F.okX scArr (fun vs H Q E h => ?_) (fun cdv AA outer s H vs Q E hr h => ?_)
  · obtain ⟨a, k, x, xs, rs, k2, u, us, ks, w, rfl, _⟩ := h; rfl
  · obtain ⟨a, k, x, xs, rs, k2, u, us, ks, w, rfl, hw, hs, hx, hl, hsu, hu, hul, okx, q⟩ := h
    obtain ⟨fL, gL, cL⟩ := hL
    obtain ⟨fdL, GL, bL⟩ := cL.ex
    obtain ⟨fdF, GF, bF⟩ := kF.ex
    obtain ⟨fdB, GB, bB⟩ := kB.ex
    obtain ⟨fdO, GO, bO⟩ := F_.O.ex
    refine ⟨_, (pss_cons (ps_expr (pe_call GL (hr.mono (by decide)) rfl gL cL.kp bL .nil (E := E0) passL (pa_cons (pv 1) (pa_cons (pe_fld (pv 0) rfl) pa_nil))))
      (pss_cons (ps_expr (pe_call GL (hr.mono (by decide)) rfl gL cL.kp bL .nil (E := E0) passL (pa_cons (pv 2) (pa_cons (pe_fld (pv 0) rfl) pa_nil))))
      (pss_cons (ps_set (i := 3) scArr.nd rfl (Or.inl rfl) (pe_dnewT))
      (pss_cons (ps_for (passes_of rfl) rfl (pi_enumB rfl en (pa_cons (pe_fld (pv 0) rfl) pa_nil)) (pg_tup rfl (pgs_cons (pg_name (i := 4) scArr.nd rfl (Or.inl rfl)) (pgs_cons (pg_tup rfl (pgs_cons (pg_name (i := 5) scArr.nd rfl (Or.inl rfl)) (pgs_cons (pg_name (i := 5) scArr.nd rfl (Or.inl rfl)) (pgs_cons (pg_name (i := 5) scArr.nd rfl (Or.inl rfl)) (pgs_cons (pg_name (i := 5) scArr.nd rfl (Or.inl rfl)) (pgs_cons (pg_name (i := 6) scArr.nd rfl (Or.inl rfl)) pgs_nil)))))) pgs_nil))) (pss_cons (ps_dput (hu_of hr) (pv 3) (pe_tup (pa_cons pe_str (pa_cons (pv 4) pa_nil))) (pe_op (o_rmul F_ (hr.mono (by decide))) (pv 6) (pe_ix ix_list (pe_meth (pv 0) W_.cl mF GF (hr.mono (by decide)) bF .nil (E := E0) passL (pa_cons (pv 1) (pa_cons (pv 4) pa_nil))) (pe_un L2.un_neg pe_int) (fun _ _ => rfl))) rfl)
      (pss_one (ps_dput (hu_of hr) (pv 3) (pe_tup (pa_cons pe_str (pa_cons (pv 4) pa_nil))) (pe_op (o_rmul F_ (hr.mono (by decide))) (pv 6) (pe_ix ix_list (pe_meth (pv 0) W_.cl mB GB (hr.mono (by decide)) bB .nil (E := E0) passL (pa_cons (pv 1) (pa_cons (pv 4) pa_nil))) (pe_un L2.un_neg pe_int) (fun _ _ => rfl))) rfl))))
      (pss_cons (ps_for (passes_of rfl) rfl (pi_enumB rfl en (pa_cons (pv 2) pa_nil)) (pg_tup rfl (pgs_cons (pg_name (i := 7) scArr.nd rfl (Or.inl rfl)) (pgs_cons (pg_name (i := 8) scArr.nd rfl (Or.inl rfl)) pgs_nil))) (pss_one (ps_dput (hu_of hr) (pv 3) (pe_tup (pa_cons pe_str (pa_cons (pv 7) pa_nil))) (pe_smeth (pe_glob (v := .ref A.C) (by rfl) F_.T.mgC rfl) F_.S.cr F_.S.sm F_.T.tC GO (hr.mono (by decide)) bO (E := E0) passL (pa_cons (pv 8) pa_nil)) rfl)))
      (pss_one (ps_ret (pv 3)))))))), ?_⟩
    have ok := hw.ok
    obtain ⟨dx, j, ra, rx, e, sv, fa, fx, al, az, cz, h0, hra, hrx, hfa, hfx⟩ := web_open hw
    refine ⟨_, rfl, _, rfl, a, CW, dx, _, _, rfl, h0, W_.cl, W_.n3, wf_cells, k, x, xs, by rw [hx.1, hl]; rfl, hs, ?_⟩
    refine ⟨_, rfl, _, rfl, a, CW, dx, _, _, rfl, h0, W_.cl, W_.n5, wf_ears, k2, u, us, by rw [hu.1, hul]; rfl, hsu, ?_⟩
    refine fun d nd => ?_
    have okr : ∀ i : Nat, Ok4 (rs[i]?.getD 0) := fun i => by
      cases e : rs[i]? with
      | none => exact ok4_int (n := 0) (by unfold Bd; decide)
      | some y => exact okx y (List.mem_of_getElem? e)
    refine ⟨_, rfl, a, CW, dx, _, _, rfl, (ext1 nd) _ _ h0, W_.cl, W_.n1, wf_rods, false, ra, rx, rfl, SqT.of ((ext1 nd) _ _ hra), for_it walk_enumB (fun i σ H' => Ext H H' ∧ ∃ z4 z5 z6 z7 z8, σ = [some (.ref a), some (.ref x), some (.ref u), some (.ref d), z4, z5, z6, z7, z8] ∧ DictA A H' d (w.arr rs ks) (fun b => b.1 ≠ Side.ea ∧ b.2 < i) (2 * i)) ⟨ext1 nd, _, _, _, _, _, rfl, [], upd_same, Nat.zero_le _, fun b hb => absurd hb.2 (by omega)⟩ (fun i σ H' _ e => SqT.of (e.1 _ _ hra)) ?_ ?_⟩
    · rintro i xx σ H1 H1' hi ⟨e1, z4, z5, z6, z7, z8, rfl, hd⟩ ⟨T, y1, y2, rfl, nT, rfl, hx1, hx2⟩
      dsimp only at hx1 hx2
      cases hx1
      have hi8 : i < 8 := by have := hrx.1; have := ok.m; omega
      have hi' : i < w.rods.length := by rw [← hrx.1]; exact hi
      have c1 := WebD.cellsTo_mono (w := w) hi'
      obtain ⟨r, hr', hv⟩ := hrx.get' hx2
      have er : r = w.rod i := by
        have := WebD.rod_at (w := w) (i := i) hi'
        rw [hr'] at this
        exact Option.some.inj this
      subst er
      obtain ⟨p, s, rfl, hp, hz⟩ := moRodV _ _ _ _ (Ext.l (e1.trans (ext1 (o := .tup [.int (i : Int), y2]) nT))) hv
      refine ⟨T, _, rfl, SqT.of upd_same, rfl, _, _, rfl, _, _, rfl, p, _, rfl, SqT.of hp, rfl, _, _, rfl, _, _, rfl, _, _, rfl, _, _, rfl, _, _, rfl, rfl, rfl, ?_⟩
      have hd0 := hd.ext (ext1 (o := .tup [.int (i : Int), .ref p]) nT)
      have e10 := e1.trans (ext1 (o := .tup [.int (i : Int), .ref p]) nT)
      generalize upd H1 T (.tup [.int (i : Int), .ref p]) = H2 at hd0 e10 hp
      clear hd
      have hd := hd0
      clear hd0
      have hw2 := hw.ext e10
      refine ⟨_, rfl, _, rfl, a, _, _, rfl, hw2.ex.choose_spec.choose_spec.choose_spec.choose_spec.choose_spec.choose_spec.choose_spec.choose_spec.choose_spec.1, wf_no (by decide +kernel), _, rfl, _, rfl, a, k, x, xs, rs, w, i, rfl, hw2, hs.ext e10, hx.ext moNV e10, hl, hi', fun r us H3 n3 e3 h3 f3 => ?_⟩
      obtain ⟨v, hv1, hv2⟩ := last_of f3 (ok.len _ (WebD.rod_mem hi')) (by dsimp only; omega)
      refine ⟨_, rfl, r, _, _, _, rfl, rfl, SqL.of h3, hv1, ?_⟩
      refine ⟨_, _, rfl, hv2, tw_bd (ok.tw _ (WebD.rod_mem hi')), okr _, fun v4 H4 e4 f4 => ?_⟩
      refine ⟨_, rfl, _, rfl, (by show 2 ≤ sizeLine; decide), fun t nt => ?_⟩
      have e05 : Ext H2 (upd H4 t (.tup [.str (sideS Side.en), .int (i : Int)])) := (e3.trans e4).trans (ext1 nt)
      obtain ⟨H5, hp, hd5, hk5⟩ := (hd.ext e05).put (dom' := fun b => (b.1 ≠ Side.ea ∧ b.2 < i) ∨ b = (Side.en, i)) (m := (Side.en, i)) key_at (by
        have := f4.ext (ext1 (o := .tup [.str (sideS Side.en), .int (i : Int)]) nt)
        have z : w.arr rs ks (Side.en, i) = ((w.rod i).tw : Rat) * rs[w.cellsTo i + 0 + (w.rod i).len - 1]?.getD 0 := by
          rw [Nat.add_zero]
          rfl
        rw [z]
        exact this) (fun b hb => hb) (by omega)
      refine ⟨d, H5, rfl, hp, ?_⟩
      have e20 : Ext H H5 := kpd nd (e10.trans e05) hk5
      clear hp hd hw2 e10
      revert e20 hd5
      generalize H5 = H2
      intro hd e10
      have hw2 := hw.ext e10
      refine ⟨_, rfl, _, rfl, a, _, _, rfl, hw2.ex.choose_spec.choose_spec.choose_spec.choose_spec.choose_spec.choose_spec.choose_spec.choose_spec.choose_spec.1, wf_no (by decide +kernel), _, rfl, _, rfl, a, k, x, xs, rs, w, i, rfl, hw2, hs.ext e10, hx.ext moNV e10, hl, hi', fun r us H3 n3 e3 h3 f3 => ?_⟩
      obtain ⟨v, hv1, hv2⟩ := last_of f3 (ok.len _ (WebD.rod_mem hi')) (by dsimp only; omega)
      refine ⟨_, rfl, r, _, _, _, rfl, rfl, SqL.of h3, hv1, ?_⟩
      refine ⟨_, _, rfl, hv2, tw_bd (ok.tw _ (WebD.rod_mem hi')), okr _, fun v4 H4 e4 f4 => ?_⟩
      refine ⟨_, rfl, _, rfl, (by show 2 ≤ sizeLine; decide), fun t nt => ?_⟩
      have e06 : Ext H2 (upd H4 t (.tup [.str (sideS Side.st), .int (i : Int)])) := (e3.trans e4).trans (ext1 nt)
      obtain ⟨H6, hp6, hd6, hk6⟩ := (hd.ext e06).put (dom' := fun b => b.1 ≠ Side.ea ∧ b.2 < i + 1) (m := (Side.st, i)) key_at (by
        have := f4.ext (ext1 (o := .tup [.str (sideS Side.st), .int (i : Int)]) nt)
        have z : w.arr rs ks (Side.st, i) = ((w.rod i).tw : Rat) * rs[w.cellsTo i + (w.rod i).len + (w.rod i).len - 1]?.getD 0 := by
          rw [show w.cellsTo i + (w.rod i).len + (w.rod i).len = w.cellsTo i + 2 * (w.rod i).len by omega]
          rfl
        rw [z]
        exact this) (fun b hb => dom_succ hb) (by omega)
      refine ⟨d, H6, rfl, hp6, kpd nd (e10.trans e06) hk6, _, _, _, _, _, rfl, ?_⟩
      rw [show 2 * (i + 1) = 2 * i + 1 + 1 by omega]
      exact hd6
    · rintro σ H1 ⟨e1, z4, z5, z6, z7, z8, rfl, hd⟩
      rw [hrx.1] at hd
      refine ⟨_, rfl, k2, u, us, rfl, hsu.ext e1, for_it walk_enumB (fun i σ H' => Ext H H' ∧ ∃ z4 z5 z6 z7 z8, σ = [some (.ref a), some (.ref x), some (.ref u), some (.ref d), z4, z5, z6, z7, z8] ∧ DictA A H' d (w.arr rs ks) (fun b => (b.1 ≠ Side.ea ∧ b.2 < w.rods.length) ∨ (b.1 = Side.ea ∧ b.2 < i)) (16 + i)) ⟨e1, _, _, _, _, _, rfl, ?_⟩ (fun i σ H' _ e => hsu.ext e.1) ?_ ?_⟩
      · obtain ⟨kvs, h1, h2, h3⟩ := hd
        exact ⟨kvs, h1, by have := ok.m; omega, fun b hb => h3 b (hb.resolve_right fun z => absurd z.2 (by omega))⟩
      · rintro i xx σ H1 H1' hi ⟨e1, z4, z5, z6, z7, z8, rfl, hd⟩ ⟨T, y1, y2, rfl, nT, rfl, hx1, hx2⟩
        dsimp only at hx1 hx2
        cases hx1
        have hi8 : i < 4 := by have := hu.1; have := ok.e; omega
        obtain ⟨r, hr', hv⟩ := hu.get' hx2
        refine ⟨T, _, rfl, SqT.of upd_same, rfl, _, _, rfl, _, _, rfl, rfl, ?_⟩
        have e10 := e1.trans (ext1 (o := .tup [.int (i : Int), y2]) nT)
        refine ⟨rfl, _, rfl, ?_⟩
        refine tnil_of ?_
        dsimp only
        refine of_of (E := E0) (hv.ext e10) fun v4 H4 e4 f4 => ?_
        refine ⟨_, rfl, _, rfl, (by show 2 ≤ sizeLine; decide), fun t nt => ?_⟩
        have e05 : Ext H1 (upd H4 t (.tup [.str (sideS Side.ea), .int (i : Int)])) := ((ext1 nT).trans e4).trans (ext1 nt)
        obtain ⟨H5, hp, hd5, hk5⟩ := (hd.ext e05).put (dom' := fun b => (b.1 ≠ Side.ea ∧ b.2 < w.rods.length) ∨ (b.1 = Side.ea ∧ b.2 < i + 1)) (m := (Side.ea, i)) key_at (by
          have := f4.ext (ext1 (o := .tup [.str (sideS Side.ea), .int (i : Int)]) nt)
          have z : w.arr rs ks (Side.ea, i) = r := by
            unfold WebD.arr
            dsimp only
            rw [hr']
            rfl
          rw [z]
          exact this) (fun b hb => dom_ear hb) (by omega)
        refine ⟨d, H5, rfl, hp, kpd nd (e1.trans e05) hk5, _, _, _, _, _, rfl, ?_⟩
        rw [show 16 + (i + 1) = 16 + i + 1 by omega]
        exact hd5
      · rintro σ H1 ⟨e1, z4, z5, z6, z7, z8, rfl, hd⟩
        rw [hu.1, hul] at hd
        refine ⟨_, rfl, q d _ nd e1 ?_⟩
        obtain ⟨kvs, h1, h2, h3⟩ := hd
        refine ⟨kvs, h1, by have := ok.e; omega, fun b hb => h3 b ?_⟩
        obtain ⟨b1, b2⟩ := b
        cases b1 with
        | st => exact .inl ⟨(fun z => by cases z), hb⟩
        | en => exact .inl ⟨(fun z => by cases z), hb⟩
        | ea => exact .inr ⟨rfl, hb⟩
end
end Fx

set_option Elab.async false
set_option linter.all false
set_option maxRecDepth 100000
set_option maxHeartbeats 4000000
set_option exponentiation.threshold 20000
namespace Fx
open PySem PySem.Spec PyProof.Rows L2 FM KM
/-! ### a tick -/
/-- what leaves at the arms of a joint, place by place -/
theorem scat_lv {w : WebD} {x u : List Rat} {j i : Nat} {m : Arm} (hm : (w.armsAt j)[i]? = some m) : (scat (w.kind j) (w.zsAt j) ((w.armsAt j).map (w.arr x u)))[i]? = some (w.lv x u m) := by
  have hj := (WebD.armsAt_mem (List.mem_of_getElem? hm)).2
  unfold scat WebD.lv WebD.mid
  rw [hj]
  split
  · rw [List.getElem?_map, List.getElem?_map, hm]
    rfl
  · unfold WebD.zsAt
    rw [List.getElem?_zipWith, List.getElem?_map, List.getElem?_map, hm]
    rfl
def NumF (A : Adr) (K : PySem.W.Frag) (H : Hp) (x : Addr) (rs : List Rat) : Prop := ∃ k xs, SqB k K H x xs ∧ All2 (NV A) xs rs H
theorem web_joints {A : Adr} {CW : Addr} {H : Hp} {a : Addr} {w : WebD} (h : WebAt A CW H a w) : ∃ dx ja jx r e s f la lx za zx cz, H a = some (.ins CW dx (webF (.ref ja) r e w.cells s w.ears.length f (.ref la) (.ref za) cz)) ∧ H ja = some (.tup jx) ∧ All2 KindV jx w.kinds H ∧ H la = some (.tup lx) ∧ All2 (TupL ArmV) lx ((List.range w.kinds.length).map w.armsAt) H ∧ H za = some (.tup zx) ∧ All2 (TupL (FV A)) zx ((List.range w.kinds.length).map w.zsAt) H := by
  obtain ⟨ok, dx, j, r, e, sv, fv, al, az, cz, h0, ⟨ja, jx, rfl, hja, hjx⟩, h2, h3, h4, h5, ⟨la, lx, rfl, hla, hlx⟩, ⟨za, zx, rfl, hza, hzx⟩, h8⟩ := h
  exact ⟨dx, ja, jx, r, e, sv, fv, la, lx, za, zx, cz, h0, hja, hjx, hla, hlx, hza, hzx⟩
theorem fv_nv {A : Adr} {xs : List V} {rs : List Rat} {H : Hp} (h : All2 (FV A) xs rs H) : All2 (NV A) xs rs H := h.imp (f := id) (fun x y h => h.num) (by simp)
/-- sizes of what a tick is handed -/
structure TSz (w : WebD) (rs ks : List Rat) : Prop where
  ex : ∃ Z B Zi Bi D M, w.SzZ Z B Zi Bi ∧ 0 < D ∧ D < 2 ^ 2600 ∧ M < 2 ^ 2600 ∧ (∀ y ∈ rs, Rep D M y) ∧ (∀ y ∈ ks, Rep D M y)
theorem TSz.ok {w : WebD} {rs ks : List Rat} (s : TSz w rs ks) : ∀ r ∈ rs, Ok4 r := by
  obtain ⟨Z, B, Zi, Bi, D, M, _, d0, d1, m1, h, _⟩ := s.ex
  exact fun r hr => ok4_rep (h r hr) d0 (pow_le d1 (by decide)) (pow_le m1 (by decide))
section
variable {P : Program} {w : World} {K : PySem.W.Frag} {mg : Str → Option Value} {base : Heap} {A : Adr} {CW : Addr}
/-- leaving, read: the key's tuple may stand in a later heap -/
def LvD (A : Adr) (H : Hp) (d : Addr) (f : Arm → Rat) (dom : Arm → Prop) : Prop := (∃ n, DictA A H d f dom n) ∧ ∀ m, dom m → ∃ v, (∀ t H', Ext H H' → H' t = some (.tup ((kArm m).map kV)) → DGet H' d (.ref t) (some v)) ∧ FV A v (f m) H
theorem lvd {A : Adr} {H : Hp} {d : Addr} {f : Arm → Rat} {dom : Arm → Prop} {n : Nat} (h : DictA A H d f dom n) : LvD A H d f dom := by
  refine ⟨⟨n, h⟩, fun m hm => ?_⟩
  obtain ⟨kvs, h1, h2, h3⟩ := h
  obtain ⟨v, h4, h5⟩ := h3 m hm
  exact ⟨v, fun t H' e ht => by rw [← h4]; exact DGet.t (e _ _ h1) ht, h5⟩
theorem LvD.l {A : Adr} {H H' : Hp} {d : Addr} {f : Arm → Rat} {dom : Arm → Prop} (h : LvD A H d f dom) (e : ExtL H H') : LvD A H' d f dom := let ⟨⟨_, h⟩, _⟩ := h; lvd (h.l e)
theorem scTk : FnScope ["self", "state", "knocks", "arriving", "leaving", "kind", "arms", "strengths", "numbers", "arm", "number", "new", "rod", "ear"] ["self", "state", "knocks"] (defScope (inClass (top 62) 9)) := ⟨rfl, rfl, rfl, by decide +kernel, rfl, by decide +kernel, by decide +kernel⟩
def spTk (K : PySem.W.Frag) (A : Adr) (CW : Addr) : Sp := fun vs H Q _ => ∃ a k x xs rs k2 u us ks, ∃ w : WebD, vs = [.ref a, .ref x, .ref u] ∧ WebAt A CW H a w ∧ SqB k K H x xs ∧ All2 (NV A) xs rs H ∧ rs.length = w.cells ∧ SqB k2 K H u us ∧ All2 (NV A) us ks H ∧ ks.length = w.ears.length ∧ TSz w rs ks ∧
  ∀ t nl ns ol os H', H t = none → H nl = none → H ol = none → nl ≠ ol → Ext H H' → H' t = some (.tup [.ref nl, .ref ol]) → H' nl = some (.lst ns) → All2 (FV A) ns (w.new rs ks) H' → H' ol = some (.lst os) → All2 (FV A) os (w.out rs ks) H' → Q (.ref t) H'
theorem ok_Tk {f : Addr} {fd : FuncData} (F : Fun K "tick" "Web.tick" (inClass (top 62) 9) f fd) (W_ : WT K mg CW) {ff fb fa : Addr} (mF : Meth K CW "forth" ff) (kF : Cal P w K mg base 5 ff ["self", "state", "rod"] (spFb K A CW fun _ => 0)) (mB : Meth K CW "backs" fb) (kB : Cal P w K mg base 5 fb ["self", "state", "rod"] (spFb K A CW fun r => r.len)) (mR : Meth K CW "_arriving" fa) (kR : Cal P w K mg base 6 fa ["self", "state", "knocks"] (spArr K A CW)) (hS : LF P w K mg base "scatter" 7 ["kind", "strengths", "arriving"] (spSc K A)) (zi : mg "zip" = none) (le : mg "len" = none) (ra : mg "range" = none) : FnOk P w K mg base (L2.CX P w) 8 f fd ["self", "state", "knocks"] (spTk K A CW) := by
  refine F.okX scTk (fun vs H Q E h => ?_) (fun cdv AA outer s H vs Q E hr h => ?_)
  · obtain ⟨a, k, x, xs, rs, k2, u, us, ks, w, rfl, _⟩ := h; rfl
  · obtain ⟨a, k, x, xs, rs, k2, u, us, ks, w, rfl, hw, hs, hx, hl, hsu, hu, hul, sz, q⟩ := h
    obtain ⟨fS, gS, cS⟩ := hS
    obtain ⟨fdS, GS, bS⟩ := cS.ex
    obtain ⟨fdF, GF, bF⟩ := kF.ex
    obtain ⟨fdB, GB, bB⟩ := kB.ex
    obtain ⟨fdR, GR, bR⟩ := kR.ex
    refine ⟨_, (pss_cons (ps_set (i := 3) scTk.nd rfl (Or.inr rfl) (pe_meth (pv 0) W_.cl mR GR (hr.mono (by decide)) bR .nil (E := E0) passL (pa_cons (pv 1) (pa_cons (pv 2) pa_nil))))
      (pss_cons (ps_set (i := 4) scTk.nd rfl (Or.inr rfl) (pe_dnewT))
      (pss_cons (ps_for (passes_of rfl) rfl (pi_zip3 rfl zi (pa_cons (pe_fld (pv 0) rfl) (pa_cons (pe_fld (pv 0) rfl) (pa_cons (pe_fld (pv 0) rfl) pa_nil)))) (pg_tup rfl (pgs_cons (pg_name (i := 5) scTk.nd rfl (Or.inl rfl)) (pgs_cons (pg_name (i := 6) scTk.nd rfl (Or.inl rfl)) (pgs_cons (pg_name (i := 7) scTk.nd rfl (Or.inl rfl)) pgs_nil)))) (pss_cons (ps_set (i := 8) scTk.nd rfl (Or.inl rfl) (pe_call GS (hr.mono (by decide)) rfl gS cS.kp bS .nil (E := E0) passL (pa_cons (pv 5) (pa_cons (pv 7) (pa_cons (pe_lc (own := [("arm", 9)]) (g := (gName 9)) rfl scTk.nd (pi_seq (pv 6)) (blkOk_by (own := [("arm", 9)]) (N := ["self", "state", "knocks", "arriving", "leaving", "kind", "arms", "strengths", "numbers", "arm", "number", "new", "rod", "ear"]) (sc := defScope (inClass (top 62) 9)) (by decide +kernel)) (fun _ _ _ _ _ => (pg_name (i := 9) scTk.nd rfl (Or.inl rfl))) (fun _ _ _ _ _ => pts_nil) (fun _ _ _ _ _ => (pe_dget (hu_of hr) (pv 3) (pv 9) (fun _ _ => rfl)))) pa_nil)))))
      (pss_one (ps_for (passes_of rfl) rfl (pi_zip2 rfl zi (pa_cons (pv 6) (pa_cons (pv 8) pa_nil))) (pg_tup rfl (pgs_cons (pg_name (i := 9) scTk.nd rfl (Or.inl rfl)) (pgs_cons (pg_name (i := 10) scTk.nd rfl (Or.inl rfl)) pgs_nil))) (pss_one (ps_dput (hu_of hr) (pv 4) (pv 9) (pv 10) rfl))))))
      (pss_cons (ps_set (i := 11) scTk.nd rfl (Or.inl rfl) (pe_lst pa_nil))
      (pss_cons (ps_for (passes_of rfl) rfl (pi_range1 rfl ra (pa_cons (pe_callB call_len_seq (by rfl) le PySem.boot_len (pa_cons (pe_fld (pv 0) rfl) pa_nil)) pa_nil)) (pg_name (i := 12) scTk.nd rfl (Or.inl rfl)) (pss_cons (ps_expr (pe_bm PySem.F.plainAttrs_list PySem.F.slot_list_append PySem.F.type_list_append mt_append (pv 11) (pa_cons (pe_dget (hu_of hr) (pv 4) (pe_tup (pa_cons pe_str (pa_cons (pv 12) pa_nil))) (fun _ _ => rfl)) pa_nil)))
      (pss_cons (ps_expr (pe_bm PySem.F.plainAttrs_list PySem.F.slot_list_extend PySem.F.type_list_extend mt_extend (pv 11) (pa_cons (pe_slice sl_list (pe_meth (pv 0) W_.cl mF GF (hr.mono (by decide)) bF .nil (E := E0) passL (pa_cons (pv 1) (pa_cons (pv 12) pa_nil))) po_none (po_some (pe_un L2.un_neg pe_int))) pa_nil)))
      (pss_cons (ps_expr (pe_bm PySem.F.plainAttrs_list PySem.F.slot_list_append PySem.F.type_list_append mt_append (pv 11) (pa_cons (pe_dget (hu_of hr) (pv 4) (pe_tup (pa_cons pe_str (pa_cons (pv 12) pa_nil))) (fun _ _ => rfl)) pa_nil)))
      (pss_one (ps_expr (pe_bm PySem.F.plainAttrs_list PySem.F.slot_list_extend PySem.F.type_list_extend mt_extend (pv 11) (pa_cons (pe_slice sl_list (pe_meth (pv 0) W_.cl mB GB (hr.mono (by decide)) bB .nil (E := E0) passL (pa_cons (pv 1) (pa_cons (pv 12) pa_nil))) po_none (po_some (pe_un L2.un_neg pe_int))) pa_nil))))))))
      (pss_one (ps_ret (pe_tup (pa_cons (pv 11) (pa_cons (pe_lc (own := [("ear", 13)]) (g := (gName 13)) rfl scTk.nd (pi_range1 rfl ra (pa_cons (pe_fld (pv 0) rfl) pa_nil)) (blkOk_by (own := [("ear", 13)]) (N := ["self", "state", "knocks", "arriving", "leaving", "kind", "arms", "strengths", "numbers", "arm", "number", "new", "rod", "ear"]) (sc := defScope (inClass (top 62) 9)) (by decide +kernel)) (fun _ _ _ _ _ => (pg_name (i := 13) scTk.nd rfl (Or.inl rfl))) (fun _ _ _ _ _ => pts_nil) (fun _ _ _ _ _ => (pe_dget (hu_of hr) (pv 4) (pe_tup (pa_cons pe_str (pa_cons (pv 13) pa_nil))) (fun _ _ => rfl)))) pa_nil)))))))))), ?_⟩
    have ok := hw.ok
    have szc := sz
    obtain ⟨Z, B, Zi, Bi, D, M, sZ, d0, d1, m1, hrs, hks⟩ := sz.ex
    obtain ⟨dx, ja, jx, r, e, sv, fv, la, lx, za, zx, cz, h0, hja, hjx, hla, hlx, hza, hzx⟩ := web_joints hw
    refine ⟨_, rfl, a, dx, _, rfl, h0, wf_no (by decide +kernel), _, rfl, _, rfl, a, k, x, xs, rs, k2, u, us, ks, w, rfl, hw, hs, hx, hl, hsu, hu, hul, szc.ok, fun dA H1 nA e1 hdA => ?_⟩
    refine fun dB nB => ?_
    have e2 : Ext H (upd H1 dB (.dT [])) := e1.trans (ext1 nB)
    refine ⟨_, rfl, a, CW, dx, _, _, rfl, e2 _ _ h0, W_.cl, W_.n0, wf_joints, _, rfl, a, CW, dx, _, _, rfl, e2 _ _ h0, W_.cl, W_.n7, wf_arm_lists, _, rfl, a, CW, dx, _, _, rfl, e2 _ _ h0, W_.cl, W_.n8, wf_arm_strengths, false, false, false, ja, la, za, jx, lx, zx, rfl, SqT.of (e2 _ _ hja), SqT.of (e2 _ _ hla), SqT.of (e2 _ _ hza), ?_⟩
    refine for_it (walk_zip3 (n := w.kinds.length) hjx.1 (by rw [hlx.1]; simp) (by rw [hzx.1]; simp)) (fun i σ H' => Ext H1 H' ∧ ∃ z5 z6 z7 z8 z9 z10 z11 z12 z13, σ = [some (.ref a), some (.ref x), some (.ref u), some (.ref dA), some (.ref dB), z5, z6, z7, z8, z9, z10, z11, z12, z13] ∧ DictA A H' dB (w.lv rs ks) (fun m => w.IsArm m ∧ w.armJ m < i) (20 * i)) ⟨ext1 nB, _, _, _, _, _, _, _, _, _, rfl, [], upd_same, Nat.zero_le _, fun m hm => absurd hm.2 (by omega)⟩ (fun i σ H' _ e => ⟨SqT.of (e.1 _ _ (e1 _ _ hja)), SqT.of (e.1 _ _ (e1 _ _ hla)), SqT.of (e.1 _ _ (e1 _ _ hza))⟩) ?_ ?_
    · rintro i xx σ H2 H2' hi ⟨e12, z5, z6, z7, z8, z9, z10, z11, z12, z13, rfl, hlv⟩ ⟨T, x1, y1, z1, rfl, nT, rfl, hx1, hx2, hx3⟩
      dsimp only at hx1 hx2 hx3
      have hi8 : i < 8 := by have := ok.n; omega
      obtain ⟨b, hb, hv1⟩ := hjx.get' hx1
      have hv1 : x1 = .str (kS b) := hv1
      subst hv1
      have hbk : w.kind i = b := by
        unfold WebD.kind
        rw [hb]
        rfl
      obtain ⟨pa, pxs, rfl, hpa, hpx⟩ := (hlx.2 i y1 (w.armsAt i) hx2 (by rw [List.getElem?_map, List.getElem?_range hi]; rfl))
      obtain ⟨pz, pzs, rfl, hpz, hpzs⟩ := (hzx.2 i z1 (w.zsAt i) hx3 (by rw [List.getElem?_map, List.getElem?_range hi]; rfl))
      have alen : (w.armsAt i).length ≤ 20 := by
        have := WebD.armsAt_len (w := w) (j := i)
        have := ok.m
        have := ok.e
        omega
      refine ⟨T, _, rfl, SqT.of upd_same, rfl, _, _, rfl, _, _, rfl, _, _, rfl, rfl, ?_⟩
      have e13 := e12.trans (ext1 (o := .tup [.str (kS b), .ref pa, .ref pz]) nT)
      have hlv3 := hlv.ext (ext1 (o := .tup [.str (kS b), .ref pa, .ref pz]) nT)
      generalize upd H2 T (.tup [.str (kS b), .ref pa, .ref pz]) = H3 at e13 hlv3
      have e03 := e1.trans e13
      refine ⟨_, rfl, _, rfl, ?_⟩
      refine tcons_of ?_
      have hdA3 := lvd (hdA.ext e13)
      refine tlc_X (R := FV A) (ys := (w.armsAt i).map (w.arr rs ks)) (H1 := H3) (by rw [List.length_map, ← hpx.1]; exact walk_S (K := K) (k := false) (a := pa) (xs := pxs)) (fun R r => ⟨_, rfl, false, pa, pxs, rfl, SqT.of (e03 _ _ hpa), r⟩) moFV (by rw [List.length_map, sizeLine_eq]; omega) (fun H4 e => SqT.of (e _ _ (e03 _ _ hpa))) ?_ gm_name fun D4 vs4 H4 n4 e4 h4 f4 => ?_
      · rintro i4 x4 _ H4 y4 hy4 e ⟨rfl, hx4⟩ Qy kk
        rw [List.getElem?_map] at hy4
        obtain ⟨m, hm, rfl⟩ := Option.map_eq_some_iff.mp hy4
        obtain ⟨p, rfl, hp⟩ := hpx.2 i4 x4 m hx4 hm
        obtain ⟨v, hv1, hv2⟩ := hdA3.2 m (WebD.armsAt_mem (List.mem_of_getElem? hm)).1
        exact ⟨rfl, _, rfl, _, rfl, dA, v, rfl, hv1 p _ e (e _ _ (e03 _ _ hp)), kk v _ Ext.rfl' (hv2.ext e)⟩
      have sj := WebD.szj ok sZ d0 d1 m1 hrs hks i
      refine ⟨b, false, pz, pzs, w.zsAt i, true, D4, vs4, (w.armsAt i).map (w.arr rs ks), Z, B, Zi, Bi, D, M, rfl, SqT.of (e4 _ _ (e03 _ _ hpz)), fv_nv (hpzs.ext moFV (e03.trans e4)), SqL.of h4, fv_nv f4, sj, fun rn un H5 n5 e5 h5 f5 => ?_⟩
      have e15 := e13.trans (e4.trans e5)
      have hlv5 := hlv3.ext (e4.trans e5)
      have e05 := e1.trans e15
      refine ⟨_, rfl, _, rfl, false, true, pa, rn, pxs, un, rfl, SqT.of (e05 _ _ hpa), SqL.of h5, ?_⟩
      have ln : un.length = (w.armsAt i).length := by rw [f5.1, scat_len (by rw [List.length_map]; unfold WebD.zsAt; rw [List.length_map]), List.length_map]
      have hB5 : ∃ kvs, H5 dB = some (.dT kvs) := by obtain ⟨kvs, h, _⟩ := hlv5; exact ⟨kvs, h⟩
      obtain ⟨kvs5, hB5⟩ := hB5
      have rB : rn ≠ dB := fun z => by rw [z, hB5] at h5; cases h5
      refine for_it (walk_zip2 (n := (w.armsAt i).length) hpx.1 ln) (fun i2 σ H' => Kp dB H5 H' ∧ Ext H1 H' ∧ ∃ z9 z10, σ = [some (.ref a), some (.ref x), some (.ref u), some (.ref dA), some (.ref dB), some (.str (kS b)), some (.ref pa), some (.ref pz), some (.ref rn), z9, z10, z11, z12, z13] ∧ DictA A H' dB (w.lv rs ks) (fun m => (w.IsArm m ∧ w.armJ m < i) ∨ m ∈ (w.armsAt i).take i2) (20 * i + i2)) ⟨Kp.refl, e15, _, _, rfl, ?_⟩ (fun i2 σ H' _ q => ⟨SqT.of (q.2.1 _ _ (e1 _ _ hpa)), SqL.of (q.1 _ _ h5 rB)⟩) ?_ ?_
      · obtain ⟨kvs, h1, h2, h3⟩ := hlv5
        exact ⟨kvs, h1, h2, fun m hm => h3 m (hm.resolve_right (by simp))⟩
      · rintro i2 xx σ H6 H6' hi2 ⟨kp6, e16, z9, z10, rfl, hlv6⟩ ⟨T2, x6, y6, rfl, nT2, rfl, hx6, hy6⟩
        dsimp only at hx6 hy6
        obtain ⟨m, hm, p, rfl, hp⟩ := hpx.get' hx6
        refine ⟨T2, _, rfl, SqT.of upd_same, rfl, _, _, rfl, _, _, rfl, rfl, ?_⟩
        have hpp : upd H6 T2 (.tup [.ref p, y6]) p = some (.tup ((kArm m).map kV)) := (ext1 nT2) _ _ (e16 _ _ (e1 _ _ hp))
        have fy : FV A y6 (w.lv rs ks m) (upd H6 T2 (.tup [.ref p, y6])) := by
          have f9 : FV A y6 (w.lv rs ks m) H5 := f5.2 i2 y6 _ hy6 (by rw [← hbk]; exact scat_lv hm)
          obtain ⟨fa', rfl, fdx, f9⟩ := f9
          refine ⟨fa', rfl, fdx, (ext1 nT2) _ _ (kp6 _ _ f9 fun z => ?_)⟩
          rw [z, hB5] at f9
          cases f9
        obtain ⟨H7, hp7, hd7, hk7⟩ := (hlv6.ext (ext1 (o := .tup [.ref p, y6]) nT2)).put (dom' := fun m => (w.IsArm m ∧ w.armJ m < i) ∨ m ∈ (w.armsAt i).take (i2 + 1)) hpp fy (fun c hc => by
          rcases hc with hc | hc
          · exact .inl (.inl hc)
          · rw [List.take_add_one, hm] at hc
            rcases List.mem_append.mp hc with hc | hc
            · exact .inl (.inr hc)
            · exact .inr (by simpa using hc)) (by omega)
        refine ⟨_, rfl, _, rfl, _, rfl, dB, H7, rfl, hp7, ?_, ?_, _, _, rfl, hd7⟩
        · intro c o hc hcn
          rw [hk7 c hcn]
          exact (ext1 nT2) _ _ (kp6 c o hc hcn)
        · intro c o hc
          have hcn : c ≠ dB := ne_of_none hc nB
          rw [hk7 c hcn]
          exact (ext1 nT2) _ _ (e16 _ _ hc)
      · rintro σ H6 ⟨kp6, e16, z9, z10, rfl, hlv6⟩
        refine ⟨e16, _, _, _, _, _, _, _, _, _, rfl, ?_⟩
        obtain ⟨kvs, h1, h2, h3⟩ := hlv6
        refine ⟨kvs, h1, by omega, fun m hm => h3 m ?_⟩
        rcases Nat.lt_or_ge (w.armJ m) i with hlt | hge
        · exact .inl ⟨hm.1, hlt⟩
        · have em : w.armJ m = i := by have := hm.2; omega
          have := WebD.mem_armsAt hm.1
          rw [em] at this
          exact .inr (by rw [List.take_of_length_le (Nat.le_refl _)]; exact this)
    · rintro σ H2 ⟨e12, z5, z6, z7, z8, z9, z10, z11, z12, z13, rfl, hlv0⟩
      have hlv : LvD A H2 dB (w.lv rs ks) w.IsArm := by
        obtain ⟨kvs, h1, h2, h3⟩ := hlv0
        exact lvd (n := 20 * w.kinds.length) ⟨kvs, h1, h2, fun m hm => h3 m ⟨hm, WebD.armJ_lt ok hm⟩⟩
      clear hlv0
      have e02 := e1.trans e12
      clear e12 hdA
      refine ⟨by decide, fun nl nn => ?_⟩
      have hw2 := hw.ext e02
      obtain ⟨dx, j, rda, rdx, e, sv, fa, fx, al, az, cz, h0, hra, hrx, hfa, hfx⟩ := web_open hw2
      refine ⟨_, rfl, a, CW, dx, _, _, rfl, (ext1 nn) _ _ h0, W_.cl, W_.n1, wf_rods, rda, rdx, rfl, .inr (SqT.of ((ext1 nn) _ _ hra)), (rdx.length : Int), rfl, by have := hrx.1; have := ok.m; omega, by have := hrx.1; have := ok.m; omega, ?_⟩
      refine for_it (walk_range (lo := 0) (n := rdx.length)) (fun i σ H' => Ext H2 H' ∧ ∃ z5 z6 z7 z8 z9 z10 z12 z13 us, σ = [some (.ref a), some (.ref x), some (.ref u), some (.ref dA), some (.ref dB), z5, z6, z7, z8, z9, z10, some (.ref nl), z12, z13] ∧ H' nl = some (.lst us) ∧ us.length = w.cellsTo i ∧ All2 (FV A) us (w.newTo rs ks i) H') ⟨ext1 nn, _, _, _, _, _, _, _, _, [], rfl, upd_same, by rw [WebD.cellsTo_zero]; rfl, All2.nil⟩ (fun _ _ _ _ _ => trivial) ?_ ?_
      · rintro i xx σ _ H3 hi ⟨e23, z5, z6, z7, z8, z9, z10, z12, z13, us9, rfl, hn, hul9, hus⟩ ⟨rfl, rfl⟩
        have hi' : i < w.rods.length := by rw [← hrx.1]; exact hi
        have c1 := WebD.cellsTo_mono (w := w) hi'
        have c2 := ok.len _ (WebD.rod_mem hi')
        have c24 := ok.c
        have ei : (0 + (i : Int)) = (i : Int) := by omega
        dsimp only
        rw [ei]
        have e03 := e02.trans e23
        have hlv3 := hlv.l (Ext.l e23)
        have big : ∀ n : Nat, n ≤ 1000 → n ≤ sizeLine := fun n h => by rw [sizeLine_eq]; omega
        have bigl : ∀ n : Nat, n ≤ 1000 → n < sizeLine := fun n h => by rw [sizeLine_eq]; omega
        -- the first number
        refine ⟨_, rfl, .inl ⟨rfl, _, SqL.of hn⟩, _, rfl, _, rfl, (by show 2 ≤ sizeLine; decide), fun t nt => ?_⟩
        obtain ⟨v, hv1, hv2⟩ := hlv3.2 (.st, i) (show i < w.rods.length from hi')
        have nt0 : nl ≠ t := ne_of_none hn nt
        refine ⟨dB, v, rfl, hv1 t _ (ext1 nt) upd_same, ?_⟩
        refine ⟨nl, us9, v, rfl, rfl, by rw [upd_ne nt0]; exact hn, bigl _ (by omega), ?_⟩
        have x4 : ExtL H3 (upd (upd H3 t (.tup [.str "start", .int (i : Int)])) nl (.lst (us9 ++ [v]))) := (Ext.l (ext1 nt)).trans (ExtL.upd (xs := us9) (by rw [upd_ne nt0]; exact hn))
        have e24 : Ext H2 (upd (upd H3 t (.tup [.str "start", .int (i : Int)])) nl (.lst (us9 ++ [v]))) := kpl nn (e23.trans (ext1 nt))
        have hn4 : (upd (upd H3 t (.tup [.str "start", .int (i : Int)])) nl (.lst (us9 ++ [v]))) nl = some (.lst (us9 ++ [v])) := upd_same
        have hus4 := (hus.l moFV x4).snoc (moFV _ _ _ _ x4 hv2)
        generalize (upd (upd H3 t (.tup [.str "start", .int (i : Int)])) nl (.lst (us9 ++ [v]))) = H4 at x4 e24 hn4 hus4
        -- the cells forth
        refine ⟨_, rfl, .inl ⟨rfl, _, SqL.of hn4⟩, _, rfl, a, dx, _, rfl, e24 _ _ h0, wf_no (by decide +kernel), _, rfl, _, rfl, a, k, x, xs, rs, w, i, rfl, hw.ext (e02.trans e24), hs.ext (e02.trans e24), hx.ext moNV (e02.trans e24), hl, hi', fun r5 us5 H5 n5 e5 h5 f5 => ?_⟩
        refine ⟨_, rfl, _, rfl, r5, us5, rfl, SqL.of h5, fun p np => ?_⟩
        rw [cut_last]
        have l5 : us5.length = (w.rod i).len := by rw [f5.1, List.length_take, List.length_drop, hl]; dsimp only; omega
        have np0 : nl ≠ p := ne_of_none (e5 _ _ hn4) np
        refine ⟨nl, p, _, _, rfl, rfl, by rw [upd_ne np0]; exact e5 _ _ hn4, upd_same, big _ (by rw [List.length_append, List.length_take]; simp; omega), ?_⟩
        have x6 : ExtL H4 (upd (upd H5 p (.lst (us5.take (us5.length - 1)))) nl (.lst (us9 ++ [v] ++ us5.take (us5.length - 1)))) := ((Ext.l e5).trans (Ext.l (ext1 np))).trans (ExtL.upd (xs := us9 ++ [v]) (by rw [upd_ne np0]; exact e5 _ _ hn4))
        have x56 : ExtL H5 (upd (upd H5 p (.lst (us5.take (us5.length - 1)))) nl (.lst (us9 ++ [v] ++ us5.take (us5.length - 1)))) := (Ext.l (ext1 np)).trans (ExtL.upd (xs := us9 ++ [v]) (by rw [upd_ne np0]; exact e5 _ _ hn4))
        have e26 : Ext H2 (upd (upd H5 p (.lst (us5.take (us5.length - 1)))) nl (.lst (us9 ++ [v] ++ us5.take (us5.length - 1)))) := kpl nn ((e24.trans e5).trans (ext1 np))
        have hn6 : (upd (upd H5 p (.lst (us5.take (us5.length - 1)))) nl (.lst (us9 ++ [v] ++ us5.take (us5.length - 1)))) nl = some (.lst (us9 ++ [v] ++ us5.take (us5.length - 1))) := upd_same
        have hus6 := (hus4.l moFV x6).append ((f5.take (us5.length - 1)).l moFV x56)
        generalize (upd (upd H5 p (.lst (us5.take (us5.length - 1)))) nl (.lst (us9 ++ [v] ++ us5.take (us5.length - 1)))) = H6 at x6 x56 e26 hn6 hus6
        -- the second number
        have hlv6 := hlv.l (Ext.l e26)
        refine ⟨_, rfl, .inl ⟨rfl, _, SqL.of hn6⟩, _, rfl, _, rfl, (by show 2 ≤ sizeLine; decide), fun t2 nt2 => ?_⟩
        obtain ⟨v2, hv3, hv4⟩ := hlv6.2 (.en, i) (show i < w.rods.length from hi')
        have nt3 : nl ≠ t2 := ne_of_none hn6 nt2
        refine ⟨dB, v2, rfl, hv3 t2 _ (ext1 nt2) upd_same, ?_⟩
        refine ⟨nl, _, v2, rfl, rfl, by rw [upd_ne nt3]; exact hn6, bigl _ (by rw [List.length_append, List.length_take]; simp; omega), ?_⟩
        have x7 : ExtL H6 (upd (upd H6 t2 (.tup [.str "end", .int (i : Int)])) nl (.lst (us9 ++ [v] ++ us5.take (us5.length - 1) ++ [v2]))) := (Ext.l (ext1 nt2)).trans (ExtL.upd (xs := us9 ++ [v] ++ us5.take (us5.length - 1)) (by rw [upd_ne nt3]; exact hn6))
        have e27 : Ext H2 (upd (upd H6 t2 (.tup [.str "end", .int (i : Int)])) nl (.lst (us9 ++ [v] ++ us5.take (us5.length - 1) ++ [v2]))) := kpl nn (e26.trans (ext1 nt2))
        have hn7 : (upd (upd H6 t2 (.tup [.str "end", .int (i : Int)])) nl (.lst (us9 ++ [v] ++ us5.take (us5.length - 1) ++ [v2]))) nl = some (.lst (us9 ++ [v] ++ us5.take (us5.length - 1) ++ [v2])) := upd_same
        have hus7 := (hus6.l moFV x7).snoc (moFV _ _ _ _ x7 hv4)
        generalize (upd (upd H6 t2 (.tup [.str "end", .int (i : Int)])) nl (.lst (us9 ++ [v] ++ us5.take (us5.length - 1) ++ [v2]))) = H7 at x7 e27 hn7 hus7
        -- the cells back
        refine ⟨_, rfl, .inl ⟨rfl, _, SqL.of hn7⟩, _, rfl, a, dx, _, rfl, e27 _ _ h0, wf_no (by decide +kernel), _, rfl, _, rfl, a, k, x, xs, rs, w, i, rfl, hw.ext (e02.trans e27), hs.ext (e02.trans e27), hx.ext moNV (e02.trans e27), hl, hi', fun r8 us8 H8 n8 e8 h8 f8 => ?_⟩
        refine ⟨_, rfl, _, rfl, r8, us8, rfl, SqL.of h8, fun p2 np2 => ?_⟩
        rw [cut_last]
        have l8 : us8.length = (w.rod i).len := by rw [f8.1, List.length_take, List.length_drop, hl]; dsimp only; omega
        have np3 : nl ≠ p2 := ne_of_none (e8 _ _ hn7) np2
        refine ⟨nl, p2, _, _, rfl, rfl, by rw [upd_ne np3]; exact e8 _ _ hn7, upd_same, big _ (by simp; omega), ?_⟩
        have x9 : ExtL H7 (upd (upd H8 p2 (.lst (us8.take (us8.length - 1)))) nl (.lst (us9 ++ [v] ++ us5.take (us5.length - 1) ++ [v2] ++ us8.take (us8.length - 1)))) := ((Ext.l e8).trans (Ext.l (ext1 np2))).trans (ExtL.upd (xs := us9 ++ [v] ++ us5.take (us5.length - 1) ++ [v2]) (by rw [upd_ne np3]; exact e8 _ _ hn7))
        have x89 : ExtL H8 (upd (upd H8 p2 (.lst (us8.take (us8.length - 1)))) nl (.lst (us9 ++ [v] ++ us5.take (us5.length - 1) ++ [v2] ++ us8.take (us8.length - 1)))) := (Ext.l (ext1 np2)).trans (ExtL.upd (xs := us9 ++ [v] ++ us5.take (us5.length - 1) ++ [v2]) (by rw [upd_ne np3]; exact e8 _ _ hn7))
        refine ⟨kpl nn ((e27.trans e8).trans (ext1 np2)), _, _, _, _, _, _, _, _, _, rfl, upd_same, ?_, ?_⟩
        · rw [WebD.cellsTo_succ hi']
          simp
          omega
        · have hus9 := (hus7.l moFV x9).append ((f8.take (us8.length - 1)).l moFV x89)
          rw [WebD.newTo_succ]
          unfold WebD.piece
          rw [l5, l8, List.take_take, List.take_take, Nat.min_eq_left (Nat.sub_le _ _), Nat.add_zero] at hus9
          rw [l5, l8]
          simpa [List.append_assoc] using hus9
      · rintro σ H3 ⟨e23, z5, z6, z7, z8, z9, z10, z12, z13, us9, rfl, hn, hul9, hus⟩
        rw [hrx.1] at hus hul9
        have hlv3 := hlv.l (Ext.l e23)
        refine ⟨_, rfl, ?_⟩
        refine tcons_of ?_
        have hE : Ext H H3 := e02.trans e23
        refine tlc_X (R := FV A) (ys := w.out rs ks) (H1 := H3) (by show Walk _ (w.out rs ks).length _ _; unfold WebD.out; rw [List.length_map, List.length_range]; exact walk_range (lo := 0)) (fun R r => ⟨_, rfl, a, CW, dx, _, _, rfl, e23 _ _ h0, W_.cl, W_.n5, wf_ears, _, rfl, by have := ok.e; omega, by have := ok.e; omega, r⟩) moFV (by unfold WebD.out; rw [List.length_map, List.length_range, sizeLine_eq]; have := ok.e; omega) (fun _ _ => trivial) ?_ gm_name fun D4 vs4 H4 n4 e4 h4 f4 => ?_
        · rintro i4 x4 _ H4 y4 hy4 e ⟨rfl, rfl⟩ Qy kk
          have ei : (0 + (i4 : Int)) = (i4 : Int) := by omega
          dsimp only
          rw [ei]
          unfold WebD.out at hy4
          rw [List.getElem?_map] at hy4
          obtain ⟨i5, hi5, rfl⟩ := Option.map_eq_some_iff.mp hy4
          have h45 : i4 < w.ears.length ∧ i4 = i5 := by
            have hlt := (List.getElem?_eq_some_iff.mp hi5).1
            rw [List.length_range] at hlt
            rw [List.getElem?_range hlt] at hi5
            exact ⟨hlt, Option.some.inj hi5⟩
          obtain ⟨hlt, rfl⟩ := h45
          obtain ⟨v, hv1, hv2⟩ := hlv3.2 (.ea, i4) (show i4 < w.ears.length from hlt)
          refine ⟨rfl, _, rfl, _, rfl, (by show 2 ≤ sizeLine; decide), fun t nt => ?_⟩
          exact ⟨dB, v, rfl, hv1 t _ (e.trans (ext1 nt)) upd_same, kk v _ (ext1 nt) ((hv2.ext e).ext (ext1 nt))⟩
        · refine ⟨(by show 2 ≤ sizeLine; decide), fun t nt => ?_⟩
          have nlD : nl ≠ D4 := ne_of_none hn n4
          have ne4 : nl ≠ t := ne_of_none (e4 _ _ hn) nt
          have De4 : D4 ≠ t := ne_of_none h4 nt
          exact q t nl us9 D4 vs4 _ (ext_none (hE.trans e4) nt) (ext_none e02 nn) (ext_none hE n4) nlD ((hE.trans e4).trans (ext1 nt)) upd_same ((ext1 nt) _ _ (e4 _ _ hn)) ((hus.ext moFV e4).ext moFV (ext1 nt)) ((ext1 nt) _ _ h4) (f4.ext moFV (ext1 nt))
end
end Fx

set_option Elab.async false
set_option linter.all false
set_option maxRecDepth 100000
set_option maxHeartbeats 4000000
set_option exponentiation.threshold 20000
namespace Fx
open PySem PySem.Spec PyProof.Rows L2 FM KM
/-! ### while an instance of another class changes -/
/-- tuples and fractions stay -/
def ExtF (A : Adr) (H H' : Hp) : Prop := ∀ b o, H b = some o → ((∃ xs, o = .tup xs) ∨ ∃ dx fs, o = .ins A.C dx fs) → H' b = some o
theorem ExtL.f {A : Adr} {H H' : Hp} (e : ExtL H H') : ExtF A H H' := fun b o h c => e b o h fun xs z => by
  subst z
  rcases c with ⟨_, c⟩ | ⟨_, _, c⟩ <;> cases c
theorem ExtF.trans {A : Adr} {H H1 H2 : Hp} (a : ExtF A H H1) (b : ExtF A H1 H2) : ExtF A H H2 := fun c o h n => b c o (a c o h n) n
theorem extF_upd {A : Adr} {H : Hp} {x : Addr} {C dx : Addr} {fs : List (Str × V)} {o : HO} (h : H x = some (.ins C dx fs)) (hne : C ≠ A.C) : ExtF A H (upd H x o) := fun b u hb hn => by
  rw [upd_ne]
  · exact hb
  · intro z
    rw [z, h] at hb
    have e := Option.some.inj hb
    subst e
    rcases hn with ⟨_, c⟩ | ⟨_, _, c⟩
    · cases c
    · injection c with c1 _ _
      exact hne c1
def MoF (A : Adr) {β : Type} (R : V → β → Hp → Prop) : Prop := ∀ x y H H', ExtF A H H' → R x y H → R x y H'
theorem FV.f {A : Adr} {H H' : Hp} {x : V} {r : Rat} (h : FV A x r H) (e : ExtF A H H') : FV A x r H' := by
  obtain ⟨a, rfl, dx, h⟩ := h
  exact ⟨a, rfl, dx, e _ _ h (.inr ⟨_, _, rfl⟩)⟩
theorem fFV {A : Adr} : MoF A (FV A) := fun _ _ _ _ e h => h.f e
theorem fNV {A : Adr} : MoF A (NV A) := fun _ _ _ _ e h => h.elim (fun ⟨b, h1, h2⟩ => .inl ⟨b, h1, let ⟨dx, h2⟩ := h2; ⟨dx, e _ _ h2 (.inr ⟨_, _, rfl⟩)⟩⟩) .inr
theorem All2.f {A : Adr} {β : Type} {R : V → β → Hp → Prop} {xs : List V} {ys : List β} {H H' : Hp} (m : MoF A R) (h : All2 R xs ys H) (e : ExtF A H H') : All2 R xs ys H' := ⟨h.1, fun i x y a b => m _ _ _ _ e (h.2 i x y a b)⟩
theorem fTupL {A : Adr} {β : Type} {R : V → β → Hp → Prop} (m : MoF A R) : MoF A (TupL R) := fun x y H H' e h => by
  obtain ⟨a, xs, h1, h2, h3⟩ := h
  exact ⟨a, xs, h1, e _ _ h2 (.inl ⟨_, rfl⟩), h3.f m e⟩
theorem fRodV {A : Adr} : MoF A (RodV A) := fun x y H H' e h => by
  obtain ⟨a, s, h1, h2, h3⟩ := h
  exact ⟨a, s, h1, e _ _ h2 (.inl ⟨_, rfl⟩), h3.f e⟩
theorem fRodN {A : Adr} : MoF A (RodN A) := fun x y H H' e h => by
  obtain ⟨a, s, h1, h2, h3⟩ := h
  exact ⟨a, s, h1, e _ _ h2 (.inl ⟨_, rfl⟩), fNV _ _ _ _ e h3⟩
theorem fEarV {A : Adr} : MoF A (EarV A) := fun x y H H' e h => by
  obtain ⟨a, s, h1, h2, h3⟩ := h
  exact ⟨a, s, h1, e _ _ h2 (.inl ⟨_, rfl⟩), h3.f e⟩
theorem fEarN {A : Adr} : MoF A (EarN A) := fun x y H H' e h => by
  obtain ⟨a, s, h1, h2, h3⟩ := h
  exact ⟨a, s, h1, e _ _ h2 (.inl ⟨_, rfl⟩), fNV _ _ _ _ e h3⟩
theorem fArmV {A : Adr} : MoF A ArmV := fun x y H H' e h => by
  obtain ⟨a, h1, h2⟩ := h
  exact ⟨a, h1, e _ _ h2 (.inl ⟨_, rfl⟩)⟩
theorem fKindV {A : Adr} : MoF A KindV := fun _ _ _ _ _ h => h
theorem fNatV {A : Adr} : MoF A NatV := fun _ _ _ _ _ h => h
theorem rd_kp {H H' : Hp} {x a : Addr} {C dx : Addr} {fs : List (Str × V)} {u : HO} (h : Rd H a u) (hx : H x = some (.ins C dx fs)) (hu : ∀ C dx fs, u ≠ .ins C dx fs) (e : Kp x H H') : Rd H' a u := by
  rcases h with h | ⟨o, h⟩
  · exact .inl (e _ _ h fun z => by rw [z, hx] at h; exact hu _ _ _ (Option.some.inj h).symm)
  · exact .inr ⟨o, e _ _ h fun z => by rw [z, hx] at h; cases h⟩
theorem sqB_kp {k : Bool} {K : PySem.W.Frag} {H H' : Hp} {x a : Addr} {xs : List V} {C dx : Addr} {fs : List (Str × V)} (h : SqB k K H a xs) (hx : H x = some (.ins C dx fs)) (e : Kp x H H') : SqB k K H' a xs := by
  cases k
  · rcases h with h | h
    · exact .inl (rd_kp h hx (fun _ _ _ z => by cases z) e)
    · exact .inr h
  · rcases h with h | h
    · exact .inl (rd_kp h hx (fun _ _ _ z => by cases z) e)
    · exact .inr h
/-- fields that are not there yet -/
theorem putF_new {f : Str} {v : V} : ∀ {fs : List (Str × V)}, (∀ p ∈ fs, p.1 ≠ f) → putF f v fs = fs ++ [(f, v)]
  | [], _ => rfl
  | (g, x) :: r, h => by
    show (if g = f then (g, v) :: r else (g, x) :: putF f v r) = _
    rw [if_neg (h (g, x) (List.mem_cons_self ..)), putF_new fun p hp => h p (List.mem_cons_of_mem _ hp)]
    rfl
def pf3 (j r e : V) : List (Str × V) := [("joints", j), ("rods", r), ("ear_list", e)]
def pf6 (j r e : V) (c : Nat) (s : V) (n : Nat) : List (Str × V) := [("joints", j), ("rods", r), ("ear_list", e), ("cells", .int (c : Int)), ("strengths", s), ("ears", .int (n : Int))]
section
variable {P : Program} {w : World} {K : PySem.W.Frag} {mg : Str → Option Value} {base : Heap} {A : Adr} {CW : Addr}
theorem scPi : FnScope ["self", "cells", "strengths"] ["self", "cells", "strengths"] (defScope (inClass (top 60) 0)) := ⟨rfl, rfl, rfl, by decide +kernel, rfl, by decide +kernel, by decide +kernel⟩
def spPi (K : PySem.W.Frag) (A : Adr) (CW : Addr) : Sp := fun vs H Q _ => ∃ x dx j r e c k l ys rs, vs = [.ref x, .int ((c : Nat) : Int), .ref l] ∧ H x = some (.ins CW dx (pf3 j r e)) ∧ SqB k K H l ys ∧ All2 (NV A) ys rs H ∧ rs.length ≤ 1000 ∧
  ∀ t H', Kp x H H' → ExtF A H H' → TupL (FV A) (.ref t) rs H' → H' x = some (.ins CW dx (pf6 j r e c (.ref t) rs.length)) → Q .non H'
theorem ok_Pi {f : Addr} {fd : FuncData} (F : Fun K "__init__" "Player.__init__" (inClass (top 60) 0) f fd) (W_ : WT K mg CW) (hne : CW ≠ A.C) (hF : LF P w K mg base "fracs_of" 4 ["numbers"] (spFo K A)) (le : mg "len" = none) (tu : mg "tuple" = none) : FnOk P w K mg base (L2.CX P w) 5 f fd ["self", "cells", "strengths"] (spPi K A CW) := by
  refine F.okX scPi (fun vs H Q E h => ?_) (fun cdv AA outer s H vs Q E hr h => ?_)
  · obtain ⟨x, dx, j, r, e, c, k, l, ys, rs, rfl, _⟩ := h; rfl
  · obtain ⟨x, dx, j, r, e, c, k, l, ys, rs, rfl, hx, hs, hy, hn, q⟩ := h
    obtain ⟨fF, gF, cF⟩ := hF
    obtain ⟨fdF, GF, bF⟩ := cF.ex
    refine ⟨_, (pss_cons (ps_fld (pv 0) (pv 1) rfl)
      (pss_cons (ps_fld (pv 0) (pe_callTy call_tuple_of (by rfl) tu boot_tuple (pa_cons (pe_call GF (hr.mono (by decide)) rfl gF cF.kp bF .nil (E := E0) passL (pa_cons (pv 2) pa_nil)) pa_nil)) rfl)
      (pss_one (ps_fld (pv 0) (pe_callB call_len_seq (by rfl) le PySem.boot_len (pa_cons (pe_fld (pv 0) rfl) pa_nil)) rfl)))), ?_⟩
    have nc : putF "cells" (V.int (c : Int)) (pf3 j r e) = pf3 j r e ++ [(("cells" : Str), V.int (c : Int))] := putF_new fun p hp => by
      unfold pf3 at hp
      simp only [List.mem_cons, List.not_mem_nil, or_false] at hp
      rcases hp with rfl | rfl | rfl <;> exact (by dsimp only; decide +kernel)
    refine ⟨_, rfl, _, rfl, x, CW, dx, _, rfl, hx, W_.cl, W_.n3, (by show 3 < 1000; decide), ?_⟩
    rw [nc]
    have hs1 : SqB k K (upd H x (.ins CW dx (pf3 j r e ++ [(("cells" : Str), V.int (c : Int))]))) l ys := sqB_kp hs hx (Kp.refl.upd)
    have x1 : ExtF A H (upd H x (.ins CW dx (pf3 j r e ++ [(("cells" : Str), V.int (c : Int))]))) := extF_upd hx hne
    have k1 : Kp x H (upd H x (.ins CW dx (pf3 j r e ++ [(("cells" : Str), V.int (c : Int))]))) := Kp.refl.upd
    have hx1 : (upd H x (.ins CW dx (pf3 j r e ++ [(("cells" : Str), V.int (c : Int))]))) x = some (.ins CW dx (pf3 j r e ++ [(("cells" : Str), V.int (c : Int))])) := upd_same
    have hy1 := hy.f fNV x1
    generalize upd H x (.ins CW dx (pf3 j r e ++ [(("cells" : Str), V.int (c : Int))])) = H1 at hs1 x1 k1 hx1 hy1
    refine ⟨_, rfl, k, l, ys, rs, rfl, hs1, hy1, hn, fun t us H2 n2 e2 h2 f2 => ?_⟩
    refine ⟨t, us, rfl, .inl ⟨SqL.of h2, fun p np => ?_⟩⟩
    have e3 : Ext H1 (upd H2 p (.tup us)) := e2.trans (ext1 np)
    have hp : (upd H2 p (.tup us)) p = some (.tup us) := upd_same
    have f3' : All2 (FV A) us rs (upd H2 p (.tup us)) := f2.ext moFV (ext1 np)
    generalize upd H2 p (.tup us) = H3 at e3 hp f3'
    have hx3 := e3 _ _ hx1
    refine ⟨_, rfl, x, CW, dx, _, rfl, hx3, W_.cl, W_.n4, (by show 4 < 1000; decide), ?_⟩
    have nc2 : putF "strengths" (V.ref p) (pf3 j r e ++ [(("cells" : Str), V.int (c : Int))]) = (pf3 j r e ++ [(("cells" : Str), V.int (c : Int))]) ++ [(("strengths" : Str), V.ref p)] := putF_new fun q hq => by
      unfold pf3 at hq
      simp only [List.cons_append, List.nil_append, List.mem_cons, List.not_mem_nil, or_false] at hq
      rcases hq with rfl | rfl | rfl | rfl <;> exact (by dsimp only; decide +kernel)
    rw [nc2]
    have x4 : ExtF A H3 (upd H3 x (.ins CW dx ((pf3 j r e ++ [(("cells" : Str), V.int (c : Int))]) ++ [(("strengths" : Str), V.ref p)]))) := extF_upd hx3 hne
    have px : p ≠ x := fun z => by rw [z, hx3] at hp; cases hp
    have nl : ((pf3 j r e ++ [(("cells" : Str), V.int (c : Int))]) ++ [(("strengths" : Str), V.ref p)]).lookup ("strengths" : Str) = some (V.ref p) := by
      have q1 : (("strengths" : Str) == ("joints" : Str)) = false := by decide +kernel
      have q2 : (("strengths" : Str) == ("rods" : Str)) = false := by decide +kernel
      have q3 : (("strengths" : Str) == ("ear_list" : Str)) = false := by decide +kernel
      have q4 : (("strengths" : Str) == ("cells" : Str)) = false := by decide +kernel
      simp [pf3, List.lookup, q1, q2, q3, q4]
    refine ⟨_, rfl, x, CW, dx, _, _, rfl, upd_same, W_.cl, W_.n4, nl, p, us, rfl, .inr (SqT.of (by rw [upd_ne px]; exact hp)), _, rfl, x, CW, dx, _, rfl, upd_same, W_.cl, W_.n5, (by show 5 < 1000; decide), ?_⟩
    have nc3 : putF "ears" (V.int (us.length : Int)) ((pf3 j r e ++ [(("cells" : Str), V.int (c : Int))]) ++ [(("strengths" : Str), V.ref p)]) = pf6 j r e c (.ref p) rs.length := by
      rw [putF_new fun q hq => by
        unfold pf3 at hq
        simp only [List.cons_append, List.nil_append, List.mem_cons, List.not_mem_nil, or_false] at hq
        rcases hq with rfl | rfl | rfl | rfl | rfl <;> exact (by dsimp only; decide +kernel)]
      rw [f3'.1]
      rfl
    rw [nc3, upd_upd]
    have x5 : ExtF A H3 (upd H3 x (.ins CW dx (pf6 j r e c (.ref p) rs.length))) := extF_upd hx3 hne
    exact q p _ ((k1.ext e3).upd) (x1.trans ((ExtL.f (Ext.l e3)).trans x5)) ⟨p, us, rfl, by rw [upd_ne px]; exact hp, f3'.f fFV x5⟩ upd_same
end
end Fx

set_option Elab.async false
set_option linter.all false
set_option maxRecDepth 100000
set_option maxHeartbeats 4000000
set_option exponentiation.threshold 20000
namespace Fx
open PySem PySem.Spec PyProof.Rows L2 FM KM
/-! ### the law's own numbers -/
/-- a pair of ints -/
def PV (v : V) (r : Rat) (H : Hp) : Prop := ∃ a, v = .ref a ∧ TupAt H a (pr r)
theorem moPV : MoX PV := fun x y H H' e h => by
  obtain ⟨a, h1, h2⟩ := h
  exact ⟨a, h1, e _ _ h2 (fun ys z => by cases z)⟩
theorem PV.ext {v : V} {r : Rat} {H H' : Hp} (h : PV v r H) (e : Ext H H') : PV v r H' := moPV _ _ _ _ (Ext.l e) h
/-- sizes -/
def Ok3 (r : Rat) : Prop := r.num.natAbs < 2 ^ 4000 ∧ r.den < 2 ^ 4000
theorem Ok3.b1 {r : Rat} (h : Ok3 r) : Bd r.num := h.1
theorem Ok3.b2 {r : Rat} (h : Ok3 r) : Bd ((r.den : Nat) : Int) := by unfold Bd; simpa using h.2
theorem Ok3.of {r : Rat} (h : Ok4 r) : Ok3 r := ⟨h.b1, by have := h.b2; unfold Bd pr at this; simpa using this⟩
theorem den_ne (r : Rat) : ((r.den : Nat) : Int) ≠ 0 := by have := r.den_nz; omega
/-- a pool of numbers -/
def PoolL (H : Hp) (r : Addr) : Prop := ∃ cs : List Int, H r = some (.lst (cs.map V.int)) ∧ cs.length ≤ 1000 ∧ ∀ c ∈ cs, 0 ≤ c
theorem PoolL.ext {H H' : Hp} {r : Addr} (h : PoolL H r) (e : Ext H H') : PoolL H' r := let ⟨cs, a, b, c⟩ := h; ⟨cs, e _ _ a, b, c⟩
theorem Kp.l {r : Addr} {H H' : Hp} (h : Kp r H H') (p : PoolL H r) : ExtL H H' := fun b o hb hn => by
  obtain ⟨cs, q, _⟩ := p
  refine h b o hb fun z => ?_
  rw [z, q] at hb
  exact hn _ (Option.some.inj hb).symm
theorem boot_abs2 : bootBuiltins "abs" = some (.builtin "abs") := by decide +kernel
theorem absE (z : Int) : (if z < 0 then -z else z) = (z.natAbs : Int) := by split <;> omega
section
variable {P : Program} {w : World} {K : PySem.W.Frag} {mg : Str → Option Value} {base : Heap} {A : Adr}
theorem scLl : FnScope ["top", "low", "a", "b"] ["top", "low"] (defScope (top 79)) := ⟨rfl, rfl, rfl, by decide +kernel, rfl, by decide +kernel, by decide +kernel⟩
def spLl : Sp := fun vs H Q _ => ∃ n d : Int, vs = [.int n, .int d] ∧ 0 < d ∧ Bi d ∧ ∀ v H', Ext H H' → PV v ((n : Rat) / (d : Rat)) H' → Q v H'
theorem ok_Ll {f : Addr} {fd : FuncData} (F : Fun K "_law_low" "_law_low" (top 79) f fd) (ab : mg "abs" = none) (it : mg "int" = none) : FnOk P w K mg base (L2.CX P w) 1 f fd ["top", "low"] spLl := by
  refine F.okX scLl (fun vs H Q E h => ?_) (fun cdv AA outer s H vs Q E hr h => ?_)
  · obtain ⟨n, d, rfl, _⟩ := h; rfl
  · obtain ⟨n, d, rfl, d0, bd, k⟩ := h
    refine ⟨_, (pss_cons (ps_set (i := 2) scLl.nd rfl (Or.inl rfl) (pe_callB L2.call_abs (by rfl) ab boot_abs' (pa_cons (pv 0) pa_nil)))
      (pss_cons (ps_set (i := 3) scLl.nd rfl (Or.inl rfl) (pv 1))
      (pss_cons (ps_while (passes_of rfl) (pt_cmpR L2.op_gt (pv 3) pe_int (nomark _)) (pss_one (ps_par (i := 2) (j := 3) (by rfl) scLl.nd rfl rfl (by decide) rfl rfl (pa_cons (pv 3) (pa_cons (pe_op op_modN (pe_callTy call_int1 (by rfl) it boot_int (pa_cons (pv 2) pa_nil)) (pv 3)) pa_nil)) (by rfl))))
      (pss_one (ps_ret (pe_tup (pa_cons (pe_op op_fdivZ (pv 0) (pv 2)) (pa_cons (pe_op op_fdivZ (pv 1) (pv 2)) pa_nil)))))))), ?_⟩
    refine ⟨_, rfl, _, rfl, ?_⟩
    rw [absE]
    refine ⟨_, rfl, ?_⟩
    refine while_by (fun σ H2 => H2 = H ∧ ∃ (x y : Nat), σ = [some (.int n), some (.int d), some (.int x), some (.int y)] ∧ Nat.gcd x y = Nat.gcd n.natAbs d.natAbs)
      (fun (σ : L2.St) _ => match σ[3]? with | some (some (V.int b)) => b.toNat | _ => 0) ⟨rfl, n.natAbs, d.natAbs, by rw [show ((d.natAbs : Nat) : Int) = d by omega]; rfl, rfl⟩ ?_ ?_
    · rintro σ H2 ⟨rfl, x, y, rfl, hg⟩
      refine ⟨_, rfl, _, _, rfl, rfl, _, rfl, if_D (fun hn => ?_) (fun he => ?_)⟩
      · have hy : 0 < (y : Int) := hn
        have hm : (x : Int).fmod (y : Int) = ((x % y : Nat) : Int) := by
          rw [Int.fmod_eq_emod_of_nonneg _ (Int.le_of_lt hy)]
          rfl
        refine ⟨_, rfl, _, rfl, .inl ⟨_, rfl, _, rfl, _, _, rfl, rfl, by omega, _, _, rfl, ⟨rfl, y, x % y, ?_, ?_⟩, ?_⟩⟩
        · show [some (V.int n), some (V.int d), some (V.int (y : Int)), some (V.int ((x : Int).fmod (y : Int)))] = _
          rw [hm]
        · rw [← hg, Nat.gcd_comm x y, Nat.gcd_rec y x, Nat.gcd_comm]
        · show ((x : Int).fmod (y : Int)).toNat < (y : Int).toNat
          rw [hm]
          have := Nat.mod_lt x (show 0 < y by omega)
          omega
      · have y0 : y = 0 := by omega
        subst y0
        rw [Nat.gcd_zero_right] at hg
        subst hg
        have g0 : ((Nat.gcd n.natAbs d.natAbs : Nat) : Int) ≠ 0 := by
          have := Nat.gcd_pos_of_pos_right n.natAbs (show 0 < d.natAbs by omega)
          omega
        have gl : ((Nat.gcd n.natAbs d.natAbs : Nat) : Int).natAbs.log2 < 9000 := by
          refine Nat.lt_of_lt_of_le (log2_lt (n := ((Nat.gcd n.natAbs d.natAbs : Nat) : Int)) (k := 8900) ?_ (by decide)) (by decide)
          exact Nat.lt_of_le_of_lt (Nat.gcd_le_right _ (by omega)) bd
        refine ⟨_, rfl, _, rfl, _, _, rfl, rfl, ⟨g0, gl⟩, _, rfl, _, rfl, _, _, rfl, rfl, ⟨g0, gl⟩, (by show 2 ≤ sizeLine; decide), fun r nr => k _ _ (ext1 nr) ⟨r, rfl, ?_⟩⟩
        rw [pr_low (show d ≠ 0 by omega)]
        unfold low sg
        rw [if_neg (show ¬ d < 0 by omega)]
        exact upd_same
    · rintro σ H2 Q1 Q2 hq h
      obtain ⟨v, e, i, j, e1, e2, c, e3, q⟩ := h
      exact ⟨v, e, i, j, e1, e2, c, e3, hq _ _ q⟩
end
end Fx

set_option Elab.async false
set_option linter.all false
set_option maxRecDepth 100000
set_option maxHeartbeats 4000000
set_option exponentiation.threshold 20000
namespace Fx
open PySem PySem.Spec PyProof.Rows L2 FM KM
/-! ### the law's sums; what is read of the program -/
theorem rat_add (r s : Rat) : ((r.num * (s.den : Int) + s.num * (r.den : Int) : Int) : Rat) / (((r.den : Int) * (s.den : Int) : Int) : Rat) = r + s := by
  have h := pr_low (n := r.num * (s.den : Int) + s.num * (r.den : Int)) (d := (r.den : Int) * (s.den : Int)) (Int.mul_ne_zero (den_ne r) (den_ne s))
  have h2 := pr_add r s
  unfold fadd at h2
  exact pr_inj (h.trans h2)
theorem rat_mul (r s : Rat) : ((r.num * s.num : Int) : Rat) / (((r.den : Int) * (s.den : Int) : Int) : Rat) = r * s := by
  have h := pr_low (n := r.num * s.num) (d := (r.den : Int) * (s.den : Int)) (Int.mul_ne_zero (den_ne r) (den_ne s))
  have h2 := pr_mul r s
  unfold fmul at h2
  exact pr_inj (h.trans h2)
theorem rat_self (r : Rat) : ((r.num : Int) : Rat) / (((r.den : Nat) : Int) : Rat) = r := val_pr r
theorem den_pos (r : Rat) : 0 < ((r.den : Nat) : Int) := by have := r.den_pos; omega
/-- pairs as data -/
def pD (r : Rat) : PyData := .tuple [.int r.num, .int ((r.den : Nat) : Int)]
theorem dp_pv {K : PySem.W.Frag} {v : V} {r : Rat} {H : Hp} (h : PV v r H) : Dp K H v (pD r) := by
  obtain ⟨a, rfl, h⟩ := h
  exact .tup (SqT.of h) (.cons (.int _) (.cons (.int _) .nil))
theorem dp_pvs {K : PySem.W.Frag} {H : Hp} : ∀ {xs : List V} {rs : List Rat}, All2 PV xs rs H → DpAll K H xs (rs.map pD)
  | [], [], _ => .nil
  | [], _ :: _, h => absurd h.1 (by simp)
  | _ :: _, [], h => absurd h.1 (by simp)
  | x :: xs, r :: rs, h => .cons (dp_pv (h.2 0 x r rfl rfl)) (dp_pvs ⟨by have := h.1; simpa using this, fun i a b p q => h.2 (i + 1) a b (by simpa using p) (by simpa using q)⟩)
theorem pD_lay (r : Rat) : (pD r).canLay0 = true := by unfold pD; simp [PyData.canLay0, PyData.canLayAll0]
theorem pD_sh (r : Rat) : SeqAt.shaped (pD r) = true := by unfold SeqAt.shaped; rw [pD_lay]; unfold pD; simp [PyData.depth, PyData.depthAll]
theorem pDs_lay : ∀ rs : List Rat, PyData.canLayAll0 (rs.map pD) = true
  | [] => rfl
  | r :: rs => by rw [List.map_cons]; unfold PyData.canLayAll0; rw [pD_lay, pDs_lay rs]; rfl
theorem pDs_dep : ∀ rs : List Rat, PyData.depthAll (rs.map pD) ≤ 1
  | [] => Nat.zero_le _
  | r :: rs => by
    rw [List.map_cons]
    unfold PyData.depthAll
    have := pDs_dep rs
    have h : (pD r).depth ≤ 1 := by unfold pD; simp [PyData.depth, PyData.depthAll]
    omega
theorem pDs_sh (rs : List Rat) : SeqAt.shaped (.list (rs.map pD)) = true := by
  unfold SeqAt.shaped
  have h1 : (PyData.list (rs.map pD)).canLay0 = true := by unfold PyData.canLay0; exact pDs_lay rs
  have h2 : (PyData.list (rs.map pD)).depth ≤ 64 := by unfold PyData.depth; have := pDs_dep rs; omega
  rw [h1, decide_eq_true h2]
  rfl
theorem pD_refl (r : Rat) : PyData.eqv (pD r) (pD r) = true := SeqAt.eqv_refl _ (pD_lay r)
theorem pDs_refl (rs : List Rat) : PyData.eqv (.list (rs.map pD)) (.list (rs.map pD)) = true := SeqAt.eqv_refl _ (by unfold PyData.canLay0; exact pDs_lay rs)
theorem none_pD (rs : List Rat) : ((rs.map pD).any fun z => PyData.eqv z .none) = false := by
  rw [List.any_map, List.any_eq_false]
  intro r _
  show ¬ PyData.eqv (pD r) .none = true
  unfold pD
  simp [PyData.eqv]
theorem boot_bool2 : bootBuiltins "bool" = some (.type "bool") := by decide +kernel
section
variable {P : Program} {w : World} {K : PySem.W.Frag} {mg : Str → Option Value} {base : Heap} {A : Adr}
theorem scLp : FnScope ["a", "b"] ["a", "b"] (defScope (top 80)) := ⟨rfl, rfl, rfl, by decide +kernel, rfl, by decide +kernel, by decide +kernel⟩
def spLp : Sp := fun vs H Q _ => ∃ x y r s, vs = [x, y] ∧ PV x r H ∧ PV y s H ∧ Ok3 r ∧ Ok3 s ∧ ∀ v H', Ext H H' → PV v (r + s) H' → Q v H'
theorem ok_Lp {f : Addr} {fd : FuncData} (F : Fun K "_law_plus" "_law_plus" (top 80) f fd) (hL : LF P w K mg base "_law_low" 1 ["top", "low"] spLl) : FnOk P w K mg base (L2.CX P w) 2 f fd ["a", "b"] spLp := by
  refine F.okX scLp (fun vs H Q E h => ?_) (fun cdv AA outer s H vs Q E hr h => ?_)
  · obtain ⟨x, y, r, s, rfl, _⟩ := h; rfl
  · obtain ⟨x, y, r, s, rfl, hx, hy, oa, ob, q⟩ := h
    obtain ⟨fL, gL, cL⟩ := hL
    obtain ⟨fdL, GL, bL⟩ := cL.ex
    refine ⟨_, (pss_one (ps_ret (pe_call GL (hr.mono (by decide)) rfl gL cL.kp bL .nil (E := E0) passL (pa_cons (pe_op L2.op_add (pe_op op_mulW (pe_ix ix_tup (pv 0) pe_int (fun _ _ => rfl)) (pe_ix ix_tup (pv 1) pe_int (fun _ _ => rfl))) (pe_op op_mulW (pe_ix ix_tup (pv 1) pe_int (fun _ _ => rfl)) (pe_ix ix_tup (pv 0) pe_int (fun _ _ => rfl)))) (pa_cons (pe_op op_mulW (pe_ix ix_tup (pv 0) pe_int (fun _ _ => rfl)) (pe_ix ix_tup (pv 1) pe_int (fun _ _ => rfl))) pa_nil))))), ?_⟩
    obtain ⟨a, rfl, ha⟩ := hx
    obtain ⟨b, rfl, hb⟩ := hy
    refine ⟨_, rfl, _, _, _, _, rfl, rfl, SqT.of ha, rfl, _, rfl, _, _, _, _, rfl, rfl, SqT.of hb, rfl, _, _, rfl, rfl, oa.b1.cm ob.b2, _, rfl, _, _, _, _, rfl, rfl, SqT.of hb, rfl, _, rfl, _, _, _, _, rfl, rfl, SqT.of ha, rfl, _, _, rfl, rfl, ob.b1.cm oa.b2, _, _, rfl, rfl, _, rfl, _, _, _, _, rfl, rfl, SqT.of ha, rfl, _, rfl, _, _, _, _, rfl, rfl, SqT.of hb, rfl, _, _, rfl, rfl, oa.b2.cm ob.b2, _, _, rfl, Int.mul_pos (den_pos r) (den_pos s), oa.b2.mul ob.b2, fun v H' e f => q v H' e ?_⟩
    rw [← rat_add r s]
    exact f
theorem scLtm : FnScope ["a", "b"] ["a", "b"] (defScope (top 82)) := ⟨rfl, rfl, rfl, by decide +kernel, rfl, by decide +kernel, by decide +kernel⟩
def spLtm : Sp := fun vs H Q _ => ∃ x y r s, vs = [x, y] ∧ PV x r H ∧ PV y s H ∧ Ok3 r ∧ Ok3 s ∧ ∀ v H', Ext H H' → PV v (r * s) H' → Q v H'
theorem ok_Ltm {f : Addr} {fd : FuncData} (F : Fun K "_law_times" "_law_times" (top 82) f fd) (hL : LF P w K mg base "_law_low" 1 ["top", "low"] spLl) : FnOk P w K mg base (L2.CX P w) 2 f fd ["a", "b"] spLtm := by
  refine F.okX scLtm (fun vs H Q E h => ?_) (fun cdv AA outer s H vs Q E hr h => ?_)
  · obtain ⟨x, y, r, s, rfl, _⟩ := h; rfl
  · obtain ⟨x, y, r, s, rfl, hx, hy, oa, ob, q⟩ := h
    obtain ⟨fL, gL, cL⟩ := hL
    obtain ⟨fdL, GL, bL⟩ := cL.ex
    refine ⟨_, (pss_one (ps_ret (pe_call GL (hr.mono (by decide)) rfl gL cL.kp bL .nil (E := E0) passL (pa_cons (pe_op op_mulW (pe_ix ix_tup (pv 0) pe_int (fun _ _ => rfl)) (pe_ix ix_tup (pv 1) pe_int (fun _ _ => rfl))) (pa_cons (pe_op op_mulW (pe_ix ix_tup (pv 0) pe_int (fun _ _ => rfl)) (pe_ix ix_tup (pv 1) pe_int (fun _ _ => rfl))) pa_nil))))), ?_⟩
    obtain ⟨a, rfl, ha⟩ := hx
    obtain ⟨b, rfl, hb⟩ := hy
    refine ⟨_, rfl, _, _, _, _, rfl, rfl, SqT.of ha, rfl, _, rfl, _, _, _, _, rfl, rfl, SqT.of hb, rfl, _, _, rfl, rfl, oa.b1.cm ob.b1, _, rfl, _, _, _, _, rfl, rfl, SqT.of ha, rfl, _, rfl, _, _, _, _, rfl, rfl, SqT.of hb, rfl, _, _, rfl, rfl, oa.b2.cm ob.b2, _, _, rfl, Int.mul_pos (den_pos r) (den_pos s), oa.b2.mul ob.b2, fun v H' e f => q v H' e ?_⟩
    rw [← rat_mul r s]
    exact f
theorem scLi : FnScope ["x"] ["x"] (defScope (top 84)) := ⟨rfl, rfl, rfl, by decide +kernel, rfl, by decide +kernel, by decide +kernel⟩
def spLi : Sp := fun vs H Q _ => ∃ n, vs = [.int n] ∧ Q (.bl true) H
theorem ok_Li {f : Addr} {fd : FuncData} (F : Fun K "_law_int" "_law_int" (top 84) f fd) (T : FT K mg A) (bo : mg "bool" = none) : FnOk P w K mg base (L2.CX P w) 1 f fd ["x"] spLi := by
  refine F.okX scLi (fun vs H Q E h => ?_) (fun cdv AA outer s H vs Q E hr h => ?_)
  · obtain ⟨n, rfl, _⟩ := h; rfl
  · obtain ⟨n, rfl, q⟩ := h
    refine ⟨_, (pss_one (ps_ret (pe_and (pe_callB call_isi (by rfl) T.isi boot_isi (pa_cons (pv 0) (pa_cons (pe_bltn (v := .ty "int") (by rfl) T.int0 boot_int rfl) pa_nil))) (pe_one (pe_not (pe_callB call_isi (by rfl) T.isi boot_isi (pa_cons (pv 0) (pa_cons (pe_bltn (v := .ty "bool") (by rfl) bo boot_bool2 rfl) pa_nil)))))))), ?_⟩
    exact ⟨_, rfl, _, _, _, _, true, rfl, .ty "int", tyI _, kit_II, _, rfl, iteT ⟨_, rfl, _, _, _, _, false, rfl, .ty "bool", tyI _, kit_ty (by decide +kernel), _, rfl, q⟩⟩
theorem scLr : FnScope ["x"] ["x"] (defScope (top 85)) := ⟨rfl, rfl, rfl, by decide +kernel, rfl, by decide +kernel, by decide +kernel⟩
def spLr (A : Adr) : Sp := fun vs H Q _ => ∃ x r, vs = [x] ∧ FV A x r H ∧ Ok4 r ∧ ∀ v H', Ext H H' → PV v r H' → Q v H'
theorem ok_Lr {f : Addr} {fd : FuncData} (F : Fun K "_law_read" "_law_read" (top 85) f fd) (T : FT K mg A) (hL : LF P w K mg base "_law_low" 1 ["top", "low"] spLl) (hI : LF P w K mg base "_law_int" 1 ["x"] spLi) : FnOk P w K mg base (L2.CX P w) 2 f fd ["x"] (spLr A) := by
  refine F.okX scLr (fun vs H Q E h => ?_) (fun cdv AA outer s H vs Q E hr h => ?_)
  · obtain ⟨x, r, rfl, _⟩ := h; rfl
  · obtain ⟨x, r, rfl, hx, or, q⟩ := h
    obtain ⟨fL, gL, cL⟩ := hL
    obtain ⟨fdL, GL, bL⟩ := cL.ex
    obtain ⟨fI, gI, cI⟩ := hI
    obtain ⟨fdI, GI, bI⟩ := cI.ex
    refine ⟨_, (pss_cons (ps_if (PW.pt (pw_or (pt_not (pt_val (pe_callB call_isi (by rfl) T.isi boot_isi (pa_cons (pv 0) (pa_cons (pe_glob (v := .ref A.C) (by rfl) T.mgC rfl) pa_nil))))) (pw_or (pt_not (pt_val (pe_call GI (hr.mono (by decide)) rfl gI cI.kp bI .nil (E := E0) passL (pa_cons (pe_fld (pv 0) rfl) pa_nil)))) (pw_or (pt_not (pt_val (pe_call GI (hr.mono (by decide)) rfl gI cI.kp bI .nil (E := E0) passL (pa_cons (pe_fld (pv 0) rfl) pa_nil)))) (pw_or1 (pt_cmpR L2.op_lt (pe_fld (pv 0) rfl) pe_int (nomark _))))))) (pss_one (ps_ret pe_non)) pss_nil)
      (pss_cons (ps_if (pt_cmpR (op_neD hr.units) (pe_call GL (hr.mono (by decide)) rfl gL cL.kp bL .nil (E := E0) passL (pa_cons (pe_fld (pv 0) rfl) (pa_cons (pe_fld (pv 0) rfl) pa_nil))) (pe_tup (pa_cons (pe_fld (pv 0) rfl) (pa_cons (pe_fld (pv 0) rfl) pa_nil))) (nomark _)) (pss_one (ps_ret pe_non)) pss_nil)
      (pss_one (ps_ret (pe_tup (pa_cons (pe_fld (pv 0) rfl) (pa_cons (pe_fld (pv 0) rfl) pa_nil))))))), ?_⟩
    obtain ⟨a, rfl, ha⟩ := hx
    obtain ⟨dx, hA⟩ := id ha
    have o3 := Ok3.of or
    refine ⟨_, rfl, _, _, _, _, true, rfl, .own A.C, T.tyF ha, kit_CC, _, rfl, iteF ?_⟩
    refine ⟨_, rfl, _, _, _, _, _, rfl, hA, T.cl, T.nN, fr_num _, _, rfl, _, rfl, iteF ?_⟩
    refine ⟨_, rfl, _, _, _, _, _, rfl, hA, T.cl, T.nD, fr_den _, _, rfl, _, rfl, iteF ?_⟩
    refine ⟨_, rfl, _, _, _, _, _, rfl, hA, T.cl, T.nD, fr_den _, _, _, rfl, rfl, _, rfl, if_D (fun z => absurd z (by have := den_pos r; show ¬ (pr r).2 < 1; unfold pr; dsimp only; omega)) (fun _ => ?_)⟩
    refine ⟨_, rfl, _, _, _, _, _, rfl, hA, T.cl, T.nN, fr_num _, _, rfl, _, _, _, _, _, rfl, hA, T.cl, T.nD, fr_den _, _, _, rfl, den_pos r, o3.b2.bi, fun v H1 e1 f1 => ?_⟩
    have hA1 := e1 _ _ hA
    refine ⟨_, rfl, _, _, _, _, _, rfl, hA1, T.cl, T.nN, fr_num _, _, rfl, _, _, _, _, _, rfl, hA1, T.cl, T.nD, fr_den _, (by show 2 ≤ sizeLine; decide), fun t nt => ?_⟩
    have e12 := e1.trans (ext1 (o := .tup [.int (pr r).1, .int (pr r).2]) nt)
    have pt : PV (.ref t) r (upd H1 t (.tup [.int (pr r).1, .int (pr r).2])) := ⟨t, rfl, upd_same⟩
    have f1' : PV v r H1 := by rw [← rat_self r]; exact f1
    refine ⟨pD r, pD r, dp_pv (f1'.ext (ext1 nt)), dp_pv pt, pD_sh r, pD_sh r, _, rfl, ?_⟩
    rw [pD_refl]
    refine iteF ?_
    have hA2 := e12 _ _ hA
    exact ⟨_, rfl, _, _, _, _, _, rfl, hA2, T.cl, T.nN, fr_num _, _, rfl, _, _, _, _, _, rfl, hA2, T.cl, T.nD, fr_den _, (by show 2 ≤ sizeLine; decide), fun t2 nt2 => q _ _ (e12.trans (ext1 nt2)) ⟨t2, rfl, upd_same⟩⟩
end
end Fx

set_option Elab.async false
set_option linter.all false
set_option maxRecDepth 100000
set_option maxHeartbeats 4000000
set_option exponentiation.threshold 20000
namespace Fx
open PySem PySem.Spec PyProof.Rows L2 FM KM
/-! ### arms of a joint -/
theorem all2_snocE {β : Type} {R : V → β → Hp → Prop} {us : List V} {ys : List β} {x : V} {y : β} {H : Hp} (h : All2 R us ys H) (h1 : R x y H) : All2 R (us ++ [x]) (ys ++ [y]) H := h.snoc h1
section
variable {P : Program} {w : World} {K : PySem.W.Frag} {mg : Str → Option Value} {base : Heap} {A : Adr} {CW : Addr}
theorem scAa : FnScope ["web", "joint", "out", "rod", "start", "end", "_", "ear", "place"] ["web", "joint"] (defScope (top 70)) := ⟨rfl, rfl, rfl, by decide +kernel, rfl, by decide +kernel, by decide +kernel⟩
def spAa (A : Adr) (CW : Addr) : Sp := fun vs H Q _ => ∃ a dx fs rv ev, ∃ w : WebD, ∃ j : Nat, vs = [.ref a, .int (j : Int)] ∧ H a = some (.ins CW dx fs) ∧ fs.lookup ("rods" : Str) = some rv ∧ TupL (RodV A) rv w.rods H ∧ fs.lookup ("ear_list" : Str) = some ev ∧ TupL (EarV A) ev w.ears H ∧ w.rods.length ≤ 8 ∧ w.ears.length ≤ 4 ∧ ∀ t H', Ext H H' → TupL ArmV (.ref t) (w.armsAt j) H' → Q (.ref t) H'
theorem ok_Aa {f : Addr} {fd : FuncData} (F : Fun K "_arms_at" "_arms_at" (top 70) f fd) (W_ : WT K mg CW) (en : mg "enumerate" = none) (tu : mg "tuple" = none) : FnOk P w K mg base (L2.CX P w) 1 f fd ["web", "joint"] (spAa A CW) := by
  refine F.okX scAa (fun vs H Q E h => ?_) (fun cdv AA outer s H vs Q E hr h => ?_)
  · obtain ⟨a, dx, fs, rv, ev, w, j, rfl, _⟩ := h; rfl
  · obtain ⟨a, dx, fs, rv, ev, w, j, rfl, ha, lr, hr1, le, he1, hn, hn2, q⟩ := h
    refine ⟨_, (pss_cons (ps_set (i := 2) scAa.nd rfl (Or.inl rfl) (pe_lst pa_nil))
      (pss_cons (ps_for (passes_of rfl) rfl (pi_enumB rfl en (pa_cons (pe_fld (pv 0) rfl) pa_nil)) (pg_tup rfl (pgs_cons (pg_name (i := 3) scAa.nd rfl (Or.inl rfl)) (pgs_cons (pg_tup rfl (pgs_cons (pg_name (i := 4) scAa.nd rfl (Or.inl rfl)) (pgs_cons (pg_name (i := 5) scAa.nd rfl (Or.inl rfl)) (pgs_cons (pg_name (i := 6) scAa.nd rfl (Or.inl rfl)) (pgs_cons (pg_name (i := 6) scAa.nd rfl (Or.inl rfl)) (pgs_cons (pg_name (i := 6) scAa.nd rfl (Or.inl rfl)) pgs_nil)))))) pgs_nil))) (C8.pss_cut (ps_if (pt_cmpR L2.op_eq (pv 4) (pv 1) (nomark _)) (pss_one (ps_expr (pe_bm PySem.F.plainAttrs_list PySem.F.slot_list_append PySem.F.type_list_append mt_append (pv 2) (pa_cons (pe_tup (pa_cons pe_str (pa_cons (pv 3) pa_nil))) pa_nil)))) pss_nil)
      (pss_one (ps_if (pt_cmpR L2.op_eq (pv 5) (pv 1) (nomark _)) (pss_one (ps_expr (pe_bm PySem.F.plainAttrs_list PySem.F.slot_list_append PySem.F.type_list_append mt_append (pv 2) (pa_cons (pe_tup (pa_cons pe_str (pa_cons (pv 3) pa_nil))) pa_nil)))) pss_nil))))
      (pss_cons (ps_for (passes_of rfl) rfl (pi_enumB rfl en (pa_cons (pe_fld (pv 0) rfl) pa_nil)) (pg_tup rfl (pgs_cons (pg_name (i := 7) scAa.nd rfl (Or.inl rfl)) (pgs_cons (pg_tup rfl (pgs_cons (pg_name (i := 8) scAa.nd rfl (Or.inl rfl)) (pgs_cons (pg_name (i := 6) scAa.nd rfl (Or.inl rfl)) pgs_nil))) pgs_nil))) (pss_one (ps_if (pt_cmpR L2.op_eq (pv 8) (pv 1) (nomark _)) (pss_one (ps_expr (pe_bm PySem.F.plainAttrs_list PySem.F.slot_list_append PySem.F.type_list_append mt_append (pv 2) (pa_cons (pe_tup (pa_cons pe_str (pa_cons (pv 7) pa_nil))) pa_nil)))) pss_nil)))
      (pss_one (ps_ret (pe_callTy call_tuple_of (by rfl) tu boot_tuple (pa_cons (pv 2) pa_nil))))))), ?_⟩
    obtain ⟨ra, rx, rfl, hra, hrx⟩ := hr1
    obtain ⟨ea, ex, rfl, hea, hex⟩ := he1
    refine ⟨by decide, fun l nl => ?_⟩
    refine ⟨_, rfl, a, CW, dx, fs, _, rfl, (ext1 nl) _ _ ha, W_.cl, W_.n1, lr, false, ra, rx, rfl, SqT.of ((ext1 nl) _ _ hra), for_it walk_enumB (fun i σ H' => Ext H H' ∧ ∃ us z1 z2 z3 z4 z5 z6, σ = [some (.ref a), some (.int (j : Int)), some (.ref l), z1, z2, z3, z4, z5, z6] ∧ H' l = some (.lst us) ∧ us.length ≤ 2 * i ∧ All2 ArmV us ((List.range i).flatMap (w.rodArm j)) H') ⟨ext1 nl, [], _, _, _, _, _, _, rfl, upd_same, Nat.zero_le _, by simpa using All2.nil⟩ (fun i σ H' _ e => SqT.of (e.1 _ _ hra)) ?_ ?_⟩
    · rintro i x σ H1 H1' hi ⟨e1, us, z1, z2, z3, z4, z5, z6, rfl, hl, hul, hu⟩ ⟨T, u, v, rfl, nT, rfl, hx1, hx2⟩
      dsimp only at hx1 hx2
      cases hx1
      have hi8 : i < 8 := by have := hrx.1; omega
      obtain ⟨r, hr', hv⟩ := hrx.get' hx2
      have er : r = w.rod i := by
        have := WebD.rod_at (w := w) (i := i) (by rw [← hrx.1]; exact hi)
        rw [hr'] at this
        exact Option.some.inj this
      obtain ⟨p, s, rfl, hp, hz⟩ := moRodV _ _ _ _ (Ext.l (e1.trans (ext1 (o := .tup [.int (i : Int), v]) nT))) hv
      refine ⟨T, _, rfl, SqT.of upd_same, rfl, _, _, rfl, _, _, rfl, p, _, rfl, SqT.of hp, rfl, _, _, rfl, _, _, rfl, _, _, rfl, _, _, rfl, _, _, rfl, rfl, rfl, ?_⟩
      have hl0 : upd H1 T (.tup [.int (i : Int), .ref p]) l = some (.lst us) := (ext1 nT) _ _ hl
      have hu0 := hu.ext moArmV (ext1 (o := .tup [.int (i : Int), .ref p]) nT)
      have e10 := e1.trans (ext1 (o := .tup [.int (i : Int), .ref p]) nT)
      generalize upd H1 T (.tup [.int (i : Int), .ref p]) = H2 at hl0 hu0 e10 hp
      clear hl hu
      have hl := hl0
      refine ⟨fun σ H' => Ext H H' ∧ ∃ us z5 z6, σ = [some (.ref a), some (.int (j : Int)), some (.ref l), some (.int (i : Int)), some (.int (r.st : Int)), some (.int (r.en : Int)), some (.int r.tw), z5, z6] ∧ H' l = some (.lst us) ∧ us.length ≤ 2 * i + 1 ∧ All2 ArmV us ((List.range i).flatMap (w.rodArm j) ++ (if (w.rod i).st = j then [(Side.st, i)] else [])) H', ?_, ?_⟩
      · refine ⟨_, rfl, _, rfl, rfl, _, rfl, if_D (fun c => ?_) (fun c => ?_)⟩
        · have cj : (w.rod i).st = j := by injection c with c; rw [← er]; omega
          rw [if_pos cj]
          refine ⟨_, rfl, .inl ⟨rfl, _, SqL.of hl⟩, _, rfl, (by show 2 ≤ sizeLine; decide), fun t nt => ⟨l, us, _, rfl, rfl, by rw [upd_ne (ne_of_none hl nt)]; exact hl, by rw [sizeLine_eq]; omega, ?_⟩⟩
          have ee : ExtL H2 (upd (upd H2 t (.tup [.str "start", .int (i : Int)])) l (.lst (us ++ [.ref t]))) := (Ext.l (ext1 nt)).trans (ExtL.upd (xs := us) (by rw [upd_ne (ne_of_none hl nt)]; exact hl))
          have ht : ArmV (.ref t) (Side.st, i) (upd (upd H2 t (.tup [.str "start", .int (i : Int)])) l (.lst (us ++ [.ref t]))) := ⟨t, rfl, by rw [upd_ne (fun z => ne_of_none hl nt z.symm), upd_same]; rfl⟩
          exact ⟨kpl nl (e10.trans (ext1 nt)), _, _, _, rfl, upd_same, by rw [List.length_append]; show us.length + 1 ≤ _; omega, (hu0.l moArmV ee).snoc ht⟩
        · have cj : ¬ (w.rod i).st = j := fun z => c (by rw [er, z])
          rw [if_neg cj, List.append_nil]
          exact ⟨e10, us, _, _, rfl, hl, by omega, hu0⟩
      · rintro σ H2 ⟨e10, us, z5, z6, rfl, hl, hul, hu0⟩
        have es : (List.range (i + 1)).flatMap (w.rodArm j) = ((List.range i).flatMap (w.rodArm j) ++ (if (w.rod i).st = j then [(Side.st, i)] else [])) ++ (if (w.rod i).en = j then [(Side.en, i)] else []) := by
          rw [List.range_succ, List.flatMap_append]
          simp [WebD.rodArm]
        refine ⟨_, rfl, _, rfl, rfl, _, rfl, if_D (fun c => ?_) (fun c => ?_)⟩
        · have cj : (w.rod i).en = j := by injection c with c; rw [← er]; omega
          rw [if_pos cj] at es
          refine ⟨_, rfl, .inl ⟨rfl, _, SqL.of hl⟩, _, rfl, (by show 2 ≤ sizeLine; decide), fun t nt => ⟨l, us, _, rfl, rfl, by rw [upd_ne (ne_of_none hl nt)]; exact hl, by rw [sizeLine_eq]; omega, ?_⟩⟩
          have ee : ExtL H2 (upd (upd H2 t (.tup [.str "end", .int (i : Int)])) l (.lst (us ++ [.ref t]))) := (Ext.l (ext1 nt)).trans (ExtL.upd (xs := us) (by rw [upd_ne (ne_of_none hl nt)]; exact hl))
          have ht : ArmV (.ref t) (Side.en, i) (upd (upd H2 t (.tup [.str "end", .int (i : Int)])) l (.lst (us ++ [.ref t]))) := ⟨t, rfl, by rw [upd_ne (fun z => ne_of_none hl nt z.symm), upd_same]; rfl⟩
          exact ⟨kpl nl (e10.trans (ext1 nt)), _, _, _, _, _, _, _, rfl, upd_same, by rw [List.length_append]; show us.length + 1 ≤ _; omega, by rw [es]; exact (hu0.l moArmV ee).snoc ht⟩
        · have cj : ¬ (w.rod i).en = j := fun z => c (by rw [er, z])
          rw [if_neg cj, List.append_nil] at es
          exact ⟨e10, us, _, _, _, _, _, _, rfl, hl, by omega, by rw [es]; exact hu0⟩
    · rintro σ H1 ⟨e1, us, z1, z2, z3, z4, z5, z6, rfl, hl, hul, hu⟩
      rw [hrx.1] at hul hu
      refine ⟨_, rfl, a, CW, dx, fs, _, rfl, e1 _ _ ha, W_.cl, W_.n2, le, false, ea, ex, rfl, SqT.of (e1 _ _ hea), for_it walk_enumB (fun i σ H' => Ext H H' ∧ ∃ us z1 z2 z3 z4 z5 z6, σ = [some (.ref a), some (.int (j : Int)), some (.ref l), z1, z2, z3, z4, z5, z6] ∧ H' l = some (.lst us) ∧ us.length ≤ 16 + i ∧ All2 ArmV us ((List.range w.rods.length).flatMap (w.rodArm j) ++ (List.range i).flatMap (w.earArm j)) H') ⟨e1, us, _, _, _, _, _, _, rfl, hl, by omega, by simpa using hu⟩ (fun i σ H' _ e => SqT.of (e.1 _ _ hea)) ?_ ?_⟩
      · rintro i x σ H1 H1' hi ⟨e1, us, z1, z2, z3, z4, z5, z6, rfl, hl, hul, hu⟩ ⟨T, u, v, rfl, nT, rfl, hx1, hx2⟩
        dsimp only at hx1 hx2
        cases hx1
        have hi8 : i < 4 := by have := hex.1; omega
        obtain ⟨r, hr', hv⟩ := hex.get' hx2
        have er : r = w.ear i := by
          have := WebD.ear_at (w := w) (i := i) (by rw [← hex.1]; exact hi)
          rw [hr'] at this
          exact Option.some.inj this
        obtain ⟨p, s, rfl, hp, hz⟩ := moEarV _ _ _ _ (Ext.l (e1.trans (ext1 (o := .tup [.int (i : Int), v]) nT))) hv
        refine ⟨T, _, rfl, SqT.of upd_same, rfl, _, _, rfl, _, _, rfl, p, _, rfl, SqT.of hp, rfl, _, _, rfl, _, _, rfl, rfl, rfl, ?_⟩
        have hl0 : upd H1 T (.tup [.int (i : Int), .ref p]) l = some (.lst us) := (ext1 nT) _ _ hl
        have hu0 := hu.ext moArmV (ext1 (o := .tup [.int (i : Int), .ref p]) nT)
        have e10 := e1.trans (ext1 (o := .tup [.int (i : Int), .ref p]) nT)
        generalize upd H1 T (.tup [.int (i : Int), .ref p]) = H2 at hl0 hu0 e10 hp
        clear hl hu
        have hl := hl0
        have es : (List.range (i + 1)).flatMap (w.earArm j) = (List.range i).flatMap (w.earArm j) ++ (if (w.ear i).pl = j then [(Side.ea, i)] else []) := by
          rw [List.range_succ, List.flatMap_append]
          simp [WebD.earArm]
        refine ⟨_, rfl, _, rfl, rfl, _, rfl, if_D (fun c => ?_) (fun c => ?_)⟩
        · have cj : (w.ear i).pl = j := by injection c with c; rw [← er]; omega
          rw [if_pos cj] at es
          refine ⟨_, rfl, .inl ⟨rfl, _, SqL.of hl⟩, _, rfl, (by show 2 ≤ sizeLine; decide), fun t nt => ⟨l, us, _, rfl, rfl, by rw [upd_ne (ne_of_none hl nt)]; exact hl, by rw [sizeLine_eq]; omega, ?_⟩⟩
          have ee : ExtL H2 (upd (upd H2 t (.tup [.str "ear", .int (i : Int)])) l (.lst (us ++ [.ref t]))) := (Ext.l (ext1 nt)).trans (ExtL.upd (xs := us) (by rw [upd_ne (ne_of_none hl nt)]; exact hl))
          have ht : ArmV (.ref t) (Side.ea, i) (upd (upd H2 t (.tup [.str "ear", .int (i : Int)])) l (.lst (us ++ [.ref t]))) := ⟨t, rfl, by rw [upd_ne (fun z => ne_of_none hl nt z.symm), upd_same]; rfl⟩
          exact ⟨kpl nl (e10.trans (ext1 nt)), _, _, _, _, _, _, _, rfl, upd_same, by rw [List.length_append]; show us.length + 1 ≤ _; omega, by rw [es, ← List.append_assoc]; exact (hu0.l moArmV ee).snoc ht⟩
        · have cj : ¬ (w.ear i).pl = j := fun z => c (by rw [er, z])
          rw [if_neg cj, List.append_nil] at es
          exact ⟨e10, us, _, _, _, _, _, _, rfl, hl, by omega, by rw [es]; exact hu0⟩
      · rintro σ H1 ⟨e1, us, z1, z2, z3, z4, z5, z6, rfl, hl, hul, hu⟩
        rw [hex.1] at hu
        exact ⟨_, rfl, l, us, rfl, .inl ⟨SqL.of hl, fun t nt => q t _ (e1.trans (ext1 nt)) ⟨t, us, rfl, upd_same, hu.ext moArmV (ext1 nt)⟩⟩⟩
end
end Fx

set_option Elab.async false
set_option linter.all false
set_option maxRecDepth 100000
set_option maxHeartbeats 4000000
set_option exponentiation.threshold 20000
namespace Fx
open PySem PySem.Spec PyProof.Rows L2 FM KM
/-! ### a web is made -/
theorem tseq_of {t u : TS} {D : Ends} {σ : L2.St} {H : Hp} (h : t { D with nx := u D } σ H) : tSeq t u D σ H := h
theorem tasg_of {te : TE} {g : TG} {D : Ends} {σ : L2.St} {H : Hp} (h : te σ H fun x H1 => g x σ H1 D.nx) : tAsg te g D σ H := h
theorem sfld_of {K : PySem.W.Frag} {ta tv : TE} {f : Str} {D : Ends} {σ : L2.St} {H : Hp} (h : tv σ H fun y H1 => ta σ H1 fun x H2 => ∃ a C dx fs, x = .ref a ∧ H2 a = some (.ins C dx fs) ∧ Cls K C ∧ NoAttr K C f ∧ fs.length < 1000 ∧ D.nx σ (upd H2 a (.ins C dx (putF f y fs)))) : sFld K ta tv f D σ H := h
def RodP (A : Adr) (v : V) (r : RodD) (H : Hp) : Prop := ∃ a s, v = .ref a ∧ ((H a = some (.tup [.int (r.st : Int), .int (r.en : Int), .int (r.len : Int), s]) ∧ r.tw = 1) ∨ H a = some (.tup [.int (r.st : Int), .int (r.en : Int), .int (r.len : Int), s, .int r.tw])) ∧ NV A s r.z H
theorem moRodP {A : Adr} : MoX (RodP A) := fun x y H H' e h => by
  obtain ⟨a, s, h1, h2, h3⟩ := h
  exact ⟨a, s, h1, h2.imp (fun h => ⟨e _ _ h.1 (fun ys z => by cases z), h.2⟩) (fun h => e _ _ h (fun ys z => by cases z)), h3.l e⟩
def pf7 (j r e : V) (c : Nat) (s : V) (n : Nat) (f : V) : List (Str × V) := [("joints", j), ("rods", r), ("ear_list", e), ("cells", .int (c : Int)), ("strengths", s), ("ears", .int (n : Int)), ("first_cells", f)]
def pf8 (j r e : V) (c : Nat) (s : V) (n : Nat) (f al : V) : List (Str × V) := [("joints", j), ("rods", r), ("ear_list", e), ("cells", .int (c : Int)), ("strengths", s), ("ears", .int (n : Int)), ("first_cells", f), ("arm_lists", al)]
def pf9 (j r e : V) (c : Nat) (s : V) (n : Nat) (f al az : V) : List (Str × V) := [("joints", j), ("rods", r), ("ear_list", e), ("cells", .int (c : Int)), ("strengths", s), ("ears", .int (n : Int)), ("first_cells", f), ("arm_lists", al), ("arm_strengths", az)]
theorem fv_nv' {A : Adr} {xs : List V} {rs : List Rat} {H : Hp} (h : All2 (FV A) xs rs H) : All2 (NV A) xs rs H := h.imp (f := id) (fun x y h => h.num) (by simp)
theorem _root_.KM.WebD.ws_flat {w : WebD} : w.ws = w.rods.flatMap fun r => List.replicate (2 * r.len) r.z := by
  have e : w.rods = (List.range w.rods.length).map w.rod := by
    refine List.ext_getElem (by simp) fun i h1 h2 => ?_
    have := WebD.rod_at (w := w) h1
    rw [List.getElem?_eq_getElem h1] at this
    simp
    exact Option.some.inj this
  conv => rhs; rw [e]
  unfold WebD.ws WebD.wsTo
  rw [List.flatMap_map]
abbrev sWi : Stmt := inClass (top 62) 4
section
variable {P : Program} {w : World} {K : PySem.W.Frag} {mg : Str → Option Value} {base : Heap} {A : Adr} {CW CP : Addr}
theorem scWi : FnScope ["self", "joints", "rods", "ears", "told_rods", "rod", "start", "end", "length", "strength", "twist", "joint", "_", "arms", "arm"] ["self", "joints", "rods", "ears"] (defScope sWi) := ⟨rfl, rfl, rfl, by decide +kernel, rfl, by decide +kernel, by decide +kernel⟩
def spWi (K : PySem.W.Frag) (A : Adr) (CW : Addr) : Sp := fun vs H Q _ => ∃ x dx lj js kr lr rxs ke le exs, ∃ w : WebD, vs = [.ref x, .ref lj, .ref lr, .ref le] ∧ H x = some (.ins CW dx []) ∧ SqL K H lj js ∧ All2 KindV js w.kinds H ∧ SqB kr K H lr rxs ∧ All2 (RodP A) rxs w.rods H ∧ SqB ke K H le exs ∧ All2 (EarN A) exs w.ears H ∧
  w.kinds.length ≤ 8 ∧ w.rods.length ≤ 8 ∧ w.ears.length ≤ 4 ∧ (∀ r ∈ w.rods, RodOk w.kinds.length r) ∧ (∀ r ∈ w.ears, EarOk w.kinds.length r) ∧ w.cells ≤ 24 ∧ ∀ H', Kp x H H' → WebAt A CW H' x w → Q .non H'
theorem ok_Wi {f : Addr} {fd : FuncData} {d1 d2 d3 : V} (F : FunD K "__init__" "Web.__init__" (defArgs sWi) (defBody sWi) (defScope sWi) [d1, d2, d3] [] f fd) (W_ : WT K mg CW) (F_ : FA P w K mg base A) (hne : CW ≠ A.C) {mcP : Value} (mgP : mg "Player" = some (.ref CP)) (crP : ClX.CRead K CP mcP) {pi : Addr} (bmP : BMet K CP mcP "__init__" pi) (kP : Cal P w K mg base 5 pi ["self", "cells", "strengths"] (spPi K A CW)) (h1 : LF P w K mg base "_check_joints" 2 ["joints"] (spCjs K)) (h2 : LF P w K mg base "_check_rods" 6 ["rods", "joint_count"] (spCrs K A)) (h3 : LF P w K mg base "_check_ears" 6 ["ears", "joint_count"] (spCes K A)) (h4 : LF P w K mg base "rod_with_twist" 1 ["rod"] (spRt K)) (h5 : LF P w K mg base "cell_count" 1 ["rods"] (spCo2 K)) (h6 : LF P w K mg base "_arms_at" 1 ["web", "joint"] (spAa A CW)) (h7 : LF P w K mg base "_arm_strength" 1 ["web", "arm"] (spAs A CW)) (h8 : LF P w K mg base "_cell_strengths" 1 ["rods"] (spCsg K A)) (le : mg "len" = none) (tu : mg "tuple" = none) (ra : mg "range" = none) : FnOk P w K mg base (L2.CX P w) 7 f fd ["self", "joints", "rods", "ears"] (spWi K A CW) := by
  refine F.ok scWi (fun vs H Q E h => ?_) (fun cdv AA outer s H vs Q E hr h => ?_)
  · obtain ⟨x, dx, lj, js, kr, lr, rxs, ke, le, exs, w, rfl, _⟩ := h
    rfl
  · obtain ⟨x, dx, lj, js, kr, lr, rxs, ke, le', exs, w, rfl, hx, sj, aj, sr, ar, se, ae, n8, m8, e4, rok, eok, c24, q⟩ := h
    obtain ⟨f1, g1, c1⟩ := h1
    obtain ⟨fd1, G1, b1⟩ := c1.ex
    obtain ⟨f2, g2, c2⟩ := h2
    obtain ⟨fd2, G2, b2⟩ := c2.ex
    obtain ⟨f3, g3, c3⟩ := h3
    obtain ⟨fd3, G3, b3⟩ := c3.ex
    obtain ⟨f4, g4, c4⟩ := h4
    obtain ⟨fd4, G4, b4⟩ := c4.ex
    obtain ⟨f5, g5, c5⟩ := h5
    obtain ⟨fd5, G5, b5⟩ := c5.ex
    obtain ⟨f6, g6, c6⟩ := h6
    obtain ⟨fd6, G6, b6⟩ := c6.ex
    obtain ⟨f7, g7, c7⟩ := h7
    obtain ⟨fd7, G7, b7⟩ := c7.ex
    obtain ⟨f8, g8, c8⟩ := h8
    obtain ⟨fd8, G8, b8⟩ := c8.ex
    obtain ⟨fdP, GP, bP⟩ := kP.ex
    obtain ⟨fdO, GO, bO⟩ := F_.O.ex
    refine ⟨_, (pss_cons (ps_expr (pe_call G1 (hr.mono (by decide)) rfl g1 c1.kp b1 .nil (E := E0) passL (pa_cons (pv 1) pa_nil)))
      (pss_cons (ps_setLc (i := 4) (own := [("rod", 5)]) (g := (gName 5)) rfl scWi.nd rfl rfl (sw_true rfl rfl rfl rfl) (pi_seq (pv 2)) (blkOk_by (own := [("rod", 5)]) (N := ["self", "joints", "rods", "ears", "told_rods", "rod", "start", "end", "length", "strength", "twist", "joint", "_", "arms", "arm"]) (sc := defScope (inClass (top 62) 4)) (by decide +kernel)) (fun _ _ _ _ _ => (pg_name (i := 5) scWi.nd rfl (Or.inl rfl))) (fun _ _ _ _ _ => pts_nil) (fun _ _ _ _ _ => (pe_call G4 (hr.mono (by decide)) rfl g4 c4.kp b4 .nil (E := E0) passL (pa_cons (pv 5) pa_nil))))
      (pss_cons (ps_expr (pe_call G2 (hr.mono (by decide)) rfl g2 c2.kp b2 .nil (E := E0) passL (pa_cons (pv 4) (pa_cons (pe_callB call_len_seq (by rfl) le PySem.boot_len (pa_cons (pv 1) pa_nil)) pa_nil))))
      (pss_cons (ps_expr (pe_call G3 (hr.mono (by decide)) rfl g3 c3.kp b3 .nil (E := E0) passL (pa_cons (pv 3) (pa_cons (pe_callB call_len_seq (by rfl) le PySem.boot_len (pa_cons (pv 1) pa_nil)) pa_nil))))
      (pss_cons (ps_fld (pv 0) (pe_callTy call_tuple_of (by rfl) tu boot_tuple (pa_cons (pv 1) pa_nil)) rfl)
      (pss_cons (ps_fld (pv 0) (pe_callTy call_tuple_of (by rfl) tu boot_tuple (pa_cons (pe_lc (own := [("start", 6), ("end", 7), ("length", 8), ("strength", 9), ("twist", 10)]) (g := (gTup K 5 (gCons (gName 6) (gCons (gName 7) (gCons (gName 8) (gCons (gName 9) (gCons (gName 10) gNil))))))) rfl scWi.nd (pi_seq (pv 4)) (blkOk_by (own := [("start", 6), ("end", 7), ("length", 8), ("strength", 9), ("twist", 10)]) (N := ["self", "joints", "rods", "ears", "told_rods", "rod", "start", "end", "length", "strength", "twist", "joint", "_", "arms", "arm"]) (sc := defScope (inClass (top 62) 4)) (by decide +kernel)) (fun _ _ _ _ _ => (pg_tup rfl (pgs_cons (pg_name (i := 6) scWi.nd rfl (Or.inl rfl)) (pgs_cons (pg_name (i := 7) scWi.nd rfl (Or.inl rfl)) (pgs_cons (pg_name (i := 8) scWi.nd rfl (Or.inl rfl)) (pgs_cons (pg_name (i := 9) scWi.nd rfl (Or.inl rfl)) (pgs_cons (pg_name (i := 10) scWi.nd rfl (Or.inl rfl)) pgs_nil))))))) (fun _ _ _ _ _ => pts_nil) (fun _ _ _ _ _ => (pe_tup (pa_cons (pv 6) (pa_cons (pv 7) (pa_cons (pv 8) (pa_cons (pe_smeth (pe_glob (v := .ref A.C) (by rfl) F_.T.mgC rfl) F_.S.cr F_.S.sm F_.T.tC GO (hr.mono (by decide)) bO (E := E0) passL (pa_cons (pv 9) pa_nil)) (pa_cons (pv 10) pa_nil)))))))) pa_nil)) rfl)
      (pss_cons (ps_fld (pv 0) (pe_callTy call_tuple_of (by rfl) tu boot_tuple (pa_cons (pe_lc (own := [("joint", 11), ("strength", 9)]) (g := (gTup K 2 (gCons (gName 11) (gCons (gName 9) gNil)))) rfl scWi.nd (pi_seq (pv 3)) (blkOk_by (own := [("joint", 11), ("strength", 9)]) (N := ["self", "joints", "rods", "ears", "told_rods", "rod", "start", "end", "length", "strength", "twist", "joint", "_", "arms", "arm"]) (sc := defScope (inClass (top 62) 4)) (by decide +kernel)) (fun _ _ _ _ _ => (pg_tup rfl (pgs_cons (pg_name (i := 11) scWi.nd rfl (Or.inl rfl)) (pgs_cons (pg_name (i := 9) scWi.nd rfl (Or.inl rfl)) pgs_nil)))) (fun _ _ _ _ _ => pts_nil) (fun _ _ _ _ _ => (pe_tup (pa_cons (pv 11) (pa_cons (pe_smeth (pe_glob (v := .ref A.C) (by rfl) F_.T.mgC rfl) F_.S.cr F_.S.sm F_.T.tC GO (hr.mono (by decide)) bO (E := E0) passL (pa_cons (pv 9) pa_nil)) pa_nil))))) pa_nil)) rfl)
      (pss_cons (ps_expr (pe_bmethC (pe_glob (v := .ref CP) (by rfl) mgP rfl) crP bmP GP (hr.mono (by decide)) bP (E := E0) passL (pa_cons (pv 0) (pa_cons (pe_call G5 (hr.mono (by decide)) rfl g5 c5.kp b5 .nil (E := E0) passL (pa_cons (pe_fld (pv 0) rfl) pa_nil)) (pa_cons (pe_lc (own := [("_", 12), ("strength", 9)]) (g := (gTup K 2 (gCons (gName 12) (gCons (gName 9) gNil)))) rfl scWi.nd (pi_seq (pe_fld (pv 0) rfl)) (blkOk_by (own := [("_", 12), ("strength", 9)]) (N := ["self", "joints", "rods", "ears", "told_rods", "rod", "start", "end", "length", "strength", "twist", "joint", "_", "arms", "arm"]) (sc := defScope (inClass (top 62) 4)) (by decide +kernel)) (fun _ _ _ _ _ => (pg_tup rfl (pgs_cons (pg_name (i := 12) scWi.nd rfl (Or.inl rfl)) (pgs_cons (pg_name (i := 9) scWi.nd rfl (Or.inl rfl)) pgs_nil)))) (fun _ _ _ _ _ => pts_nil) (fun _ _ _ _ _ => (pv 9))) pa_nil)))))
      (pss_cons (ps_fld (pv 0) (pe_callTy call_tuple_of (by rfl) tu boot_tuple (pa_cons (pe_lc (own := [("rod", 5)]) (g := (gName 5)) rfl scWi.nd (pi_range1 rfl ra (pa_cons (pe_callB call_len_seq (by rfl) le PySem.boot_len (pa_cons (pe_fld (pv 0) rfl) pa_nil)) pa_nil)) (blkOk_by (own := [("rod", 5)]) (N := ["self", "joints", "rods", "ears", "told_rods", "rod", "start", "end", "length", "strength", "twist", "joint", "_", "arms", "arm"]) (sc := defScope (inClass (top 62) 4)) (by decide +kernel)) (fun _ _ _ _ _ => (pg_name (i := 5) scWi.nd rfl (Or.inl rfl))) (fun _ _ _ _ _ => pts_nil) (fun _ _ _ _ _ => (pe_call G5 (hr.mono (by decide)) rfl g5 c5.kp b5 .nil (E := E0) passL (pa_cons (pe_slice (sl_BK (K := K)) (pe_fldK (K := K) (pv 0) rfl) po_none (po_some (pv 5))) pa_nil)))) pa_nil)) rfl)
      (pss_cons (ps_fld (pv 0) (pe_callTy call_tuple_of (by rfl) tu boot_tuple (pa_cons (pe_lc (own := [("joint", 11)]) (g := (gName 11)) rfl scWi.nd (pi_range1 rfl ra (pa_cons (pe_callB call_len_seq (by rfl) le PySem.boot_len (pa_cons (pe_fld (pv 0) rfl) pa_nil)) pa_nil)) (blkOk_by (own := [("joint", 11)]) (N := ["self", "joints", "rods", "ears", "told_rods", "rod", "start", "end", "length", "strength", "twist", "joint", "_", "arms", "arm"]) (sc := defScope (inClass (top 62) 4)) (by decide +kernel)) (fun _ _ _ _ _ => (pg_name (i := 11) scWi.nd rfl (Or.inl rfl))) (fun _ _ _ _ _ => pts_nil) (fun _ _ _ _ _ => (pe_call G6 (hr.mono (by decide)) rfl g6 c6.kp b6 .nil (E := E0) passL (pa_cons (pv 0) (pa_cons (pv 11) pa_nil))))) pa_nil)) rfl)
      (pss_cons (ps_fld (pv 0) (pe_callTy call_tuple_of (by rfl) tu boot_tuple (pa_cons (pe_lc (own := [("arms", 13)]) (g := (gName 13)) rfl scWi.nd (pi_seq (pe_fld (pv 0) rfl)) (blkOk_by (own := [("arms", 13)]) (N := ["self", "joints", "rods", "ears", "told_rods", "rod", "start", "end", "length", "strength", "twist", "joint", "_", "arms", "arm"]) (sc := defScope (inClass (top 62) 4)) (by decide +kernel)) (fun _ _ _ _ _ => (pg_name (i := 13) scWi.nd rfl (Or.inl rfl))) (fun _ _ _ _ _ => pts_nil) (fun _ _ _ _ _ => (pe_callTy (call_tuple_ofK (K := K)) (by rfl) tu boot_tuple (pa_cons (pe_lc (own := [("arm", 14)]) (g := (gName 14)) rfl scWi.nd (pi_seqK (K := K) (pv 13)) (blkOk_by (own := [("arm", 14)]) (N := ["self", "joints", "rods", "ears", "told_rods", "rod", "start", "end", "length", "strength", "twist", "joint", "_", "arms", "arm"]) (sc := { kind := .function, names := [((".0" : Str), .local), (("arms" : Str), .local), (("tuple" : Str), .globalImplicit), (("self" : Str), .cell)], isGenerator := false, isCoroutine := false }) (by decide +kernel)) (fun _ _ _ _ _ => (pg_name (i := 14) scWi.nd rfl (Or.inl rfl))) (fun _ _ _ _ _ => pts_nil) (fun _ _ _ _ _ => (pe_call G7 (hr.mono (by decide)) rfl g7 c7.kp b7 .nil (E := E0) passL (pa_cons (pv 0) (pa_cons (pv 14) pa_nil))))) pa_nil)))) pa_nil)) rfl)
      (pss_one (ps_fld (pv 0) (pe_call G8 (hr.mono (by decide)) rfl g8 c8.kp b8 .nil (E := E0) passL (pa_cons (pe_fld (pv 0) rfl) pa_nil)) rfl))))))))))))), ?_⟩
    have okw : w.Ok := ⟨fun r hr => (rok r hr).st, fun r hr => (rok r hr).en, fun r hr => (rok r hr).l1, fun r hr => (eok r hr).pl, fun r hr => (rok r hr).z, fun r hr => (eok r hr).z, fun r hr => (rok r hr).tw, n8, m8, e4, c24⟩
    have big : ∀ n : Nat, n ≤ 1000 → n ≤ sizeLine := fun n h => by rw [sizeLine_eq]; omega
    have s0 : L2.start ["self", "joints", "rods", "ears", "told_rods", "rod", "start", "end", "length", "strength", "twist", "joint", "_", "arms", "arm"] [V.ref x, V.ref lj, V.ref lr, V.ref le'] = [some (.ref x), some (.ref lj), some (.ref lr), some (.ref le'), none, none, none, none, none, none, none, none, none, none, none] := rfl
    rw [s0]
    refine ⟨_, rfl, true, lj, js, w.kinds, rfl, sj, aj, n8, ?_⟩
    dsimp only
    -- told_rods
    refine tseq_of (t := tAsg (tLc _ _ _ _ _) (gName 4)) ?_
    refine tasg_of ?_
    refine tlc_X (R := RodN A) (ys := w.rods) (H1 := H) (by rw [← ar.1]; exact walk_S (K := K) (k := kr) (a := lr) (xs := rxs)) (fun R r => ⟨_, rfl, kr, lr, rxs, rfl, sr, r⟩) moRodN (big _ (by omega)) (fun H2 e => sr.ext e) ?_ gm_name fun D told H1 nD e1 hD fD => ?_
    · rintro i xx _ H2 rd hrd e ⟨rfl, hxi⟩ Qy kk
      obtain ⟨p, s9, rfl, hp, hz⟩ := moRodP _ _ _ _ (Ext.l e) (ar.2 i xx rd hxi hrd)
      rcases hp with ⟨hp, ht⟩ | hp
      · refine ⟨rfl, _, rfl, p, _, rfl, SqT.of hp, .inl ⟨rfl, fun t nt => kk _ _ (ext1 nt) ⟨t, s9, rfl, ?_, hz.ext (ext1 nt)⟩⟩⟩
        rw [ht]
        exact upd_same
      · exact ⟨rfl, _, rfl, p, _, rfl, SqT.of hp, .inr ⟨rfl, kk _ _ Ext.rfl' ⟨p, s9, rfl, hp, hz⟩⟩⟩
    have cl24 : (w.rods.map fun r => 2 * r.len).sum ≤ 24 := by
      have e : w.cells = (w.rods.map fun r => 2 * r.len).sum := by unfold WebD.cells WebD.cellsTo; rw [List.take_length]
      rw [← e]
      exact c24
    dsimp only [gName, List.set]
    refine ⟨_, rfl, _, rfl, lj, js, rfl, .inl (SqL.ext sj e1), true, D, told, w.rods, w.kinds.length, by rw [aj.1]; rfl, SqL.of hD, fD, m8, rok, cl24, fun H2 e2 => ?_⟩
    refine ⟨_, rfl, _, rfl, lj, js, rfl, .inl (SqL.ext sj (e1.trans e2)), ke, le', exs, w.ears, w.kinds.length, by rw [aj.1]; rfl, se.ext (e1.trans e2), ae.ext moEarN (e1.trans e2), e4, eok, fun H3 e3 => ?_⟩
    have e03 : Ext H H3 := (e1.trans e2).trans e3
    have hx3 := e03 _ _ hx
    have fD3 := fD.ext moRodN (e2.trans e3)
    have hD3 := (e2.trans e3) _ _ hD
    have ae3 := ae.ext moEarN e03
    have se3 := se.ext e03
    have sj3 := SqL.ext sj e03
    have kp3 : Kp x H H3 := Kp.of e03
    clear e03 e1 e2 e3 fD hD
    -- joints
    refine ⟨_, rfl, lj, js, rfl, .inl ⟨sj3, fun jt njt => ?_⟩⟩
    have hx4 := (ext1 (o := .tup js) njt) _ _ hx3
    refine ⟨_, rfl, x, CW, dx, _, rfl, hx4, W_.cl, W_.n0, (by show 0 < 1000; decide), ?_⟩
    have np5 : putF ("joints" : Str) (V.ref jt) [] = [(("joints" : Str), V.ref jt)] := rfl
    rw [np5]
    have jx : jt ≠ x := fun z => by rw [z, upd_same] at hx4; cases hx4
    have J5 : TupL KindV (.ref jt) w.kinds (upd (upd H3 jt (.tup js)) x (.ins CW dx [(("joints" : Str), V.ref jt)])) := ⟨jt, js, rfl, by rw [upd_ne jx]; exact upd_same, aj⟩
    have xf5 : ExtF A H3 (upd (upd H3 jt (.tup js)) x (.ins CW dx [(("joints" : Str), V.ref jt)])) := (ExtL.f (Ext.l (ext1 njt))).trans (extF_upd hx4 hne)
    have kp35 : Kp x H3 (upd (upd H3 jt (.tup js)) x (.ins CW dx [(("joints" : Str), V.ref jt)])) := (Kp.refl.new njt).upd
    have hx5 : (upd (upd H3 jt (.tup js)) x (.ins CW dx [(("joints" : Str), V.ref jt)])) x = some (.ins CW dx [(("joints" : Str), V.ref jt)]) := upd_same
    have Dx : D ≠ x := fun z => by rw [z, hx3] at hD3; cases hD3
    have fD5 := fD3.f fRodN xf5
    have hD5 := kp35 _ _ hD3 Dx
    have ae5 := ae3.f fEarN xf5
    have se5 := sqB_kp se3 hx3 kp35
    have kp5 := kp3.trans kp35
    dsimp only
    generalize upd (upd H3 jt (.tup js)) x (.ins CW dx [(("joints" : Str), V.ref jt)]) = H5 at J5 xf5 kp35 hx5 fD5 hD5 ae5 se5 kp5
    clear fD3 hD3 ae3 se3 hx4 xf5 kp35
    -- rods
    refine tseq_of (t := sFld _ _ _ _) ?_
    refine sfld_of ?_
    refine tcb_of ?_
    refine tcons_of ?_
    refine tlc_X (R := RodV A) (ys := w.rods) (H1 := H5) (by rw [← fD5.1]; exact walk_S (K := K) (k := true) (a := D) (xs := told)) (fun R r => ⟨_, rfl, true, D, told, rfl, SqL.of hD5, r⟩) moRodV (big _ (by omega)) (fun H2 e => SqL.of (e _ _ hD5)) ?_ (gm_tup (gms_cons gm_name (gms_cons gm_name (gms_cons gm_name (gms_cons gm_name (gms_cons gm_name gms_nil)))))) fun D6 rus H6 nD6 e6 hD6 fR => ?_
    · rintro i xx _ H2 rd hrd e ⟨rfl, hxi⟩ Qy kk
      obtain ⟨p, s9, rfl, hp, hz⟩ := moRodN _ _ _ _ (Ext.l e) (fD5.2 i xx rd hxi hrd)
      refine ⟨p, _, rfl, SqT.of hp, rfl, _, _, rfl, _, _, rfl, _, _, rfl, _, _, rfl, _, _, rfl, rfl, rfl, ?_⟩
      refine ⟨_, rfl, _, rfl, _, rfl, rfl, _, rfl, ?_⟩
      refine tnil_of ?_
      dsimp only
      refine of_of (E := E0) hz fun v H4 e4 f4 => ?_
      exact ⟨_, rfl, (by show 5 ≤ sizeLine; decide), fun t nt => kk _ _ (e4.trans (ext1 nt)) ⟨t, v, rfl, upd_same, f4.ext (ext1 nt)⟩⟩
    refine ⟨D6, rus, rfl, .inl ⟨SqL.of hD6, fun rt nrt => ?_⟩⟩
    have hx6 := (e6.trans (ext1 (o := .tup rus) nrt)) _ _ hx5
    refine ⟨_, rfl, x, CW, dx, _, rfl, hx6, W_.cl, W_.n1, (by show 1 < 1000; decide), ?_⟩
    have np6 : putF ("rods" : Str) (V.ref rt) [(("joints" : Str), V.ref jt)] = [(("joints" : Str), V.ref jt), (("rods" : Str), V.ref rt)] := putF_new fun p hp => by
      simp only [List.mem_cons, List.not_mem_nil, or_false] at hp
      rcases hp with rfl <;> exact (by dsimp only; decide +kernel)
    rw [np6]
    have rx : rt ≠ x := fun z => by rw [z, upd_same] at hx6; cases hx6
    have xf57 : ExtF A H5 (upd (upd H6 rt (.tup rus)) x (.ins CW dx [(("joints" : Str), V.ref jt), (("rods" : Str), V.ref rt)])) := (ExtL.f (Ext.l (e6.trans (ext1 nrt)))).trans (extF_upd hx6 hne)
    have xf67 : ExtF A H6 (upd (upd H6 rt (.tup rus)) x (.ins CW dx [(("joints" : Str), V.ref jt), (("rods" : Str), V.ref rt)])) := (ExtL.f (Ext.l (ext1 nrt))).trans (extF_upd hx6 hne)
    have kp57 : Kp x H5 (upd (upd H6 rt (.tup rus)) x (.ins CW dx [(("joints" : Str), V.ref jt), (("rods" : Str), V.ref rt)])) := ((Kp.of e6).new nrt).upd
    have hx7 : (upd (upd H6 rt (.tup rus)) x (.ins CW dx [(("joints" : Str), V.ref jt), (("rods" : Str), V.ref rt)])) x = some (.ins CW dx [(("joints" : Str), V.ref jt), (("rods" : Str), V.ref rt)]) := upd_same
    have hrt7 : (upd (upd H6 rt (.tup rus)) x (.ins CW dx [(("joints" : Str), V.ref jt), (("rods" : Str), V.ref rt)])) rt = some (.tup rus) := by rw [upd_ne rx]; exact upd_same
    have fR7 := fR.f fRodV xf67
    have J7 := fTupL fKindV _ _ _ _ xf57 J5
    have ae7 := ae5.f fEarN xf57
    have se7 := sqB_kp se5 hx5 kp57
    have kp7 := kp5.trans kp57
    dsimp only
    generalize upd (upd H6 rt (.tup rus)) x (.ins CW dx [(("joints" : Str), V.ref jt), (("rods" : Str), V.ref rt)]) = H7 at xf57 xf67 kp57 hx7 hrt7 fR7 J7 ae7 se7 kp7
    clear J5 fD5 hD5 ae5 se5 xf57 xf67 kp57 hx6 fR
    -- ears
    refine tseq_of (t := sFld _ _ _ _) ?_
    refine sfld_of ?_
    refine tcb_of ?_
    refine tcons_of ?_
    refine tlc_X (R := EarV A) (ys := w.ears) (H1 := H7) (by rw [← ae7.1]; exact walk_S (K := K) (k := ke) (a := le') (xs := exs)) (fun R r => ⟨_, rfl, ke, le', exs, rfl, se7, r⟩) moEarV (big _ (by omega)) (fun H2 e => se7.ext e) ?_ (gm_tup (gms_cons gm_name (gms_cons gm_name gms_nil))) fun D8 eus H8 nD8 e8 hD8 fE => ?_
    · rintro i xx _ H2 rd hrd e ⟨rfl, hxi⟩ Qy kk
      obtain ⟨p, s9, rfl, hp, hz⟩ := moEarN _ _ _ _ (Ext.l e) (ae7.2 i xx rd hxi hrd)
      refine ⟨p, _, rfl, SqT.of hp, rfl, _, _, rfl, _, _, rfl, rfl, rfl, ?_⟩
      refine ⟨_, rfl, rfl, _, rfl, ?_⟩
      refine tnil_of ?_
      dsimp only
      refine of_of (E := E0) hz fun v H4 e4 f4 => ?_
      exact ⟨(by show 2 ≤ sizeLine; decide), fun t nt => kk _ _ (e4.trans (ext1 nt)) ⟨t, v, rfl, upd_same, f4.ext (ext1 nt)⟩⟩
    refine ⟨D8, eus, rfl, .inl ⟨SqL.of hD8, fun et net => ?_⟩⟩
    have hx8 := (e8.trans (ext1 (o := .tup eus) net)) _ _ hx7
    refine ⟨_, rfl, x, CW, dx, _, rfl, hx8, W_.cl, W_.n2, (by show 2 < 1000; decide), ?_⟩
    have np8 : putF ("ear_list" : Str) (V.ref et) [(("joints" : Str), V.ref jt), (("rods" : Str), V.ref rt)] = pf3 (.ref jt) (.ref rt) (.ref et) := putF_new fun p hp => by
      simp only [List.mem_cons, List.not_mem_nil, or_false] at hp
      rcases hp with rfl | rfl <;> exact (by dsimp only; decide +kernel)
    rw [np8]
    have ex : et ≠ x := fun z => by rw [z, upd_same] at hx8; cases hx8
    have xf79 : ExtF A H7 (upd (upd H8 et (.tup eus)) x (.ins CW dx (pf3 (.ref jt) (.ref rt) (.ref et)))) := (ExtL.f (Ext.l (e8.trans (ext1 net)))).trans (extF_upd hx8 hne)
    have xf89 : ExtF A H8 (upd (upd H8 et (.tup eus)) x (.ins CW dx (pf3 (.ref jt) (.ref rt) (.ref et)))) := (ExtL.f (Ext.l (ext1 net))).trans (extF_upd hx8 hne)
    have kp79 : Kp x H7 (upd (upd H8 et (.tup eus)) x (.ins CW dx (pf3 (.ref jt) (.ref rt) (.ref et)))) := ((Kp.of e8).new net).upd
    have hx9 : (upd (upd H8 et (.tup eus)) x (.ins CW dx (pf3 (.ref jt) (.ref rt) (.ref et)))) x = some (.ins CW dx (pf3 (.ref jt) (.ref rt) (.ref et))) := upd_same
    have het9 : (upd (upd H8 et (.tup eus)) x (.ins CW dx (pf3 (.ref jt) (.ref rt) (.ref et)))) et = some (.tup eus) := by rw [upd_ne ex]; exact upd_same
    have fE9 := fE.f fEarV xf89
    have J9 := fTupL fKindV _ _ _ _ xf79 J7
    have fR9 := fR7.f fRodV xf79
    have hrt9 := kp79 _ _ hrt7 rx
    have kp9 := kp7.trans kp79
    dsimp only
    generalize upd (upd H8 et (.tup eus)) x (.ins CW dx (pf3 (.ref jt) (.ref rt) (.ref et))) = H9 at xf79 xf89 kp79 hx9 het9 fE9 J9 fR9 hrt9 kp9
    clear J7 fR7 hrt7 ae7 se7 xf79 xf89 kp79 hx8 fE
    -- Player.__init__
    have lk3 : (pf3 (.ref jt) (.ref rt) (.ref et)).lookup ("rods" : Str) = some (.ref rt) := by
      have q1 : (("rods" : Str) == ("joints" : Str)) = false := by decide +kernel
      simp [pf3, List.lookup, q1]
    have lk3e : (pf3 (.ref jt) (.ref rt) (.ref et)).lookup ("ear_list" : Str) = some (.ref et) := by
      have q1 : (("ear_list" : Str) == ("joints" : Str)) = false := by decide +kernel
      have q2 : (("ear_list" : Str) == ("rods" : Str)) = false := by decide +kernel
      simp [pf3, List.lookup, q1, q2]
    have l12 : ∀ l ∈ w.rods.map (·.len), l ≤ 12 := fun l hl => by
      obtain ⟨r, hr', rfl⟩ := List.mem_map.mp hl
      exact (rok r hr').l2
    have cmap : ∀ rs : List RodD, ((rs.map (·.len)).map fun l => 2 * l).sum = (rs.map fun r => 2 * r.len).sum := fun rs => by
      rw [List.map_map]
      rfl
    refine ⟨rfl, _, rfl, _, rfl, x, CW, dx, _, _, rfl, hx9, W_.cl, W_.n1, lk3, false, rt, rus, w.rods.map (·.len), rfl, SqT.of hrt9, all2_lens (A := A) (K := K) (fun v r H => RodV.len) fR9, by rw [List.length_map]; omega, l12, fun H10 e10 => ?_⟩
    refine tcons_of ?_
    have fE10 := fE9.ext moEarV e10
    refine tlc_X (R := FV A) (ys := w.zs) (H1 := H10) (by unfold WebD.zs; rw [List.length_map, ← fE10.1]; exact walk_S (K := K) (k := false) (a := et) (xs := eus)) (fun R r => ⟨_, rfl, x, CW, dx, _, _, rfl, e10 _ _ hx9, W_.cl, W_.n2, lk3e, false, et, eus, rfl, SqT.of (e10 _ _ het9), r⟩) moFV (big _ (by unfold WebD.zs; rw [List.length_map]; omega)) (fun H2 e => SqT.of (e _ _ (e10 _ _ het9))) ?_ (gm_tup (gms_cons gm_name (gms_cons gm_name gms_nil))) fun D11 sus H11 nD11 e11 hD11 fS => ?_
    · rintro i xx _ H2 z hz' e ⟨rfl, hxi⟩ Qy kk
      unfold WebD.zs at hz'
      rw [List.getElem?_map] at hz'
      obtain ⟨rd, hrd, rfl⟩ := Option.map_eq_some_iff.mp hz'
      obtain ⟨p, s9, rfl, hp, hz⟩ := moEarV _ _ _ _ (Ext.l e) (fE10.2 i xx rd hxi hrd)
      exact ⟨p, _, rfl, SqT.of hp, rfl, _, _, rfl, _, _, rfl, rfl, rfl, _, rfl, kk _ _ Ext.rfl' hz⟩
    have e911 := e10.trans e11
    have zl : w.zs.length = w.ears.length := by unfold WebD.zs; rw [List.length_map]
    refine ⟨x, dx, .ref jt, .ref rt, .ref et, w.cells, true, D11, sus, w.zs, ?_, e911 _ _ hx9, SqL.of hD11, fv_nv' fS, by rw [zl]; omega, fun st H12 kp12 xf12 S12 hx12 => ?_⟩
    · rw [cmap]
      unfold WebD.cells WebD.cellsTo
      rw [List.take_length]
    rw [zl] at hx12
    have xf912 : ExtF A H9 H12 := (ExtL.f (Ext.l e911)).trans xf12
    have kp912 : Kp x H9 H12 := (Kp.of e911).trans kp12
    have J12 := fTupL fKindV _ _ _ _ xf912 J9
    have fR12 := fR9.f fRodV xf912
    have hrt12 := kp912 _ _ hrt9 rx
    have fE12 := fE9.f fEarV xf912
    have het12 := kp912 _ _ het9 ex
    have kp12' := kp9.trans kp912
    clear J9 fR9 hrt9 fE9 het9 fE10 fS hD11 kp12 xf12 xf912 kp912 e911 kp9
    -- first_cells
    have lkr : (pf6 (.ref jt) (.ref rt) (.ref et) w.cells (.ref st) w.ears.length).lookup ("rods" : Str) = some (.ref rt) := by
      have q1 : (("rods" : Str) == ("joints" : Str)) = false := by decide +kernel
      simp [pf6, List.lookup, q1]
    dsimp only
    refine tseq_of (t := sFld _ _ _ _) ?_
    refine sfld_of ?_
    refine tcb_of ?_
    refine tcons_of ?_
    refine tlc_X (R := NatV) (ys := (List.range w.rods.length).map w.cellsTo) (H1 := H12) (by rw [List.length_map, List.length_range, ← fR12.1]; exact walk_range (lo := 0)) (fun R r => ⟨_, rfl, x, CW, dx, _, _, rfl, hx12, W_.cl, W_.n1, lkr, rt, rus, rfl, .inr (SqT.of hrt12), _, rfl, by omega, by have := fR12.1; omega, r⟩) moNatV (big _ (by rw [List.length_map, List.length_range]; omega)) (fun _ _ => trivial) ?_ gm_name fun D13 fus H13 nD13 e13 hD13 fF => ?_
    · rintro i xx _ H2 y hy e ⟨rfl, rfl⟩ Qy kk
      have ei : (0 + (i : Int)) = (i : Int) := by omega
      dsimp only
      rw [ei]
      rw [List.getElem?_map] at hy
      obtain ⟨i', hi', rfl⟩ := Option.map_eq_some_iff.mp hy
      have hlt : i < w.rods.length := by
        have := (List.getElem?_eq_some_iff.mp hi').1
        rwa [List.length_range] at this
      rw [List.getElem?_range hlt] at hi'
      cases hi'
      refine ⟨rfl, _, rfl, x, CW, dx, _, _, rfl, e _ _ hx12, W_.cl, W_.n1, lkr, _, rfl, _, rfl, false, rt, rus, rfl, SqT.of (e _ _ hrt12), fun k2 p2 H3 e3 hs3 => ?_⟩
      have fl := ((all2_lens (A := A) (K := K) (fun v r H => RodV.len) (fR12.ext moRodV e)).take i)
      have ec : cutV rus none (some (i : Int)) = rus.take i := by
        unfold cutV
        rw [HT.sIx_nat]
        have e1 : HT.sIx rus.length 0 none = 0 := rfl
        rw [e1, Nat.min_eq_left (by rw [fR12.1]; omega)]
        simp
      rw [ec] at hs3
      refine ⟨k2, p2, _, _, rfl, hs3, ⟨fl.1, fun a b c h1 h2 => (fl.2 a b c h1 h2).ext e3⟩, by rw [List.length_take, List.length_map]; omega, fun l hl => l12 l (List.mem_of_mem_take hl), fun H4 e4 => kk _ _ (e3.trans e4) ?_⟩
      show V.int _ = V.int _
      rw [← List.map_take, cmap]
      rfl
    refine ⟨D13, fus, rfl, .inl ⟨SqL.of hD13, fun ft nft => ?_⟩⟩
    have hx13 := (e13.trans (ext1 (o := .tup fus) nft)) _ _ hx12
    refine ⟨_, rfl, x, CW, dx, _, rfl, hx13, W_.cl, W_.n6, (by show 6 < 1000; decide), ?_⟩
    have np13 : putF ("first_cells" : Str) (V.ref ft) (pf6 (.ref jt) (.ref rt) (.ref et) w.cells (.ref st) w.ears.length) = pf7 (.ref jt) (.ref rt) (.ref et) w.cells (.ref st) w.ears.length (.ref ft) := putF_new fun p hp => by
      unfold pf6 at hp
      simp only [List.mem_cons, List.not_mem_nil, or_false] at hp
      rcases hp with rfl | rfl | rfl | rfl | rfl | rfl <;> exact (by dsimp only; decide +kernel)
    rw [np13]
    have fx : ft ≠ x := fun z => by rw [z, upd_same] at hx13; cases hx13
    have xfA : ExtF A H12 (upd (upd H13 ft (.tup fus)) x (.ins CW dx (pf7 (.ref jt) (.ref rt) (.ref et) w.cells (.ref st) w.ears.length (.ref ft)))) := (ExtL.f (Ext.l (e13.trans (ext1 nft)))).trans (extF_upd hx13 hne)
    have kpA : Kp x H12 (upd (upd H13 ft (.tup fus)) x (.ins CW dx (pf7 (.ref jt) (.ref rt) (.ref et) w.cells (.ref st) w.ears.length (.ref ft)))) := ((Kp.of e13).new nft).upd
    have hx14 : (upd (upd H13 ft (.tup fus)) x (.ins CW dx (pf7 (.ref jt) (.ref rt) (.ref et) w.cells (.ref st) w.ears.length (.ref ft)))) x = some (.ins CW dx (pf7 (.ref jt) (.ref rt) (.ref et) w.cells (.ref st) w.ears.length (.ref ft))) := upd_same
    have F14 : TupL NatV (.ref ft) ((List.range w.rods.length).map w.cellsTo) (upd (upd H13 ft (.tup fus)) x (.ins CW dx (pf7 (.ref jt) (.ref rt) (.ref et) w.cells (.ref st) w.ears.length (.ref ft)))) := ⟨ft, fus, rfl, by rw [upd_ne fx]; exact upd_same, fF⟩
    have J14 := fTupL fKindV _ _ _ _ xfA J12
    have fR14 := fR12.f fRodV xfA
    have hrt14 := kpA _ _ hrt12 rx
    have fE14 := fE12.f fEarV xfA
    have het14 := kpA _ _ het12 ex
    have S14 := fTupL fFV _ _ _ _ xfA S12
    have kp14 := kp12'.trans kpA
    dsimp only
    generalize upd (upd H13 ft (.tup fus)) x (.ins CW dx (pf7 (.ref jt) (.ref rt) (.ref et) w.cells (.ref st) w.ears.length (.ref ft))) = H14 at xfA kpA hx14 F14 J14 fR14 hrt14 fE14 het14 S14 kp14
    clear J12 fR12 hrt12 fE12 het12 S12 xfA kpA hx13 kp12'
    -- arm_lists
    obtain ⟨jt', jus, ej, hjt14, fJ14⟩ := J14
    cases ej
    have lk7 : ∀ v, (pf7 (.ref jt) (.ref rt) (.ref et) w.cells (.ref st) w.ears.length (.ref ft)).lookup ("rods" : Str) = some v ↔ v = .ref rt := fun v => by
      have q1 : (("rods" : Str) == ("joints" : Str)) = false := by decide +kernel
      simp [pf7, List.lookup, q1, eq_comm]
    have lk7e : (pf7 (.ref jt) (.ref rt) (.ref et) w.cells (.ref st) w.ears.length (.ref ft)).lookup ("ear_list" : Str) = some (.ref et) := by
      have q1 : (("ear_list" : Str) == ("joints" : Str)) = false := by decide +kernel
      have q2 : (("ear_list" : Str) == ("rods" : Str)) = false := by decide +kernel
      simp [pf7, List.lookup, q1, q2]
    have lk7j : (pf7 (.ref jt) (.ref rt) (.ref et) w.cells (.ref st) w.ears.length (.ref ft)).lookup ("joints" : Str) = some (.ref jt) := by simp [pf7, List.lookup]
    refine tseq_of (t := sFld _ _ _ _) ?_
    refine sfld_of ?_
    refine tcb_of ?_
    refine tcons_of ?_
    refine tlc_X (R := TupL ArmV) (ys := (List.range w.kinds.length).map w.armsAt) (H1 := H14) (by rw [List.length_map, List.length_range, ← fJ14.1]; exact walk_range (lo := 0)) (fun R r => ⟨_, rfl, x, CW, dx, _, _, rfl, hx14, W_.cl, W_.n0, lk7j, jt, jus, rfl, .inr (SqT.of hjt14), _, rfl, by omega, by have := fJ14.1; omega, r⟩) (moTupL moArmV) (big _ (by rw [List.length_map, List.length_range]; omega)) (fun _ _ => trivial) ?_ gm_name fun D15 aus H15 nD15 e15 hD15 fA15 => ?_
    · rintro i xx _ H2 y hy e ⟨rfl, rfl⟩ Qy kk
      have ei : (0 + (i : Int)) = (i : Int) := by omega
      dsimp only
      rw [ei]
      rw [List.getElem?_map] at hy
      obtain ⟨i', hi', rfl⟩ := Option.map_eq_some_iff.mp hy
      have hlt : i < w.kinds.length := by
        have := (List.getElem?_eq_some_iff.mp hi').1
        rwa [List.length_range] at this
      rw [List.getElem?_range hlt] at hi'
      cases hi'
      exact ⟨rfl, _, rfl, _, rfl, x, dx, _, .ref rt, .ref et, w, i, rfl, e _ _ hx14, (lk7 _).mpr rfl, ⟨rt, rus, rfl, e _ _ hrt14, fR14.ext moRodV e⟩, lk7e, ⟨et, eus, rfl, e _ _ het14, fE14.ext moEarV e⟩, m8, e4, fun t H4 e4' ft' => kk _ _ e4' ft'⟩
    refine ⟨D15, aus, rfl, .inl ⟨SqL.of hD15, fun lt nlt => ?_⟩⟩
    have hx15 := (e15.trans (ext1 (o := .tup aus) nlt)) _ _ hx14
    refine ⟨_, rfl, x, CW, dx, _, rfl, hx15, W_.cl, W_.n7, (by show 7 < 1000; decide), ?_⟩
    have np15 : putF ("arm_lists" : Str) (V.ref lt) (pf7 (.ref jt) (.ref rt) (.ref et) w.cells (.ref st) w.ears.length (.ref ft)) = pf8 (.ref jt) (.ref rt) (.ref et) w.cells (.ref st) w.ears.length (.ref ft) (.ref lt) := putF_new fun p hp => by
      unfold pf7 at hp
      simp only [List.mem_cons, List.not_mem_nil, or_false] at hp
      rcases hp with rfl | rfl | rfl | rfl | rfl | rfl | rfl <;> exact (by dsimp only; decide +kernel)
    rw [np15]
    have lx : lt ≠ x := fun z => by rw [z, upd_same] at hx15; cases hx15
    have xfB : ExtF A H14 (upd (upd H15 lt (.tup aus)) x (.ins CW dx (pf8 (.ref jt) (.ref rt) (.ref et) w.cells (.ref st) w.ears.length (.ref ft) (.ref lt)))) := (ExtL.f (Ext.l (e15.trans (ext1 nlt)))).trans (extF_upd hx15 hne)
    have xfB5 : ExtF A H15 (upd (upd H15 lt (.tup aus)) x (.ins CW dx (pf8 (.ref jt) (.ref rt) (.ref et) w.cells (.ref st) w.ears.length (.ref ft) (.ref lt)))) := (ExtL.f (Ext.l (ext1 nlt))).trans (extF_upd hx15 hne)
    have kpB : Kp x H14 (upd (upd H15 lt (.tup aus)) x (.ins CW dx (pf8 (.ref jt) (.ref rt) (.ref et) w.cells (.ref st) w.ears.length (.ref ft) (.ref lt)))) := ((Kp.of e15).new nlt).upd
    have hx16 : (upd (upd H15 lt (.tup aus)) x (.ins CW dx (pf8 (.ref jt) (.ref rt) (.ref et) w.cells (.ref st) w.ears.length (.ref ft) (.ref lt)))) x = some (.ins CW dx (pf8 (.ref jt) (.ref rt) (.ref et) w.cells (.ref st) w.ears.length (.ref ft) (.ref lt))) := upd_same
    have hlt16 : (upd (upd H15 lt (.tup aus)) x (.ins CW dx (pf8 (.ref jt) (.ref rt) (.ref et) w.cells (.ref st) w.ears.length (.ref ft) (.ref lt)))) lt = some (.tup aus) := by rw [upd_ne lx]; exact upd_same
    have fA16 := fA15.f (fTupL fArmV) xfB5
    have J16 := fTupL fKindV _ _ _ _ xfB ⟨jt, jus, rfl, hjt14, fJ14⟩
    have fR16 := fR14.f fRodV xfB
    have hrt16 := kpB _ _ hrt14 rx
    have fE16 := fE14.f fEarV xfB
    have het16 := kpB _ _ het14 ex
    have S16 := fTupL fFV _ _ _ _ xfB S14
    have F16 := fTupL fNatV _ _ _ _ xfB F14
    have kp16 := kp14.trans kpB
    dsimp only
    generalize upd (upd H15 lt (.tup aus)) x (.ins CW dx (pf8 (.ref jt) (.ref rt) (.ref et) w.cells (.ref st) w.ears.length (.ref ft) (.ref lt))) = H16 at xfB xfB5 kpB hx16 hlt16 fA16 J16 fR16 hrt16 fE16 het16 S16 F16 kp16
    clear fJ14 hjt14 fR14 hrt14 fE14 het14 S14 F14 xfB xfB5 kpB hx15 kp14 fA15 lk7 lk7e lk7j
    -- arm_strengths
    have lk8l : (pf8 (.ref jt) (.ref rt) (.ref et) w.cells (.ref st) w.ears.length (.ref ft) (.ref lt)).lookup ("arm_lists" : Str) = some (.ref lt) := by
      have q1 : (("arm_lists" : Str) == ("joints" : Str)) = false := by decide +kernel
      have q2 : (("arm_lists" : Str) == ("rods" : Str)) = false := by decide +kernel
      have q3 : (("arm_lists" : Str) == ("ear_list" : Str)) = false := by decide +kernel
      have q4 : (("arm_lists" : Str) == ("cells" : Str)) = false := by decide +kernel
      have q5 : (("arm_lists" : Str) == ("strengths" : Str)) = false := by decide +kernel
      have q6 : (("arm_lists" : Str) == ("ears" : Str)) = false := by decide +kernel
      have q7 : (("arm_lists" : Str) == ("first_cells" : Str)) = false := by decide +kernel
      simp [pf8, List.lookup, q1, q2, q3, q4, q5, q6, q7]
    have lk8r : (pf8 (.ref jt) (.ref rt) (.ref et) w.cells (.ref st) w.ears.length (.ref ft) (.ref lt)).lookup ("rods" : Str) = some (.ref rt) := by
      have q1 : (("rods" : Str) == ("joints" : Str)) = false := by decide +kernel
      simp [pf8, List.lookup, q1]
    have lk8s : (pf8 (.ref jt) (.ref rt) (.ref et) w.cells (.ref st) w.ears.length (.ref ft) (.ref lt)).lookup ("strengths" : Str) = some (.ref st) := by
      have q1 : (("strengths" : Str) == ("joints" : Str)) = false := by decide +kernel
      have q2 : (("strengths" : Str) == ("rods" : Str)) = false := by decide +kernel
      have q3 : (("strengths" : Str) == ("ear_list" : Str)) = false := by decide +kernel
      have q4 : (("strengths" : Str) == ("cells" : Str)) = false := by decide +kernel
      simp [pf8, List.lookup, q1, q2, q3, q4]
    refine tseq_of (t := sFld _ _ _ _) ?_
    refine sfld_of ?_
    refine tcb_of ?_
    refine tcons_of ?_
    refine tlc_X (R := TupL (FV A)) (ys := (List.range w.kinds.length).map w.zsAt) (H1 := H16) (by rw [List.length_map, List.length_range]; have := fA16.1; rw [List.length_map, List.length_range] at this; rw [← this]; exact walk_S (K := K) (k := false) (a := lt) (xs := aus)) (fun R r => ⟨_, rfl, x, CW, dx, _, _, rfl, hx16, W_.cl, W_.n7, lk8l, false, lt, aus, rfl, SqT.of hlt16, r⟩) (moTupL moFV) (big _ (by rw [List.length_map, List.length_range]; omega)) (fun H2 e => SqT.of (e _ _ hlt16)) ?_ gm_name fun D17 zus H17 nD17 e17 hD17 fZ17 => ?_
    · rintro i xx _ H2 y hy e ⟨rfl, hxi⟩ Qy kk
      rw [List.getElem?_map] at hy
      obtain ⟨i', hi', rfl⟩ := Option.map_eq_some_iff.mp hy
      have hlt : i < w.kinds.length := by
        have := (List.getElem?_eq_some_iff.mp hi').1
        rwa [List.length_range] at this
      rw [List.getElem?_range hlt] at hi'
      cases hi'
      obtain ⟨pa, pxs, rfl, hpa, hpx⟩ := moTupL moArmV _ _ _ _ (Ext.l e) (fA16.2 i xx (w.armsAt i) hxi (by rw [List.getElem?_map, List.getElem?_range hlt]; rfl))
      have alen : (w.armsAt i).length ≤ 20 := by
        have := WebD.armsAt_len (w := w) (j := i)
        omega
      refine ⟨rfl, ?_⟩
      refine tcb_of ?_
      refine tcons_of ?_
      refine tlc_X (R := FV A) (ys := w.zsAt i) (H1 := H2) (by unfold WebD.zsAt; rw [List.length_map, ← hpx.1]; exact walk_S (K := K) (k := false) (a := pa) (xs := pxs)) (fun R r => ⟨_, rfl, false, pa, pxs, rfl, SqT.of hpa, r⟩) moFV (big _ (by unfold WebD.zsAt; rw [List.length_map]; omega)) (fun H3 e3 => SqT.of (e3 _ _ hpa)) ?_ gm_name fun D18 vus H18 nD18 e18 hD18 f18 => ?_
      · rintro i3 x3 _ H3 y3 hy3 e3 ⟨rfl, hx3'⟩ Qy3 kk3
        unfold WebD.zsAt at hy3
        rw [List.getElem?_map] at hy3
        obtain ⟨m, hm, rfl⟩ := Option.map_eq_some_iff.mp hy3
        obtain ⟨p, rfl, hp⟩ := hpx.2 i3 x3 m hx3' hm
        have ee := e.trans e3
        exact ⟨rfl, _, rfl, _, rfl, x, dx, _, .ref rt, .ref st, w, m, p, rfl, ee _ _ hx16, lk8r, ⟨rt, rus, rfl, ee _ _ hrt16, fR16.ext moRodV ee⟩, lk8s, moTupL moFV _ _ _ _ (Ext.l ee) S16, e3 _ _ hp, (WebD.armsAt_mem (List.mem_of_getElem? hm)).1, fun v fv => kk3 _ _ Ext.rfl' fv⟩
      · exact ⟨D18, vus, rfl, .inl ⟨SqL.of hD18, fun t nt => kk _ _ (e18.trans (ext1 nt)) ⟨t, vus, rfl, upd_same, f18.ext moFV (ext1 nt)⟩⟩⟩
    refine ⟨D17, zus, rfl, .inl ⟨SqL.of hD17, fun zt nzt => ?_⟩⟩
    have hx17 := (e17.trans (ext1 (o := .tup zus) nzt)) _ _ hx16
    refine ⟨_, rfl, x, CW, dx, _, rfl, hx17, W_.cl, W_.n8, (by show 8 < 1000; decide), ?_⟩
    have np17 : putF ("arm_strengths" : Str) (V.ref zt) (pf8 (.ref jt) (.ref rt) (.ref et) w.cells (.ref st) w.ears.length (.ref ft) (.ref lt)) = pf9 (.ref jt) (.ref rt) (.ref et) w.cells (.ref st) w.ears.length (.ref ft) (.ref lt) (.ref zt) := putF_new fun p hp => by
      unfold pf8 at hp
      simp only [List.mem_cons, List.not_mem_nil, or_false] at hp
      rcases hp with rfl | rfl | rfl | rfl | rfl | rfl | rfl | rfl <;> exact (by dsimp only; decide +kernel)
    rw [np17]
    have zx : zt ≠ x := fun z => by rw [z, upd_same] at hx17; cases hx17
    have xfC : ExtF A H16 (upd (upd H17 zt (.tup zus)) x (.ins CW dx (pf9 (.ref jt) (.ref rt) (.ref et) w.cells (.ref st) w.ears.length (.ref ft) (.ref lt) (.ref zt)))) := (ExtL.f (Ext.l (e17.trans (ext1 nzt)))).trans (extF_upd hx17 hne)
    have xfC7 : ExtF A H17 (upd (upd H17 zt (.tup zus)) x (.ins CW dx (pf9 (.ref jt) (.ref rt) (.ref et) w.cells (.ref st) w.ears.length (.ref ft) (.ref lt) (.ref zt)))) := (ExtL.f (Ext.l (ext1 nzt))).trans (extF_upd hx17 hne)
    have kpC : Kp x H16 (upd (upd H17 zt (.tup zus)) x (.ins CW dx (pf9 (.ref jt) (.ref rt) (.ref et) w.cells (.ref st) w.ears.length (.ref ft) (.ref lt) (.ref zt)))) := ((Kp.of e17).new nzt).upd
    have hx18 : (upd (upd H17 zt (.tup zus)) x (.ins CW dx (pf9 (.ref jt) (.ref rt) (.ref et) w.cells (.ref st) w.ears.length (.ref ft) (.ref lt) (.ref zt)))) x = some (.ins CW dx (pf9 (.ref jt) (.ref rt) (.ref et) w.cells (.ref st) w.ears.length (.ref ft) (.ref lt) (.ref zt))) := upd_same
    have Z18 : TupL (TupL (FV A)) (.ref zt) ((List.range w.kinds.length).map w.zsAt) (upd (upd H17 zt (.tup zus)) x (.ins CW dx (pf9 (.ref jt) (.ref rt) (.ref et) w.cells (.ref st) w.ears.length (.ref ft) (.ref lt) (.ref zt)))) := ⟨zt, zus, rfl, by rw [upd_ne zx]; exact upd_same, fZ17.f (fTupL fFV) xfC7⟩
    have L18 := fTupL (fTupL fArmV) _ _ _ _ xfC ⟨lt, aus, rfl, hlt16, fA16⟩
    have J18 := fTupL fKindV _ _ _ _ xfC J16
    have fR18 := fR16.f fRodV xfC
    have hrt18 := kpC _ _ hrt16 rx
    have E18 := fTupL fEarV _ _ _ _ xfC ⟨et, eus, rfl, het16, fE16⟩
    have S18 := fTupL fFV _ _ _ _ xfC S16
    have F18 := fTupL fNatV _ _ _ _ xfC F16
    have kp18 := kp16.trans kpC
    generalize upd (upd H17 zt (.tup zus)) x (.ins CW dx (pf9 (.ref jt) (.ref rt) (.ref et) w.cells (.ref st) w.ears.length (.ref ft) (.ref lt) (.ref zt))) = H18 at xfC xfC7 kpC hx18 Z18 L18 J18 fR18 hrt18 E18 S18 F18 kp18
    clear fA16 J16 fR16 hrt16 fE16 het16 S16 F16 xfC xfC7 kpC hx17 kp16 fZ17 lk8l lk8r lk8s
    -- cell_strengths
    have lk9r : (pf9 (.ref jt) (.ref rt) (.ref et) w.cells (.ref st) w.ears.length (.ref ft) (.ref lt) (.ref zt)).lookup ("rods" : Str) = some (.ref rt) := by
      have q1 : (("rods" : Str) == ("joints" : Str)) = false := by decide +kernel
      simp [pf9, List.lookup, q1]
    refine ⟨_, rfl, x, CW, dx, _, _, rfl, hx18, W_.cl, W_.n1, lk9r, false, rt, rus, w.rods, rfl, SqT.of hrt18, fR18, m8, fun r hr' => (rok r hr').l2, fun ct H19 e19 f19 => ?_⟩
    have hx19 := e19 _ _ hx18
    refine ⟨_, rfl, x, CW, dx, _, rfl, hx19, W_.cl, W_.n9, (by show 9 < 1000; decide), ?_⟩
    have np19 : putF ("cell_strengths" : Str) (V.ref ct) (pf9 (.ref jt) (.ref rt) (.ref et) w.cells (.ref st) w.ears.length (.ref ft) (.ref lt) (.ref zt)) = webF (.ref jt) (.ref rt) (.ref et) w.cells (.ref st) w.ears.length (.ref ft) (.ref lt) (.ref zt) (.ref ct) := putF_new fun p hp => by
      unfold pf9 at hp
      simp only [List.mem_cons, List.not_mem_nil, or_false] at hp
      rcases hp with rfl | rfl | rfl | rfl | rfl | rfl | rfl | rfl | rfl <;> exact (by dsimp only; decide +kernel)
    rw [np19]
    have xfD : ExtF A H18 (upd H19 x (.ins CW dx (webF (.ref jt) (.ref rt) (.ref et) w.cells (.ref st) w.ears.length (.ref ft) (.ref lt) (.ref zt) (.ref ct)))) := (ExtL.f (Ext.l e19)).trans (extF_upd hx19 hne)
    refine q _ (kp18.trans ((Kp.of e19).upd)) ⟨okw, dx, .ref jt, .ref rt, .ref et, .ref st, .ref ft, .ref lt, .ref zt, .ref ct, upd_same, fTupL fKindV _ _ _ _ xfD J18, ⟨rt, rus, rfl, ?_, fR18.f fRodV xfD⟩, fTupL fEarV _ _ _ _ xfD E18, fTupL fFV _ _ _ _ xfD S18, fTupL fNatV _ _ _ _ xfD F18, fTupL (fTupL fArmV) _ _ _ _ xfD L18, fTupL (fTupL fFV) _ _ _ _ xfD Z18, ?_⟩
    · rw [upd_ne rx]
      exact e19 _ _ hrt18
    · rw [WebD.ws_flat]
      exact fTupL fFV _ _ _ _ (extF_upd hx19 hne) f19
end
end Fx

set_option Elab.async false
set_option linter.all false
set_option maxRecDepth 100000
set_option maxHeartbeats 4000000
set_option exponentiation.threshold 20000
namespace Fx
open PySem PySem.Spec PyProof.Rows L2 FM KM
/-! ### lists of pairs -/
theorem tnext_of {D : Ends} {σ : L2.St} {H : Hp} (h : D.nx σ H) : tNext D σ H := h
theorem top_of {r : R2} {ta tb : TE} {σ : L2.St} {H : Hp} {Q : VK} (h : ta σ H fun x H1 => tb σ H1 fun y H2 => r x y H2 Q) : tOp r ta tb σ H Q := h
def LstP (v : V) (rs : List Rat) (H : Hp) : Prop := ∃ l xs, v = .ref l ∧ H l = some (.lst xs) ∧ All2 PV xs rs H
theorem LstP.ext {v : V} {rs : List Rat} {H H' : Hp} (h : LstP v rs H) (e : Ext H H') : LstP v rs H' := by
  obtain ⟨l, xs, h1, h2, h3⟩ := h
  exact ⟨l, xs, h1, e _ _ h2, h3.ext moPV e⟩
section
variable {P : Program} {w : World} {K : PySem.W.Frag} {mg : Str → Option Value} {base : Heap} {A : Adr}
theorem scLis : FnScope ["told", "due", "x"] ["told", "due"] (defScope (top 86)) := ⟨rfl, rfl, rfl, by decide +kernel, rfl, by decide +kernel, by decide +kernel⟩
def spLis (K : PySem.W.Frag) (A : Adr) : Sp := fun vs H Q _ => ∃ l xs rs m ys, vs = [.ref l, .ref m] ∧ H l = some (.lst xs) ∧ All2 (FV A) xs rs H ∧ H m = some (.lst ys) ∧ All2 PV ys rs H ∧ (∀ r ∈ rs, Ok4 r) ∧ rs.length ≤ 1000 ∧ ∀ H', Ext H H' → Q (.bl true) H'
theorem ok_Lis {f : Addr} {fd : FuncData} (F : Fun K "_law_is" "_law_is" (top 86) f fd) (T : FT K mg A) (li : mg "list" = none) (hR : LF P w K mg base "_law_read" 2 ["x"] (spLr A)) : FnOk P w K mg base (L2.CX P w) 3 f fd ["told", "due"] (spLis K A) := by
  refine F.okX scLis (fun vs H Q E h => ?_) (fun cdv AA outer s H vs Q E hr h => ?_)
  · obtain ⟨l, xs, rs, m, ys, rfl, _⟩ := h; rfl
  · obtain ⟨l, xs, rs, m, ys, rfl, hl, hx, hm, hy, ok, hn, q⟩ := h
    obtain ⟨fR, gR, cR⟩ := hR
    obtain ⟨fdR, GR, bR⟩ := cR.ex
    refine ⟨_, (pss_one (ps_ret (pe_and (pe_callB call_isi (by rfl) T.isi boot_isi (pa_cons (pv 0) (pa_cons (pe_bltn (v := .ty "list") (by rfl) li boot_list rfl) pa_nil))) (pe_one (pe_cmpR (op_eqD hr.units) (pe_lc (own := [("x", 2)]) (g := (gName 2)) rfl scLis.nd (pi_seq (pv 0)) (blkOk_by (own := [("x", 2)]) (N := ["told", "due", "x"]) (sc := defScope (top 86)) (by decide +kernel)) (fun _ _ _ _ _ => (pg_name (i := 2) scLis.nd rfl (Or.inl rfl))) (fun _ _ _ _ _ => pts_nil) (fun _ _ _ _ _ => (pe_call GR (hr.mono (by decide)) rfl gR cR.kp bR .nil (E := E0) passL (pa_cons (pv 2) pa_nil)))) (pv 1) (nomark _)))))), ?_⟩
    refine ⟨_, rfl, _, _, _, _, true, rfl, .ty "list", .base (.lst hl), kit_ty (by decide +kernel), _, rfl, iteT ?_⟩
    refine top_of ?_
    refine tlc_X (R := PV) (ys := rs) (H1 := H) (by rw [← hx.1]; exact walk_S (K := K) (k := true) (a := l) (xs := xs)) (fun R r => ⟨_, rfl, true, l, xs, rfl, SqL.of hl, r⟩) moPV (by rw [sizeLine_eq]; omega) (fun H2 e => SqL.of (e _ _ hl)) ?_ gm_name fun D us H3 nD e3 hD hu => ?_
    · rintro i x _ H2 r hr' e ⟨rfl, hxi⟩ Qy kk
      exact ⟨rfl, _, rfl, x, r, rfl, (hx.2 i x r hxi hr').ext e, ok r (List.mem_of_getElem? hr'), fun v H4 e4 f4 => kk v H4 e4 f4⟩
    · refine ⟨_, rfl, .list (rs.map pD), .list (rs.map pD), .lst (SqL.of hD) (dp_pvs hu), .lst (SqL.of (e3 _ _ hm)) (dp_pvs (hy.ext moPV e3)), pDs_sh rs, pDs_sh rs, ?_⟩
      rw [pDs_refl]
      exact q _ e3
end
end Fx

set_option Elab.async false
set_option linter.all false
set_option maxRecDepth 100000
set_option maxHeartbeats 4000000
set_option exponentiation.threshold 20000
namespace Fx
open PySem PySem.Spec PyProof.Rows L2 FM KM
/-! ### draws; lists of numbers for the program; contents -/
theorem big1000 {n : Nat} (h : n ≤ 1000) : n ≤ sizeLine := by rw [sizeLine_eq]; omega
theorem lt1000 {n : Nat} (h : n < 1000) : n < sizeLine := by rw [sizeLine_eq]; omega
section
variable {P : Program} {w : World} {K : PySem.W.Frag} {mg : Str → Option Value} {base : Heap} {A : Adr}
theorem scLg : FnScope ["pairs", "way", "row", "a"] ["pairs", "way"] (defScope (top 87)) := ⟨rfl, rfl, rfl, by decide +kernel, rfl, by decide +kernel, by decide +kernel⟩
def spLg (K : PySem.W.Frag) (A : Adr) : Sp := fun vs H Q _ => ∃ l ps rs n, vs = [.ref l, .int n] ∧ H l = some (.lst ps) ∧ All2 PV ps rs H ∧ (∀ r ∈ rs, Ok3 r) ∧ rs.length ≤ 900 ∧ ∀ D xs H', H D = none → Ext H H' → H' D = some (.lst xs) → All2 (NV A) xs rs H' → Q (.ref D) H'
theorem ok_Lg {f : Addr} {fd : FuncData} (F : Fun K "_law_give" "_law_give" (top 87) f fd) (F_ : FA P w K mg base A) (le : mg "len" = none) (it : mg "int" = none) : FnOk P w K mg base (L2.CX P w) 3 f fd ["pairs", "way"] (spLg K A) := by
  refine F.okX scLg (fun vs H Q E h => ?_) (fun cdv AA outer s H vs Q E hr h => ?_)
  · obtain ⟨l, ps, rs, n, rfl, _⟩ := h; rfl
  · obtain ⟨l, ps, rs, n, rfl, hl, hp, ok, hn, q⟩ := h
    refine ⟨_, (pss_cons (ps_set (i := 2) scLg.nd rfl (Or.inl rfl) (pe_lst pa_nil))
      (pss_cons (ps_for (passes_of rfl) rfl (pi_seq (pv 0)) (pg_name (i := 3) scLg.nd rfl (Or.inl rfl)) (pss_one (ps_if (PW.pt (pw_and (pt_cmpR L2.op_eq (pe_ix ix_tup (pv 3) pe_int (fun _ _ => rfl)) pe_int (nomark _)) (pw_and1 (pt_cmpR L2.op_gt (pe_op op_modN (pe_callTy call_int1 (by rfl) it boot_int (pa_cons (pe_op L2.op_add (pv 1) (pe_callB call_len_seq (by rfl) le PySem.boot_len (pa_cons (pv 2) pa_nil))) pa_nil)) pe_int) pe_int (nomark _))))) (pss_one (ps_expr (pe_bm PySem.F.plainAttrs_list PySem.F.slot_list_append PySem.F.type_list_append mt_append (pv 2) (pa_cons (pe_ix ix_tup (pv 3) pe_int (fun _ _ => rfl)) pa_nil)))) (pss_one (ps_expr (pe_bm PySem.F.plainAttrs_list PySem.F.slot_list_append PySem.F.type_list_append mt_append (pv 2) (pa_cons (pe_frac2 F_.M F_.T (hr.mono (by decide)) rfl (pa_cons (pe_ix ix_tup (pv 3) pe_int (fun _ _ => rfl)) (pa_cons (pe_ix ix_tup (pv 3) pe_int (fun _ _ => rfl)) pa_nil))) pa_nil)))))))
      (pss_one (ps_ret (pv 2))))), ?_⟩
    refine ⟨by decide, fun D nD => ?_⟩
    refine ⟨_, rfl, true, l, ps, rfl, SqL.of ((ext1 nD) _ _ hl), for_it walk_S (fun i σ H' => Ext H H' ∧ ∃ xs z, σ = [some (.ref l), some (.int n), some (.ref D), z] ∧ H' D = some (.lst xs) ∧ xs.length = i ∧ All2 (NV A) xs (rs.take i) H') ⟨ext1 nD, [], _, rfl, upd_same, rfl, by simpa using All2.nil⟩ (fun i σ H' _ e => SqL.of (e.1 _ _ hl)) ?_ ?_⟩
    · rintro i x σ _ H1 hi ⟨e1, xs, z, rfl, hD, hxl, hx⟩ ⟨rfl, hxi⟩
      obtain ⟨r, hr', a, rfl, ha0⟩ := hp.get' hxi
      have ha : TupAt H1 a (pr r) := e1 _ _ ha0
      have o3 := ok r (List.mem_of_getElem? hr')
      have hi9 : i < 900 := by have := hp.1; omega
      have et : rs.take (i + 1) = rs.take i ++ [r] := by rw [List.take_add_one, hr']; rfl
      have int1 : ∀ (v : V) (H2 : Hp), Ext H1 H2 → NV A v r H2 → H2 D = some (.lst xs) → (Ext H (upd H2 D (.lst (xs ++ [v]))) ∧ ∃ xs' z, [some (V.ref l), some (V.int n), some (V.ref D), some (V.ref a)] = [some (.ref l), some (.int n), some (.ref D), z] ∧ (upd H2 D (.lst (xs ++ [v]))) D = some (.lst xs') ∧ xs'.length = i + 1 ∧ All2 (NV A) xs' (rs.take (i + 1)) (upd H2 D (.lst (xs ++ [v])))) := fun v H2 e2 hv hD2 => by
        have x2 : ExtL H2 (upd H2 D (.lst (xs ++ [v]))) := ExtL.upd hD2
        refine ⟨kpl nD (e1.trans e2), xs ++ [v], _, rfl, upd_same, by rw [List.length_append, hxl]; rfl, ?_⟩
        rw [et]
        exact (hx.l moNV ((Ext.l e2).trans x2)).snoc (moNV _ _ _ _ x2 hv)
      have hfO : ∀ (f : Addr) (H2 : Hp), FracAt A.C H2 f (low (pr r).1 (pr r).2) → NV A (.ref f) r H2 := fun f H2 hf => .inl ⟨f, rfl, by rw [low_self (low_pr r)] at hf; exact hf⟩
      refine ⟨_, rfl, _, _, _, _, rfl, rfl, SqT.of ha, rfl, rfl, _, rfl, if_D (fun c => ?_) (fun c => iteF ?_)⟩
      · injection c with c
        have cd : ((r.den : Nat) : Int) = 1 := c
        refine ⟨_, rfl, _, rfl, D, xs, rfl, .inl (SqL.of hD), _, _, rfl, rfl, .inl ⟨_, rfl, _, _, rfl, rfl, (show (3 : Int) ≠ 0 by decide), _, _, rfl, rfl, _, rfl, if_D (fun _ => ?_) (fun _ => ?_)⟩⟩
        · exact ⟨_, rfl, .inl ⟨rfl, _, SqL.of hD⟩, _, rfl, _, _, _, _, rfl, rfl, SqT.of ha, rfl, D, xs, _, rfl, rfl, hD, lt1000 (by omega), int1 _ H1 Ext.rfl' (.inr ⟨rfl, cd⟩) hD⟩
        · refine ⟨_, rfl, .inl ⟨rfl, _, SqL.of hD⟩, _, rfl, _, _, _, _, rfl, rfl, SqT.of ha, rfl, _, rfl, _, _, _, _, rfl, rfl, SqT.of ha, rfl, _, _, rfl, den_ne r, o3.b2.bi, fun f H2 e2 hf => ?_⟩
          exact ⟨D, xs, _, rfl, rfl, e2 _ _ hD, lt1000 (by omega), int1 _ H2 e2 (hfO f H2 hf) (e2 _ _ hD)⟩
      · refine ⟨_, rfl, .inl ⟨rfl, _, SqL.of hD⟩, _, rfl, _, _, _, _, rfl, rfl, SqT.of ha, rfl, _, rfl, _, _, _, _, rfl, rfl, SqT.of ha, rfl, _, _, rfl, den_ne r, o3.b2.bi, fun f H2 e2 hf => ?_⟩
        exact ⟨D, xs, _, rfl, rfl, e2 _ _ hD, lt1000 (by omega), int1 _ H2 e2 (hfO f H2 hf) (e2 _ _ hD)⟩
    · rintro σ H1 ⟨e1, xs, z, rfl, hD, hxl, hx⟩
      rw [List.take_of_length_le (by rw [hp.1]; exact Nat.le_refl _)] at hx
      exact ⟨_, rfl, q D xs H1 nD e1 hD hx⟩
end
end Fx

set_option Elab.async false
set_option linter.all false
set_option maxRecDepth 100000
set_option maxHeartbeats 4000000
set_option exponentiation.threshold 20000
namespace Fx
open PySem PySem.Spec PyProof.Rows L2 FM KM
/-! ### draws -/
theorem big1000' {n : Nat} (h : n ≤ 1000) : n ≤ sizeLine := by rw [sizeLine_eq]; omega
theorem lt1000' {n : Nat} (h : n < 1000) : n < sizeLine := by rw [sizeLine_eq]; omega
section
variable {P : Program} {w : World} {K : PySem.W.Frag} {mg : Str → Option Value} {base : Heap} {A : Adr}
theorem scLd : FnScope ["pool", "many", "got"] ["pool", "many"] (defScope (top 78)) := ⟨rfl, rfl, rfl, by decide +kernel, rfl, by decide +kernel, by decide +kernel⟩
def spLd : Sp := fun vs H Q _ => ∃ (r : Addr) (many : Int), vs = [.ref r, .int many] ∧ PoolL H r ∧ 0 < many ∧ many.natAbs.log2 < 9000 ∧ ∀ d H', 0 ≤ d → d < many → PoolL H' r → Kp r H H' → Q (.int d) H'
theorem ok_Ld {f : Addr} {fd : FuncData} (F : Fun K "_law_digit" "_law_digit" (top 78) f fd) (it : mg "int" = none) : FnOk P w K mg base (L2.CX P w) 1 f fd ["pool", "many"] spLd := by
  refine F.okX scLd (fun vs H Q E h => ?_) (fun cdv AA outer s H vs Q E hr h => ?_)
  · obtain ⟨r, many, rfl, _⟩ := h; rfl
  · obtain ⟨r, many, rfl, ⟨cs, hp, hl, pos⟩, m0, m9, q⟩ := h
    refine ⟨_, (pss_cons (ps_if (pt_not (pt_truth (pv 0) (by intro _; rfl))) (pss_one (ps_ret pe_int)) pss_nil)
      (pss_cons (ps_set (i := 2) scLd.nd rfl (Or.inl rfl) (pe_op op_modN (pe_callTy call_int1 (by rfl) it boot_int (pa_cons (pe_ix ix_list (pv 0) pe_int (fun _ _ => rfl)) pa_nil)) (pv 1)))
      (pss_cons (ps_asg (pe_op op_fdivZ (pe_ix ix_list (pv 0) pe_int (fun _ _ => rfl)) (pv 1)) (pg_sub (pv 0) pe_int set_list))
      (C8.pss_cut (ps_if (pt_cmpR L2.op_eq (pe_ix ix_list (pv 0) pe_int (fun _ _ => rfl)) pe_int (nomark _)) (pss_one (ps_expr (pe_bm PySem.F.plainAttrs_list PySem.F.slot_list_pop PySem.F.type_list_pop mt_popAt (pv 0) (pa_cons pe_int pa_nil)))) pss_nil)
      (pss_one (ps_ret (pv 2))))))), ?_⟩
    refine ⟨_, rfl, _, .inl ⟨_, SqL.of hp, rfl⟩, ?_⟩
    cases cs with
    | nil => exact iteT (q 0 H (Int.le_refl _) m0 ⟨[], hp, hl, pos⟩ Kp.refl)
    | cons c cs =>
      have c0 := pos c (List.mem_cons_self ..)
      refine iteF ?_
      have a0 : ∀ (d : Int) (ds : List Int), atI ((d :: ds).map V.int) 0 = some (V.int d) := fun d ds => atI_nat (j := 0) rfl
      have i0 : ∀ (d : Int) (ds : List Int), ixN ((d :: ds).map V.int).length 0 = some 0 := fun d ds => by unfold ixN; simp
      have q0 : ∀ (d : Int) (ds : List Int), seqIndex? 0 ((d :: ds).map V.int).length = some 0 := fun d ds => by unfold seqIndex?; simp
      refine ⟨_, rfl, _, _, _, _, rfl, rfl, SqL.of hp, a0 _ _, .inl ⟨_, rfl, _, rfl, _, _, rfl, rfl, by omega, ?_⟩⟩
      refine ⟨_, rfl, _, _, _, _, rfl, rfl, SqL.of hp, a0 _ _, _, rfl, _, _, rfl, rfl, ⟨by omega, m9⟩, _, rfl, r, _, 0, 0, rfl, rfl, hp, i0 _ _, ?_⟩
      have h1 : (upd H r (.lst (((c :: cs).map V.int).set 0 (V.int (c.fdiv many))))) r = some (.lst (((c.fdiv many) :: cs).map V.int)) := upd_same
      have k1 : Kp r H (upd H r (.lst (((c :: cs).map V.int).set 0 (V.int (c.fdiv many))))) := Kp.refl.upd
      have p1 : ∀ y ∈ (c.fdiv many) :: cs, 0 ≤ y := fun y hy => by
        rcases List.mem_cons.mp hy with rfl | hy
        · rw [Int.fdiv_eq_ediv_of_nonneg _ (by omega)]
          exact Int.ediv_nonneg c0 (by omega)
        · exact pos y (List.mem_cons_of_mem _ hy)
      generalize upd H r (.lst (((c :: cs).map V.int).set 0 (V.int (c.fdiv many)))) = H1 at h1 k1
      have d0 : 0 ≤ c.fmod many := by rw [Int.fmod_eq_emod_of_nonneg _ (by omega)]; exact Int.emod_nonneg _ (by omega)
      have d1 : c.fmod many < many := by rw [Int.fmod_eq_emod_of_nonneg _ (by omega)]; exact Int.emod_lt_of_pos _ m0
      refine ⟨fun σ H' => σ = [some (.ref r), some (.int many), some (.int (c.fmod many))] ∧ PoolL H' r ∧ Kp r H H', ?_, ?_⟩
      · refine ⟨_, rfl, _, _, _, _, rfl, rfl, SqL.of h1, a0 _ _, rfl, _, rfl, if_D (fun _ => ?_) (fun _ => ?_)⟩
        · refine ⟨_, rfl, .inl ⟨rfl, _, SqL.of h1⟩, r, _, 0, 0, _, rfl, rfl, h1, by decide, by decide, q0 _ _, rfl, ?_⟩
          exact ⟨rfl, ⟨cs, upd_same, by simp at hl; omega, fun y hy => p1 y (List.mem_cons_of_mem _ hy)⟩, k1.upd⟩
        · exact ⟨rfl, ⟨_, h1, by simpa using hl, p1⟩, k1⟩
      · rintro σ H2 ⟨rfl, hp2, k2⟩
        exact ⟨_, rfl, q _ _ d0 d1 hp2 k2⟩
theorem scLpo : FnScope ["cells", "pool", "x"] ["cells"] (defScope (top 77)) := ⟨rfl, rfl, rfl, by decide +kernel, rfl, by decide +kernel, by decide +kernel⟩
def spLpo : Sp := fun vs H Q _ => ∃ (c : Addr) (ns : List Int), vs = [.ref c] ∧ H c = some (.lst (ns.map V.int)) ∧ ns.length ≤ 63 ∧ ∀ r H', Ext H H' → H r = none → PoolL H' r → Q (.ref r) H'
theorem ok_Lpo {f : Addr} {fd : FuncData} (F : Fun K "_law_pool" "_law_pool" (top 77) f fd) (ab : mg "abs" = none) (it : mg "int" = none) : FnOk P w K mg base (L2.CX P w) 1 f fd ["cells"] spLpo := by
  refine F.okX scLpo (fun vs H Q E h => ?_) (fun cdv AA outer s H vs Q E hr h => ?_)
  · obtain ⟨c, ns, rfl, _⟩ := h; rfl
  · obtain ⟨c, ns, rfl, hc, hl, q⟩ := h
    refine ⟨_, (pss_cons (ps_set (i := 1) scLpo.nd rfl (Or.inl rfl) (pe_lst pa_nil))
      (pss_cons (ps_for (passes_of rfl) rfl (pi_seq (pv 0)) (pg_name (i := 2) scLpo.nd rfl (Or.inl rfl)) (pss_cons (ps_expr (pe_bm PySem.F.plainAttrs_list PySem.F.slot_list_append PySem.F.type_list_append mt_append (pv 1) (pa_cons (pe_op op_modN (pe_callTy call_int1 (by rfl) it boot_int (pa_cons (pe_callB L2.call_abs (by rfl) ab boot_abs' (pa_cons (pv 2) pa_nil)) pa_nil)) (pe_op L2.op_pow pe_int pe_int)) pa_nil)))
      (pss_one (ps_if (pt_cmpR L2.op_lt (pv 2) pe_int (nomark _)) (pss_one (ps_expr (pe_bm PySem.F.plainAttrs_list PySem.F.slot_list_append PySem.F.type_list_append mt_append (pv 1) (pa_cons pe_int pa_nil)))) pss_nil))))
      (pss_one (ps_ret (pv 1))))), ?_⟩
    refine ⟨by decide, fun r nr => ?_⟩
    refine ⟨_, rfl, true, c, _, rfl, SqL.of ((ext1 nr) _ _ hc), for_it walk_S (fun i σ H' => Ext H H' ∧ ∃ (cs : List Int) (z : Option V), σ = [some (.ref c), some (.ref r), z] ∧ H' r = some (.lst (cs.map V.int)) ∧ cs.length ≤ 2 * i ∧ ∀ y ∈ cs, 0 ≤ y) ⟨ext1 nr, [], _, rfl, upd_same, Nat.zero_le _, by simp⟩ (fun i σ H' _ e => SqL.of (e.1 _ _ hc)) ?_ ?_⟩
    · rintro i x σ _ H1 hi ⟨e1, cs, z, rfl, hr', hcl, pos⟩ ⟨rfl, hxi⟩
      rw [List.getElem?_map] at hxi
      obtain ⟨n, hn, rfl⟩ := Option.map_eq_some_iff.mp hxi
      have hi63 : i < 63 := by rw [List.length_map] at hi; omega
      refine ⟨_, rfl, .inl ⟨rfl, _, SqL.of hr'⟩, _, rfl, _, rfl, .inl ⟨_, rfl, _, _, rfl, rfl, ⟨by decide, by decide, by decide⟩, _, _, rfl, rfl, (show ((10 : Int) ^ (60 : Int).toNat) ≠ 0 by decide), r, _, _, rfl, rfl, hr', lt1000' (by rw [List.length_map]; omega), ?_⟩⟩
      rw [absE]
      have m0 : 0 ≤ ((n.natAbs : Nat) : Int).fmod ((10 : Int) ^ (60 : Int).toNat) := by
        rw [Int.fmod_eq_emod_of_nonneg _ (by decide)]
        exact Int.emod_nonneg _ (by decide)
      have e6 : cs.map V.int ++ [V.int (((n.natAbs : Nat) : Int).fmod ((10 : Int) ^ (60 : Int).toNat))] = (cs ++ [((n.natAbs : Nat) : Int).fmod ((10 : Int) ^ (60 : Int).toNat)]).map V.int := by rw [List.map_append]; rfl
      rw [e6]
      have p1 : ∀ y ∈ cs ++ [((n.natAbs : Nat) : Int).fmod ((10 : Int) ^ (60 : Int).toNat)], 0 ≤ y := fun y hy => by
        rcases List.mem_append.mp hy with hy | hy
        · exact pos y hy
        · rw [List.mem_singleton.mp hy]; exact m0
      refine ⟨_, rfl, _, _, rfl, rfl, _, rfl, if_D (fun _ => ?_) (fun _ => ?_)⟩
      · refine ⟨_, rfl, .inl ⟨rfl, _, SqL.of upd_same⟩, r, _, _, rfl, rfl, upd_same, lt1000' (by rw [List.length_map, List.length_append]; simp; omega), ?_⟩
        refine ⟨?_, cs ++ [((n.natAbs : Nat) : Int).fmod ((10 : Int) ^ (60 : Int).toNat)] ++ [1], _, rfl, by rw [upd_same, List.map_append (l₂ := [1])]; rfl, by simp; omega, fun y hy => ?_⟩
        · rw [upd_upd]
          exact kpl nr e1
        · rcases List.mem_append.mp hy with hy | hy
          · exact p1 y hy
          · rw [List.mem_singleton.mp hy]; decide
      · exact ⟨kpl nr e1, _, _, rfl, upd_same, by simp; omega, p1⟩
    · rintro σ H1 ⟨e1, cs, z, rfl, hr', hcl, pos⟩
      rw [List.length_map] at hcl
      exact ⟨_, rfl, q r H1 e1 nr ⟨cs, hr', by omega, pos⟩⟩
end
end Fx

set_option Elab.async false
set_option linter.all false
set_option maxRecDepth 100000
set_option maxHeartbeats 4000000
set_option exponentiation.threshold 20000
namespace Fx
open PySem PySem.Spec PyProof.Rows L2 FM KM
/-! ### menus -/
def PairV (v : V) (p : Int × Int) (H : Hp) : Prop := ∃ a, v = .ref a ∧ TupAt H a p
theorem moPairV : MoX PairV := fun x y H H' e h => by
  obtain ⟨a, h1, h2⟩ := h
  exact ⟨a, h1, e _ _ h2 (fun ys z => by cases z)⟩
theorem pv_pair {v : V} {p : Int × Int} {H : Hp} (l : Low p) (h : PairV v p H) : PV v (val p) H := by
  obtain ⟨a, h1, h2⟩ := h
  exact ⟨a, h1, by rw [pr_val l]; exact h2⟩
def IntE (te : TE) (n : Int) : Prop := ∀ σ H (Q : VK), Q (.int n) H → te σ H Q
theorem int_c (n : Int) : IntE (tC (V.int n)) n := fun _ _ _ h => h
theorem int_neg (n : Int) : IntE (tUn (rU fun i => .int (-i)) (tC (V.int n))) (-n) := fun _ _ _ h => ⟨n, rfl, h⟩
def MenuT (t : TA) (ps : List (Int × Int)) : Prop := ∀ σ H (Q : List V → Hp → Prop), (∀ xs H', Ext H H' → All2 PairV xs ps H' → Q xs H') → t σ H Q
theorem menu_nil : MenuT tNil [] := fun _ H _ h => h [] H Ext.rfl' All2.nil
theorem menu_cons {ta tb : TE} {t : TA} {a b : Int} {ps : List (Int × Int)} (ha : IntE ta a) (hb : IntE tb b) (hr : MenuT t ps) : MenuT (tCons (tTup (tCons ta (tCons tb tNil))) t) ((a, b) :: ps) := by
  intro σ H Q h
  refine ha σ H _ (hb σ H _ ?_)
  refine ⟨(by show 2 ≤ sizeLine; decide), fun p np => ?_⟩
  exact hr σ _ _ fun xs H' e hx => h (.ref p :: xs) H' ((ext1 np).trans e) (.cons ⟨p, rfl, e _ _ upd_same⟩ hx)
theorem tlst_of {t : TA} {σ : L2.St} {H : Hp} {Q : VK} (h : t σ H fun xs H1 => xs.length ≤ sizeLine ∧ ∀ p, H1 p = none → Q (.ref p) (L2.upd H1 p (.lst xs))) : tLst t σ H Q := h
theorem fmod_nat {i m : Int} (hm : 0 < m) : ∃ j : Nat, i.fmod m = (j : Int) ∧ (j : Int) < m := by
  have h1 : 0 ≤ i.fmod m := by rw [Int.fmod_eq_emod_of_nonneg _ (by omega)]; exact Int.emod_nonneg _ (by omega)
  have h2 : i.fmod m < m := by rw [Int.fmod_eq_emod_of_nonneg _ (by omega)]; exact Int.emod_lt_of_pos _ hm
  exact ⟨(i.fmod m).toNat, by omega, by omega⟩
def powPs : List (Int × Int) := [(1, 1), (2, 1), (3, 1), (5, 1), (7, 1), (9, 1), (1, 2), (2, 3), (3, 4), (5, 2), (7, 3), (9, 4)]
def numPs : List (Int × Int) := [(1, 1), (-2, 1), (0, 1), (3, 1), (1, 2), (-5, 3), (4, 1), (0, 1), (-1, 4)]
theorem powPs_low : ∀ p ∈ powPs, Low p := fun p hp => by
  have : p.2 > 0 ∧ Nat.gcd p.1.natAbs p.2.natAbs = 1 := (show ∀ p ∈ powPs, p.2 > 0 ∧ Nat.gcd p.1.natAbs p.2.natAbs = 1 by decide) p hp
  exact ⟨this.1, this.2⟩
theorem numPs_low : ∀ p ∈ numPs, Low p := fun p hp => by
  have : p.2 > 0 ∧ Nat.gcd p.1.natAbs p.2.natAbs = 1 := (show ∀ p ∈ numPs, p.2 > 0 ∧ Nat.gcd p.1.natAbs p.2.natAbs = 1 by decide) p hp
  exact ⟨this.1, this.2⟩
/-- a strength -/
structure PowZ (z : Rat) : Prop where
  pos : 0 < z
  zz : Rep 12 108 z
  ii : Rep 1260 5040 (1 / z)
theorem pow_of {p : Int × Int} (l : Low p) (h : 0 < p.1 ∧ p.2 ∣ 12 ∧ p.1 * (12 / p.2) ≤ 108 ∧ p.1 ∣ 1260 ∧ p.2 * (1260 / p.1) ≤ 5040) : PowZ (val p) := by
  obtain ⟨h1, h2, h3, h4, h5⟩ := h
  have l1 : 0 < p.2 := l.1
  have q1 : (0 : Rat) < (p.1 : Rat) := by exact_mod_cast h1
  have q2 : (0 : Rat) < (p.2 : Rat) := by exact_mod_cast l1
  obtain ⟨a, ha⟩ := h2
  obtain ⟨b, hb⟩ := h4
  have ha' : (12 : Int) / p.2 = a := by rw [ha, Int.mul_ediv_cancel_left _ (by omega)]
  have hb' : (1260 : Int) / p.1 = b := by rw [hb, Int.mul_ediv_cancel_left _ (by omega)]
  rw [ha'] at h3
  rw [hb'] at h5
  have a0 : 0 < a := by
    rcases Int.lt_trichotomy a 0 with z | z | z
    · have := Int.mul_neg_of_pos_of_neg l1 z; omega
    · subst z; simp at ha
    · exact z
  have b0 : 0 < b := by
    rcases Int.lt_trichotomy b 0 with z | z | z
    · have := Int.mul_neg_of_pos_of_neg h1 z; omega
    · subst z; simp at hb
    · exact z
  have ra : ((12 : Nat) : Rat) = (p.2 : Rat) * (a : Rat) := by
    have : (((12 : Nat) : Int) : Rat) = ((p.2 * a : Int) : Rat) := by rw [← ha]; rfl
    push_cast at this ⊢
    exact this
  have rb : ((1260 : Nat) : Rat) = (p.1 : Rat) * (b : Rat) := by
    have : (((1260 : Nat) : Int) : Rat) = ((p.1 * b : Int) : Rat) := by rw [← hb]; rfl
    push_cast at this ⊢
    exact this
  unfold val
  refine ⟨?_, ⟨p.1 * a, ?_, ?_⟩, ⟨p.2 * b, ?_, ?_⟩⟩
  · rw [Rat.div_def]
    exact Rat.mul_pos q1 (Rat.inv_pos.mpr q2)
  · rw [ra]
    push_cast
    grind
  · have := Int.mul_pos h1 a0
    omega
  · rw [rb]
    push_cast
    grind
  · have := Int.mul_pos l1 b0
    omega
theorem powPs_z : ∀ p ∈ powPs, PowZ (val p) := fun p hp => pow_of (powPs_low p hp) ((show ∀ p ∈ powPs, 0 < p.1 ∧ p.2 ∣ 12 ∧ p.1 * (12 / p.2) ≤ 108 ∧ p.1 ∣ 1260 ∧ p.2 * (1260 / p.1) ≤ 5040 by decide) p hp)
/-- a number -/
def NumZ (z : Rat) : Prop := z.num.natAbs < 2 ^ 20 ∧ z.den < 2 ^ 20
theorem numz_rep {D M : Nat} {r : Rat} (h : Rep D M r) (h0 : 0 < D) (h1 : D < 2 ^ 20) (h2 : M < 2 ^ 20) : NumZ r := by
  have q := Rep.dvd (p := pr r) (low_pr r) (by rw [val_pr]; exact h) h0
  exact ⟨Nat.lt_of_le_of_lt q.2 h2, by have := q.1; unfold pr at this; simp at this; omega⟩
theorem numz_low {p : Int × Int} (l : Low p) (h1 : p.1.natAbs < 2 ^ 20) (h2 : p.2.natAbs < 2 ^ 20) : NumZ (val p) := by
  have := pr_val l
  unfold pr at this
  have e1 : (val p).num = p.1 := congrArg Prod.fst this
  have e2 : (((val p).den : Nat) : Int) = p.2 := congrArg Prod.snd this
  refine ⟨by rw [e1]; exact h1, by omega⟩
theorem numPs_z : ∀ p ∈ numPs, NumZ (val p) := fun p hp => by
  have := (show ∀ p ∈ numPs, p.1.natAbs < 2 ^ 20 ∧ p.2.natAbs < 2 ^ 20 by decide) p hp
  exact numz_low (numPs_low p hp) this.1 this.2
theorem NumZ.szb {z : Rat} (h : NumZ z) : Szb 20 [z] := by
  have := szb_one (a := 20) (low_pr z) h.1 (by have := h.2; unfold pr; simpa using this)
  rwa [val_pr] at this
theorem NumZ.ok {z : Rat} (h : NumZ z) : Ok3 z := ⟨Nat.lt_of_lt_of_le h.1 (Nat.pow_le_pow_right (by decide) (by decide)), Nat.lt_of_lt_of_le h.2 (Nat.pow_le_pow_right (by decide) (by decide))⟩
theorem quot_numz {n d : Int} (hd : 0 < d) (h1 : n.natAbs < 2 ^ 20) (h2 : d.natAbs < 2 ^ 20) : NumZ ((n : Rat) / (d : Rat)) := by
  refine numz_rep (D := d.natAbs) (M := n.natAbs) ⟨n, ?_, Nat.le_refl _⟩ (by omega) h2 h1
  have h3 : ((d.natAbs : Nat) : Rat) = (d : Rat) := by
    have : ((d.natAbs : Nat) : Int) = d := by omega
    exact_mod_cast congrArg (fun z : Int => (z : Rat)) this
  have h4 : (d : Rat) ≠ 0 := by
    intro z
    have : d = 0 := by exact_mod_cast z
    omega
  rw [h3]
  grind
theorem kp_pair {r : Addr} {H H' : Hp} {v : V} {p : Int × Int} (h : PairV v p H) (hp : PoolL H r) (k : Kp r H H') : PairV v p H' := moPairV _ _ _ _ (k.l hp) h
section
variable {P : Program} {w : World} {K : PySem.W.Frag} {mg : Str → Option Value} {base : Heap} {A : Adr}
theorem scLpw : FnScope ["pool", "k", "menu"] ["pool", "k"] (defScope (top 88)) := ⟨rfl, rfl, rfl, by decide +kernel, rfl, by decide +kernel, by decide +kernel⟩
def spLpw : Sp := fun vs H Q _ => ∃ (r : Addr) (k : Nat), vs = [.ref r, .int (k : Int)] ∧ PoolL H r ∧ k ≤ 1000 ∧ ∀ v z H', PowZ z → PV v z H' → PoolL H' r → Kp r H H' → Q v H'
theorem ok_Lpw {f : Addr} {fd : FuncData} (F : Fun K "_law_power" "_law_power" (top 88) f fd) (it : mg "int" = none) (hD : LF P w K mg base "_law_digit" 1 ["pool", "many"] spLd) : FnOk P w K mg base (L2.CX P w) 2 f fd ["pool", "k"] spLpw := by
  refine F.okX scLpw (fun vs H Q E h => ?_) (fun cdv AA outer s H vs Q E hr h => ?_)
  · obtain ⟨r, k, rfl, _⟩ := h; rfl
  · obtain ⟨r, k, rfl, hp, hk, q⟩ := h
    obtain ⟨fD, gD, cD⟩ := hD
    obtain ⟨fdD, GD, bD⟩ := cD.ex
    refine ⟨_, (pss_cons (ps_set (i := 2) scLpw.nd rfl (Or.inl rfl) (pe_lst (pa_cons (pe_tup (pa_cons pe_int (pa_cons pe_int pa_nil))) (pa_cons (pe_tup (pa_cons pe_int (pa_cons pe_int pa_nil))) (pa_cons (pe_tup (pa_cons pe_int (pa_cons pe_int pa_nil))) (pa_cons (pe_tup (pa_cons pe_int (pa_cons pe_int pa_nil))) (pa_cons (pe_tup (pa_cons pe_int (pa_cons pe_int pa_nil))) (pa_cons (pe_tup (pa_cons pe_int (pa_cons pe_int pa_nil))) (pa_cons (pe_tup (pa_cons pe_int (pa_cons pe_int pa_nil))) (pa_cons (pe_tup (pa_cons pe_int (pa_cons pe_int pa_nil))) (pa_cons (pe_tup (pa_cons pe_int (pa_cons pe_int pa_nil))) (pa_cons (pe_tup (pa_cons pe_int (pa_cons pe_int pa_nil))) (pa_cons (pe_tup (pa_cons pe_int (pa_cons pe_int pa_nil))) (pa_cons (pe_tup (pa_cons pe_int (pa_cons pe_int pa_nil))) pa_nil))))))))))))))
      (pss_one (ps_ret (pe_ix ix_list (pv 2) (pe_op op_modN (pe_callTy call_int1 (by rfl) it boot_int (pa_cons (pe_op L2.op_add (pe_call GD (hr.mono (by decide)) rfl gD cD.kp bD .nil (E := E0) passL (pa_cons (pv 0) (pa_cons pe_int pa_nil))) (pe_op op_mulW pe_int (pv 1))) pa_nil)) pe_int) (fun _ _ => rfl))))), ?_⟩
    refine tseq_of (t := tAsg (tLst _) (gName 2)) ?_
    refine tasg_of ?_
    refine tlst_of ?_
    refine ((menu_cons (int_c _) (int_c _) (menu_cons (int_c _) (int_c _) (menu_cons (int_c _) (int_c _) (menu_cons (int_c _) (int_c _) (menu_cons (int_c _) (int_c _) (menu_cons (int_c _) (int_c _) (menu_cons (int_c _) (int_c _) (menu_cons (int_c _) (int_c _) (menu_cons (int_c _) (int_c _) (menu_cons (int_c _) (int_c _) (menu_cons (int_c _) (int_c _) (menu_cons (int_c _) (int_c _) menu_nil)))))))))))) : MenuT _ powPs) _ _ _ fun xs H1 e1 hx => ⟨by rw [hx.1]; exact big1000 (by decide), fun l nl => ?_⟩
    have hp2 : PoolL (upd H1 l (.lst xs)) r := (hp.ext e1).ext (ext1 nl)
    have hl2 : (upd H1 l (.lst xs)) l = some (.lst xs) := upd_same
    have hx2 := hx.ext moPairV (ext1 (o := .lst xs) nl)
    have e2 : Ext H (upd H1 l (.lst xs)) := e1.trans (ext1 nl)
    have lr : l ≠ r := fun z => by
      obtain ⟨cs, h, _⟩ := hp.ext e1
      rw [z, h] at nl
      cases nl
    generalize upd H1 l (.lst xs) = H2 at hp2 hl2 hx2 e2
    refine ⟨_, rfl, _, rfl, r, 12, rfl, hp2, by decide, by decide, fun d H3 d0 d1 hp3 k3 => ?_⟩
    obtain ⟨j, hj, hj2⟩ := fmod_nat (i := d + 5 * (k : Int)) (m := 12) (by decide)
    have hjl : j < powPs.length := by show j < 12; omega
    obtain ⟨v, hv, hv2⟩ := hx2.get (List.getElem?_eq_getElem hjl)
    refine ⟨_, rfl, _, _, rfl, rfl, (bd_le (by decide)).cm (bd_le (by omega)), _, _, rfl, rfl, .inl ⟨_, rfl, _, _, rfl, rfl, (show (12 : Int) ≠ 0 by decide), l, _, _, v, rfl, rfl, SqL.of (k3 _ _ hl2 lr), by rw [hj]; exact atI_nat hv, ?_⟩⟩
    have mem := List.getElem_mem hjl
    exact q v _ H3 (powPs_z _ mem) (pv_pair (powPs_low _ mem) (kp_pair hv2 hp2 k3)) hp3 ((Kp.of e2).trans k3)
end
end Fx

set_option Elab.async false
set_option linter.all false
set_option maxRecDepth 100000
set_option maxHeartbeats 4000000
set_option exponentiation.threshold 20000
namespace Fx
open PySem PySem.Spec PyProof.Rows L2 FM KM
/-! ### the drawn web -/
theorem ints_at {ns : List Int} {d : Int} (h0 : 0 ≤ d) (h1 : d < ns.length) : ∃ x, x ∈ ns ∧ atI (ns.map V.int) d = some (V.int x) := by
  obtain ⟨n, rfl⟩ : ∃ n : Nat, d = (n : Int) := ⟨d.toNat, by omega⟩
  have hd : n < ns.length := by omega
  exact ⟨ns[n], List.getElem_mem hd, atI_nat (by rw [List.getElem?_map, List.getElem?_eq_getElem hd]; rfl)⟩
/-- a kind's word -/
def kV_ (b : Bool) : V := .str (kS b)
theorem kinds_at {bs : List Bool} {d : Int} (h0 : 0 ≤ d) (h1 : d < bs.length) : ∃ b, b ∈ bs ∧ atI (bs.map kV_) d = some (kV_ b) := by
  obtain ⟨n, rfl⟩ : ∃ n : Nat, d = (n : Int) := ⟨d.toNat, by omega⟩
  have hd : n < bs.length := by omega
  exact ⟨bs[n], List.getElem_mem hd, atI_nat (by rw [List.getElem?_map, List.getElem?_eq_getElem hd]; rfl)⟩
def earPs : List (Int × Int) := [(1, 1), (2, 1), (3, 1), (1, 2), (4, 3), (5, 1)]
theorem earPs_low : ∀ p ∈ earPs, Low p := fun p hp => by
  have : p.2 > 0 ∧ Nat.gcd p.1.natAbs p.2.natAbs = 1 := (show ∀ p ∈ earPs, p.2 > 0 ∧ Nat.gcd p.1.natAbs p.2.natAbs = 1 by decide) p hp
  exact ⟨this.1, this.2⟩
theorem earPs_z : ∀ p ∈ earPs, PowZ (val p) := fun p hp => pow_of (earPs_low p hp) ((show ∀ p ∈ earPs, 0 < p.1 ∧ p.2 ∣ 12 ∧ p.1 * (12 / p.2) ≤ 108 ∧ p.1 ∣ 1260 ∧ p.2 * (1260 / p.1) ≤ 5040 by decide) p hp)
def RodL (v : V) (r : RodD) (H : Hp) : Prop := ∃ a s, v = .ref a ∧ H a = some (.tup [.int (r.st : Int), .int (r.en : Int), .int (r.len : Int), s, .int r.tw]) ∧ PV s r.z H
theorem moRodL : MoX RodL := fun x y H H' e h => by
  obtain ⟨a, s, h1, h2, h3⟩ := h
  exact ⟨a, s, h1, e _ _ h2 (fun ys z => by cases z), moPV _ _ _ _ e h3⟩
def EarL (v : V) (r : EarD) (H : Hp) : Prop := ∃ a s, v = .ref a ∧ H a = some (.tup [.int (r.pl : Int), s]) ∧ PV s r.z H
theorem moEarL : MoX EarL := fun x y H H' e h => by
  obtain ⟨a, s, h1, h2, h3⟩ := h
  exact ⟨a, s, h1, e _ _ h2 (fun ys z => by cases z), moPV _ _ _ _ e h3⟩
structure RodC (n : Nat) (r : RodD) : Prop where
  st : r.st < n
  en : r.en < n
  l1 : 1 ≤ r.len
  l2 : r.len ≤ 12
  z : PowZ r.z
  tw : r.tw = 1 ∨ r.tw = -1
structure EarC (n : Nat) (r : EarD) : Prop where
  pl : r.pl < n
  z : PowZ r.z
/-- the web as the law draws it: kinds, rods, tips; m0 cells at most -/
structure WebC (m0 : Nat) (bs : List Bool) (rods : List RodD) (tips : List EarD) : Prop where
  n8 : bs.length ≤ 8
  m8 : rods.length ≤ 8
  e4 : tips.length ≤ 4
  r : ∀ r ∈ rods, RodC bs.length r
  e : ∀ r ∈ tips, EarC bs.length r
  c : (rods.map fun r => 2 * r.len).sum ≤ m0
  e1 : 1 ≤ tips.length
  n1 : 1 ≤ bs.length
  pk : ∀ b ∈ bs, b = true
  pt : ∀ r ∈ rods, r.tw = 1
structure WebPy (H : Hp) (t jl rl tl : Addr) (bs : List Bool) (rods : List RodD) (tips : List EarD) : Prop where
  t : H t = some (.tup [.ref jl, .ref rl, .ref tl])
  j : H jl = some (.lst (bs.map kV_))
  r : ∃ xs, H rl = some (.lst xs) ∧ All2 RodL xs rods H
  e : ∃ xs, H tl = some (.lst xs) ∧ All2 EarL xs tips H
theorem WebPy.kp {H H' : Hp} {t jl rl tl r : Addr} {bs : List Bool} {rods : List RodD} {tips : List EarD} (h : WebPy H t jl rl tl bs rods tips) (hp : PoolL H r) (hj : jl ≠ r) (hr : rl ≠ r) (ht : tl ≠ r) (k : Kp r H H') : WebPy H' t jl rl tl bs rods tips := by
  obtain ⟨h1, h2, ⟨xs, h3, h4⟩, ⟨ys, h5, h6⟩⟩ := h
  have x := k.l hp
  exact ⟨x _ _ h1 (fun ys z => by cases z), k _ _ h2 hj, ⟨xs, k _ _ h3 hr, h4.l moRodL x⟩, ⟨ys, k _ _ h5 ht, h6.l moEarL x⟩⟩
theorem WebPy.ext {H H' : Hp} {t jl rl tl : Addr} {bs : List Bool} {rods : List RodD} {tips : List EarD} (h : WebPy H t jl rl tl bs rods tips) (e : Ext H H') : WebPy H' t jl rl tl bs rods tips := by
  obtain ⟨h1, h2, ⟨xs, h3, h4⟩, ⟨ys, h5, h6⟩⟩ := h
  exact ⟨e _ _ h1, e _ _ h2, ⟨xs, e _ _ h3, h4.ext moRodL e⟩, ⟨ys, e _ _ h5, h6.ext moEarL e⟩⟩
theorem log_small {n : Int} (h : n.natAbs ≤ 1000) : n.natAbs.log2 < 9000 := (bd_le h).bi.log
theorem pool_ne {H : Hp} {r l : Addr} (hp : PoolL H r) (h : H l = none) : l ≠ r := fun z => by
  obtain ⟨cs, q, _⟩ := hp
  rw [z, q] at h
  cases h
section
variable {P : Program} {w : World} {K : PySem.W.Frag} {mg : Str → Option Value} {base : Heap} {A : Adr}
theorem lstart {a b : V} : L2.start ["pool", "most", "many", "count", "last", "rods", "k", "start", "stop", "long", "z", "tips", "at", "menu"] [a, b] = [some a, some b, none, none, none, none, none, none, none, none, none, none, none, none] := rfl
theorem scLw : FnScope ["pool", "most", "many", "count", "last", "rods", "k", "start", "stop", "long", "z", "tips", "at", "menu"] ["pool", "most"] (defScope (top 89)) := ⟨rfl, rfl, rfl, by decide +kernel, rfl, by decide +kernel, by decide +kernel⟩
def spLw : Sp := fun vs H Q _ => ∃ (r : Addr) (m0 : Nat), vs = [.ref r, .int (m0 : Int)] ∧ m0 ≤ 24 ∧ PoolL H r ∧ ∀ t jl rl tl bs rods tips H', H jl = none → H rl = none → H tl = none → WebC m0 bs rods tips → WebPy H' t jl rl tl bs rods tips → PoolL H' r → Kp r H H' → Q (.ref t) H'
theorem ok_Lw {f : Addr} {fd : FuncData} (F : Fun K "_law_web" "_law_web" (top 89) f fd) (it : mg "int" = none) (ra : mg "range" = none) (hD : LF P w K mg base "_law_digit" 1 ["pool", "many"] spLd) (hW : LF P w K mg base "_law_power" 2 ["pool", "k"] spLpw) : FnOk P w K mg base (L2.CX P w) 3 f fd ["pool", "most"] spLw := by
  refine F.okX scLw (fun vs H Q E h => ?_) (fun cdv AA outer s H vs Q E hr h => ?_)
  · obtain ⟨r, m0, rfl, _⟩ := h; rfl
  · obtain ⟨r, m0, rfl, m24, hp0, q⟩ := h
    obtain ⟨fD, gD, cD⟩ := hD
    obtain ⟨fdD, GD, bD⟩ := cD.ex
    obtain ⟨fW, gW, cW⟩ := hW
    obtain ⟨fdW, GW, bW⟩ := cW.ex
    refine ⟨_, (pss_cons (ps_set (i := 2) scLw.nd rfl (Or.inl rfl) (pe_ix ix_list (pe_lst (pa_cons pe_int (pa_cons pe_int (pa_cons pe_int (pa_cons pe_int pa_nil))))) (pe_call GD (hr.mono (by decide)) rfl gD cD.kp bD .nil (E := E0) passL (pa_cons (pv 0) (pa_cons pe_int pa_nil))) (fun _ _ => rfl)))
      (pss_cons (ps_set (i := 3) scLw.nd rfl (Or.inl rfl) (pe_op L2.op_add (pe_ix ix_list (pe_lst (pa_cons pe_int (pa_cons pe_int (pa_cons pe_int (pa_cons pe_int pa_nil))))) (pe_call GD (hr.mono (by decide)) rfl gD cD.kp bD .nil (E := E0) passL (pa_cons (pv 0) (pa_cons pe_int pa_nil))) (fun _ _ => rfl)) (pe_callTy call_int1 (by rfl) it boot_int (pa_cons (pe_cmpR L2.op_eq (pe_call GD (hr.mono (by decide)) rfl gD cD.kp bD .nil (E := E0) passL (pa_cons (pv 0) (pa_cons pe_int pa_nil))) pe_int (nomark _)) pa_nil))))
      (pss_cons (ps_set (i := 4) scLw.nd rfl (Or.inl rfl) (pe_op L2.op_add (pe_ix ix_list (pe_lst (pa_cons pe_int (pa_cons pe_int pa_nil))) (pe_call GD (hr.mono (by decide)) rfl gD cD.kp bD .nil (E := E0) passL (pa_cons (pv 0) (pa_cons pe_int pa_nil))) (fun _ _ => rfl)) (pe_callTy call_int1 (by rfl) it boot_int (pa_cons (pe_cmpR L2.op_eq (pe_call GD (hr.mono (by decide)) rfl gD cD.kp bD .nil (E := E0) passL (pa_cons (pv 0) (pa_cons pe_int pa_nil))) pe_int (nomark _)) pa_nil))))
      (C8.pss_cut (ps_if (pt_cmpR L2.op_eq (pe_call GD (hr.mono (by decide)) rfl gD cD.kp bD .nil (E := E0) passL (pa_cons (pv 0) (pa_cons pe_int pa_nil))) pe_int (nomark _)) (pss_cons (ps_set (i := 2) scLw.nd rfl (Or.inl rfl) (pe_op L2.op_add (pv 2) pe_int))
      (pss_one (ps_set (i := 3) scLw.nd rfl (Or.inl rfl) (pe_op L2.op_add (pv 3) pe_int)))) pss_nil)
      (pss_cons (ps_set (i := 5) scLw.nd rfl (Or.inl rfl) (pe_lst pa_nil))
      (pss_cons (ps_for (passes_of rfl) rfl (pi_range1 rfl ra (pa_cons (pv 3) pa_nil)) (pg_name (i := 6) scLw.nd rfl (Or.inl rfl)) (pss_cons (ps_set (i := 7) scLw.nd rfl (Or.inl rfl) (pe_op op_modN (pe_callTy call_int1 (by rfl) it boot_int (pa_cons (pe_op L2.op_add (pe_call GD (hr.mono (by decide)) rfl gD cD.kp bD .nil (E := E0) passL (pa_cons (pv 0) (pa_cons (pv 2) pa_nil))) (pv 6)) pa_nil)) (pv 2)))
      (pss_cons (ps_set (i := 8) scLw.nd rfl (Or.inl rfl) (pe_op op_modN (pe_callTy call_int1 (by rfl) it boot_int (pa_cons (pe_op L2.op_add (pe_op L2.op_add (pe_call GD (hr.mono (by decide)) rfl gD cD.kp bD .nil (E := E0) passL (pa_cons (pv 0) (pa_cons (pv 2) pa_nil))) (pv 6)) pe_int) pa_nil)) (pv 2)))
      (pss_cons (ps_set (i := 9) scLw.nd rfl (Or.inl rfl) (pe_ix ix_list (pe_lst (pa_cons pe_int (pa_cons pe_int (pa_cons pe_int (pa_cons pe_int (pa_cons pe_int (pa_cons pe_int (pa_cons pe_int (pa_cons pe_int pa_nil))))))))) (pe_op op_modN (pe_callTy call_int1 (by rfl) it boot_int (pa_cons (pe_op L2.op_add (pe_call GD (hr.mono (by decide)) rfl gD cD.kp bD .nil (E := E0) passL (pa_cons (pv 0) (pa_cons pe_int pa_nil))) (pv 6)) pa_nil)) pe_int) (fun _ _ => rfl)))
      (pss_cons (ps_set (i := 10) scLw.nd rfl (Or.inl rfl) (pe_call GW (hr.mono (by decide)) rfl gW cW.kp bW .nil (E := E0) passL (pa_cons (pv 0) (pa_cons (pv 6) pa_nil))))
      (pss_one (ps_if (pt_cmpR L2.op_le (pe_op op_mulW pe_int (pv 9)) (pv 1) (nomark _)) (pss_cons (ps_expr (pe_bm PySem.F.plainAttrs_list PySem.F.slot_list_append PySem.F.type_list_append mt_append (pv 5) (pa_cons (pe_tup (pa_cons (pv 7) (pa_cons (pv 8) (pa_cons (pv 9) (pa_cons (pv 10) (pa_cons pe_int pa_nil)))))) pa_nil)))
      (pss_one (ps_set (i := 1) scLw.nd rfl (Or.inl rfl) (pe_op L2.op_sub (pv 1) (pe_op op_mulW pe_int (pv 9)))))) pss_nil)))))))
      (pss_cons (ps_set (i := 11) scLw.nd rfl (Or.inl rfl) (pe_lst pa_nil))
      (pss_cons (ps_for (passes_of rfl) rfl (pi_range1 rfl ra (pa_cons (pv 4) pa_nil)) (pg_name (i := 6) scLw.nd rfl (Or.inl rfl)) (pss_cons (ps_set (i := 12) scLw.nd rfl (Or.inl rfl) (pe_op op_modN (pe_callTy call_int1 (by rfl) it boot_int (pa_cons (pe_op L2.op_add (pe_call GD (hr.mono (by decide)) rfl gD cD.kp bD .nil (E := E0) passL (pa_cons (pv 0) (pa_cons (pv 2) pa_nil))) (pv 6)) pa_nil)) (pv 2)))
      (pss_cons (ps_set (i := 13) scLw.nd rfl (Or.inl rfl) (pe_lst (pa_cons (pe_tup (pa_cons pe_int (pa_cons pe_int pa_nil))) (pa_cons (pe_tup (pa_cons pe_int (pa_cons pe_int pa_nil))) (pa_cons (pe_tup (pa_cons pe_int (pa_cons pe_int pa_nil))) (pa_cons (pe_tup (pa_cons pe_int (pa_cons pe_int pa_nil))) (pa_cons (pe_tup (pa_cons pe_int (pa_cons pe_int pa_nil))) (pa_cons (pe_tup (pa_cons pe_int (pa_cons pe_int pa_nil))) pa_nil))))))))
      (pss_one (ps_expr (pe_bm PySem.F.plainAttrs_list PySem.F.slot_list_append PySem.F.type_list_append mt_append (pv 11) (pa_cons (pe_tup (pa_cons (pv 12) (pa_cons (pe_ix ix_list (pv 13) (pe_op op_modN (pe_callTy call_int1 (by rfl) it boot_int (pa_cons (pe_op L2.op_add (pe_call GD (hr.mono (by decide)) rfl gD cD.kp bD .nil (E := E0) passL (pa_cons (pv 0) (pa_cons pe_int pa_nil))) (pv 6)) pa_nil)) pe_int) (fun _ _ => rfl)) pa_nil))) pa_nil)))))))
      (pss_one (ps_ret (pe_tup (pa_cons (pe_lc (own := [("k", 6)]) (g := (gName 6)) rfl scLw.nd (pi_range1 rfl ra (pa_cons (pv 2) pa_nil)) (blkOk_by (own := [("k", 6)]) (N := ["pool", "most", "many", "count", "last", "rods", "k", "start", "stop", "long", "z", "tips", "at", "menu"]) (sc := defScope (top 89)) (by decide +kernel)) (fun _ _ _ _ _ => (pg_name (i := 6) scLw.nd rfl (Or.inl rfl))) (fun _ _ _ _ _ => pts_nil) (fun _ _ _ _ _ => pe_str)) (pa_cons (pv 5) (pa_cons (pv 11) pa_nil)))))))))))))), ?_⟩
    rw [lstart]
    -- many
    refine ⟨(by show 4 ≤ sizeLine; decide), fun l1 nl1 => ?_⟩
    have hq1 : (upd H l1 (.lst [.int 3, .int 2, .int 1, .int 4])) l1 = some (.lst ([3, 2, 1, 4].map V.int)) := upd_same
    have hp1 := hp0.ext (ext1 (o := .lst [.int 3, .int 2, .int 1, .int 4]) nl1)
    have k1 : Kp r H (upd H l1 (.lst [.int 3, .int 2, .int 1, .int 4])) := Kp.of (ext1 nl1)
    generalize upd H l1 (.lst [.int 3, .int 2, .int 1, .int 4]) = H1 at hq1 hp1 k1
    refine ⟨_, rfl, r, 4, rfl, hp1, by decide, by decide, fun d1 H2 d10 d11 hp2 k2 => ?_⟩
    obtain ⟨many0, hm0, hm1⟩ := ints_at (ns := [3, 2, 1, 4]) d10 d11
    refine ⟨l1, _, _, _, rfl, rfl, SqL.of (k2 _ _ hq1 (pool_ne hp0 nl1)), hm1, ?_⟩
    have km2 := k1.trans k2
    have hmb : 1 ≤ many0 ∧ many0 ≤ 4 := (show ∀ x ∈ ([3, 2, 1, 4] : List Int), 1 ≤ x ∧ x ≤ 4 by decide) _ hm0
    clear hq1 hp1 k1 k2 hm0 hm1
    -- count
    refine ⟨(by show 4 ≤ sizeLine; decide), fun l2 nl2 => ?_⟩
    have hq3 : (upd H2 l2 (.lst [.int 2, .int 1, .int 3, .int 0])) l2 = some (.lst ([2, 1, 3, 0].map V.int)) := upd_same
    have hp3 := hp2.ext (ext1 (o := .lst [.int 2, .int 1, .int 3, .int 0]) nl2)
    have k3 : Kp r H2 (upd H2 l2 (.lst [.int 2, .int 1, .int 3, .int 0])) := Kp.of (ext1 nl2)
    generalize upd H2 l2 (.lst [.int 2, .int 1, .int 3, .int 0]) = H3 at hq3 hp3 k3
    refine ⟨_, rfl, r, 4, rfl, hp3, by decide, by decide, fun d2 H4 d20 d21 hp4 k4 => ?_⟩
    obtain ⟨c0, hc0, hc1⟩ := ints_at (ns := [2, 1, 3, 0]) d20 d21
    refine ⟨l2, _, _, _, rfl, rfl, SqL.of (k4 _ _ hq3 (pool_ne hp2 nl2)), hc1, ?_⟩
    have hcb : 0 ≤ c0 ∧ c0 ≤ 3 := (show ∀ x ∈ ([2, 1, 3, 0] : List Int), 0 ≤ x ∧ x ≤ 3 by decide) _ hc0
    have km4 := (km2.trans k3).trans k4
    clear hq3 hp3 k3 k4 hc0 hc1 km2
    refine ⟨_, rfl, r, 8, rfl, hp4, by decide, by decide, fun d3 H5 d30 d31 hp5 k5 => ?_⟩
    refine ⟨rfl, .inr ⟨_, rfl, _, _, rfl, rfl, ?_⟩⟩
    have km5 := km4.trans k5
    obtain ⟨count0, ec, hcount⟩ : ∃ x : Int, c0 + (if decide (V.int d3 = V.int 5) = true then 1 else 0) = x ∧ 0 ≤ x ∧ x ≤ 4 := ⟨_, rfl, by split <;> omega, by split <;> omega⟩
    dsimp only
    rw [ec]
    clear hp4 k5 km4 ec
    -- last
    refine ⟨(by show 2 ≤ sizeLine; decide), fun l3 nl3 => ?_⟩
    have hq6 : (upd H5 l3 (.lst [.int 2, .int 3])) l3 = some (.lst ([2, 3].map V.int)) := upd_same
    have hp6 := hp5.ext (ext1 (o := .lst [.int 2, .int 3]) nl3)
    have k6 : Kp r H5 (upd H5 l3 (.lst [.int 2, .int 3])) := Kp.of (ext1 nl3)
    generalize upd H5 l3 (.lst [.int 2, .int 3]) = H6 at hq6 hp6 k6
    refine ⟨_, rfl, r, 2, rfl, hp6, by decide, by decide, fun d4 H7 d40 d41 hp7 k7 => ?_⟩
    obtain ⟨t0, ht0, ht1⟩ := ints_at (ns := [2, 3]) d40 d41
    refine ⟨l3, _, _, _, rfl, rfl, SqL.of (k7 _ _ hq6 (pool_ne hp5 nl3)), ht1, ?_⟩
    have htb : 2 ≤ t0 ∧ t0 ≤ 3 := (show ∀ x ∈ ([2, 3] : List Int), 2 ≤ x ∧ x ≤ 3 by decide) _ ht0
    have km7 := (km5.trans k6).trans k7
    clear hq6 hp6 k6 k7 ht0 ht1 km5
    refine ⟨_, rfl, r, 8, rfl, hp7, by decide, by decide, fun d5 H8 d50 d51 hp8 k8 => ?_⟩
    refine ⟨rfl, .inr ⟨_, rfl, _, _, rfl, rfl, ?_⟩⟩
    have km8 := km7.trans k8
    obtain ⟨last0, el, hlast⟩ : ∃ x : Int, t0 + (if decide (V.int d5 = V.int 5) = true then 1 else 0) = x ∧ 2 ≤ x ∧ x ≤ 4 := ⟨_, rfl, by split <;> omega, by split <;> omega⟩
    dsimp only
    rw [el]
    clear hp7 k8 km7 el
    -- more joints
    refine ⟨fun σ H' => ∃ many count : Int, σ = [some (.ref r), some (.int (m0 : Int)), some (.int many), some (.int count), some (.int last0), none, none, none, none, none, none, none, none, none] ∧ 1 ≤ many ∧ many ≤ 6 ∧ 0 ≤ count ∧ count ≤ 6 ∧ PoolL H' r ∧ Kp r H H', ?_, ?_⟩
    · refine ⟨_, rfl, r, 8, rfl, hp8, by decide, by decide, fun d6 H9 d60 d61 hp9 k9 => ?_⟩
      refine ⟨rfl, _, rfl, if_D (fun _ => ?_) (fun _ => ?_)⟩
      · refine ⟨_, rfl, _, _, rfl, rfl, _, rfl, _, _, rfl, rfl, ?_⟩
        exact ⟨_, _, rfl, by omega, by omega, by omega, by omega, hp9, km8.trans k9⟩
      · exact ⟨_, _, rfl, by omega, by omega, by omega, by omega, hp9, km8.trans k9⟩
    rintro σ H9 ⟨many, count1, rfl, hma, hmb', hca, hcb', hp9, km9⟩
    clear hp8 km8 hp5 hp2
    obtain ⟨count, hct⟩ : ∃ c, c = count1 := ⟨_, rfl⟩
    obtain ⟨last, hlt⟩ : ∃ c, c = last0 := ⟨_, rfl⟩
    rw [← hct, ← hlt]
    have c0' : 0 ≤ count := by omega
    have c6 : count ≤ 6 := by omega
    have la0 : 0 ≤ last := by omega
    have la3 : last ≤ 4 := by omega
    have hmany : 0 < many := by omega
    -- rods
    refine ⟨by decide, fun rl nrl => ?_⟩
    have rlr : rl ≠ r := pool_ne hp9 nrl
    have nrl0 : H rl = none := by
      cases e : H rl with
      | none => rfl
      | some o => rw [km9 _ _ e rlr] at nrl; cases nrl
    obtain ⟨mN, hmN⟩ : ∃ mN : Nat, many = (mN : Int) := ⟨many.toNat, by omega⟩
    subst hmN
    refine ⟨_, rfl, count, rfl, by omega, by omega, ?_⟩
    refine for_it (walk_range (lo := 0) (n := count.toNat)) (fun i σ H' => ∃ (most : Int) (rods : List RodD) (xs : List V) (z6 z7 z8 z9 z10 : Option V), σ = [some (.ref r), some (.int most), some (.int (mN : Int)), some (.int count), some (.int last), some (.ref rl), z6, z7, z8, z9, z10, none, none, none] ∧ H' rl = some (.lst xs) ∧ All2 RodL xs rods H' ∧ rods.length ≤ i ∧ (∀ x ∈ rods, RodC mN x ∧ x.tw = 1) ∧ most = (m0 : Int) - (((rods.map fun x => 2 * x.len).sum : Nat) : Int) ∧ 0 ≤ most ∧ PoolL H' r ∧ Kp r H H') ⟨(m0 : Int), [], [], _, _, _, _, _, rfl, upd_same, All2.nil, Nat.le_refl _, by simp, by simp, by omega, hp9.ext (ext1 nrl), km9.new nrl⟩ (fun _ _ _ _ _ => trivial) ?_ ?_
    · rintro i x σ _ H1 hi ⟨most, rods, xs, z6, z7, z8, z9, z10, rfl, hrl, hx, hrn, hrc, hmost, hm0, hpp, kk⟩ ⟨rfl, rfl⟩
      have ei : (0 + (i : Int)) = (i : Int) := by omega
      dsimp only
      rw [ei]
      have i6 : i < 6 := by omega
      have m1 : 0 < (mN : Int) := hmany
      -- start
      refine ⟨_, rfl, _, rfl, r, _, rfl, hpp, m1, log_small (by omega), fun a1 G1 a10 a11 hp1 g1 => ?_⟩
      obtain ⟨s1, hs1, hs2⟩ := fmod_nat (i := a1 + (i : Int)) (m := (mN : Int)) m1
      refine ⟨_, rfl, _, _, rfl, rfl, .inl ⟨_, rfl, _, rfl, _, _, rfl, rfl, by omega, ?_⟩⟩
      dsimp only
      rw [hs1]
      -- stop
      refine ⟨_, rfl, _, rfl, r, _, rfl, hp1, m1, log_small (by omega), fun a2 G2 a20 a21 hp2 g2 => ?_⟩
      obtain ⟨s2, ht1, ht2⟩ := fmod_nat (i := a2 + (i : Int) + 1) (m := (mN : Int)) m1
      refine ⟨_, rfl, _, _, rfl, rfl, _, _, rfl, rfl, .inl ⟨_, rfl, _, rfl, _, _, rfl, rfl, by omega, ?_⟩⟩
      dsimp only
      rw [ht1]
      -- long
      refine ⟨(by show 8 ≤ sizeLine; decide), fun l4 nl4 => ?_⟩
      have hq4 : (upd G2 l4 (.lst [.int 1, .int 2, .int 1, .int 2, .int 1, .int 2, .int 1, .int 3])) l4 = some (.lst ([1, 2, 1, 2, 1, 2, 1, 3].map V.int)) := upd_same
      have hp3 := hp2.ext (ext1 (o := .lst [.int 1, .int 2, .int 1, .int 2, .int 1, .int 2, .int 1, .int 3]) nl4)
      have g3 : Kp r G2 (upd G2 l4 (.lst [.int 1, .int 2, .int 1, .int 2, .int 1, .int 2, .int 1, .int 3])) := Kp.of (ext1 nl4)
      generalize upd G2 l4 (.lst [.int 1, .int 2, .int 1, .int 2, .int 1, .int 2, .int 1, .int 3]) = G3 at hq4 hp3 g3
      refine ⟨_, rfl, r, 8, rfl, hp3, by decide, by decide, fun a4 G4 a40 a41 hp4 g4 => ?_⟩
      obtain ⟨u4, hu1, hu2⟩ := fmod_nat (i := a4 + (i : Int)) (m := 8) (by decide)
      obtain ⟨lg, hg0, hg1⟩ := ints_at (ns := [1, 2, 1, 2, 1, 2, 1, 3]) (d := (u4 : Int)) (by omega) hu2
      refine ⟨_, rfl, _, _, rfl, rfl, .inl ⟨_, rfl, _, _, rfl, rfl, (show (8 : Int) ≠ 0 by decide), l4, _, _, _, rfl, rfl, SqL.of (g4 _ _ hq4 (pool_ne hp2 nl4)), by rw [hu1]; exact hg1, ?_⟩⟩
      have hgb : 1 ≤ lg ∧ lg ≤ 3 := (show ∀ x ∈ ([1, 2, 1, 2, 1, 2, 1, 3] : List Int), 1 ≤ x ∧ x ≤ 3 by decide) _ hg0
      obtain ⟨lN, hlN⟩ : ∃ lN : Nat, lg = (lN : Int) := ⟨lg.toNat, by omega⟩
      subst hlN
      have gg4 : Kp r H1 G4 := ((g1.trans g2).trans g3).trans g4
      clear hg0 hg1 hq4 hp3 g1 g2 g3 g4
      -- the strength
      refine ⟨_, rfl, _, rfl, r, i, rfl, hp4, by omega, fun v zz G5 hzz hv hp5 g5 => ?_⟩
      have gg5 : Kp r H1 G5 := gg4.trans g5
      have hrl5 : G5 rl = some (.lst xs) := gg5 _ _ hrl rlr
      have hx5 := hx.l moRodL (gg5.l hpp)
      refine ⟨_, rfl, _, _, rfl, rfl, (bd_le (by decide)).cm (bd_le (by omega)), _, rfl, _, _, rfl, rfl, _, rfl, if_D (fun c => ?_) (fun c => ?_)⟩
      · refine ⟨_, rfl, .inl ⟨rfl, _, SqL.of hrl5⟩, _, rfl, _, rfl, _, rfl, _, rfl, (by show 5 ≤ sizeLine; decide), fun t nt => ⟨rl, xs, _, rfl, rfl, (ext1 nt) _ _ hrl5, lt1000 (by rw [hx.1]; omega), ?_⟩⟩
        have x6 : ExtL G5 (upd (upd G5 t (.tup [.int (s1 : Int), .int (s2 : Int), .int (lN : Int), v, .int 1])) rl (.lst (xs ++ [.ref t]))) := (Ext.l (ext1 nt)).trans (ExtL.upd (xs := xs) ((ext1 nt) _ _ hrl5))
        have trl : t ≠ rl := fun z => by rw [z, hrl5] at nt; cases nt
        refine ⟨_, rfl, _, rfl, _, _, rfl, rfl, (bd_le (by decide)).cm (bd_le (by omega)), _, _, rfl, rfl, ?_⟩
        refine ⟨_, rods ++ [⟨s1, s2, lN, zz, 1⟩], xs ++ [.ref t], _, _, _, _, _, rfl, upd_same, (hx5.l moRodL x6).snoc ⟨t, v, rfl, by rw [upd_ne trl]; exact upd_same, moPV _ _ _ _ x6 hv⟩, by rw [List.length_append]; show rods.length + 1 ≤ i + 1; omega, fun y hy => ?_, ?_, ?_, ?_, ?_⟩
        · rcases List.mem_append.mp hy with hy | hy
          · exact hrc y hy
          · rw [List.mem_singleton.mp hy]
            exact ⟨⟨by show s1 < mN; omega, by show s2 < mN; omega, by show 1 ≤ lN; omega, by show lN ≤ 12; omega, hzz, .inl rfl⟩, rfl⟩
        · rw [hmost, List.map_append, List.sum_append]
          simp
          omega
        · omega
        · obtain ⟨cs, q1, q2, q3⟩ := hp5
          exact ⟨cs, by rw [upd_ne rlr.symm]; exact (ext1 nt) _ _ q1, q2, q3⟩
        · intro b o hb hbr
          rw [upd_ne (ne_of_none hb nrl0)]
          exact (ext1 nt) _ _ (gg5 _ _ (kk b o hb hbr) hbr)
      · exact ⟨most, rods, xs, _, _, _, _, _, rfl, hrl5, hx5, by omega, hrc, hmost, hm0, hp5, kk.trans gg5⟩
    rintro σ H1 ⟨most, rods, xs, z6, z7, z8, z9, z10, rfl, hrl, hx, hrn, hrc, hmost, hm0, hpp, kk⟩
    clear hp9 km9
    -- tips
    refine ⟨by decide, fun tl ntl => ?_⟩
    have tlr : tl ≠ r := pool_ne hpp ntl
    have trl : rl ≠ tl := ne_of_none hrl ntl
    have ntl0 : H tl = none := by
      cases e : H tl with
      | none => rfl
      | some o => rw [kk _ _ e tlr] at ntl; cases ntl
    refine ⟨_, rfl, last, rfl, by omega, by omega, ?_⟩
    refine for_it (walk_range (lo := 0) (n := last.toNat)) (fun i σ H' => ∃ (tips : List EarD) (ys : List V) (z6 z12 z13 : Option V), σ = [some (.ref r), some (.int most), some (.int (mN : Int)), some (.int count), some (.int last), some (.ref rl), z6, z7, z8, z9, z10, some (.ref tl), z12, z13] ∧ H' tl = some (.lst ys) ∧ All2 EarL ys tips H' ∧ tips.length = i ∧ (∀ x ∈ tips, EarC mN x) ∧ H' rl = some (.lst xs) ∧ All2 RodL xs rods H' ∧ PoolL H' r ∧ Kp r H H') ⟨[], [], _, _, _, rfl, upd_same, All2.nil, rfl, by simp, (ext1 ntl) _ _ hrl, hx.ext moRodL (ext1 ntl), hpp.ext (ext1 ntl), kk.new ntl⟩ (fun _ _ _ _ _ => trivial) ?_ ?_
    · rintro i x σ _ H2 hi ⟨tips, ys, z6, z12, z13, rfl, htl, hy, htn, htc, hrl2, hx2, hp2, kk2⟩ ⟨rfl, rfl⟩
      have ei : (0 + (i : Int)) = (i : Int) := by omega
      dsimp only
      rw [ei]
      have i3 : i < 4 := by omega
      have m1 : 0 < (mN : Int) := hmany
      refine ⟨_, rfl, _, rfl, r, _, rfl, hp2, m1, log_small (by omega), fun a1 G1 a10 a11 hp3 g1 => ?_⟩
      obtain ⟨s1, hs1, hs2⟩ := fmod_nat (i := a1 + (i : Int)) (m := (mN : Int)) m1
      refine ⟨_, rfl, _, _, rfl, rfl, .inl ⟨_, rfl, _, rfl, _, _, rfl, rfl, by omega, ?_⟩⟩
      dsimp only
      rw [hs1]
      dsimp only [gName, List.set]
      refine tseq_of (t := tAsg (tLst _) (gName 13)) ?_
      refine tasg_of ?_
      refine tlst_of ?_
      refine ((menu_cons (int_c _) (int_c _) (menu_cons (int_c _) (int_c _) (menu_cons (int_c _) (int_c _) (menu_cons (int_c _) (int_c _) (menu_cons (int_c _) (int_c _) (menu_cons (int_c _) (int_c _) menu_nil)))))) : MenuT _ earPs) _ _ _ fun us G2 e2 hu => ⟨by rw [hu.1]; exact big1000 (by decide), fun l nl => ?_⟩
      have hp4 : PoolL (upd G2 l (.lst us)) r := (hp3.ext e2).ext (ext1 nl)
      have hl4 : (upd G2 l (.lst us)) l = some (.lst us) := upd_same
      have hu4 := hu.ext moPairV (ext1 (o := .lst us) nl)
      have g4 : Kp r H2 (upd G2 l (.lst us)) := (g1.ext e2).ext (ext1 nl)
      have lr : l ≠ r := pool_ne (hp3.ext e2) nl
      generalize upd G2 l (.lst us) = G4 at hp4 hl4 hu4 g4
      have htl4 : G4 tl = some (.lst ys) := g4 _ _ htl tlr
      refine ⟨_, rfl, .inl ⟨rfl, _, SqL.of htl4⟩, _, rfl, _, rfl, _, rfl, r, 6, rfl, hp4, by decide, by decide, fun a5 G5 a50 a51 hp5 g5 => ?_⟩
      obtain ⟨j, hj, hj2⟩ := fmod_nat (i := a5 + (i : Int)) (m := 6) (by decide)
      have hjl : j < earPs.length := by show j < 6; omega
      obtain ⟨v, hv, hv2⟩ := hu4.get (List.getElem?_eq_getElem hjl)
      have mem := List.getElem_mem hjl
      have pv5 : PV v (val earPs[j]) G5 := pv_pair (earPs_low _ mem) (kp_pair hv2 hp4 g5)
      have gg5 : Kp r H2 G5 := g4.trans g5
      have htl5 : G5 tl = some (.lst ys) := gg5 _ _ htl tlr
      have hrl5 : G5 rl = some (.lst xs) := gg5 _ _ hrl2 rlr
      refine ⟨_, rfl, _, _, rfl, rfl, .inl ⟨_, rfl, _, _, rfl, rfl, (show (6 : Int) ≠ 0 by decide), l, _, _, v, rfl, rfl, SqL.of (g5 _ _ hl4 lr), by rw [hj]; exact atI_nat hv, (by show 2 ≤ sizeLine; decide), fun t nt => ⟨tl, ys, _, rfl, rfl, (ext1 nt) _ _ htl5, lt1000 (by rw [hy.1]; omega), ?_⟩⟩⟩
      have x6 : ExtL G5 (upd (upd G5 t (.tup [.int (s1 : Int), v])) tl (.lst (ys ++ [.ref t]))) := (Ext.l (ext1 nt)).trans (ExtL.upd (xs := ys) ((ext1 nt) _ _ htl5))
      have ttl : t ≠ tl := fun z => by rw [z, htl5] at nt; cases nt
      have y5 := hy.l moEarL (gg5.l hp2)
      have r5 := hx2.l moRodL (gg5.l hp2)
      refine ⟨tips ++ [⟨s1, val earPs[j]⟩], ys ++ [.ref t], _, _, _, rfl, upd_same, (y5.l moEarL x6).snoc ⟨t, v, rfl, by rw [upd_ne ttl]; exact upd_same, moPV _ _ _ _ x6 pv5⟩, by rw [List.length_append, htn]; rfl, fun y hy' => ?_, by rw [upd_ne trl]; exact (ext1 nt) _ _ hrl5, r5.l moRodL x6, ?_, ?_⟩
      · rcases List.mem_append.mp hy' with hy' | hy'
        · exact htc y hy'
        · rw [List.mem_singleton.mp hy']
          exact ⟨by show s1 < mN; omega, earPs_z _ mem⟩
      · obtain ⟨cs, q1, q2, q3⟩ := hp5
        exact ⟨cs, by rw [upd_ne tlr.symm]; exact (ext1 nt) _ _ q1, q2, q3⟩
      · intro b o hb hbr
        rw [upd_ne (ne_of_none hb ntl0)]
        exact (ext1 nt) _ _ (gg5 _ _ (kk2 b o hb hbr) hbr)
    rintro σ H2 ⟨tips, ys, z6, z12, z13, rfl, htl, hy, htn, htc, hrl2, hx2, hp2, kk2⟩
    -- the whole
    dsimp only
    refine tret_of ?_
    refine ttup_of ?_
    refine tcons_of ?_
    refine tlc_X (R := fun (x : V) (n : Bool) (_ : Hp) => x = .str "level") (ys := List.replicate mN true) (H1 := H2) (by rw [List.length_replicate]; exact walk_range (lo := 0)) (fun R r' => ⟨_, rfl, (mN : Int), rfl, by omega, by omega, r'⟩) (fun _ _ _ _ _ h => h) (by rw [List.length_replicate, sizeLine_eq]; omega) (fun _ _ => trivial) ?_ gm_name fun D us H3 nD e3 hD hu => ?_
    · rintro i x _ H3 b hb e ⟨rfl, rfl⟩ Qy kk
      exact ⟨rfl, kk _ _ Ext.rfl' rfl⟩
    · have eus : us = List.replicate mN (.str "level") := by
        refine List.ext_getElem (by rw [hu.1]; simp) fun i h1 h2 => ?_
        have := hu.2 i us[i] true (List.getElem?_eq_getElem h1) (by rw [List.getElem?_replicate, if_pos (by simpa using h2)])
        rw [this]
        simp
      refine ⟨_, rfl, _, rfl, (by show 3 ≤ sizeLine; decide), fun t nt => ?_⟩
      have Dr : D ≠ r := pool_ne hp2 nD
      have nD0 : H D = none := by
        cases e : H D with
        | none => rfl
        | some o => rw [kk2 _ _ e Dr] at nD; cases nD
      have e34 := e3.trans (ext1 (o := .tup [.ref D, .ref rl, .ref tl]) nt)
      have bl : (List.replicate mN true).length = mN := by simp
      refine q t D rl tl (List.replicate mN true) rods tips _ nD0 nrl0 ntl0 ⟨by rw [bl]; omega, by omega, by omega, fun y hy => by rw [bl]; exact (hrc y hy).1, fun y hy => by rw [bl]; exact htc y hy, by omega, by omega, by rw [bl]; omega, fun b hb => (List.mem_replicate.mp hb).2, fun y hy => (hrc y hy).2⟩ ⟨upd_same, by rw [List.map_replicate]; rw [eus] at hD; exact (ext1 nt) _ _ hD, ⟨xs, e34 _ _ hrl2, hx2.ext moRodL e34⟩, ⟨ys, e34 _ _ htl, hy.ext moEarL e34⟩⟩ (hp2.ext e34) (kk2.ext e34)
end
end Fx

set_option linter.all false
set_option exponentiation.threshold 20000
set_option maxRecDepth 100000
/-! Webs with joints of both kinds: sizes of a tick. -/
namespace KM
open FM
namespace WebD
variable {w : WebD}
/-- one joint of either kind: by what the common bottom grows -/
theorem lv_rep1g (ok : w.Ok) {Z B Zi Bi D M : Nat} {x u : List Rat} (s : w.SzZ Z B Zi Bi) (d0 : 0 < D) (d1 : D < 2 ^ 2600) (m1 : M < 2 ^ 2600) (hx : ∀ y ∈ x, Rep D M y) (hu : ∀ y ∈ u, Rep D M y) {b : Nat} (b0 : 0 < b) (b20 : 20 * B < 2 ^ b) (i20 : 20 * Bi < 2 ^ b) (j : Nat) :
    ∃ G : Nat, 0 < G ∧ G < 2 ^ b ∧ ∀ a, w.IsArm a → w.armJ a = j → Rep (D * G) (M * 2 ^ (b + 2)) (w.lv x u a) := by
  by_cases h : w.zsAt j = []
  · refine ⟨1, by decide, Nat.one_lt_two_pow (by omega), fun a ha e => ?_⟩
    have hm := mem_armsAt ha
    rw [e] at hm
    unfold zsAt at h
    rw [List.map_eq_nil_iff] at h
    rw [h] at hm
    simp at hm
  · have sj := szj ok s d0 d1 m1 hx hu j
    have n20 : (w.zsAt j).length ≤ 20 := sj.n
    have e4 : (2 : Nat) ^ (b + 2) = 2 ^ b * 4 := by rw [Nat.pow_add]
    cases k : w.kind j with
    | true =>
      obtain ⟨G, g0, g1, r⟩ := level_rep sj h
      have nB : (w.zsAt j).length * B ≤ 20 * B := Nat.mul_le_mul_right _ n20
      refine ⟨G, g0, by omega, fun a ha e => ?_⟩
      have ra := (rep_arr ok hx hu ha).scale (k := G)
      unfold lv mid
      rw [e, k, if_pos rfl]
      refine (r.subR ra).le ?_
      have e1 : 2 * ((w.zsAt j).length * (B * M)) + M * G = M * (2 * ((w.zsAt j).length * B) + G) := by
        rw [Nat.mul_add, Nat.mul_left_comm M 2, Nat.mul_comm M ((w.zsAt j).length * B), Nat.mul_assoc]
      rw [e1]
      refine Nat.mul_le_mul_left _ ?_
      omega
    | false =>
      obtain ⟨G, g0, g1, _, r⟩ := stream_rep sj h
      have nB : (w.zsAt j).length * Bi ≤ 20 * Bi := Nat.mul_le_mul_right _ n20
      refine ⟨G, g0, by omega, fun a ha e => ?_⟩
      have ra := (rep_arr ok hx hu ha).scale (k := G)
      have hz : w.armZ a ∈ w.zsAt j := List.mem_map.mpr ⟨a, by rw [← e]; exact mem_armsAt ha, rfl⟩
      unfold lv mid
      rw [e, k, if_neg (by decide)]
      refine (ra.subR (r _ hz)).le ?_
      have e1 : M * G + 2 * ((w.zsAt j).length * M) * Bi = M * (G + 2 * ((w.zsAt j).length * Bi)) := by
        rw [Nat.mul_add, Nat.mul_left_comm M 2, Nat.mul_comm (w.zsAt j).length M, Nat.mul_assoc, Nat.mul_assoc M]
      rw [e1]
      refine Nat.mul_le_mul_left _ ?_
      omega
theorem lv_rep2g (ok : w.Ok) {Z B Zi Bi D M : Nat} {x u : List Rat} (s : w.SzZ Z B Zi Bi) (d0 : 0 < D) (d1 : D < 2 ^ 2600) (m1 : M < 2 ^ 2600) (hx : ∀ y ∈ x, Rep D M y) (hu : ∀ y ∈ u, Rep D M y) {b : Nat} (b0 : 0 < b) (b20 : 20 * B < 2 ^ b) (i20 : 20 * Bi < 2 ^ b) :
    ∀ n : Nat, ∃ G : Nat, 0 < G ∧ G < 2 ^ (b * n + 1) ∧ ∀ a, w.IsArm a → w.armJ a < n → Rep (D * G) (M * 2 ^ (b + 2) * G) (w.lv x u a)
  | 0 => ⟨1, by decide, by rw [Nat.mul_zero]; decide, fun a _ h => absurd h (by omega)⟩
  | n + 1 => by
    obtain ⟨G, g0, g1, r⟩ := lv_rep2g ok s d0 d1 m1 hx hu b0 b20 i20 n
    obtain ⟨G', g0', g1', r'⟩ := lv_rep1g ok s d0 d1 m1 hx hu b0 b20 i20 n
    refine ⟨G * G', Nat.mul_pos g0 g0', ?_, fun a ha hj => ?_⟩
    · have := mul_pow g1 g1'
      rw [show b * (n + 1) + 1 = b * n + 1 + b by rw [Nat.mul_succ]; omega]
      exact this
    · by_cases e : w.armJ a = n
      · have := (r' a ha e).scale (k := G)
        rw [show D * G' * G = D * (G * G') by rw [Nat.mul_assoc, Nat.mul_comm G' G]] at this
        refine this.le ?_
        rw [← Nat.mul_assoc (M * 2 ^ (b + 2)) G G']
        exact Nat.le_mul_of_pos_right _ g0'
      · have := (r a ha (by omega)).scale (k := G')
        rw [Nat.mul_assoc, Nat.mul_assoc] at this
        exact this
/-- a tick: from a bits to a + (8 b + b + 3) bits -/
theorem tick_szbg (ok : w.Ok) {Z B Zi Bi a b : Nat} {x u : List Rat} (s : w.SzZ Z B Zi Bi) (h : Szb a (x ++ u)) (ha : a ≤ 2600) (b0 : 0 < b) (b20 : 20 * B < 2 ^ b) (i20 : 20 * Bi < 2 ^ b) :
    Szb (a + (b * 9 + 3)) (w.new x u ++ w.out x u) := by
  obtain ⟨D, M, d0, d1, m1, r⟩ := h
  have d2 : D < 2 ^ 2600 := Nat.lt_of_lt_of_le d1 (Nat.pow_le_pow_right (by decide) ha)
  have m2 : M < 2 ^ 2600 := Nat.lt_of_lt_of_le m1 (Nat.pow_le_pow_right (by decide) ha)
  have hx : ∀ y ∈ x, Rep D M y := fun y hy => r y (List.mem_append_left _ hy)
  have hu : ∀ y ∈ u, Rep D M y := fun y hy => r y (List.mem_append_right _ hy)
  obtain ⟨G, g0, g1, q⟩ := lv_rep2g ok s d0 d2 m2 hx hu b0 b20 i20 w.kinds.length
  have g2 : G < 2 ^ (b * 8 + 1) := Nat.lt_of_lt_of_le g1 (Nat.pow_le_pow_right (by decide) (by have := Nat.mul_le_mul_left b ok.n; omega))
  have q' : ∀ c, w.IsArm c → Rep (D * G) (M * 2 ^ (b + 2) * G) (w.lv x u c) := fun c hc => q c hc (armJ_lt ok hc)
  have keep : ∀ y ∈ x, Rep (D * G) (M * 2 ^ (b + 2) * G) y := fun y hy => ((hx y hy).scale (k := G)).le (Nat.mul_le_mul_right _ (Nat.le_mul_of_pos_right _ (Nat.two_pow_pos _)))
  refine ⟨D * G, M * 2 ^ (b + 2) * G, Nat.mul_pos d0 g0, ?_, ?_, fun y hy => ?_⟩
  · exact Nat.lt_of_lt_of_le (mul_pow d1 g2) (Nat.pow_le_pow_right (by decide) (by omega))
  · have e : M * 2 ^ (b + 2) < 2 ^ (a + (b + 2)) := by
      rw [Nat.pow_add 2 a]
      exact Nat.mul_lt_mul_of_pos_right m1 (Nat.two_pow_pos _)
    exact Nat.lt_of_lt_of_le (mul_pow e g2) (Nat.pow_le_pow_right (by decide) (by omega))
  · rcases List.mem_append.mp hy with hy | hy
    · unfold new newTo at hy
      obtain ⟨i, hi, hy⟩ := List.mem_flatMap.mp hy
      have hi := List.mem_range.mp hi
      unfold piece at hy
      rcases List.mem_append.mp hy with hy | hy
      · rcases List.mem_cons.mp hy with rfl | hy
        · exact q' _ hi
        · exact keep _ (List.mem_of_mem_drop (List.mem_of_mem_take hy))
      · rcases List.mem_cons.mp hy with rfl | hy
        · exact q' _ hi
        · exact keep _ (List.mem_of_mem_drop (List.mem_of_mem_take hy))
    · unfold out at hy
      obtain ⟨i, hi, rfl⟩ := List.mem_map.mp hy
      exact q' _ (show i < _ from List.mem_range.mp hi)
end WebD
end KM

set_option linter.all false
set_option exponentiation.threshold 20000
set_option maxRecDepth 100000
/-! Webs with joints of both kinds: the bottom grows by one number of the web's own, whatever is played. -/
namespace KM
open FM
section
variable {Z B Zi Bi D M : Nat} {zs as : List Rat}
theorem natAbs_cast {N : Int} (h : (0 : Rat) < (N : Rat)) : ((N.natAbs : Nat) : Rat) = (N : Rat) ∧ 0 < N.natAbs := by
  have hNi : 0 < N := by exact_mod_cast h
  have : ((N.natAbs : Nat) : Int) = N := by omega
  exact ⟨by exact_mod_cast congrArg (fun z : Int => (z : Rat)) this, by omega⟩
theorem level_repN (s : SzJ Z B Zi Bi D M zs as) (h : zs ≠ []) {N : Int} (e : zs.sum * (Z : Rat) = (N : Rat)) : Rep (D * N.natAbs) (2 * (zs.length * (B * M))) (cmn true zs as) := by
  have sp := sum_pos h s.pos
  have hZ : (0 : Rat) < (Z : Rat) := by exact_mod_cast s.z0
  obtain ⟨eN, _⟩ := natAbs_cast (N := N) (by rw [← e]; exact Rat.mul_pos sp hZ)
  obtain ⟨T, f, hT⟩ := dot_rep s.zs_ s.as_
  refine ⟨2 * T, ?_, ?_⟩
  · unfold cmn
    rw [if_neg h, if_pos rfl]
    push_cast at f ⊢
    rw [eN, ← e, ← f]
    have := Rat.ne_of_gt sp
    grind
  · rw [Int.natAbs_mul]
    exact Nat.mul_le_mul_left 2 hT
theorem stream_repN (s : SzJ Z B Zi Bi D M zs as) (h : zs ≠ []) {N : Int} (e : (zs.map fun z => 1 / z).sum * (Zi : Rat) = (N : Rat)) : ∀ z ∈ zs, Rep (D * N.natAbs) (2 * (zs.length * M) * Bi) (cmn false zs as / z) := by
  have sp : 0 < (zs.map fun z => 1 / z).sum := sum_pos (by simpa using h) fun x hx => by
    obtain ⟨z, hz, rfl⟩ := List.mem_map.mp hx
    exact one_div_pos (s.pos z hz)
  have hZ : (0 : Rat) < (Zi : Rat) := by exact_mod_cast s.i0
  obtain ⟨eN, _⟩ := natAbs_cast (N := N) (by rw [← e]; exact Rat.mul_pos sp hZ)
  obtain ⟨T, f, hT⟩ := Rep.sum s.as_
  rw [← s.len] at hT
  have sn := Rat.ne_of_gt sp
  intro z hz
  obtain ⟨w, g, hw⟩ := s.iz z hz
  have zn := Rat.ne_of_gt (s.pos z hz)
  refine ⟨2 * T * w, ?_, ?_⟩
  · unfold cmn
    rw [if_neg h, if_neg (by decide)]
    push_cast at f g ⊢
    rw [eN, ← e, ← f, ← g]
    grind
  · rw [Int.natAbs_mul, Int.natAbs_mul]
    exact Nat.mul_le_mul (Nat.mul_le_mul_left 2 hT) hw
end
namespace WebD
variable {w : WebD}
theorem lv_rep1u (ok : w.Ok) {Z B Zi Bi : Nat} (s : w.SzZ Z B Zi Bi) {b : Nat} (b0 : 0 < b) (b20 : 20 * B < 2 ^ b) (i20 : 20 * Bi < 2 ^ b) (j : Nat) :
    ∃ G : Nat, 0 < G ∧ G < 2 ^ b ∧ ∀ (D M : Nat) (x u : List Rat), 0 < D → D < 2 ^ 2600 → M < 2 ^ 2600 → (∀ y ∈ x, Rep D M y) → (∀ y ∈ u, Rep D M y) → ∀ a, w.IsArm a → w.armJ a = j → Rep (D * G) (M * 2 ^ (b + 2)) (w.lv x u a) := by
  by_cases h : w.zsAt j = []
  · refine ⟨1, by decide, Nat.one_lt_two_pow (by omega), fun D M x u _ _ _ _ _ a ha e => ?_⟩
    have hm := mem_armsAt ha
    rw [e] at hm
    unfold zsAt at h
    rw [List.map_eq_nil_iff] at h
    rw [h] at hm
    simp at hm
  · have sj0 := szj ok s (D := 1) (M := 1) (x := []) (u := []) (by decide) (by decide) (by decide) (by simp) (by simp) j
    have n20 : (w.zsAt j).length ≤ 20 := sj0.n
    have e4 : (2 : Nat) ^ (b + 2) = 2 ^ b * 4 := by rw [Nat.pow_add]
    cases k : w.kind j with
    | true =>
      obtain ⟨N, e, hN⟩ := Rep.sum sj0.zs_
      have hZ : (0 : Rat) < (Z : Rat) := by exact_mod_cast s.z0
      obtain ⟨_, g0⟩ := natAbs_cast (N := N) (by rw [← e]; exact Rat.mul_pos (sum_pos h sj0.pos) hZ)
      have nB : (w.zsAt j).length * B ≤ 20 * B := Nat.mul_le_mul_right _ n20
      refine ⟨N.natAbs, g0, by omega, fun D M x u d0 d1 m1 hx hu a ha ea => ?_⟩
      have r := level_repN (szj ok s d0 d1 m1 hx hu j) h e
      have ra := (rep_arr ok hx hu ha).scale (k := N.natAbs)
      unfold lv mid
      rw [ea, k, if_pos rfl]
      refine (r.subR ra).le ?_
      have e1 : 2 * ((w.zsAt j).length * (B * M)) + M * N.natAbs = M * (2 * ((w.zsAt j).length * B) + N.natAbs) := by
        rw [Nat.mul_add, Nat.mul_left_comm M 2, Nat.mul_comm M ((w.zsAt j).length * B), Nat.mul_assoc]
      rw [e1]
      refine Nat.mul_le_mul_left _ ?_
      omega
    | false =>
      obtain ⟨N, e, hN⟩ := Rep.sum sj0.inv
      rw [List.length_map] at hN
      have hZ : (0 : Rat) < (Zi : Rat) := by exact_mod_cast s.i0
      obtain ⟨_, g0⟩ := natAbs_cast (N := N) (by
        rw [← e]
        exact Rat.mul_pos (sum_pos (by simpa using h) fun x hx => by
          obtain ⟨z, hz, rfl⟩ := List.mem_map.mp hx
          exact one_div_pos (sj0.pos z hz)) hZ)
      have nB : (w.zsAt j).length * Bi ≤ 20 * Bi := Nat.mul_le_mul_right _ n20
      refine ⟨N.natAbs, g0, by omega, fun D M x u d0 d1 m1 hx hu a ha ea => ?_⟩
      have r := stream_repN (szj ok s d0 d1 m1 hx hu j) h e
      have ra := (rep_arr ok hx hu ha).scale (k := N.natAbs)
      have hz : w.armZ a ∈ w.zsAt j := List.mem_map.mpr ⟨a, by rw [← ea]; exact mem_armsAt ha, rfl⟩
      unfold lv mid
      rw [ea, k, if_neg (by decide)]
      refine (ra.subR (r _ hz)).le ?_
      have e1 : M * N.natAbs + 2 * ((w.zsAt j).length * M) * Bi = M * (N.natAbs + 2 * ((w.zsAt j).length * Bi)) := by
        rw [Nat.mul_add, Nat.mul_left_comm M 2, Nat.mul_comm (w.zsAt j).length M, Nat.mul_assoc, Nat.mul_assoc M]
      rw [e1]
      refine Nat.mul_le_mul_left _ ?_
      omega
theorem lv_rep2u (ok : w.Ok) {Z B Zi Bi : Nat} (s : w.SzZ Z B Zi Bi) {b : Nat} (b0 : 0 < b) (b20 : 20 * B < 2 ^ b) (i20 : 20 * Bi < 2 ^ b) :
    ∀ n : Nat, ∃ G : Nat, 0 < G ∧ G < 2 ^ (b * n + 1) ∧ ∀ (D M : Nat) (x u : List Rat), 0 < D → D < 2 ^ 2600 → M < 2 ^ 2600 → (∀ y ∈ x, Rep D M y) → (∀ y ∈ u, Rep D M y) → ∀ a, w.IsArm a → w.armJ a < n → Rep (D * G) (M * 2 ^ (b + 2) * G) (w.lv x u a)
  | 0 => ⟨1, by decide, by rw [Nat.mul_zero]; decide, fun _ _ _ _ _ _ _ _ _ a _ h => absurd h (by omega)⟩
  | n + 1 => by
    obtain ⟨G, g0, g1, r⟩ := lv_rep2u ok s b0 b20 i20 n
    obtain ⟨G', g0', g1', r'⟩ := lv_rep1u ok s b0 b20 i20 n
    refine ⟨G * G', Nat.mul_pos g0 g0', ?_, fun D M x u d0 d1 m1 hx hu a ha hj => ?_⟩
    · have := mul_pow g1 g1'
      rw [show b * (n + 1) + 1 = b * n + 1 + b by rw [Nat.mul_succ]; omega]
      exact this
    · by_cases e : w.armJ a = n
      · have := (r' D M x u d0 d1 m1 hx hu a ha e).scale (k := G)
        rw [show D * G' * G = D * (G * G') by rw [Nat.mul_assoc, Nat.mul_comm G' G]] at this
        refine this.le ?_
        rw [← Nat.mul_assoc (M * 2 ^ (b + 2)) G G']
        exact Nat.le_mul_of_pos_right _ g0'
      · have := (r D M x u d0 d1 m1 hx hu a ha (by omega)).scale (k := G')
        rw [Nat.mul_assoc, Nat.mul_assoc] at this
        exact this
/-- what one tick does to sizes: one factor of the web's own -/
def TickF (w : WebD) (b G : Nat) : Prop := ∀ (D M : Nat) (x u : List Rat), 0 < D → D < 2 ^ 2600 → M < 2 ^ 2600 → (∀ y ∈ x, Rep D M y) → (∀ y ∈ u, Rep D M y) → (∀ y ∈ w.new x u, Rep (D * G) (M * 2 ^ (b + 2) * G) y) ∧ ∀ y ∈ w.out x u, Rep (D * G) (M * 2 ^ (b + 2) * G) y
theorem tick_repu (ok : w.Ok) {Z B Zi Bi : Nat} (s : w.SzZ Z B Zi Bi) {b : Nat} (b0 : 0 < b) (b20 : 20 * B < 2 ^ b) (i20 : 20 * Bi < 2 ^ b) :
    ∃ G : Nat, 0 < G ∧ G < 2 ^ (b * w.kinds.length + 1) ∧ w.TickF b G := by
  obtain ⟨G, g0, g1, q⟩ := lv_rep2u ok s b0 b20 i20 w.kinds.length
  refine ⟨G, g0, g1, fun D M x u d0 d1 m1 hx hu => ?_⟩
  have q' : ∀ c, w.IsArm c → Rep (D * G) (M * 2 ^ (b + 2) * G) (w.lv x u c) := fun c hc => q D M x u d0 d1 m1 hx hu c hc (armJ_lt ok hc)
  have keep : ∀ y ∈ x, Rep (D * G) (M * 2 ^ (b + 2) * G) y := fun y hy => ((hx y hy).scale (k := G)).le (Nat.mul_le_mul_right _ (Nat.le_mul_of_pos_right _ (Nat.two_pow_pos _)))
  refine ⟨fun y hy => ?_, fun y hy => ?_⟩
  · unfold new newTo at hy
    obtain ⟨i, hi, hy⟩ := List.mem_flatMap.mp hy
    have hi := List.mem_range.mp hi
    unfold piece at hy
    rcases List.mem_append.mp hy with hy | hy
    · rcases List.mem_cons.mp hy with rfl | hy
      · exact q' _ hi
      · exact keep _ (List.mem_of_mem_drop (List.mem_of_mem_take hy))
    · rcases List.mem_cons.mp hy with rfl | hy
      · exact q' _ hi
      · exact keep _ (List.mem_of_mem_drop (List.mem_of_mem_take hy))
  · unfold out at hy
    obtain ⟨i, hi, rfl⟩ := List.mem_map.mp hy
    exact q' _ (show i < _ from List.mem_range.mp hi)
end WebD
end KM

set_option linter.all false
set_option exponentiation.threshold 20000
set_option maxRecDepth 100000
/-! Products of states; a tick and the tick that takes it back. -/
namespace KM
open FM
/-- a number of a list, 0 behind its end -/
def gt (x : List Rat) (n : Nat) : Rat := x[n]?.getD 0
def sumN (n : Nat) (f : Nat → Rat) : Rat := ((List.range n).map f).sum
theorem sumN_zero {f : Nat → Rat} : sumN 0 f = 0 := rfl
theorem sumN_succ {n : Nat} {f : Nat → Rat} : sumN (n + 1) f = sumN n f + f n := by
  unfold sumN
  rw [List.range_succ, List.map_append, List.sum_append]
  simp
  try grind
theorem sumN_congr {n : Nat} {f g : Nat → Rat} (h : ∀ i, i < n → f i = g i) : sumN n f = sumN n g := by
  unfold sumN
  exact sum_map_congr fun a ha => h a (List.mem_range.mp ha)
theorem sumN_plus {n : Nat} {f g : Nat → Rat} : sumN n (fun i => f i + g i) = sumN n f + sumN n g := sum_map_add _
theorem sumN_null {n : Nat} : sumN n (fun _ => 0) = 0 := sum_map_zero _
theorem sumN_mul {n : Nat} {c : Rat} {f : Nat → Rat} : sumN n (fun i => c * f i) = c * sumN n f := by
  induction n with
  | zero => rw [sumN_zero, sumN_zero]; grind
  | succ n ih => rw [sumN_succ, sumN_succ, ih]; grind
theorem sumN_add {a : Nat} {f : Nat → Rat} : ∀ b : Nat, sumN (a + b) f = sumN a f + sumN b (fun m => f (a + m))
  | 0 => by rw [sumN_zero, Nat.add_zero]; grind
  | b + 1 => by rw [show a + (b + 1) = a + b + 1 by omega, sumN_succ, sumN_add b, sumN_succ]; grind
theorem sumN_head {n : Nat} {f : Nat → Rat} : sumN (n + 1) f = f 0 + sumN n (fun m => f (m + 1)) := by
  rw [show n + 1 = 1 + n by omega, sumN_add, sumN_succ, sumN_zero]
  rw [sumN_congr (f := fun m => f (1 + m)) (g := fun m => f (m + 1)) fun i _ => by rw [Nat.add_comm]]
  grind
theorem sumN_one {n k : Nat} {c : Rat} {f : Nat → Rat} (hk : k < n) (h : ∀ i, i < n → i ≠ k → f i = 0) (e : f k = c) : sumN n f = c := by
  have : sumN n f = ((List.range n).map fun j => if k = j then c else 0).sum := by
    unfold sumN
    refine sum_map_congr fun a ha => ?_
    by_cases z : k = a
    · subst z; rw [if_pos rfl, e]
    · rw [if_neg z, h a (List.mem_range.mp ha) (fun y => z y.symm)]
  rw [this, sum_ite hk]
theorem sumN_swap {n m : Nat} {f : Nat → Nat → Rat} : sumN n (fun i => sumN m (f i)) = sumN m (fun j => sumN n (fun i => f i j)) := by
  unfold sumN
  exact sum_swap _ _
/-- two rows of cells: its first cells, and the rest one place further -/
theorem sumN_fst {l : Nat} (hl : 1 ≤ l) (f : Nat → Rat) : sumN (2 * l) f = f 0 + sumN (l - 1) (fun m => f (m + 1)) + (f l + sumN (l - 1) (fun m => f (l + m + 1))) := by
  obtain ⟨k, rfl⟩ : ∃ k, l = k + 1 := ⟨l - 1, by omega⟩
  rw [show 2 * (k + 1) = (k + 1) + (k + 1) by omega, sumN_add, sumN_head, sumN_head]
  rfl
/-- two rows of cells: the last cells behind the rest -/
theorem sumN_lst {l : Nat} (hl : 1 ≤ l) (f : Nat → Rat) : sumN (2 * l) f = sumN (l - 1) f + f (l - 1) + (sumN (l - 1) (fun m => f (l + m)) + f (2 * l - 1)) := by
  obtain ⟨k, rfl⟩ : ∃ k, l = k + 1 := ⟨l - 1, by omega⟩
  rw [show 2 * (k + 1) = (k + 1) + (k + 1) by omega, sumN_add, sumN_succ, sumN_succ]
  rw [show k + 1 - 1 = k by omega, show k + 1 + (k + 1) - 1 = k + 1 + k by omega]
/-! ### joints -/
section
variable {α : Type}
/-- what leaves a joint with these arms -/
def lvS (b : Bool) (L : List α) (z g : α → Rat) (a : α) : Rat :=
  if b = true then cmn b (L.map z) (L.map g) - g a else g a - cmn b (L.map z) (L.map g) / z a
theorem sum_lin {L : List α} {f g : α → Rat} {c d : Rat} : (L.map fun a => c * f a + d * g a).sum = c * (L.map f).sum + d * (L.map g).sum := by
  induction L with
  | nil => simp; grind
  | cons x L ih => rw [List.map_cons, List.sum_cons, ih, List.map_cons, List.sum_cons, List.map_cons, List.sum_cons]; grind
theorem map_inv {L : List α} {z : α → Rat} : (L.map z).map (fun z => 1 / z) = L.map fun a => 1 / z a := by rw [List.map_map]; rfl
theorem joint_sym {b : Bool} {L : List α} {z g h : α → Rat} (hz : ∀ a ∈ L, 0 < z a) : (L.map fun a => z a * (h a * lvS b L z g a)).sum = (L.map fun a => z a * (lvS b L z h a * g a)).sum := by
  by_cases e : L = []
  · subst e; rfl
  have hne : ¬ L.map z = [] := by simpa using e
  cases b with
  | true =>
    have sp := sum_pos (zs := L.map z) hne fun x hx => by
      obtain ⟨a, ha, rfl⟩ := List.mem_map.mp hx
      exact hz a ha
    have sn := Rat.ne_of_gt sp
    have e1 : (L.map fun a => z a * (h a * lvS true L z g a)).sum = (2 * (L.map fun a => z a * g a).sum / (L.map z).sum) * (L.map fun a => z a * h a).sum + (-1) * (L.map fun a => z a * (h a * g a)).sum := by
      rw [← sum_lin]
      refine sum_map_congr fun a _ => ?_
      unfold lvS cmn
      rw [if_pos rfl, if_neg hne, if_pos rfl, dotR_map]
      grind
    have e2 : (L.map fun a => z a * (lvS true L z h a * g a)).sum = (2 * (L.map fun a => z a * h a).sum / (L.map z).sum) * (L.map fun a => z a * g a).sum + (-1) * (L.map fun a => z a * (h a * g a)).sum := by
      rw [← sum_lin]
      refine sum_map_congr fun a _ => ?_
      unfold lvS cmn
      rw [if_pos rfl, if_neg hne, if_pos rfl, dotR_map]
      grind
    rw [e1, e2]
    grind
  | false =>
    have e1 : (L.map fun a => z a * (h a * lvS false L z g a)).sum = 1 * (L.map fun a => z a * (h a * g a)).sum + (-(2 * (L.map g).sum / (L.map fun a => 1 / z a).sum)) * (L.map h).sum := by
      rw [← sum_lin]
      refine sum_map_congr fun a ha => ?_
      have := Rat.ne_of_gt (hz a ha)
      unfold lvS cmn
      rw [if_neg (by decide), if_neg hne, if_neg (by decide), map_inv]
      grind
    have e2 : (L.map fun a => z a * (lvS false L z h a * g a)).sum = 1 * (L.map fun a => z a * (h a * g a)).sum + (-(2 * (L.map h).sum / (L.map fun a => 1 / z a).sum)) * (L.map g).sum := by
      rw [← sum_lin]
      refine sum_map_congr fun a ha => ?_
      have := Rat.ne_of_gt (hz a ha)
      unfold lvS cmn
      rw [if_neg (by decide), if_neg hne, if_neg (by decide), map_inv]
      grind
    rw [e1, e2]
    grind
theorem joint_inv {b : Bool} {L : List α} {z g : α → Rat} (hz : ∀ a ∈ L, 0 < z a) {a : α} (ha : a ∈ L) : lvS b L z (lvS b L z g) a = g a := by
  have e : L ≠ [] := fun h => by rw [h] at ha; simp at ha
  have hne : ¬ L.map z = [] := by simpa using e
  have za := Rat.ne_of_gt (hz a ha)
  cases b with
  | true =>
    have sp := sum_pos (zs := L.map z) hne fun x hx => by
      obtain ⟨a, ha, rfl⟩ := List.mem_map.mp hx
      exact hz a ha
    have sn := Rat.ne_of_gt sp
    have k : cmn true (L.map z) (L.map (lvS true L z g)) = cmn true (L.map z) (L.map g) := by
      have e1 : (L.map fun a => z a * lvS true L z g a).sum = (2 * (L.map fun a => z a * g a).sum / (L.map z).sum) * (L.map z).sum + (-1) * (L.map fun a => z a * g a).sum := by
        rw [← sum_lin]
        refine sum_map_congr fun a _ => ?_
        unfold lvS cmn
        rw [if_pos rfl, if_neg hne, if_pos rfl, dotR_map]
        grind
      unfold cmn
      rw [if_neg hne, if_pos rfl, if_neg hne, if_pos rfl, dotR_map, dotR_map, e1]
      grind
    have e2 : lvS true L z (lvS true L z g) a = cmn true (L.map z) (L.map (lvS true L z g)) - lvS true L z g a := by
      rw [lvS, if_pos rfl]
    rw [e2, k]
    unfold lvS
    rw [if_pos rfl]
    grind
  | false =>
    have yp := sum_pos (zs := L.map fun a => 1 / z a) (by simpa using e) fun x hx => by
      obtain ⟨a, ha, rfl⟩ := List.mem_map.mp hx
      exact one_div_pos (hz a ha)
    have yn := Rat.ne_of_gt yp
    have k : cmn false (L.map z) (L.map (lvS false L z g)) = - cmn false (L.map z) (L.map g) := by
      have e1 : (L.map (lvS false L z g)).sum = 1 * (L.map g).sum + (-(2 * (L.map g).sum / (L.map fun a => 1 / z a).sum)) * (L.map fun a => 1 / z a).sum := by
        rw [← sum_lin]
        refine sum_map_congr fun a ha => ?_
        have := Rat.ne_of_gt (hz a ha)
        unfold lvS cmn
        rw [if_neg (by decide), if_neg hne, if_neg (by decide), map_inv]
        grind
      unfold cmn
      rw [if_neg hne, if_neg (by decide), if_neg hne, if_neg (by decide), map_inv, e1]
      grind
    have e2 : lvS false L z (lvS false L z g) a = lvS false L z g a - cmn false (L.map z) (L.map (lvS false L z g)) / z a := by
      rw [lvS, if_neg (by decide)]
    rw [e2, k]
    unfold lvS
    rw [if_neg (by decide)]
    grind
theorem cmn_congr {L : List α} {b : Bool} {z g g' : α → Rat} (h : ∀ a ∈ L, g a = g' a) : cmn b (L.map z) (L.map g) = cmn b (L.map z) (L.map g') := by
  rw [List.map_congr_left h]
theorem lvS_congr {L : List α} {b : Bool} {z g g' : α → Rat} (h : ∀ a ∈ L, g a = g' a) {a : α} (ha : a ∈ L) : lvS b L z g a = lvS b L z g' a := by
  unfold lvS
  rw [cmn_congr h, h a ha]
end
namespace WebD
variable {w : WebD}
/-- what leaves at the arms if f arrives -/
def lvG (w : WebD) (f : Arm → Rat) (a : Arm) : Rat := lvS (w.kind (w.armJ a)) (w.armsAt (w.armJ a)) w.armZ f a
theorem lv_lvG {x u : List Rat} {a : Arm} : w.lv x u a = w.lvG (w.arr x u) a := by
  unfold lv lvG lvS mid zsAt
  split <;> rfl
/-- over all arms -/
def sumA (w : WebD) (f : Arm → Rat) : Rat := sumN w.rods.length (fun i => (w.rod i).z * f (.st, i) + (w.rod i).z * f (.en, i)) + sumN w.ears.length fun i => (w.ear i).z * f (.ea, i)
theorem sumA_joints (ok : w.Ok) (f : Arm → Rat) : w.sumA f = ((List.range w.kinds.length).map fun j => ((w.armsAt j).map fun a => w.armZ a * f a).sum).sum := by
  rw [sum_arms ok fun a => w.armZ a * f a]
  rfl
theorem lvG_sym (ok : w.Ok) (g h : Arm → Rat) : w.sumA (fun a => h a * w.lvG g a) = w.sumA (fun a => w.lvG h a * g a) := by
  rw [sumA_joints ok, sumA_joints ok]
  refine sum_map_congr fun j _ => ?_
  have := joint_sym (b := w.kind j) (L := w.armsAt j) (z := w.armZ) (g := g) (h := h) fun a ha => armZ_pos ok (armsAt_mem ha).1
  refine Eq.trans (sum_map_congr fun a ha => ?_) (this.trans (sum_map_congr fun a ha => ?_))
  · unfold lvG; rw [(armsAt_mem ha).2]
  · unfold lvG; rw [(armsAt_mem ha).2]
theorem lvG_inv (ok : w.Ok) (g : Arm → Rat) {a : Arm} (ha : w.IsArm a) : w.lvG (w.lvG g) a = g a := by
  have hm := mem_armsAt ha
  have e : w.lvG (w.lvG g) a = lvS (w.kind (w.armJ a)) (w.armsAt (w.armJ a)) w.armZ (lvS (w.kind (w.armJ a)) (w.armsAt (w.armJ a)) w.armZ g) a := by
    unfold lvG
    exact lvS_congr (fun b hb => by rw [(armsAt_mem hb).2]) hm
  rw [e]
  exact joint_inv (fun b hb => armZ_pos ok (armsAt_mem hb).1) hm
theorem lvG_congr (g g' : Arm → Rat) (h : ∀ a, w.IsArm a → g a = g' a) {a : Arm} (ha : w.IsArm a) : w.lvG g a = w.lvG g' a := lvS_congr (fun b hb => h b (armsAt_mem hb).1) (mem_armsAt ha)
theorem sumA_congr {f g : Arm → Rat} (h : ∀ a, w.IsArm a → f a = g a) : w.sumA f = w.sumA g := by
  unfold sumA
  rw [sumN_congr fun i hi => by rw [h (.st, i) hi, h (.en, i) hi], sumN_congr (n := w.ears.length) fun i hi => by rw [h (.ea, i) hi]]
/-- energies of what arrives and of what leaves -/
theorem lvG_iso (ok : w.Ok) (g : Arm → Rat) : w.sumA (fun a => w.lvG g a * w.lvG g a) = w.sumA (fun a => g a * g a) := by
  rw [lvG_sym ok g (w.lvG g)]
  exact sumA_congr fun a ha => by rw [lvG_inv ok g ha]
/-! ### cells -/
/-- over all cells, strengths counted -/
def ipc (w : WebD) (f : Nat → Rat) : Rat := sumN w.rods.length fun i => (w.rod i).z * sumN (2 * (w.rod i).len) fun m => f (w.cellsTo i + m)
def ipe (w : WebD) (f : Nat → Rat) : Rat := sumN w.ears.length fun i => (w.ear i).z * f i
theorem cell_lt {i m : Nat} (hi : i < w.rods.length) (hm : m < 2 * (w.rod i).len) : w.cellsTo i + m < w.cells := by
  have := cellsTo_mono hi
  omega
theorem ipc_congr {f g : Nat → Rat} (h : ∀ n, n < w.cells → f n = g n) : w.ipc f = w.ipc g := by
  unfold ipc
  exact sumN_congr fun i hi => by rw [sumN_congr fun m hm => h _ (cell_lt hi hm)]
theorem ipe_congr {f g : Nat → Rat} (h : ∀ n, n < w.ears.length → f n = g n) : w.ipe f = w.ipe g := by
  unfold ipe
  exact sumN_congr fun i hi => by rw [h i hi]
theorem flat_len {p : Nat → List Rat} : ∀ {k : Nat}, (∀ i, i < k → (p i).length = 2 * (w.rod i).len) → k ≤ w.rods.length → ((List.range k).flatMap p).length = w.cellsTo k
  | 0, _, _ => by rw [cellsTo_zero]; rfl
  | k + 1, h, hk => by
    rw [List.range_succ, List.flatMap_append, List.length_append, flat_len (fun i hi => h i (by omega)) (by omega), cellsTo_succ (by omega)]
    simp [h k (by omega)]
theorem flat_at {p : Nat → List Rat} : ∀ {k i m : Nat}, (∀ i, i < k → (p i).length = 2 * (w.rod i).len) → k ≤ w.rods.length → i < k → m < 2 * (w.rod i).len → ((List.range k).flatMap p)[w.cellsTo i + m]? = (p i)[m]?
  | 0, i, m, _, _, hi, _ => absurd hi (by omega)
  | k + 1, i, m, h, hk, hi, hm => by
    have hl := flat_len (fun i hi => h i (by omega)) (show k ≤ w.rods.length by omega)
    rw [List.range_succ, List.flatMap_append]
    by_cases e : i = k
    · subst e
      rw [List.getElem?_append_right (by omega), hl]
      simp
    · have h1 := cellsTo_mono (w := w) (i := i) (by omega)
      have h2 : w.cellsTo i + 2 * (w.rod i).len ≤ w.cellsTo k := by
        have key : ∀ d, i + 1 + d ≤ k → w.cellsTo (i + 1) ≤ w.cellsTo (i + 1 + d) := by
          intro d
          induction d with
          | zero => intro _; exact Nat.le_refl _
          | succ d ih => intro hd; have e := cellsTo_succ (w := w) (i := i + 1 + d) (by omega); have := ih (by omega); rw [show i + 1 + (d + 1) = i + 1 + d + 1 by omega]; omega
        have := key (k - (i + 1)) (by omega)
        rw [show i + 1 + (k - (i + 1)) = k by omega, cellsTo_succ (by omega)] at this
        exact this
      rw [List.getElem?_append_left (by omega)]
      exact flat_at (fun i hi => h i (by omega)) (by omega) (by omega) hm
theorem pieces_len (ok : w.Ok) {x u : List Rat} (hx : x.length = w.cells) : ∀ i, i < w.rods.length → (w.piece x u i).length = 2 * (w.rod i).len := fun i hi => by
  have := cellsTo_mono (w := w) hi
  exact piece_len (ok.len _ (rod_mem hi)) (by omega)
theorem new_at (ok : w.Ok) {x u : List Rat} (hx : x.length = w.cells) {i m : Nat} (hi : i < w.rods.length) (hm : m < 2 * (w.rod i).len) : gt (w.new x u) (w.cellsTo i + m) = gt (w.piece x u i) m := by
  unfold gt new newTo
  rw [flat_at (pieces_len ok hx) (Nat.le_refl _) hi hm]
theorem piece_0 {x u : List Rat} {i : Nat} : gt (w.piece x u i) 0 = w.lv x u (.st, i) := by
  unfold gt piece
  simp
theorem gt_dt {x : List Rat} {a n m : Nat} (h : m < n) : ((x.drop a).take n)[m]? = x[a + m]? := by
  rw [List.getElem?_take_of_lt h, List.getElem?_drop]
theorem piece_s {x u : List Rat} {i m : Nat} (hl : m < (w.rod i).len - 1) (h : w.cellsTo i + 2 * (w.rod i).len ≤ x.length) : gt (w.piece x u i) (m + 1) = gt x (w.cellsTo i + m) := by
  unfold gt piece
  rw [List.getElem?_append_left (by simp; omega), List.getElem?_cons_succ, gt_dt hl]
theorem piece_len1 {x u : List Rat} {i : Nat} (hl : 1 ≤ (w.rod i).len) (h : w.cellsTo i + 2 * (w.rod i).len ≤ x.length) : (w.lv x u (.st, i) :: (x.drop (w.cellsTo i)).take ((w.rod i).len - 1)).length = (w.rod i).len := by
  simp
  omega
theorem piece_l {x u : List Rat} {i : Nat} (hl : 1 ≤ (w.rod i).len) (h : w.cellsTo i + 2 * (w.rod i).len ≤ x.length) : gt (w.piece x u i) (w.rod i).len = w.lv x u (.en, i) := by
  unfold gt piece
  rw [List.getElem?_append_right (by rw [piece_len1 hl h]; exact Nat.le_refl _), piece_len1 hl h, Nat.sub_self]
  rfl
theorem piece_ls {x u : List Rat} {i m : Nat} (hl : 1 ≤ (w.rod i).len) (h : w.cellsTo i + 2 * (w.rod i).len ≤ x.length) (hm : m < (w.rod i).len - 1) : gt (w.piece x u i) ((w.rod i).len + m + 1) = gt x (w.cellsTo i + (w.rod i).len + m) := by
  unfold gt piece
  rw [List.getElem?_append_right (by rw [piece_len1 hl h]; omega), piece_len1 hl h, show (w.rod i).len + m + 1 - (w.rod i).len = m + 1 by omega, List.getElem?_cons_succ, gt_dt hm]
end WebD
end KM

set_option linter.all false
set_option exponentiation.threshold 20000
set_option maxRecDepth 100000
/-! The tick that takes a tick back; energies; flips. -/
namespace KM
open FM
namespace WebD
variable {w : WebD}
def brr (w : WebD) (y v : List Rat) : Arm → Rat
  | (.st, i) => gt y (w.cellsTo i)
  | (.en, i) => gt y (w.cellsTo i + (w.rod i).len)
  | (.ea, i) => gt v i
def bpiece (w : WebD) (y v : List Rat) (i : Nat) : List Rat :=
  ((y.drop (w.cellsTo i + 1)).take ((w.rod i).len - 1) ++ [((w.rod i).tw : Rat) * w.lvG (w.brr y v) (.en, i)]) ++ ((y.drop (w.cellsTo i + (w.rod i).len + 1)).take ((w.rod i).len - 1) ++ [((w.rod i).tw : Rat) * w.lvG (w.brr y v) (.st, i)])
def bnew (w : WebD) (y v : List Rat) : List Rat := (List.range w.rods.length).flatMap (w.bpiece y v)
def bout (w : WebD) (y v : List Rat) : List Rat := (List.range w.ears.length).map fun i => w.lvG (w.brr y v) (.ea, i)
section
variable {y v : List Rat} {i m : Nat}
theorem bp1 (hl : 1 ≤ (w.rod i).len) (h : w.cellsTo i + 2 * (w.rod i).len ≤ y.length) : ((y.drop (w.cellsTo i + 1)).take ((w.rod i).len - 1)).length = (w.rod i).len - 1 := by
  simp
  omega
theorem bp2 (hl : 1 ≤ (w.rod i).len) (h : w.cellsTo i + 2 * (w.rod i).len ≤ y.length) : ((y.drop (w.cellsTo i + (w.rod i).len + 1)).take ((w.rod i).len - 1)).length = (w.rod i).len - 1 := by
  simp
  omega
theorem bp3 (hl : 1 ≤ (w.rod i).len) (h : w.cellsTo i + 2 * (w.rod i).len ≤ y.length) : ((y.drop (w.cellsTo i + 1)).take ((w.rod i).len - 1) ++ [((w.rod i).tw : Rat) * w.lvG (w.brr y v) (.en, i)]).length = (w.rod i).len := by
  rw [List.length_append, bp1 hl h]
  simp
  omega
theorem bpiece_len (hl : 1 ≤ (w.rod i).len) (h : w.cellsTo i + 2 * (w.rod i).len ≤ y.length) : (w.bpiece y v i).length = 2 * (w.rod i).len := by
  unfold bpiece
  rw [List.length_append, bp3 hl h, List.length_append, bp2 hl h]
  simp
  omega
theorem bpieces_len (ok : w.Ok) (hy : y.length = w.cells) : ∀ i, i < w.rods.length → (w.bpiece y v i).length = 2 * (w.rod i).len := fun i hi => by
  have := cellsTo_mono (w := w) hi
  exact bpiece_len (ok.len _ (rod_mem hi)) (by omega)
theorem bnew_len (ok : w.Ok) (hy : y.length = w.cells) : (w.bnew y v).length = w.cells := flat_len (bpieces_len ok hy) (Nat.le_refl _)
theorem bout_len : (w.bout y v).length = w.ears.length := by unfold bout; simp
theorem bnew_at (ok : w.Ok) (hy : y.length = w.cells) (hi : i < w.rods.length) (hm : m < 2 * (w.rod i).len) : gt (w.bnew y v) (w.cellsTo i + m) = gt (w.bpiece y v i) m := by
  unfold gt bnew
  rw [flat_at (bpieces_len ok hy) (Nat.le_refl _) hi hm]
theorem bpiece_s (hl : m < (w.rod i).len - 1) (h : w.cellsTo i + 2 * (w.rod i).len ≤ y.length) : gt (w.bpiece y v i) m = gt y (w.cellsTo i + m + 1) := by
  unfold gt bpiece
  rw [List.getElem?_append_left (by rw [bp3 (by omega) h]; omega), List.getElem?_append_left (by rw [bp1 (by omega) h]; omega), gt_dt hl, show w.cellsTo i + 1 + m = w.cellsTo i + m + 1 by omega]
theorem bpiece_l (hl : 1 ≤ (w.rod i).len) (h : w.cellsTo i + 2 * (w.rod i).len ≤ y.length) : gt (w.bpiece y v i) ((w.rod i).len - 1) = ((w.rod i).tw : Rat) * w.lvG (w.brr y v) (.en, i) := by
  unfold gt bpiece
  rw [List.getElem?_append_left (by rw [bp3 hl h]; omega), List.getElem?_append_right (by rw [bp1 hl h]; exact Nat.le_refl _), bp1 hl h, Nat.sub_self]
  rfl
theorem bpiece_ls (hl : m < (w.rod i).len - 1) (h : w.cellsTo i + 2 * (w.rod i).len ≤ y.length) : gt (w.bpiece y v i) ((w.rod i).len + m) = gt y (w.cellsTo i + (w.rod i).len + m + 1) := by
  unfold gt bpiece
  rw [List.getElem?_append_right (by rw [bp3 (by omega) h]; omega), bp3 (by omega) h, List.getElem?_append_left (by rw [bp2 (by omega) h]; omega), show (w.rod i).len + m - (w.rod i).len = m by omega, gt_dt hl, show w.cellsTo i + (w.rod i).len + 1 + m = w.cellsTo i + (w.rod i).len + m + 1 by omega]
theorem bpiece_ll (hl : 1 ≤ (w.rod i).len) (h : w.cellsTo i + 2 * (w.rod i).len ≤ y.length) : gt (w.bpiece y v i) (2 * (w.rod i).len - 1) = ((w.rod i).tw : Rat) * w.lvG (w.brr y v) (.st, i) := by
  unfold gt bpiece
  rw [List.getElem?_append_right (by rw [bp3 hl h]; omega), bp3 hl h, List.getElem?_append_right (by rw [bp2 hl h]; omega), bp2 hl h, show 2 * (w.rod i).len - 1 - (w.rod i).len - ((w.rod i).len - 1) = 0 by omega]
  rfl
end
theorem gt_out {x u : List Rat} {i : Nat} (h : i < w.ears.length) : gt (w.out x u) i = w.lv x u (.ea, i) := by
  unfold gt out
  rw [List.getElem?_map, List.getElem?_range h]
  rfl
theorem gt_bout {y v : List Rat} {i : Nat} (h : i < w.ears.length) : gt (w.bout y v) i = w.lvG (w.brr y v) (.ea, i) := by
  unfold gt bout
  rw [List.getElem?_map, List.getElem?_range h]
  rfl
/-- what stays in the rods -/
def stay (w : WebD) (f : Nat → Nat → Rat) : Rat := sumN w.rods.length fun i => (w.rod i).z * (sumN ((w.rod i).len - 1) (fun m => f (w.cellsTo i + m + 1) (w.cellsTo i + m)) + sumN ((w.rod i).len - 1) fun m => f (w.cellsTo i + (w.rod i).len + m + 1) (w.cellsTo i + (w.rod i).len + m))
theorem sumN3 {n : Nat} {a b c : Nat → Rat} : sumN n (fun i => a i + b i + c i) = sumN n (fun i => a i + b i) + sumN n c := sumN_plus
/-- products with a new state -/
theorem ipc_fst (ok : w.Ok) {x u : List Rat} (hx : x.length = w.cells) (F : Nat → Rat → Rat) :
    w.ipc (fun n => F n (gt (w.new x u) n)) + sumN w.ears.length (fun i => (w.ear i).z * F (w.cells + i) (gt (w.out x u) i)) =
    (sumN w.rods.length (fun i => (w.rod i).z * F (w.cellsTo i) (w.lv x u (.st, i)) + (w.rod i).z * F (w.cellsTo i + (w.rod i).len) (w.lv x u (.en, i))) + sumN w.ears.length (fun i => (w.ear i).z * F (w.cells + i) (w.lv x u (.ea, i)))) + w.stay (fun a b => F a (gt x b)) := by
  have e : w.ipc (fun n => F n (gt (w.new x u) n)) = sumN w.rods.length (fun i => (w.rod i).z * F (w.cellsTo i) (w.lv x u (.st, i)) + (w.rod i).z * F (w.cellsTo i + (w.rod i).len) (w.lv x u (.en, i))) + w.stay (fun a b => F a (gt x b)) := by
    unfold ipc stay
    rw [← sumN_plus]
    refine sumN_congr fun i hi => ?_
    have hl := ok.len _ (rod_mem hi)
    have hc : w.cellsTo i + 2 * (w.rod i).len ≤ x.length := by rw [hx]; exact cellsTo_mono hi
    rw [sumN_fst hl]
    dsimp only
    rw [new_at (m := 0) ok hx hi (by omega), new_at (m := (w.rod i).len) ok hx hi (by omega), piece_0, piece_l hl hc, Nat.add_zero]
    rw [sumN_congr (n := (w.rod i).len - 1) (g := fun m => F (w.cellsTo i + m + 1) (gt x (w.cellsTo i + m))) fun m hm => by rw [new_at ok hx hi (by omega), piece_s hm hc]; rfl]
    rw [sumN_congr (n := (w.rod i).len - 1) (f := fun m => F (w.cellsTo i + ((w.rod i).len + m + 1)) (gt (w.new x u) (w.cellsTo i + ((w.rod i).len + m + 1)))) (g := fun m => F (w.cellsTo i + (w.rod i).len + m + 1) (gt x (w.cellsTo i + (w.rod i).len + m))) fun m hm => by
      rw [new_at ok hx hi (by omega), piece_ls hl hc hm, show w.cellsTo i + ((w.rod i).len + m + 1) = w.cellsTo i + (w.rod i).len + m + 1 by omega]]
    grind
  rw [e, sumN_congr (n := w.ears.length) (f := fun i => (w.ear i).z * F (w.cells + i) (gt (w.out x u) i)) (g := fun i => (w.ear i).z * F (w.cells + i) (w.lv x u (.ea, i))) fun i hi => by rw [gt_out hi]]
  grind
/-- a state by its first and by its last cells -/
theorem ipc_heads (ok : w.Ok) (f : Nat → Rat) : w.ipc f = sumN w.rods.length (fun i => (w.rod i).z * f (w.cellsTo i) + (w.rod i).z * f (w.cellsTo i + (w.rod i).len)) + w.stay (fun a _ => f a) := by
  unfold ipc stay
  rw [← sumN_plus]
  refine sumN_congr fun i hi => ?_
  rw [sumN_fst (ok.len _ (rod_mem hi))]
  rw [sumN_congr (n := (w.rod i).len - 1) (f := fun m => f (w.cellsTo i + ((w.rod i).len + m + 1))) (g := fun m => f (w.cellsTo i + (w.rod i).len + m + 1)) fun m _ => by rw [show w.cellsTo i + ((w.rod i).len + m + 1) = w.cellsTo i + (w.rod i).len + m + 1 by omega]]
  rw [sumN_congr (n := (w.rod i).len - 1) (f := fun m => f (w.cellsTo i + (m + 1))) (g := fun m => f (w.cellsTo i + m + 1)) fun m _ => rfl]
  rw [Nat.add_zero]
  grind
theorem ipc_lasts (ok : w.Ok) (f : Nat → Rat) : w.ipc f = sumN w.rods.length (fun i => (w.rod i).z * f (w.cellsTo i + 2 * (w.rod i).len - 1) + (w.rod i).z * f (w.cellsTo i + (w.rod i).len - 1)) + w.stay (fun _ b => f b) := by
  unfold ipc stay
  rw [← sumN_plus]
  refine sumN_congr fun i hi => ?_
  have hl := ok.len _ (rod_mem hi)
  rw [sumN_lst hl]
  rw [sumN_congr (n := (w.rod i).len - 1) (f := fun m => f (w.cellsTo i + ((w.rod i).len + m))) (g := fun m => f (w.cellsTo i + (w.rod i).len + m)) fun m _ => by rw [show w.cellsTo i + ((w.rod i).len + m) = w.cellsTo i + (w.rod i).len + m by omega]]
  rw [show w.cellsTo i + ((w.rod i).len - 1) = w.cellsTo i + (w.rod i).len - 1 by omega, show w.cellsTo i + (2 * (w.rod i).len - 1) = w.cellsTo i + 2 * (w.rod i).len - 1 by omega]
  grind
theorem tw2 (ok : w.Ok) {i : Nat} (h : i < w.rods.length) : ((w.rod i).tw : Rat) * ((w.rod i).tw : Rat) = 1 := by
  rcases ok.tw _ (rod_mem h) with e | e <;> rw [e]
  · rw [show ((1 : Int) : Rat) = 1 from rfl]; grind
  · rw [show ((-1 : Int) : Rat) = -1 from rfl]; grind
theorem arr_en {x u : List Rat} {i : Nat} : w.arr x u (.en, i) = ((w.rod i).tw : Rat) * gt x (w.cellsTo i + (w.rod i).len - 1) := rfl
theorem arr_st {x u : List Rat} {i : Nat} : w.arr x u (.st, i) = ((w.rod i).tw : Rat) * gt x (w.cellsTo i + 2 * (w.rod i).len - 1) := rfl
/-- energy stays: what goes in, what goes out -/
theorem energy (ok : w.Ok) {x u : List Rat} (hx : x.length = w.cells) :
    w.ipc (fun n => gt (w.new x u) n * gt (w.new x u) n) + w.ipe (fun i => gt (w.out x u) i * gt (w.out x u) i) = w.ipc (fun n => gt x n * gt x n) + w.ipe (fun i => gt u i * gt u i) := by
  have h := ipc_fst ok (u := u) hx (fun _ r => r * r)
  unfold ipe
  rw [h, ipc_lasts ok fun n => gt x n * gt x n]
  have k := lvG_iso ok (w.arr x u)
  unfold sumA at k
  dsimp only at k
  have e1 : ∀ a, w.lv x u a = w.lvG (w.arr x u) a := fun a => lv_lvG
  simp only [e1]
  rw [k]
  rw [sumN_congr (n := w.rods.length) (f := fun i => (w.rod i).z * (w.arr x u (.st, i) * w.arr x u (.st, i)) + (w.rod i).z * (w.arr x u (.en, i) * w.arr x u (.en, i))) (g := fun i => (w.rod i).z * (gt x (w.cellsTo i + 2 * (w.rod i).len - 1) * gt x (w.cellsTo i + 2 * (w.rod i).len - 1)) + (w.rod i).z * (gt x (w.cellsTo i + (w.rod i).len - 1) * gt x (w.cellsTo i + (w.rod i).len - 1))) fun i hi => by
    have t := tw2 ok hi
    rw [arr_en, arr_st]
    grind]
  have e2 : sumN w.ears.length (fun i => (w.ear i).z * (w.arr x u (.ea, i) * w.arr x u (.ea, i))) = sumN w.ears.length (fun i => (w.ear i).z * (gt u i * gt u i)) := rfl
  rw [e2]
  grind
/-- sums over a state behind the tick back -/
theorem ipc_back (ok : w.Ok) {y v : List Rat} (hy : y.length = w.cells) (F : Nat → Rat → Rat) :
    w.ipc (fun n => F n (gt (w.bnew y v) n)) = sumN w.rods.length (fun i => (w.rod i).z * F (w.cellsTo i + 2 * (w.rod i).len - 1) (((w.rod i).tw : Rat) * w.lvG (w.brr y v) (.st, i)) + (w.rod i).z * F (w.cellsTo i + (w.rod i).len - 1) (((w.rod i).tw : Rat) * w.lvG (w.brr y v) (.en, i))) + w.stay (fun a b => F b (gt y a)) := by
  unfold ipc stay
  rw [← sumN_plus]
  refine sumN_congr fun i hi => ?_
  have hl := ok.len _ (rod_mem hi)
  have hc : w.cellsTo i + 2 * (w.rod i).len ≤ y.length := by rw [hy]; exact cellsTo_mono hi
  rw [sumN_lst hl]
  dsimp only
  rw [bnew_at (m := (w.rod i).len - 1) ok hy hi (by omega), bnew_at (m := 2 * (w.rod i).len - 1) ok hy hi (by omega), bpiece_l hl hc, bpiece_ll hl hc]
  rw [sumN_congr (n := (w.rod i).len - 1) (g := fun m => F (w.cellsTo i + m) (gt y (w.cellsTo i + m + 1))) fun m hm => by rw [bnew_at ok hy hi (by omega), bpiece_s hm hc]]
  rw [sumN_congr (n := (w.rod i).len - 1) (f := fun m => F (w.cellsTo i + ((w.rod i).len + m)) (gt (w.bnew y v) (w.cellsTo i + ((w.rod i).len + m)))) (g := fun m => F (w.cellsTo i + (w.rod i).len + m) (gt y (w.cellsTo i + (w.rod i).len + m + 1))) fun m hm => by
    rw [bnew_at ok hy hi (by omega), bpiece_ls hm hc, show w.cellsTo i + ((w.rod i).len + m) = w.cellsTo i + (w.rod i).len + m by omega]]
  rw [show w.cellsTo i + ((w.rod i).len - 1) = w.cellsTo i + (w.rod i).len - 1 by omega, show w.cellsTo i + (2 * (w.rod i).len - 1) = w.cellsTo i + 2 * (w.rod i).len - 1 by omega]
  grind
/-- the tick back is the tick turned about -/
theorem pair (ok : w.Ok) {x u y v : List Rat} (hx : x.length = w.cells) (hy : y.length = w.cells) :
    w.ipc (fun n => gt y n * gt (w.new x u) n) + w.ipe (fun i => gt v i * gt (w.out x u) i) = w.ipc (fun n => gt (w.bnew y v) n * gt x n) + w.ipe (fun i => gt (w.bout y v) i * gt u i) := by
  have h := ipc_fst ok (u := u) hx (fun n r => (if n < w.cells then gt y n else gt v (n - w.cells)) * r)
  rw [ipc_congr (f := fun n => (if n < w.cells then gt y n else gt v (n - w.cells)) * gt (w.new x u) n) (g := fun n => gt y n * gt (w.new x u) n) fun n hn => by rw [if_pos hn]] at h
  rw [sumN_congr (n := w.ears.length) (f := fun i => (w.ear i).z * ((if w.cells + i < w.cells then gt y (w.cells + i) else gt v (w.cells + i - w.cells)) * gt (w.out x u) i)) (g := fun i => (w.ear i).z * (gt v i * gt (w.out x u) i)) fun i _ => by rw [if_neg (by omega), show w.cells + i - w.cells = i by omega]] at h
  rw [sumN_congr (n := w.ears.length) (f := fun i => (w.ear i).z * ((if w.cells + i < w.cells then gt y (w.cells + i) else gt v (w.cells + i - w.cells)) * w.lv x u (.ea, i))) (g := fun i => (w.ear i).z * (w.brr y v (.ea, i) * w.lvG (w.arr x u) (.ea, i))) fun i _ => by rw [if_neg (by omega), show w.cells + i - w.cells = i by omega, lv_lvG]; rfl] at h
  rw [sumN_congr (n := w.rods.length) (g := fun i => (w.rod i).z * (w.brr y v (.st, i) * w.lvG (w.arr x u) (.st, i)) + (w.rod i).z * (w.brr y v (.en, i) * w.lvG (w.arr x u) (.en, i))) fun i hi => by
    have := ok.len _ (rod_mem hi)
    have := cellsTo_mono (w := w) hi
    rw [if_pos (by omega), if_pos (by omega), lv_lvG, lv_lvG]
    rfl] at h
  have hs : w.stay (fun a b => (if a < w.cells then gt y a else gt v (a - w.cells)) * gt x b) = w.stay (fun a b => gt y a * gt x b) := by
    unfold stay
    refine sumN_congr fun i hi => ?_
    have := ok.len _ (rod_mem hi)
    have := cellsTo_mono (w := w) hi
    rw [sumN_congr (n := (w.rod i).len - 1) (g := fun m => gt y (w.cellsTo i + m + 1) * gt x (w.cellsTo i + m)) fun m hm => by dsimp only; rw [if_pos (by omega)]]
    dsimp only
    rw [sumN_congr (n := (w.rod i).len - 1) (f := fun m => (if w.cellsTo i + (w.rod i).len + m + 1 < w.cells then gt y (w.cellsTo i + (w.rod i).len + m + 1) else gt v (w.cellsTo i + (w.rod i).len + m + 1 - w.cells)) * gt x (w.cellsTo i + (w.rod i).len + m)) (g := fun m => gt y (w.cellsTo i + (w.rod i).len + m + 1) * gt x (w.cellsTo i + (w.rod i).len + m)) fun m hm => by rw [if_pos (by omega)]]
  rw [hs] at h
  have k := lvG_sym ok (w.arr x u) (w.brr y v)
  unfold sumA at k
  dsimp only at k
  rw [k] at h
  have b := ipc_back ok (v := v) hy (fun n r => r * gt x n)
  have e3 : w.ipe (fun i => gt v i * gt (w.out x u) i) = sumN w.ears.length (fun i => (w.ear i).z * (gt v i * gt (w.out x u) i)) := rfl
  have e4 : w.ipe (fun i => gt (w.bout y v) i * gt u i) = sumN w.ears.length (fun i => (w.ear i).z * (w.lvG (w.brr y v) (.ea, i) * w.arr x u (.ea, i))) := sumN_congr fun i hi => by dsimp only; rw [gt_bout hi]; rfl
  rw [e3, h, b, e4]
  rw [sumN_congr (n := w.rods.length) (f := fun i => (w.rod i).z * (((w.rod i).tw : Rat) * w.lvG (w.brr y v) (.st, i) * gt x (w.cellsTo i + 2 * (w.rod i).len - 1)) + (w.rod i).z * (((w.rod i).tw : Rat) * w.lvG (w.brr y v) (.en, i) * gt x (w.cellsTo i + (w.rod i).len - 1))) (g := fun i => (w.rod i).z * (w.lvG (w.brr y v) (.st, i) * w.arr x u (.st, i)) + (w.rod i).z * (w.lvG (w.brr y v) (.en, i) * w.arr x u (.en, i))) fun i _ => by rw [arr_en, arr_st]; grind]
  grind
/-- the tick back keeps energies -/
theorem benergy (ok : w.Ok) {y v : List Rat} (hy : y.length = w.cells) :
    w.ipc (fun n => gt (w.bnew y v) n * gt (w.bnew y v) n) + w.ipe (fun i => gt (w.bout y v) i * gt (w.bout y v) i) = w.ipc (fun n => gt y n * gt y n) + w.ipe (fun i => gt v i * gt v i) := by
  have b := ipc_back ok (v := v) hy (fun _ r => r * r)
  rw [b, ipc_heads ok fun n => gt y n * gt y n]
  have e4 : w.ipe (fun i => gt (w.bout y v) i * gt (w.bout y v) i) = sumN w.ears.length (fun i => (w.ear i).z * (w.lvG (w.brr y v) (.ea, i) * w.lvG (w.brr y v) (.ea, i))) := sumN_congr fun i hi => by dsimp only; rw [gt_bout hi]
  rw [e4]
  rw [sumN_congr (n := w.rods.length) (g := fun i => (w.rod i).z * (w.lvG (w.brr y v) (.st, i) * w.lvG (w.brr y v) (.st, i)) + (w.rod i).z * (w.lvG (w.brr y v) (.en, i) * w.lvG (w.brr y v) (.en, i))) fun i hi => by
    have t := tw2 ok hi
    grind]
  have k := lvG_iso ok (w.brr y v)
  unfold sumA at k
  dsimp only at k
  have e5 : sumN w.rods.length (fun i => (w.rod i).z * (w.brr y v (.st, i) * w.brr y v (.st, i)) + (w.rod i).z * (w.brr y v (.en, i) * w.brr y v (.en, i))) = sumN w.rods.length (fun i => (w.rod i).z * (gt y (w.cellsTo i) * gt y (w.cellsTo i)) + (w.rod i).z * (gt y (w.cellsTo i + (w.rod i).len) * gt y (w.cellsTo i + (w.rod i).len))) := rfl
  have e6 : sumN w.ears.length (fun i => (w.ear i).z * (w.brr y v (.ea, i) * w.brr y v (.ea, i))) = w.ipe (fun i => gt v i * gt v i) := rfl
  rw [e5, e6] at k
  grind
end WebD
end KM

set_option linter.all false
set_option exponentiation.threshold 20000
set_option maxRecDepth 100000
/-! Runs: what single cells and single knocks bring to one cell. -/
namespace KM
open FM
namespace WebD
variable {w : WebD}
theorem new_len' (ok : w.Ok) {x u : List Rat} (hx : x.length = w.cells) : (w.new x u).length = w.cells := new_len ok hx
def stt (w : WebD) (x0 : List Rat) (K : Nat → List Rat) : Nat → List Rat
  | 0 => x0
  | n + 1 => w.new (w.stt x0 K n) (K n)
theorem stt_len (ok : w.Ok) {x0 : List Rat} {K : Nat → List Rat} (h : x0.length = w.cells) : ∀ n, (w.stt x0 K n).length = w.cells
  | 0 => h
  | n + 1 => new_len ok (stt_len ok h n)
def bst (w : WebD) (y0 : List Rat) : Nat → List Rat
  | 0 => y0
  | n + 1 => w.bnew (w.bst y0 n) []
def bo (w : WebD) (y0 : List Rat) (n : Nat) : List Rat := w.bout (w.bst y0 n) []
theorem bst_len (ok : w.Ok) {y0 : List Rat} (h : y0.length = w.cells) : ∀ n, (w.bst y0 n).length = w.cells
  | 0 => h
  | n + 1 => bnew_len ok (bst_len ok h n)
theorem gt_nil {n : Nat} : gt [] n = 0 := by unfold gt; simp
theorem ipe_null : w.ipe (fun _ => 0) = 0 := by
  unfold ipe
  rw [sumN_congr (g := fun _ => 0) fun i _ => by grind]
  exact sumN_null
theorem run_pair (ok : w.Ok) {x0 y0 : List Rat} {K : Nat → List Rat} (hx : x0.length = w.cells) (hy : y0.length = w.cells) {n : Nat} : ∀ m, m ≤ n →
    w.ipc (fun k => gt y0 k * gt (w.stt x0 K n) k) = w.ipc (fun k => gt (w.bst y0 m) k * gt (w.stt x0 K (n - m)) k) + sumN m (fun s => w.ipe fun i => gt (w.bo y0 s) i * gt (K (n - 1 - s)) i)
  | 0, _ => by rw [sumN_zero, Nat.sub_zero]; unfold bst; grind
  | m + 1, h => by
    rw [run_pair ok hx hy m (by omega), sumN_succ]
    have p := pair ok (x := w.stt x0 K (n - (m + 1))) (u := K (n - (m + 1))) (y := w.bst y0 m) (v := []) (stt_len ok hx _) (bst_len ok hy _)
    have e : w.stt x0 K (n - m) = w.new (w.stt x0 K (n - (m + 1))) (K (n - (m + 1))) := by
      rw [show n - m = (n - (m + 1)) + 1 by omega]
      rfl
    rw [e]
    have z : w.ipe (fun i => gt [] i * gt (w.out (w.stt x0 K (n - (m + 1))) (K (n - (m + 1)))) i) = 0 := by
      rw [ipe_congr (g := fun _ => 0) fun i _ => by rw [gt_nil]; grind]
      exact ipe_null
    rw [z] at p
    have e2 : w.bnew (w.bst y0 m) [] = w.bst y0 (m + 1) := rfl
    have e3 : w.bout (w.bst y0 m) [] = w.bo y0 m := rfl
    rw [e2, e3, show n - (m + 1) = n - 1 - m by omega] at p
    rw [show n - (m + 1) = n - 1 - m by omega]
    grind
theorem run_energy (ok : w.Ok) {y0 : List Rat} (hy : y0.length = w.cells) : ∀ n, w.ipc (fun k => gt y0 k * gt y0 k) = w.ipc (fun k => gt (w.bst y0 n) k * gt (w.bst y0 n) k) + sumN n fun s => w.ipe fun i => gt (w.bo y0 s) i * gt (w.bo y0 s) i
  | 0 => by rw [sumN_zero]; unfold bst; grind
  | n + 1 => by
    rw [run_energy ok hy n, sumN_succ]
    have b := benergy ok (y := w.bst y0 n) (v := []) (bst_len ok hy n)
    have z : w.ipe (fun i => gt [] i * gt [] i) = 0 := by
      rw [ipe_congr (g := fun _ => 0) fun i _ => by rw [gt_nil]; grind]
      exact ipe_null
    rw [z] at b
    have e2 : w.bnew (w.bst y0 n) [] = w.bst y0 (n + 1) := rfl
    have e3 : w.bout (w.bst y0 n) [] = w.bo y0 n := rfl
    rw [e2, e3] at b
    grind
/-! ### strengths of cells, one by one -/
theorem wsTo_at : ∀ {k i m : Nat}, k ≤ w.rods.length → i < k → m < 2 * (w.rod i).len → gt (w.wsTo k) (w.cellsTo i + m) = (w.rod i).z := by
  intro k i m hk hi hm
  unfold gt wsTo
  rw [flat_at (p := fun i => List.replicate (2 * (w.rod i).len) (w.rod i).z) (fun i _ => by simp) hk hi hm]
  exact replicate_get hm
theorem ws_at {i m : Nat} (hi : i < w.rods.length) (hm : m < 2 * (w.rod i).len) : gt w.ws (w.cellsTo i + m) = (w.rod i).z := wsTo_at (Nat.le_refl _) hi hm
theorem sum_cells (f : Nat → Rat) : ∀ k, k ≤ w.rods.length → sumN (w.cellsTo k) f = sumN k fun i => sumN (2 * (w.rod i).len) fun m => f (w.cellsTo i + m)
  | 0, _ => by rw [cellsTo_zero]; rfl
  | k + 1, h => by rw [cellsTo_succ (by omega), sumN_add, sum_cells f k (by omega), sumN_succ]
/-- over all cells, one by one -/
theorem ipc_ws (f : Nat → Rat) : w.ipc f = sumN w.cells fun k => gt w.ws k * f k := by
  have : sumN w.cells (fun k => gt w.ws k * f k) = sumN (w.cellsTo w.rods.length) fun k => gt w.ws k * f k := rfl
  rw [this, sum_cells _ _ (Nat.le_refl _)]
  unfold ipc
  refine sumN_congr fun i hi => ?_
  rw [← sumN_mul]
  exact sumN_congr fun m hm => by rw [ws_at hi hm]
theorem cell_of : ∀ k n, k ≤ w.rods.length → n < w.cellsTo k → ∃ i m, i < k ∧ m < 2 * (w.rod i).len ∧ n = w.cellsTo i + m
  | 0, n, _, h => by rw [cellsTo_zero] at h; omega
  | k + 1, n, hk, h => by
    rw [cellsTo_succ (by omega)] at h
    by_cases e : n < w.cellsTo k
    · obtain ⟨i, m, a, b, c⟩ := cell_of k n (by omega) e
      exact ⟨i, m, by omega, b, c⟩
    · exact ⟨k, n - w.cellsTo k, by omega, by omega, by omega⟩
theorem ws_pos (ok : w.Ok) {k : Nat} (h : k < w.cells) : 0 < gt w.ws k := by
  obtain ⟨i, m, hi, hm, rfl⟩ := cell_of (w := w) w.rods.length k (Nat.le_refl _) h
  rw [ws_at hi hm]
  exact ok.rz _ (rod_mem hi)
/-- 1 at one place -/
def unitAt (n k : Nat) : List Rat := (List.range n).map fun i => if i = k then 1 else 0
theorem unit_len {n k : Nat} : (unitAt n k).length = n := by unfold unitAt; simp
theorem gt_unit {n k i : Nat} (h : i < n) : gt (unitAt n k) i = if i = k then 1 else 0 := by
  unfold gt unitAt
  rw [List.getElem?_map, List.getElem?_range h]
  rfl
def zeroN (n : Nat) : List Rat := List.replicate n 0
theorem gt_zeroN {n i : Nat} : gt (zeroN n) i = 0 := by
  unfold gt zeroN
  rw [List.getElem?_replicate]
  split <;> rfl
/-- the state that asks for one cell -/
def askAt (w : WebD) (k : Nat) : List Rat := (List.range w.cells).map fun i => if i = k then 1 / gt w.ws k else 0
theorem ask_len {k : Nat} : (w.askAt k).length = w.cells := by unfold askAt; simp
theorem gt_ask {k i : Nat} (h : i < w.cells) : gt (w.askAt k) i = if i = k then 1 / gt w.ws k else 0 := by
  unfold gt askAt
  rw [List.getElem?_map, List.getElem?_range h]
  rfl
theorem ask_ipc (ok : w.Ok) {k : Nat} (hk : k < w.cells) (X : Nat → Rat) : w.ipc (fun n => gt (w.askAt k) n * X n) = X k := by
  rw [ipc_ws]
  have p := Rat.ne_of_gt (ws_pos ok hk)
  refine sumN_one hk (fun i hi hne => ?_) ?_
  · rw [gt_ask hi, if_neg hne]; grind
  · rw [gt_ask hk, if_pos rfl]; grind
theorem unit_ipc {k : Nat} (hk : k < w.cells) (X : Nat → Rat) : w.ipc (fun n => X n * gt (unitAt w.cells k) n) = gt w.ws k * X k := by
  rw [ipc_ws]
  refine sumN_one hk (fun i hi hne => ?_) ?_
  · rw [gt_unit hi, if_neg hne]; grind
  · rw [gt_unit hk, if_pos rfl]; grind
theorem unit_ipe {j : Nat} (hj : j < w.ears.length) (X : Nat → Rat) : w.ipe (fun n => X n * gt (unitAt w.ears.length j) n) = (w.ear j).z * X j := by
  unfold ipe
  refine sumN_one hj (fun i hi hne => ?_) ?_
  · dsimp only; rw [gt_unit hi, if_neg hne]; grind
  · dsimp only; rw [gt_unit hj, if_pos rfl]; grind
theorem zero_ipe {X : Nat → Rat} {n : Nat} : w.ipe (fun i => X i * gt (zeroN n) i) = 0 := by
  rw [ipe_congr (g := fun _ => 0) fun i _ => by rw [gt_zeroN]; grind]
  exact ipe_null
/-- a knock of 1 by ear j in tick t -/
def knockAt (w : WebD) (j t : Nat) (s : Nat) : List Rat := if s = t then unitAt w.ears.length j else zeroN w.ears.length
def silence (w : WebD) (_ : Nat) : List Rat := zeroN w.ears.length
/-- from 1 in cell i -/
theorem from_cell (ok : w.Ok) {k i n : Nat} (hk : k < w.cells) (hi : i < w.cells) : gt (w.stt (unitAt w.cells i) w.silence n) k = gt w.ws i * gt (w.bst (w.askAt k) n) i := by
  rw [← ask_ipc ok hk fun m => gt (w.stt (unitAt w.cells i) w.silence n) m]
  rw [run_pair ok unit_len ask_len n (Nat.le_refl _), Nat.sub_self]
  have e : w.stt (unitAt w.cells i) w.silence 0 = unitAt w.cells i := rfl
  rw [e, unit_ipc hi]
  rw [sumN_congr (n := n) (f := fun s => w.ipe fun i => gt (w.bo (w.askAt k) s) i * gt (w.silence (n - 1 - s)) i) (g := fun _ => 0) fun s _ => zero_ipe, sumN_null]
  grind
/-- from a knock of 1 by ear j in tick t -/
theorem from_knock (ok : w.Ok) {k j t n : Nat} (hk : k < w.cells) (hj : j < w.ears.length) (ht : t < n) : gt (w.stt (zeroN w.cells) (w.knockAt j t) n) k = (w.ear j).z * gt (w.bo (w.askAt k) (n - 1 - t)) j := by
  rw [← ask_ipc ok hk fun m => gt (w.stt (zeroN w.cells) (w.knockAt j t) n) m]
  rw [run_pair ok (by unfold zeroN; simp) ask_len n (Nat.le_refl _), Nat.sub_self]
  have e : w.stt (zeroN w.cells) (w.knockAt j t) 0 = zeroN w.cells := rfl
  have z : w.ipc (fun m => gt (w.bst (w.askAt k) n) m * gt (zeroN w.cells) m) = 0 := by
    rw [ipc_ws, sumN_congr (g := fun _ => 0) fun i _ => by rw [gt_zeroN]; grind]
    exact sumN_null
  rw [e, z]
  rw [sumN_one (k := n - 1 - t) (c := (w.ear j).z * gt (w.bo (w.askAt k) (n - 1 - t)) j) (by omega) (fun s hs hne => ?_) ?_]
  · grind
  · unfold knockAt
    rw [if_pos (by omega)]
    exact unit_ipe hj _
  · unfold knockAt
    rw [if_neg (by omega)]
    exact zero_ipe
theorem sumN_rev {f : Nat → Rat} : ∀ n, sumN n (fun t => f (n - 1 - t)) = sumN n f
  | 0 => rfl
  | n + 1 => by
    have h := sumN_rev (f := f) n
    rw [sumN_head, sumN_succ]
    rw [sumN_congr (n := n) (f := fun m => f (n + 1 - 1 - (m + 1))) (g := fun t => f (n - 1 - t)) fun i hi => by rw [show n + 1 - 1 - (i + 1) = n - 1 - i by omega]]
    rw [h, show n + 1 - 1 - 0 = n by omega]
    grind
/-- for one cell: all energies that come into it, each by what was put in, are 1 -/
theorem filled (ok : w.Ok) {k n : Nat} (hk : k < w.cells) :
    sumN w.cells (fun i => gt w.ws k * (gt (w.stt (unitAt w.cells i) w.silence n) k * gt (w.stt (unitAt w.cells i) w.silence n) k) / gt w.ws i) +
    sumN w.ears.length (fun j => sumN n fun t => gt w.ws k * (gt (w.stt (zeroN w.cells) (w.knockAt j t) n) k * gt (w.stt (zeroN w.cells) (w.knockAt j t) n) k) / (w.ear j).z) = 1 := by
  have p := Rat.ne_of_gt (ws_pos ok hk)
  rw [sumN_congr (n := w.cells) (g := fun i => gt w.ws k * (gt w.ws i * (gt (w.bst (w.askAt k) n) i * gt (w.bst (w.askAt k) n) i))) fun i hi => by
    have := Rat.ne_of_gt (ws_pos ok hi)
    rw [from_cell ok hk hi]
    grind]
  rw [sumN_congr (n := w.ears.length) (g := fun j => sumN n fun t => gt w.ws k * ((w.ear j).z * (gt (w.bo (w.askAt k) (n - 1 - t)) j * gt (w.bo (w.askAt k) (n - 1 - t)) j))) fun j hj => by
    refine sumN_congr fun t ht => ?_
    have := Rat.ne_of_gt (ok.ez _ (ear_mem hj))
    rw [from_knock ok hk hj ht]
    grind]
  rw [sumN_mul, ← ipc_ws fun i => gt (w.bst (w.askAt k) n) i * gt (w.bst (w.askAt k) n) i]
  rw [sumN_swap]
  rw [sumN_congr (n := n) (g := fun t => gt w.ws k * w.ipe fun j => gt (w.bo (w.askAt k) (n - 1 - t)) j * gt (w.bo (w.askAt k) (n - 1 - t)) j) fun t _ => by rw [sumN_mul]; rfl]
  rw [sumN_mul, sumN_rev (f := fun t => w.ipe fun j => gt (w.bo (w.askAt k) t) j * gt (w.bo (w.askAt k) t) j) n]
  have e := run_energy ok (y0 := w.askAt k) ask_len n
  have a := ask_ipc ok hk (fun m => gt (w.askAt k) m)
  rw [gt_ask hk, if_pos rfl] at a
  rw [a] at e
  grind
end WebD
end KM

set_option Elab.async false
set_option linter.all false
set_option maxRecDepth 100000
set_option maxHeartbeats 4000000
set_option exponentiation.threshold 20000
namespace Fx
open PySem PySem.Spec PyProof.Rows L2 FM KM
/-! ### strengths of cells, contents, the web made -/
theorem dot_take {zs rs : List Rat} {k : Nat} {z r : Rat} (hz : zs[k]? = some z) (hr : rs[k]? = some r) : dotR (zs.take (k + 1)) (rs.take (k + 1)) = dotR (zs.take k) (rs.take k) + z * r := by
  have l1 := (List.getElem?_eq_some_iff.mp hz).1
  have l2 := (List.getElem?_eq_some_iff.mp hr).1
  rw [List.take_add_one, List.take_add_one, hz, hr, dotR_append (by rw [List.length_take, List.length_take]; omega)]
  congr 1
  unfold dotR
  simp
  try grind
/-- sizes for a content -/
structure CSz (zs rs : List Rat) : Prop where
  len : zs.length = rs.length
  n : rs.length ≤ 100
  ex : ∃ D M D' M', 0 < D ∧ D < 2 ^ 100 ∧ M < 2 ^ 100 ∧ 0 < D' ∧ D' < 2 ^ 3000 ∧ M' < 2 ^ 3000 ∧ (∀ z ∈ zs, Rep D M z) ∧ (∀ r ∈ rs, Rep D' M' r)
theorem CSz.ok {zs rs : List Rat} (s : CSz zs rs) (k : Nat) : Ok3 (dotR (zs.take k) (rs.take k)) := by
  obtain ⟨D, M, D', M', d0, d1, m1, d0', d1', m1', h, h'⟩ := s.ex
  have r := dot_rep (zs := zs.take k) (as := rs.take k) (fun z hz => h z (List.mem_of_mem_take hz)) (fun z hz => h' z (List.mem_of_mem_take hz))
  refine Ok3.of (ok4_rep r (Nat.mul_pos d0 d0') (pow_mul d1 d1' (by decide)) (pow_mul (i := 7) (j := 3100) ?_ (pow_mul m1 m1' (by decide)) (by decide)))
  rw [List.length_take]
  have := s.n
  have := s.len
  show min k zs.length < 128
  omega
theorem CSz.prod {zs rs : List Rat} (s : CSz zs rs) {z r : Rat} (hz : z ∈ zs) (hr : r ∈ rs) : Ok3 z ∧ Ok3 r ∧ Ok3 (z * r) := by
  obtain ⟨D, M, D', M', d0, d1, m1, d0', d1', m1', h, h'⟩ := s.ex
  exact ⟨Ok3.of (ok4_rep (h z hz) d0 (pow_le d1 (by decide)) (pow_le m1 (by decide))), Ok3.of (ok4_rep (h' r hr) d0' (pow_le d1' (by decide)) (pow_le m1' (by decide))), Ok3.of (ok4_rep ((h z hz).mulR (h' r hr)) (Nat.mul_pos d0 d0') (pow_mul d1 d1' (by decide)) (pow_mul m1 m1' (by decide)))⟩
theorem pv_zero {t : Addr} {H : Hp} (h : H t = some (.tup [.int 0, .int 1])) : PV (.ref t) 0 H := ⟨t, rfl, h⟩
theorem PowZ.ok {z : Rat} (h : PowZ z) : Ok4 z := ok4_rep h.zz (by decide) (Nat.lt_of_lt_of_le (show 12 < 2 ^ 4 by decide) (Nat.pow_le_pow_right (by decide) (by decide))) (Nat.lt_of_lt_of_le (show 108 < 2 ^ 7 by decide) (Nat.pow_le_pow_right (by decide) (by decide)))
theorem RodC.ok {n : Nat} {r : RodD} (h : RodC n r) : RodOk n r := ⟨h.st, h.en, h.l1, h.l2, h.z.pos, h.z.ok, h.tw⟩
theorem EarC.ok {n : Nat} {r : EarD} (h : EarC n r) : EarOk n r := ⟨h.pl, h.z.pos, h.z.ok⟩
/-- the web that the law draws -/
def theWeb (bs : List Bool) (rods : List RodD) (tips : List EarD) : WebD := ⟨bs, rods, tips⟩
theorem cells_theWeb {bs : List Bool} {rods : List RodD} {tips : List EarD} : (theWeb bs rods tips).cells = (rods.map fun r => 2 * r.len).sum := by
  unfold WebD.cells WebD.cellsTo theWeb
  rw [List.take_length]
theorem kinds_all {bs : List Bool} {H : Hp} : All2 KindV (bs.map kV_) bs H := ⟨by simp, fun i a b p q => by
  rw [List.getElem?_map, q] at p
  exact (Option.some.inj p).symm⟩
/-- the strengths' sizes -/
theorem web_sz {m0 : Nat} {bs : List Bool} {rods : List RodD} {tips : List EarD} (h : WebC m0 bs rods tips) : (theWeb bs rods tips).SzZ 12 108 1260 5040 where
  z0 := by decide
  i0 := by decide
  z1 := Nat.lt_of_lt_of_le (show 12 < 2 ^ 4 by decide) (Nat.pow_le_pow_right (by decide) (by decide))
  b1 := Nat.lt_of_lt_of_le (show 108 < 2 ^ 7 by decide) (Nat.pow_le_pow_right (by decide) (by decide))
  i1 := Nat.lt_of_lt_of_le (show 1260 < 2 ^ 11 by decide) (Nat.pow_le_pow_right (by decide) (by decide))
  bi1 := Nat.lt_of_lt_of_le (show 5040 < 2 ^ 13 by decide) (Nat.pow_le_pow_right (by decide) (by decide))
  z := fun a ha => by
    obtain ⟨s, i⟩ := a
    cases s with
    | st => have := (h.r _ (WebD.rod_mem (w := theWeb bs rods tips) ha)).z; exact ⟨this.zz, this.ii⟩
    | en => have := (h.r _ (WebD.rod_mem (w := theWeb bs rods tips) ha)).z; exact ⟨this.zz, this.ii⟩
    | ea => have := (h.e _ (WebD.ear_mem (w := theWeb bs rods tips) ha)).z; exact ⟨this.zz, this.ii⟩
theorem ws_rep {m0 : Nat} {bs : List Bool} {rods : List RodD} {tips : List EarD} (h : WebC m0 bs rods tips) : ∀ z ∈ (theWeb bs rods tips).ws, Rep 12 108 z := fun z hz => by
  rw [WebD.ws_flat] at hz
  obtain ⟨r, hr, hz⟩ := List.mem_flatMap.mp hz
  rw [(List.mem_replicate.mp hz).2]
  exact (h.r r hr).z.zz
theorem ws_repi {m0 : Nat} {bs : List Bool} {rods : List RodD} {tips : List EarD} (h : WebC m0 bs rods tips) : ∀ z ∈ (theWeb bs rods tips).ws, Rep 1260 5040 (1 / z) := fun z hz => by
  rw [WebD.ws_flat] at hz
  obtain ⟨r, hr, hz⟩ := List.mem_flatMap.mp hz
  rw [(List.mem_replicate.mp hz).2]
  exact (h.r r hr).z.ii
theorem zs_rep {m0 : Nat} {bs : List Bool} {rods : List RodD} {tips : List EarD} (h : WebC m0 bs rods tips) : ∀ z ∈ (theWeb bs rods tips).zs, Rep 12 108 z ∧ Rep 1260 5040 (1 / z) := fun z hz => by
  unfold WebD.zs at hz
  obtain ⟨e, he, rfl⟩ := List.mem_map.mp hz
  exact ⟨(h.e e he).z.zz, (h.e e he).z.ii⟩
section
variable {P : Program} {w : World} {K : PySem.W.Frag} {mg : Str → Option Value} {base : Heap} {A : Adr} {CW : Addr}
theorem scLma : FnScope ["web", "way", "rods", "rod", "z", "tips", "one"] ["web", "way"] (defScope (top 90)) := ⟨rfl, rfl, rfl, by decide +kernel, rfl, by decide +kernel, by decide +kernel⟩
def spLma (A : Adr) (CW : Addr) : Sp := fun vs H Q _ => ∃ t jl rl tl bs rods tips m0, ∃ (_ : m0 ≤ 24), ∃ way : Int, vs = [.ref t, .int way] ∧ WebPy H t jl rl tl bs rods tips ∧ WebC m0 bs rods tips ∧ ∀ a H', H a = none → Ext H H' → WebAt A CW H' a (theWeb bs rods tips) → Q (.ref a) H'
theorem ok_Lma {f : Addr} {fd : FuncData} (F : Fun K "_law_made" "_law_made" (top 90) f fd) (W_ : WT K mg CW) {wi : Addr} (M_ : Mk K CW wi) (kI : Cal P w K mg base 7 wi ["self", "joints", "rods", "ears"] (spWi K A CW)) (hG : LF P w K mg base "_law_give" 3 ["pairs", "way"] (spLg K A)) (li : mg "list" = none) : FnOk P w K mg base (L2.CX P w) 9 f fd ["web", "way"] (spLma A CW) := by
  refine F.okX scLma (fun vs H Q E h => ?_) (fun cdv AA outer s H vs Q E hr h => ?_)
  · obtain ⟨t, jl, rl, tl, bs, rods, tips, m0, m24, way, rfl, _⟩ := h; rfl
  · obtain ⟨t, jl, rl, tl, bs, rods, tips, m0, m24, way, rfl, hw, hc, q⟩ := h
    obtain ⟨fG, gG, cG⟩ := hG
    obtain ⟨fdG, GG, bG⟩ := cG.ex
    obtain ⟨fdI, GI, bI⟩ := kI.ex
    refine ⟨_, (pss_cons (ps_set (i := 2) scLma.nd rfl (Or.inl rfl) (pe_lst pa_nil))
      (pss_cons (ps_for (passes_of rfl) rfl (pi_seq (pe_ix ix_tup (pv 0) pe_int (fun _ _ => rfl))) (pg_name (i := 3) scLma.nd rfl (Or.inl rfl)) (pss_cons (ps_set (i := 4) scLma.nd rfl (Or.inl rfl) (pe_ix ix_list (pe_call GG (hr.mono (by decide)) rfl gG cG.kp bG .nil (E := E0) passL (pa_cons (pe_lst (pa_cons (pe_ix ix_tup (pv 3) pe_int (fun _ _ => rfl)) pa_nil)) (pa_cons (pv 1) pa_nil))) pe_int (fun _ _ => rfl)))
      (pss_one (ps_if (PW.pt (pw_and (pt_cmpR L2.op_eq (pe_ix ix_tup (pv 3) pe_int (fun _ _ => rfl)) pe_int (nomark _)) (pw_and1 (pt_cmpR L2.op_lt (pv 1) pe_int (nomark _))))) (pss_one (ps_expr (pe_bm PySem.F.plainAttrs_list PySem.F.slot_list_append PySem.F.type_list_append mt_append (pv 2) (pa_cons (pe_tup (pa_cons (pe_ix ix_tup (pv 3) pe_int (fun _ _ => rfl)) (pa_cons (pe_ix ix_tup (pv 3) pe_int (fun _ _ => rfl)) (pa_cons (pe_ix ix_tup (pv 3) pe_int (fun _ _ => rfl)) (pa_cons (pv 4) pa_nil))))) pa_nil)))) (pss_one (ps_expr (pe_bm PySem.F.plainAttrs_list PySem.F.slot_list_append PySem.F.type_list_append mt_append (pv 2) (pa_cons (pe_tup (pa_cons (pe_ix ix_tup (pv 3) pe_int (fun _ _ => rfl)) (pa_cons (pe_ix ix_tup (pv 3) pe_int (fun _ _ => rfl)) (pa_cons (pe_ix ix_tup (pv 3) pe_int (fun _ _ => rfl)) (pa_cons (pv 4) (pa_cons (pe_ix ix_tup (pv 3) pe_int (fun _ _ => rfl)) pa_nil)))))) pa_nil))))))))
      (pss_cons (ps_setLc (i := 5) (own := [("one", 6)]) (g := (gName 6)) rfl scLma.nd rfl rfl (sw_true rfl rfl rfl rfl) (pi_seq (pe_ix ix_tup (pv 0) pe_int (fun _ _ => rfl))) (blkOk_by (own := [("one", 6)]) (N := ["web", "way", "rods", "rod", "z", "tips", "one"]) (sc := defScope (top 90)) (by decide +kernel)) (fun _ _ _ _ _ => (pg_name (i := 6) scLma.nd rfl (Or.inl rfl))) (fun _ _ _ _ _ => pts_nil) (fun _ _ _ _ _ => (pe_tup (pa_cons (pe_ix (r := rIxT K) ix_tup (pv 6) pe_int (fun _ _ => rfl)) (pa_cons (pe_ix (r := rIxL K) ix_list (pe_call GG (hr.mono (by decide)) rfl gG cG.kp bG .nil (E := E0) passL (pa_cons (pe_lst (pa_cons (pe_ix (r := rIxT K) ix_tup (pv 6) pe_int (fun _ _ => rfl)) pa_nil)) (pa_cons (pe_op L2.op_add (pv 1) pe_int) pa_nil))) pe_int (fun _ _ => rfl)) pa_nil)))))
      (pss_one (ps_ret (pe_make M_ GI (hr.mono (by decide)) rfl W_.mgC bI .nil (E := E0) passL (pa_cons (pe_callTy call_list_of (by rfl) li boot_list (pa_cons (pe_ix ix_tup (pv 0) pe_int (fun _ _ => rfl)) pa_nil)) (pa_cons (pv 2) (pa_cons (pv 5) pa_nil))))))))), ?_⟩
    have hw0 := hw
    obtain ⟨h1, h2, ⟨rxs, h3, h4⟩, ⟨txs, h5, h6⟩⟩ := hw
    refine ⟨by decide, fun D nD => ?_⟩
    refine ⟨_, rfl, t, _, _, _, rfl, rfl, SqT.of ((ext1 nD) _ _ h1), rfl, true, rl, rxs, rfl, SqL.of ((ext1 nD) _ _ h3), for_it walk_S (fun i σ H' => Ext H H' ∧ ∃ xs z3 z4, σ = [some (.ref t), some (.int way), some (.ref D), z3, z4, none, none] ∧ H' D = some (.lst xs) ∧ xs.length = i ∧ All2 (RodP A) xs (rods.take i) H') ⟨ext1 nD, [], _, _, rfl, upd_same, rfl, by simpa using All2.nil⟩ (fun i σ H' _ e => SqL.of (e.1 _ _ h3)) ?_ ?_⟩
    · rintro i x σ _ H1 hi ⟨e1, xs, z3, z4, rfl, hD, hxl, hx⟩ ⟨rfl, hxi⟩
      obtain ⟨r, hr', a, s, rfl, ha, hs⟩ := h4.get' hxi
      have rc := hc.r r (List.mem_of_getElem? hr')
      have hi8 : i < 8 := by have := h4.1; have := hc.m8; omega
      have et : rods.take (i + 1) = rods.take i ++ [r] := by rw [List.take_add_one, hr']; rfl
      refine ⟨_, rfl, a, _, _, _, rfl, rfl, SqT.of (e1 _ _ ha), rfl, (by show 1 ≤ sizeLine; decide), fun l nl => ?_⟩
      refine ⟨_, rfl, l, [s], [r.z], way, rfl, upd_same, .cons ((hs.ext e1).ext (ext1 nl)) .nil, fun y hy => by rw [List.mem_singleton.mp hy]; exact Ok3.of rc.z.ok, (by show 1 ≤ 900; decide), fun G gs H2 nG e2 hG' hg => ?_⟩
      have e12 : Ext H1 H2 := (ext1 nl).trans e2
      obtain ⟨g, hg0, hgv⟩ := hg.get (i := 0) (y := r.z) rfl
      refine ⟨G, gs, _, g, rfl, rfl, SqL.of hG', atI_nat (j := 0) hg0, ?_⟩
      have ha2 := e12 _ _ (e1 _ _ ha)
      have hD2 := e12 _ _ hD
      have hx2 := hx.ext moRodP e12
      have fin : ∀ (t9 : Addr) (o9 : HO), H2 t9 = none → ((o9 = .tup [.int (r.st : Int), .int (r.en : Int), .int (r.len : Int), g] ∧ r.tw = 1) ∨ o9 = .tup [.int (r.st : Int), .int (r.en : Int), .int (r.len : Int), g, .int r.tw]) →
          Ext H (upd (upd H2 t9 o9) D (.lst (xs ++ [.ref t9]))) ∧ (upd (upd H2 t9 o9) D (.lst (xs ++ [.ref t9]))) D = some (.lst (xs ++ [.ref t9])) ∧ (xs ++ [V.ref t9]).length = i + 1 ∧ All2 (RodP A) (xs ++ [.ref t9]) (rods.take (i + 1)) (upd (upd H2 t9 o9) D (.lst (xs ++ [.ref t9]))) := fun t9 o9 n9 h9 => by
        have x9 : ExtL H2 (upd (upd H2 t9 o9) D (.lst (xs ++ [.ref t9]))) := (Ext.l (ext1 n9)).trans (ExtL.upd (xs := xs) ((ext1 n9) _ _ hD2))
        have tD : t9 ≠ D := fun z => by rw [z, hD2] at n9; cases n9
        have e09 : (upd (upd H2 t9 o9) D (.lst (xs ++ [.ref t9]))) t9 = some o9 := by rw [upd_ne tD]; exact upd_same
        refine ⟨kpl nD ((e1.trans e12).trans (ext1 n9)), upd_same, by rw [List.length_append, hxl]; rfl, ?_⟩
        rw [et]
        refine (hx2.l moRodP x9).snoc ⟨t9, g, rfl, ?_, moNV _ _ _ _ x9 hgv⟩
        rcases h9 with ⟨rfl, tw1⟩ | rfl
        · exact .inl ⟨e09, tw1⟩
        · exact .inr e09
      have go : ∀ (f : Addr), True := fun _ => trivial
      refine ⟨_, rfl, a, _, _, _, rfl, rfl, SqT.of ha2, rfl, rfl, _, rfl, if_D (fun c1 => ?_) (fun _ => ?_)⟩
      · refine ⟨_, rfl, _, _, rfl, rfl, _, rfl, if_D (fun _ => ?_) (fun _ => ?_)⟩
        · refine ⟨_, rfl, .inl ⟨rfl, _, SqL.of hD2⟩, _, rfl, a, _, _, _, rfl, rfl, SqT.of ha2, rfl, _, rfl, a, _, _, _, rfl, rfl, SqT.of ha2, rfl, _, rfl, a, _, _, _, rfl, rfl, SqT.of ha2, rfl, _, rfl, (by show 4 ≤ sizeLine; decide), fun t9 n9 => ⟨D, xs, _, rfl, rfl, (ext1 n9) _ _ hD2, lt1000 (by omega), ?_⟩⟩
          obtain ⟨f1, f2, f3, f4⟩ := fin t9 _ n9 (.inl ⟨rfl, by injection c1⟩)
          exact ⟨f1, _, _, _, rfl, f2, f3, f4⟩
        · refine ⟨_, rfl, .inl ⟨rfl, _, SqL.of hD2⟩, _, rfl, a, _, _, _, rfl, rfl, SqT.of ha2, rfl, _, rfl, a, _, _, _, rfl, rfl, SqT.of ha2, rfl, _, rfl, a, _, _, _, rfl, rfl, SqT.of ha2, rfl, _, rfl, _, rfl, a, _, _, _, rfl, rfl, SqT.of ha2, rfl, (by show 5 ≤ sizeLine; decide), fun t9 n9 => ⟨D, xs, _, rfl, rfl, (ext1 n9) _ _ hD2, lt1000 (by omega), ?_⟩⟩
          obtain ⟨f1, f2, f3, f4⟩ := fin t9 _ n9 (.inr rfl)
          exact ⟨f1, _, _, _, rfl, f2, f3, f4⟩
      · refine ⟨_, rfl, .inl ⟨rfl, _, SqL.of hD2⟩, _, rfl, a, _, _, _, rfl, rfl, SqT.of ha2, rfl, _, rfl, a, _, _, _, rfl, rfl, SqT.of ha2, rfl, _, rfl, a, _, _, _, rfl, rfl, SqT.of ha2, rfl, _, rfl, _, rfl, a, _, _, _, rfl, rfl, SqT.of ha2, rfl, (by show 5 ≤ sizeLine; decide), fun t9 n9 => ⟨D, xs, _, rfl, rfl, (ext1 n9) _ _ hD2, lt1000 (by omega), ?_⟩⟩
        obtain ⟨f1, f2, f3, f4⟩ := fin t9 _ n9 (.inr rfl)
        exact ⟨f1, _, _, _, rfl, f2, f3, f4⟩
    · rintro σ H1 ⟨e1, xs, z3, z4, rfl, hD, hxl, hx⟩
      rw [List.take_of_length_le (by rw [h4.1]; exact Nat.le_refl _)] at hx
      dsimp only
      refine tseq_of (t := tAsg (tLc _ _ _ _ _) (gName 5)) ?_
      refine tasg_of ?_
      refine tlc_X (R := EarN A) (ys := tips) (H1 := H1) (by rw [← h6.1]; exact walk_S (K := K) (k := true) (a := tl) (xs := txs)) (fun R r' => ⟨_, rfl, t, _, _, _, rfl, rfl, SqT.of (e1 _ _ h1), rfl, true, tl, txs, rfl, SqL.of (e1 _ _ h5), r'⟩) moEarN (big1000 (by have := hc.e4; omega)) (fun H2 e => SqL.of (e _ _ (e1 _ _ h5))) ?_ gm_name fun E1 es H2 nE e2 hE he => ?_
      · rintro i x _ H2 tp htp e ⟨rfl, hxi⟩ Qy kk
        obtain ⟨a, s, rfl, ha, hs⟩ := h6.2 i x tp hxi htp
        have rc := hc.e tp (List.mem_of_getElem? htp)
        have ee := e1.trans e
        refine ⟨rfl, _, rfl, a, _, _, _, rfl, rfl, SqT.of (ee _ _ ha), rfl, _, rfl, a, _, _, _, rfl, rfl, SqT.of (ee _ _ ha), rfl, (by show 1 ≤ sizeLine; decide), fun l nl => ?_⟩
        refine ⟨_, rfl, _, _, rfl, rfl, l, [s], [tp.z], way + 1, rfl, upd_same, .cons ((hs.ext ee).ext (ext1 nl)) .nil, fun y hy => by rw [List.mem_singleton.mp hy]; exact Ok3.of rc.z.ok, (by show 1 ≤ 900; decide), fun G gs H3 nG e3 hG' hg => ?_⟩
        obtain ⟨g, hg0, hgv⟩ := hg.get (i := 0) (y := tp.z) rfl
        exact ⟨G, gs, _, g, rfl, rfl, SqL.of hG', atI_nat (j := 0) hg0, (by show 2 ≤ sizeLine; decide), fun t9 n9 => kk _ _ (((ext1 nl).trans e3).trans (ext1 n9)) ⟨t9, g, rfl, upd_same, hgv.ext (ext1 n9)⟩⟩
      · have e12 := e1.trans e2
        refine ⟨_, rfl, t, _, _, _, rfl, rfl, SqT.of (e12 _ _ h1), rfl, jl, _, rfl, .inl (SqL.of (e12 _ _ h2)), fun J nJ => ?_⟩
        have e3 := ext1 (o := .lst (bs.map kV_)) nJ
        refine ⟨_, rfl, _, rfl, fun x dx nx ndx nxd => ?_⟩
        have e4 : Ext (upd H2 J (.lst (bs.map kV_))) (upd (upd (upd H2 J (.lst (bs.map kV_))) dx (.own x)) x (.ins CW dx [])) := fun b u hb => by rw [upd_ne (ne_of_none hb nx), upd_ne (ne_of_none hb ndx)]; exact hb
        have hJ := e4 _ _ (upd_same (H := H2) (a := J) (o := .lst (bs.map kV_)))
        have e34 := e3.trans e4
        have hx0 : (upd (upd (upd H2 J (.lst (bs.map kV_))) dx (.own x)) x (.ins CW dx [])) x = some (.ins CW dx []) := upd_same
        have nx0 : H x = none := ext_none (e12.trans e3) nx
        generalize (upd (upd (upd H2 J (.lst (bs.map kV_))) dx (.own x)) x (.ins CW dx [])) = H4 at hJ e34 hx0
        have e04 : Ext H H4 := e12.trans e34
        exact ⟨x, dx, J, _, true, D, xs, true, E1, es, theWeb bs rods tips, rfl, hx0, SqL.of hJ, kinds_all, SqL.of (e34 _ _ (e2 _ _ hD)), (hx.ext moRodP e2).ext moRodP e34, SqL.of (e34 _ _ hE), he.ext moEarN e34, hc.n8, hc.m8, hc.e4, fun y hy => (hc.r y hy).ok, fun y hy => (hc.e y hy).ok, by rw [cells_theWeb]; have := hc.c; omega, fun H5 k5 hw5 => ⟨rfl, q x H5 nx0 (fun b o hb => k5 b o (e04 b o hb) (ne_of_none hb nx0)) hw5⟩⟩
end
end Fx

set_option Elab.async false
set_option linter.all false
set_option maxRecDepth 100000
set_option maxHeartbeats 4000000
set_option exponentiation.threshold 20000
namespace Fx
open PySem PySem.Spec PyProof.Rows L2 FM KM
/-! ### filling totals -/
theorem eqv_pD {r s : Rat} (h : PyData.eqv (pD r) (pD s) = true) : r = s := by
  unfold pD at h
  simp [PyData.eqv, PyData.eqvAll] at h
  exact Rat.ext h.1 (by omega)
theorem rat_div (r s : Rat) (h : 0 < s) : ((r.num * (s.den : Int) : Int) : Rat) / (((r.den : Int) * s.num : Int) : Rat) = r / s := by
  have e1 := rat_self r
  have e2 := rat_self s
  have d1 : (((r.den : Nat) : Int) : Rat) ≠ 0 := by have := den_pos r; intro z; have : ((r.den : Nat) : Int) = 0 := by exact_mod_cast z
                                                    omega
  have d2 : (((s.den : Nat) : Int) : Rat) ≠ 0 := by have := den_pos s; intro z; have : ((s.den : Nat) : Int) = 0 := by exact_mod_cast z
                                                    omega
  have sn := Rat.ne_of_gt h
  have n2 : ((s.num : Int) : Rat) ≠ 0 := by
    intro z
    rw [z] at e2
    apply sn
    rw [← e2]
    grind
  have e3 : r / s = ((r.num : Int) : Rat) / (((r.den : Nat) : Int) : Rat) / (((s.num : Int) : Rat) / (((s.den : Nat) : Int) : Rat)) := by rw [e1, e2]
  rw [e3, Rat.intCast_mul, Rat.intCast_mul]
  grind
theorem All2.set {β : Type} {R : V → β → Hp → Prop} {xs : List V} {ys : List β} {H : Hp} (h : All2 R xs ys H) {i : Nat} {x : V} {y : β} (hy : R x y H) : All2 R (xs.set i x) (ys.set i y) H := by
  refine ⟨by rw [List.length_set, List.length_set]; exact h.1, fun j a b ha hb => ?_⟩
  by_cases e : i = j
  · subst e
    have l1 := (List.getElem?_eq_some_iff.mp ha).1
    have l2 := (List.getElem?_eq_some_iff.mp hb).1
    rw [List.length_set] at l1 l2
    rw [List.getElem?_set_self l1] at ha
    rw [List.getElem?_set_self l2] at hb
    cases ha; cases hb
    exact hy
  · rw [List.getElem?_set_ne e] at ha
    rw [List.getElem?_set_ne e] at hb
    exact h.2 j a b ha hb
theorem ixN_nat {n i : Nat} (h : i < n) : ixN n (i : Int) = some i := by
  unfold ixN
  rw [if_pos (by omega), if_pos (by omega)]
  rfl
/-- totals, the first i of which are new -/
def midL (n : Nat) (f g : Nat → Rat) (i : Nat) : List Rat := (List.range n).map fun k => if k < i then g k else f k
theorem mid_len {n : Nat} {f g : Nat → Rat} {i : Nat} : (midL n f g i).length = n := by unfold midL; simp
theorem mid_at {n : Nat} {f g : Nat → Rat} {i k : Nat} (h : k < n) : (midL n f g i)[k]? = some (if k < i then g k else f k) := by
  unfold midL
  rw [List.getElem?_map, List.getElem?_range h]
  rfl
theorem mid_set {n : Nat} {f g : Nat → Rat} {i : Nat} : (midL n f g i).set i (g i) = midL n f g (i + 1) := by
  refine List.ext_getElem? fun k => ?_
  by_cases hk : k < n
  · by_cases e : i = k
    · subst e
      rw [List.getElem?_set_self (by rw [mid_len]; exact hk), mid_at hk, if_pos (by omega)]
    · rw [List.getElem?_set_ne e, mid_at hk, mid_at hk]
      by_cases c : k < i
      · rw [if_pos c, if_pos (by omega)]
      · rw [if_neg c, if_neg (by omega)]
  · rw [List.getElem?_eq_none (by rw [List.length_set, mid_len]; omega), List.getElem?_eq_none (by rw [mid_len]; omega)]
theorem mid_same {n : Nat} {f g : Nat → Rat} {i : Nat} (h : g i = f i) : midL n f g i = midL n f g (i + 1) := by
  unfold midL
  refine List.map_congr_left fun k _ => ?_
  by_cases c : k < i
  · rw [if_pos c, if_pos (by omega)]
  · by_cases e : k = i
    · subst e; rw [if_neg c, if_pos (by omega), h]
    · rw [if_neg c, if_neg (by omega)]
theorem mid_zero {n : Nat} {f g : Nat → Rat} : midL n f g 0 = (List.range n).map f := by
  unfold midL
  exact List.map_congr_left fun k _ => if_neg (by omega)
theorem mid_full {n : Nat} {f g : Nat → Rat} : midL n f g n = (List.range n).map g := by
  unfold midL
  exact List.map_congr_left fun k hk => if_pos (List.mem_range.mp hk)
/-- what comes to one total -/
def more (ws rs : List Rat) (zz : Rat) (f : Nat → Rat) (k : Nat) : Rat := f k + gt ws k * (gt rs k * gt rs k) / zz
structure FSz (n : Nat) (f : Nat → Rat) (ws rs : List Rat) (zz : Rat) : Prop where
  n1 : n ≤ 100
  wl : ws.length = n
  rl : rs.length = n
  zp : 0 < zz
  zz : Rep 12 108 zz ∧ Rep 1260 5040 (1 / zz)
  ws : ∀ z ∈ ws, Rep 12 108 z
  rs : ∃ D M : Nat, 0 < D ∧ D < 2 ^ 1000 ∧ M < 2 ^ 1000 ∧ ∀ y ∈ rs, Rep D M y
  tot : ∀ k, k < n → Ok3 (f k)
theorem sm12 : (12 : Nat) < 2 ^ 4 := by decide
theorem sm108 : (108 : Nat) < 2 ^ 7 := by decide
theorem sm1260 : (1260 : Nat) < 2 ^ 11 := by decide
theorem sm5040 : (5040 : Nat) < 2 ^ 13 := by decide
theorem gt_mem {xs : List Rat} {k : Nat} (h : k < xs.length) : gt xs k ∈ xs ∧ xs[k]? = some (gt xs k) := by
  have e : xs[k]? = some (gt xs k) := by
    unfold gt
    rw [List.getElem?_eq_getElem h]
    rfl
  exact ⟨List.mem_of_getElem? e, e⟩
theorem div_one (a z : Rat) : a / z = a * (1 / z) := by grind
theorem FSz.ok {n : Nat} {f : Nat → Rat} {ws rs : List Rat} {zz : Rat} (s : FSz n f ws rs zz) {k : Nat} (hk : k < n) : Ok3 (gt ws k) ∧ Ok3 (gt rs k) ∧ Ok3 (gt rs k * gt rs k) ∧ Ok3 (gt ws k * (gt rs k * gt rs k)) ∧ Ok3 zz ∧ Ok3 (gt ws k * (gt rs k * gt rs k) / zz) := by
  obtain ⟨D, M, d0, d1, m1, r⟩ := s.rs
  have w1 := s.ws _ (gt_mem (by rw [s.wl]; exact hk)).1
  have r1 := r _ (gt_mem (by rw [s.rl]; exact hk)).1
  have r2 := r1.mulR r1
  have r3 := w1.mulR r2
  have r4 := r3.mulR s.zz.2
  have dd := Nat.mul_pos d0 d0
  have d2 : D * D < 2 ^ 2000 := pow_mul d1 d1 (by decide)
  have m2 : M * M < 2 ^ 2000 := pow_mul m1 m1 (by decide)
  refine ⟨Ok3.of (ok4_rep w1 (by decide) (pow_le sm12 (by decide)) (pow_le sm108 (by decide))), Ok3.of (ok4_rep r1 d0 (pow_le d1 (by decide)) (pow_le m1 (by decide))), Ok3.of (ok4_rep r2 dd (pow_le d2 (by decide)) (pow_le m2 (by decide))), Ok3.of (ok4_rep r3 (Nat.mul_pos (by decide) dd) (pow_mul sm12 d2 (by decide)) (pow_mul sm108 m2 (by decide))), Ok3.of (ok4_rep s.zz.1 (by decide) (pow_le sm12 (by decide)) (pow_le sm108 (by decide))), ?_⟩
  rw [div_one]
  exact Ok3.of (ok4_rep r4 (Nat.mul_pos (Nat.mul_pos (by decide) dd) (by decide)) (pow_mul (i := 2004) (pow_mul sm12 d2 (Nat.le_refl _)) sm1260 (by decide)) (pow_mul (i := 2007) (pow_mul sm108 m2 (Nat.le_refl _)) sm5040 (by decide)))
theorem FSz.ok4 {n : Nat} {f : Nat → Rat} {ws rs : List Rat} {zz : Rat} (s : FSz n f ws rs zz) : ∀ r ∈ rs, Ok4 r := by
  obtain ⟨D, M, d0, d1, m1, r⟩ := s.rs
  exact fun y hy => ok4_rep (r y hy) d0 (pow_le d1 (by decide)) (pow_le m1 (by decide))
section
variable {P : Program} {w : World} {K : PySem.W.Frag} {mg : Str → Option Value} {base : Heap} {A : Adr}
end
end Fx

set_option linter.all false
set_option maxRecDepth 100000
/-! Least walks: relaxing all edges as often as there are places. -/
namespace KM
namespace Gr
abbrev Ed := Nat × Nat × Nat
variable {E : List Ed} {s : Nat}
inductive Rch (E : List Ed) (s : Nat) : Nat → Nat → Prop
  | zero : Rch E s s 0
  | step {x y l a : Nat} : Rch E s x a → (x, y, l) ∈ E → Rch E s y (a + l)
def Mn (E : List Ed) (s x d : Nat) : Prop := Rch E s x d ∧ ∀ a, Rch E s x a → d ≤ a
theorem Mn.uniq {x d d' : Nat} (h : Mn E s x d) (h' : Mn E s x d') : d = d' := Nat.le_antisymm (h.2 _ h'.1) (h'.2 _ h.1)
theorem Rch.mono {E' : List Ed} (he : ∀ e ∈ E, e ∈ E') {x a : Nat} (h : Rch E s x a) : Rch E' s x a := by
  induction h with
  | zero => exact .zero
  | step _ m ih => exact .step ih (he _ m)
theorem least_of {P : Nat → Prop} : ∀ n, P n → ∃ d, P d ∧ ∀ a, P a → d ≤ a := by
  intro n
  induction n using Nat.strongRecOn with
  | ind n ih =>
    intro hn
    by_cases h : ∃ m, m < n ∧ P m
    · obtain ⟨m, hm, pm⟩ := h
      exact ih m hm pm
    · exact ⟨n, hn, fun a ha => Nat.le_of_not_lt fun hlt => h ⟨a, hlt, ha⟩⟩
theorem Rch.mn {x a : Nat} (h : Rch E s x a) : ∃ d, Mn E s x d := least_of a h
abbrev Vs := Nat → Option Nat
def less (b : Option Nat) (c : Nat) : Option Nat := match b with
  | none => some c
  | some b => if c < b then some c else some b
def relax (f : Vs) (e : Ed) : Vs := match f e.1 with
  | none => f
  | some a => fun z => if z = e.2.1 then less (f z) (a + e.2.2) else f z
def pass (E : List Ed) (f : Vs) : Vs := E.foldl relax f
def start (s : Nat) : Vs := fun z => if z = s then some 0 else none
def runs (E : List Ed) (s : Nat) : Nat → Vs
  | 0 => start s
  | k + 1 => pass E (runs E s k)
def Sound (E : List Ed) (s : Nat) (f : Vs) : Prop := ∀ x a, f x = some a → Rch E s x a
theorem relax_sound {f : Vs} {e : Ed} (h : Sound E s f) (m : e ∈ E) : Sound E s (relax f e) := fun x a hx => by
  unfold relax at hx
  cases q : f e.1 with
  | none => rw [q] at hx; exact h x a hx
  | some b =>
    rw [q] at hx
    dsimp only at hx
    by_cases z : x = e.2.1
    · rw [if_pos z] at hx
      have st : Rch E s x (b + e.2.2) := by rw [z]; exact .step (h _ _ q) m
      unfold less at hx
      cases q2 : f x with
      | none => rw [q2] at hx; dsimp only at hx; cases hx; exact st
      | some c =>
        rw [q2] at hx
        dsimp only at hx
        split at hx
        · cases hx; exact st
        · cases hx; exact h x _ q2
    · rw [if_neg z] at hx
      exact h x a hx
theorem relax_keeps {f : Vs} {e : Ed} (h : Sound E s f) (m : e ∈ E) {x d : Nat} (hd : Mn E s x d) (hx : f x = some d) : relax f e x = some d := by
  have so := relax_sound h m
  unfold relax
  cases q : f e.1 with
  | none => exact hx
  | some b =>
    dsimp only
    by_cases z : x = e.2.1
    · rw [if_pos z, hx]
      unfold less
      dsimp only
      have : d ≤ b + e.2.2 := hd.2 _ (by rw [z]; exact .step (h _ _ q) m)
      rw [if_neg (by omega)]
    · rw [if_neg z]; exact hx
theorem relax_hits {f : Vs} {e : Ed} (h : Sound E s f) (m : e ∈ E) {a : Nat} (ha : f e.1 = some a) (hd : Mn E s e.2.1 (a + e.2.2)) : relax f e e.2.1 = some (a + e.2.2) := by
  unfold relax
  rw [ha]
  dsimp only
  rw [if_pos rfl]
  unfold less
  cases q : f e.2.1 with
  | none => rfl
  | some c =>
    dsimp only
    have := hd.2 _ (h _ _ q)
    split
    · rfl
    · rw [show c = a + e.2.2 by omega]
theorem fold_sound : ∀ (es : List Ed) {f : Vs}, (∀ e ∈ es, e ∈ E) → Sound E s f → Sound E s (es.foldl relax f)
  | [], _, _, h => h
  | e :: es, f, m, h => fold_sound es (fun e' he => m e' (List.mem_cons_of_mem _ he)) (relax_sound h (m e (List.mem_cons_self ..)))
theorem fold_keeps {x d : Nat} (hd : Mn E s x d) : ∀ (es : List Ed) {f : Vs}, (∀ e ∈ es, e ∈ E) → Sound E s f → f x = some d → es.foldl relax f x = some d
  | [], _, _, _, h => h
  | e :: es, f, m, so, h => fold_keeps hd es (fun e' he => m e' (List.mem_cons_of_mem _ he)) (relax_sound so (m e (List.mem_cons_self ..))) (relax_keeps so (m e (List.mem_cons_self ..)) hd h)
theorem fold_hits {x y l a : Nat} (hy : Mn E s y a) (hx : Mn E s x (a + l)) : ∀ (es : List Ed) {f : Vs}, (∀ e ∈ es, e ∈ E) → Sound E s f → f y = some a → (y, x, l) ∈ es → es.foldl relax f x = some (a + l)
  | [], _, _, _, _, h => by cases h
  | e :: es, f, m, so, hf, h => by
    have me := m e (List.mem_cons_self ..)
    have ms : ∀ e' ∈ es, e' ∈ E := fun e' he => m e' (List.mem_cons_of_mem _ he)
    rcases List.mem_cons.mp h with rfl | h
    · exact fold_keeps hx es ms (relax_sound so me) (relax_hits so me hf hx)
    · exact fold_hits hy hx es ms (relax_sound so me) (relax_keeps so me hy hf) h
theorem start_sound : Sound E s (start s) := fun x a h => by
  unfold start at h
  split at h
  · cases h
    subst_vars
    exact .zero
  · cases h
theorem runs_sound : ∀ k, Sound E s (runs E s k)
  | 0 => start_sound
  | k + 1 => fold_sound E (fun _ h => h) (runs_sound k)
/-! how many places are nearer -/
open Classical in
noncomputable def cnt (E : List Ed) (s V d : Nat) : Nat := (List.range V).countP fun z => decide (∃ a, a < d ∧ Rch E s z a)
theorem countP_le' {α : Type} {p q : α → Bool} : ∀ {l : List α}, (∀ x ∈ l, p x = true → q x = true) → l.countP p ≤ l.countP q
  | [], _ => Nat.le_refl _
  | x :: l, h => by
    have ih := countP_le' (p := p) (q := q) (l := l) fun y hy => h y (List.mem_cons_of_mem _ hy)
    rw [List.countP_cons, List.countP_cons]
    have h1 := h x (List.mem_cons_self ..)
    cases hp : p x with
    | false => simp; omega
    | true => rw [h1 hp]; simp; omega
theorem countP_or {α : Type} {p q r : α → Bool} (h : ∀ x, p x = true → q x = true ∨ r x = true) : ∀ l : List α, l.countP p ≤ l.countP q + l.countP r
  | [] => Nat.le_refl _
  | x :: l => by
    have ih := countP_or h l
    rw [List.countP_cons, List.countP_cons, List.countP_cons]
    have h1 := h x
    cases hp : p x with
    | false => simp; omega
    | true =>
      rcases h1 hp with h2 | h2
      · rw [h2]; simp; omega
      · rw [h2]; simp; omega
theorem countP_lt' {α : Type} {p q : α → Bool} {y : α} : ∀ {l : List α}, (∀ x ∈ l, p x = true → q x = true) → y ∈ l → q y = true → p y = false → l.countP p < l.countP q
  | [], _, hy, _, _ => by cases hy
  | x :: l, h, hy, hq, hp => by
    have hs : ∀ z ∈ l, p z = true → q z = true := fun z hz => h z (List.mem_cons_of_mem _ hz)
    have i0 := countP_le' hs
    rw [List.countP_cons, List.countP_cons]
    have h1 := h x (List.mem_cons_self ..)
    rcases List.mem_cons.mp hy with rfl | hy
    · rw [hq, hp]; simp; omega
    · have ih := countP_lt' hs hy hq hp
      cases hp' : p x with
      | false => simp; omega
      | true => rw [h1 hp']; simp; omega
theorem cnt_lt {V a d y : Nat} (hy : y < V) (h : Mn E s y a) (had : a < d) : cnt E s V a < cnt E s V d := by
  classical
  unfold cnt
  refine countP_lt' (y := y) (fun x _ hx => ?_) (List.mem_range.mpr hy) ?_ ?_
  · obtain ⟨b, h1, h2⟩ := of_decide_eq_true hx
    exact decide_eq_true ⟨b, by omega, h2⟩
  · exact decide_eq_true ⟨a, had, h.1⟩
  · refine decide_eq_false fun ⟨b, h1, h2⟩ => ?_
    have := h.2 b h2
    omega
theorem cnt_le {V d : Nat} : cnt E s V d ≤ V := by
  unfold cnt
  exact Nat.le_trans List.countP_le_length (by simp)
structure Fine (E : List Ed) (s V : Nat) : Prop where
  s : s < V
  e : ∀ e ∈ E, e.1 < V ∧ e.2.1 < V ∧ 0 < e.2.2
theorem Fine.lt {V : Nat} (f : Fine E s V) {x a : Nat} (h : Rch E s x a) : x < V := by
  cases h with
  | zero => exact f.s
  | step _ m => exact (f.e _ m).2.1
theorem Mn.prev {V : Nat} (f : Fine E s V) {x d : Nat} (h : Mn E s x d) : (x = s ∧ d = 0) ∨ ∃ y l a, (y, x, l) ∈ E ∧ Mn E s y a ∧ d = a + l ∧ 0 < l := by
  obtain ⟨h1, h2⟩ := h
  cases h1 with
  | zero => exact .inl ⟨rfl, rfl⟩
  | @step y _ l a r m =>
    refine .inr ⟨y, l, a, m, ⟨r, fun b hb => ?_⟩, rfl, (f.e _ m).2.2⟩
    have := h2 _ (.step hb m)
    omega
open Classical in
theorem settled {V : Nat} (f : Fine E s V) : ∀ k x d, Mn E s x d → cnt E s V d ≤ k → runs E s k x = some d := by
  intro k
  induction k with
  | zero =>
    intro x d h hc
    rcases h.prev f with ⟨e1, e2⟩ | ⟨y, l, a, m, hy, e, l0⟩
    · unfold runs start; rw [if_pos e1, e2]
    · have := cnt_lt (f.lt hy.1) hy (show a < d by omega)
      omega
  | succ k ih =>
    intro x d h hc
    rcases h.prev f with ⟨e1, e2⟩ | ⟨y, l, a, m, hy, e, l0⟩
    · refine fold_keeps h E (fun _ h => h) (runs_sound k) (ih x d h ?_)
      have : cnt E s V d = 0 := by
        unfold cnt
        rw [List.countP_eq_zero]
        intro z _ hz
        have hz' := of_decide_eq_true hz
        obtain ⟨b, hb, _⟩ := hz'
        omega
      omega
    · have := cnt_lt (f.lt hy.1) hy (show a < d by omega)
      subst e
      exact fold_hits hy h E (fun _ h => h) (runs_sound k) (ih y a hy (by omega)) m
/-- what stands at the end -/
theorem runs_end {V k x : Nat} (f : Fine E s V) (hk : V ≤ k) : (∀ d, runs E s k x = some d ↔ Mn E s x d) ∧ (runs E s k x = none ↔ ∀ a, ¬ Rch E s x a) := by
  have h1 : ∀ d, Mn E s x d → runs E s k x = some d := fun d h => settled f k x d h (Nat.le_trans cnt_le hk)
  refine ⟨fun d => ⟨fun h => ?_, h1 d⟩, fun h a r => ?_, fun h => ?_⟩
  · obtain ⟨d', hd'⟩ := (runs_sound k x d h).mn
    have := h1 d' hd'
    rw [h] at this
    cases this
    exact hd'
  · obtain ⟨d', hd'⟩ := r.mn
    rw [h1 d' hd'] at h
    cases h
  · cases q : runs E s k x with
    | none => rfl
    | some d => exact absurd (runs_sound k x d q) (h d)
theorem runs_same {E' : List Ed} {V k k' x : Nat} (f : Fine E s V) (f' : Fine E' s V) (h1 : ∀ e ∈ E, e ∈ E') (h2 : ∀ e ∈ E', e ∈ E) (hk : V ≤ k) (hk' : V ≤ k') : runs E s k x = runs E' s k' x := by
  have r := runs_end (x := x) f hk
  have r' := runs_end (x := x) f' hk'
  have iff : ∀ a, Rch E s x a ↔ Rch E' s x a := fun a => ⟨fun h => h.mono h1, fun h => h.mono h2⟩
  cases q : runs E' s k' x with
  | none => exact r.2.mpr fun a h => r'.2.mp q a ((iff a).mp h)
  | some d =>
    obtain ⟨m1, m2⟩ := (r'.1 d).mp q
    exact (r.1 d).mpr ⟨(iff d).mpr m1, fun a h => m2 a ((iff a).mp h)⟩
/-! how far: every length is crossed by some edge -/
theorem crossed {V : Nat} (f : Fine E s V) {h : Nat} : ∀ d x, Mn E s x d → h < d → ∃ y z l a b, (y, z, l) ∈ E ∧ Mn E s y a ∧ Mn E s z b ∧ a ≤ h ∧ h < b ∧ b ≤ a + l := by
  intro d
  induction d using Nat.strongRecOn with
  | ind d ih =>
    intro x hx hd
    rcases hx.prev f with ⟨rfl, rfl⟩ | ⟨y, l, a, m, hy, e, l0⟩
    · omega
    · by_cases c : a ≤ h
      · exact ⟨y, x, l, a, d, m, hy, hx, c, hd, by omega⟩
      · exact ih a (by omega) y hy (by omega)
theorem count_iv {lo l : Nat} {p : Nat → Bool} (hp : ∀ h, p h = true → lo ≤ h ∧ h < lo + l) : ∀ T, (List.range T).countP p ≤ T - lo ∧ (List.range T).countP p ≤ l
  | 0 => by simp
  | T + 1 => by
    have ih := count_iv hp T
    rw [List.range_succ, List.countP_append, List.countP_singleton]
    cases q : p T with
    | false => simp; omega
    | true =>
      have := hp T q
      simp
      omega
open Classical in
theorem count_cov {α : Type} {c : α → Nat → Prop} {len : α → Nat} : ∀ (U : List α) T, (∀ e ∈ U, ∃ lo, ∀ h, c e h → lo ≤ h ∧ h < lo + len e) → (List.range T).countP (fun h => decide (∃ e ∈ U, c e h)) ≤ (U.map len).sum
  | [], T, _ => by
    rw [List.map_nil, List.sum_nil, Nat.le_zero, List.countP_eq_zero]
    intro z _ hz
    obtain ⟨e, he, _⟩ := of_decide_eq_true hz
    cases he
  | e :: U, T, hc => by
    have ih := count_cov (c := c) (len := len) U T fun e' h => hc e' (List.mem_cons_of_mem _ h)
    obtain ⟨lo, hlo⟩ := hc e (List.mem_cons_self ..)
    have h1 := (count_iv (p := fun h => decide (c e h)) (lo := lo) (l := len e) (fun h hh => hlo h (of_decide_eq_true hh)) T).2
    have key := countP_or (p := fun h => decide (∃ e' ∈ e :: U, c e' h)) (q := fun h => decide (c e h)) (r := fun h => decide (∃ e' ∈ U, c e' h)) (fun z hz => by
      obtain ⟨e', he', q'⟩ := of_decide_eq_true hz
      rcases List.mem_cons.mp he' with rfl | he'
      · exact .inl (decide_eq_true q')
      · exact .inr (decide_eq_true ⟨e', he', q'⟩)) (List.range T)
    rw [List.map_cons, List.sum_cons]
    omega
/-- no place is farther than all edges together -/
theorem far_le {α : Type} {V : Nat} (f : Fine E s V) {U : List α} {len : α → Nat} {X Y : α → Nat} (hU : ∀ e ∈ E, ∃ u ∈ U, len u = e.2.2 ∧ ((e.1 = X u ∧ e.2.1 = Y u) ∨ (e.1 = Y u ∧ e.2.1 = X u))) (hV : ∀ u ∈ U, (X u, Y u, len u) ∈ E ∧ (Y u, X u, len u) ∈ E) {x d : Nat} (h : Mn E s x d) : d ≤ (U.map len).sum := by
  classical
  have hc := count_cov (c := fun u h => ∃ a b, Mn E s (X u) a ∧ Mn E s (Y u) b ∧ ((a ≤ h ∧ h < b) ∨ (b ≤ h ∧ h < a))) (len := len) U d fun u hu => by
    by_cases q : ∃ a b, Mn E s (X u) a ∧ Mn E s (Y u) b
    · obtain ⟨a, b, ha, hb⟩ := q
      refine ⟨min a b, fun h ⟨a', b', ha', hb', c⟩ => ?_⟩
      cases ha.uniq ha'
      cases hb.uniq hb'
      have e1 := hb.2 _ (.step ha.1 (hV u hu).1)
      have e2 := ha.2 _ (.step hb.1 (hV u hu).2)
      omega
    · exact ⟨0, fun h ⟨a', b', ha', hb', c⟩ => absurd ⟨a', b', ha', hb'⟩ q⟩
  refine Nat.le_trans (Nat.le_of_eq ?_) hc
  have : (List.range d).countP (fun h => decide (∃ u ∈ U, ∃ a b, Mn E s (X u) a ∧ Mn E s (Y u) b ∧ ((a ≤ h ∧ h < b) ∨ (b ≤ h ∧ h < a)))) = (List.range d).length := by
    rw [List.countP_eq_length]
    intro g hg
    refine decide_eq_true ?_
    obtain ⟨y, z, l, a, b, m, hy, hz, h1, h2, h3⟩ := crossed f d x h (List.mem_range.mp hg)
    obtain ⟨u, hu, e1, e2 | e2⟩ := hU _ m
    · refine ⟨u, hu, a, b, ?_, ?_, .inl ⟨h1, h2⟩⟩
      · rw [← e2.1]; exact hy
      · rw [← e2.2]; exact hz
    · refine ⟨u, hu, b, a, ?_, ?_, .inr ⟨h1, h2⟩⟩
      · rw [← e2.2]; exact hz
      · rw [← e2.1]; exact hy
  rw [this, List.length_range]
end Gr
end KM

set_option linter.all false
set_option exponentiation.threshold 20000
set_option maxRecDepth 100000
/-! A tick by stores: arms come from places and go to places. -/
namespace KM
open FM
namespace WebD
variable {w : WebD}
def srcA (w : WebD) : Arm → Nat
  | (.st, i) => w.cellsTo i + 2 * (w.rod i).len - 1
  | (.en, i) => w.cellsTo i + (w.rod i).len - 1
  | (.ea, i) => w.cells + i
def dstA (w : WebD) : Arm → Nat
  | (.st, i) => w.cellsTo i
  | (.en, i) => w.cellsTo i + (w.rod i).len
  | (.ea, i) => w.cells + i
def twA (w : WebD) : Arm → Int
  | (.st, i) => (w.rod i).tw
  | (.en, i) => (w.rod i).tw
  | (.ea, _) => 1
theorem cellsTo_lt {i k : Nat} (h : i < k) (hk : k ≤ w.rods.length) : w.cellsTo i + 2 * (w.rod i).len ≤ w.cellsTo k := by
  have key : ∀ d, i + 1 + d ≤ k → w.cellsTo (i + 1) ≤ w.cellsTo (i + 1 + d) := by
    intro d
    induction d with
    | zero => intro _; exact Nat.le_refl _
    | succ d ih =>
      intro hd
      have e := cellsTo_succ (w := w) (i := i + 1 + d) (by omega)
      have := ih (by omega)
      rw [show i + 1 + (d + 1) = i + 1 + d + 1 by omega]
      omega
  have := key (k - (i + 1)) (by omega)
  rw [show i + 1 + (k - (i + 1)) = k by omega, cellsTo_succ (by omega)] at this
  exact this
theorem gt_app_l {x u : List Rat} {n : Nat} (h : n < x.length) : gt (x ++ u) n = gt x n := by
  unfold gt
  rw [List.getElem?_append_left h]
theorem gt_app_r {x u : List Rat} {n : Nat} : gt (x ++ u) (x.length + n) = gt u n := by
  unfold gt
  rw [List.getElem?_append_right (by omega), show x.length + n - x.length = n by omega]
theorem arr_src (ok : w.Ok) {x u : List Rat} (hx : x.length = w.cells) {a : Arm} (ha : w.IsArm a) : w.arr x u a = (w.twA a : Rat) * gt (x ++ u) (w.srcA a) := by
  obtain ⟨s, i⟩ := a
  cases s with
  | st =>
    have h1 := ok.len _ (rod_mem ha)
    have h2 := cellsTo_mono (w := w) ha
    rw [arr_st]
    show _ = ((w.rod i).tw : Rat) * gt (x ++ u) (w.cellsTo i + 2 * (w.rod i).len - 1)
    rw [gt_app_l (by omega)]
  | en =>
    have h1 := ok.len _ (rod_mem ha)
    have h2 := cellsTo_mono (w := w) ha
    rw [arr_en]
    show _ = ((w.rod i).tw : Rat) * gt (x ++ u) (w.cellsTo i + (w.rod i).len - 1)
    rw [gt_app_l (by omega)]
  | ea =>
    show _ = ((1 : Int) : Rat) * gt (x ++ u) (w.cells + i)
    rw [← hx, gt_app_r]
    show gt u i = ((1 : Int) : Rat) * gt u i
    rw [show ((1 : Int) : Rat) = 1 from rfl]
    grind
theorem src_lt (ok : w.Ok) {a : Arm} (ha : w.IsArm a) : w.srcA a < w.cells + w.ears.length := by
  obtain ⟨s, i⟩ := a
  cases s with
  | st => have h1 := ok.len _ (rod_mem ha); have h2 := cellsTo_mono (w := w) ha; show w.cellsTo i + 2 * (w.rod i).len - 1 < _; omega
  | en => have h1 := ok.len _ (rod_mem ha); have h2 := cellsTo_mono (w := w) ha; show w.cellsTo i + (w.rod i).len - 1 < _; omega
  | ea => have h3 : i < w.ears.length := ha; show w.cells + i < _; omega
theorem dst_lt (ok : w.Ok) {a : Arm} (ha : w.IsArm a) : w.dstA a < w.cells + w.ears.length := by
  obtain ⟨s, i⟩ := a
  cases s with
  | st => have h1 := ok.len _ (rod_mem ha); have h2 := cellsTo_mono (w := w) ha; show w.cellsTo i < _; omega
  | en => have h1 := ok.len _ (rod_mem ha); have h2 := cellsTo_mono (w := w) ha; show w.cellsTo i + (w.rod i).len < _; omega
  | ea => have h3 : i < w.ears.length := ha; show w.cells + i < _; omega
/-- where a place in the rods lies: the rod and the place in it, or an ear -/
theorem rod_of_place {i i' m m' : Nat} (hi : i < w.rods.length) (hi' : i' < w.rods.length) (hm : m < 2 * (w.rod i).len) (hm' : m' < 2 * (w.rod i').len) (e : w.cellsTo i + m = w.cellsTo i' + m') : i = i' ∧ m = m' := by
  rcases Nat.lt_trichotomy i i' with h | h | h
  · have := cellsTo_lt h (Nat.le_of_lt hi'); omega
  · subst h; exact ⟨rfl, by omega⟩
  · have := cellsTo_lt h (Nat.le_of_lt hi); omega
theorem dst_inj (ok : w.Ok) {a b : Arm} (ha : w.IsArm a) (hb : w.IsArm b) (e : w.dstA a = w.dstA b) : a = b := by
  obtain ⟨s, i⟩ := a
  obtain ⟨s', i'⟩ := b
  have rl : ∀ (s : Side) (i : Nat), s ≠ Side.ea → w.IsArm (s, i) → i < w.rods.length ∧ ∃ m, m < 2 * (w.rod i).len ∧ w.dstA (s, i) = w.cellsTo i + m ∧ (m = 0 ↔ s = Side.st) := fun s i hs h => by
    cases s with
    | st => have h1 := ok.len _ (rod_mem h); exact ⟨h, 0, by omega, rfl, by simp⟩
    | en => have h1 := ok.len _ (rod_mem h); exact ⟨h, (w.rod i).len, by omega, rfl, by simp; omega⟩
    | ea => exact absurd rfl hs
  by_cases hs : s = Side.ea
  · subst hs
    by_cases hs' : s' = Side.ea
    · subst hs'
      have : i = i' := by have e0 : w.cells + i = w.cells + i' := e; omega
      rw [this]
    · obtain ⟨h1, m, h2, h3, _⟩ := rl s' i' hs' hb
      have := cell_lt h1 h2
      rw [h3] at e
      have e0 : w.dstA (Side.ea, i) = w.cells + i := rfl
      omega
  · obtain ⟨h1, m, h2, h3, h4⟩ := rl s i hs ha
    by_cases hs' : s' = Side.ea
    · subst hs'
      have := cell_lt h1 h2
      rw [h3] at e
      have e0 : w.dstA (Side.ea, i') = w.cells + i' := rfl
      omega
    · obtain ⟨h1', m', h2', h3', h4'⟩ := rl s' i' hs' hb
      rw [h3, h3'] at e
      obtain ⟨rfl, rfl⟩ := rod_of_place h1 h1' h2 h2' e
      have : s = s' := by
        cases s <;> cases s' <;> first | rfl | exact absurd rfl hs | exact absurd rfl hs' | (exfalso; have := h4.mpr rfl; have := h4'.mp this; cases this) | (exfalso; have := h4'.mpr rfl; have := h4.mp this; cases this)
      rw [this]
/-- what stands in the new list ahead of the joints -/
def baseN (f : List Rat) (n : Nat) : Rat := if n = 0 then 0 else gt f (n - 1)
structure Stored (w : WebD) (x u : List Rat) (Done : Arm → Prop) (N : List Rat) : Prop where
  len : N.length = w.cells + w.ears.length
  did : ∀ a, w.IsArm a → Done a → gt N (w.dstA a) = w.lv x u a
  rest : ∀ n, n < w.cells + w.ears.length → (∀ a, w.IsArm a → Done a → w.dstA a ≠ n) → gt N n = baseN (x ++ u) n
theorem gt_set {N : List Rat} {k n : Nat} {y : Rat} (h : k < N.length) : gt (N.set k y) n = if k = n then y else gt N n := by
  unfold gt
  by_cases e : k = n
  · subst e
    rw [if_pos rfl, List.getElem?_set_self h]
    rfl
  · rw [if_neg e, List.getElem?_set_ne e]
theorem Stored.put (ok : w.Ok) {x u : List Rat} {Done Done' : Arm → Prop} {N : List Rat} (h : w.Stored x u Done N) {a : Arm} (ha : w.IsArm a) (hd : ∀ b, w.IsArm b → (Done' b ↔ Done b ∨ b = a)) : w.Stored x u Done' (N.set (w.dstA a) (w.lv x u a)) where
  len := by rw [List.length_set]; exact h.len
  did := fun b hb d => by
    rw [gt_set (by rw [h.len]; exact dst_lt ok ha)]
    by_cases e : w.dstA a = w.dstA b
    · rw [if_pos e, dst_inj ok ha hb e]
    · rw [if_neg e]
      rcases (hd b hb).mp d with q | q
      · exact h.did b hb q
      · exact absurd (by rw [q]) e
  rest := fun n hn q => by
    rw [gt_set (by rw [h.len]; exact dst_lt ok ha), if_neg (q a ha ((hd a ha).mpr (.inr rfl)))]
    exact h.rest n hn fun b hb d => q b hb ((hd b hb).mpr (.inl d))
theorem Stored.same {x u : List Rat} {Done Done' : Arm → Prop} {N : List Rat} (h : w.Stored x u Done N) (hd : ∀ b, w.IsArm b → (Done' b ↔ Done b)) : w.Stored x u Done' N where
  len := h.len
  did := fun b hb d => h.did b hb ((hd b hb).mp d)
  rest := fun n hn q => h.rest n hn fun b hb d => q b hb ((hd b hb).mpr d)
theorem list_gt {xs ys : List Rat} (h : xs.length = ys.length) (e : ∀ n, n < xs.length → gt xs n = gt ys n) : xs = ys := by
  refine List.ext_getElem h fun i h1 h2 => ?_
  have := e i h1
  unfold gt at this
  rw [List.getElem?_eq_getElem h1, List.getElem?_eq_getElem h2] at this
  exact this
theorem gt_take {xs : List Rat} {n k : Nat} (h : n < k) : gt (xs.take k) n = gt xs n := by
  unfold gt
  rw [List.getElem?_take_of_lt h]
theorem gt_drop {xs : List Rat} {n k : Nat} : gt (xs.drop k) n = gt xs (k + n) := by
  unfold gt
  rw [List.getElem?_drop]
/-- all arms stored: the new state and what is heard -/
theorem Stored.all (ok : w.Ok) {x u : List Rat} (hx : x.length = w.cells) {Done : Arm → Prop} {N : List Rat} (h : w.Stored x u Done N) (hd : ∀ a, w.IsArm a → Done a) : N.take w.cells = w.new x u ∧ N.drop w.cells = w.out x u := by
  refine ⟨list_gt (by rw [List.length_take, h.len, new_len ok hx]; omega) fun n hn => ?_, list_gt (by rw [List.length_drop, h.len]; unfold out; simp) fun n hn => ?_⟩
  · rw [List.length_take, h.len] at hn
    rw [gt_take (by omega)]
    obtain ⟨i, m, hi, hm, rfl⟩ := cell_of (w := w) w.rods.length n (Nat.le_refl _) (show n < w.cells by omega)
    have hl := ok.len _ (rod_mem hi)
    have hc : w.cellsTo i + 2 * (w.rod i).len ≤ x.length := by rw [hx]; exact cellsTo_mono hi
    rw [new_at ok hx hi hm]
    by_cases m0 : m = 0
    · subst m0
      rw [piece_0]
      exact h.did (.st, i) hi (hd _ hi)
    · by_cases ml : m = (w.rod i).len
      · subst ml
        rw [piece_l hl hc]
        exact h.did (.en, i) hi (hd _ hi)
      · have nd : ∀ a, w.IsArm a → Done a → w.dstA a ≠ w.cellsTo i + m := fun a ha _ e => by
          obtain ⟨s, k⟩ := a
          cases s with
          | st =>
            have e2 : w.cellsTo k + 0 = w.cellsTo i + m := e
            have := ok.len _ (rod_mem (w := w) ha)
            exact m0 (rod_of_place (w := w) ha hi (by omega) hm e2).2.symm
          | en =>
            have e2 : w.cellsTo k + (w.rod k).len = w.cellsTo i + m := e
            have := ok.len _ (rod_mem (w := w) ha)
            obtain ⟨q1, q2⟩ := rod_of_place (w := w) ha hi (by omega) hm e2
            subst q1
            exact ml q2.symm
          | ea =>
            have e2 : w.cells + k = w.cellsTo i + m := e
            have := cell_lt hi hm
            omega
        rw [h.rest _ (by have := cell_lt hi hm; omega) nd]
        unfold baseN
        rw [if_neg (by omega), gt_app_l (by have := cell_lt hi hm; omega)]
        by_cases c : m < (w.rod i).len
        · obtain ⟨q, rfl⟩ : ∃ q, m = q + 1 := ⟨m - 1, by omega⟩
          rw [piece_s (by omega) hc, show w.cellsTo i + (q + 1) - 1 = w.cellsTo i + q by omega]
        · obtain ⟨q, rfl⟩ : ∃ q, m = (w.rod i).len + q + 1 := ⟨m - (w.rod i).len - 1, by omega⟩
          rw [piece_ls hl hc (by omega), show w.cellsTo i + ((w.rod i).len + q + 1) - 1 = w.cellsTo i + (w.rod i).len + q by omega]
  · rw [List.length_drop, h.len] at hn
    rw [gt_drop]
    have hi : n < w.ears.length := by omega
    rw [gt_out hi]
    exact h.did (.ea, n) hi (hd _ hi)
end WebD
end KM

set_option linter.all false
set_option exponentiation.threshold 20000
set_option maxRecDepth 100000
/-! A web flipped: its tick back is its tick; what an ear hears of another. -/
namespace KM
open FM
namespace WebD
variable {w : WebD}
def flp (w : WebD) (y : List Rat) : List Rat := (List.range w.rods.length).flatMap fun i => (List.range (2 * (w.rod i).len)).map fun m => ((w.rod i).tw : Rat) * gt y (w.cellsTo i + (2 * (w.rod i).len - 1 - m))
theorem flp_len {y : List Rat} : (w.flp y).length = w.cells := flat_len (fun i _ => by simp) (Nat.le_refl _)
theorem flp_at {y : List Rat} {i m : Nat} (hi : i < w.rods.length) (hm : m < 2 * (w.rod i).len) : gt (w.flp y) (w.cellsTo i + m) = ((w.rod i).tw : Rat) * gt y (w.cellsTo i + (2 * (w.rod i).len - 1 - m)) := by
  unfold flp gt
  rw [flat_at (fun i _ => by simp) (Nat.le_refl _) hi hm, List.getElem?_map, List.getElem?_range hm]
  rfl
theorem tw_sq (ok : w.Ok) {i : Nat} (hi : i < w.rods.length) (r : Rat) : ((w.rod i).tw : Rat) * (((w.rod i).tw : Rat) * r) = r := by
  have e1 : ((1 : Int) : Rat) = 1 := rfl
  have e2 : ((-1 : Int) : Rat) = -1 := rfl
  rcases ok.tw _ (rod_mem hi) with h | h <;> rw [h]
  · rw [e1]; grind
  · rw [e2]; grind
theorem arr_flp (ok : w.Ok) {y v : List Rat} {a : Arm} (ha : w.IsArm a) : w.arr (w.flp y) v a = w.brr y v a := by
  obtain ⟨s, i⟩ := a
  cases s with
  | st =>
    have hi : i < w.rods.length := ha
    have hl := ok.len _ (rod_mem hi)
    show ((w.rod i).tw : Rat) * gt (w.flp y) (w.cellsTo i + 2 * (w.rod i).len - 1) = gt y (w.cellsTo i)
    rw [show w.cellsTo i + 2 * (w.rod i).len - 1 = w.cellsTo i + (2 * (w.rod i).len - 1) by omega, flp_at hi (by omega), tw_sq ok hi]
    congr 1
    omega
  | en =>
    have hi : i < w.rods.length := ha
    have hl := ok.len _ (rod_mem hi)
    show ((w.rod i).tw : Rat) * gt (w.flp y) (w.cellsTo i + (w.rod i).len - 1) = gt y (w.cellsTo i + (w.rod i).len)
    rw [show w.cellsTo i + (w.rod i).len - 1 = w.cellsTo i + ((w.rod i).len - 1) by omega, flp_at hi (by omega), tw_sq ok hi]
    congr 1
    omega
  | ea => rfl
theorem lv_flp (ok : w.Ok) {y v : List Rat} {a : Arm} (ha : w.IsArm a) : w.lv (w.flp y) v a = w.lvG (w.brr y v) a := by
  rw [lv_lvG]
  exact lvG_congr _ _ (fun b hb => arr_flp ok hb) ha
theorem out_flp (ok : w.Ok) {y v : List Rat} : w.out (w.flp y) v = w.bout y v := by
  unfold out bout
  refine List.map_congr_left fun i hi => ?_
  exact lv_flp ok (show i < w.ears.length from List.mem_range.mp hi)
theorem new_flp (ok : w.Ok) {y v : List Rat} (hy : y.length = w.cells) : w.new (w.flp y) v = w.flp (w.bnew y v) := by
  refine list_gt (by rw [new_len ok flp_len, flp_len]) fun n hn => ?_
  rw [new_len ok flp_len] at hn
  obtain ⟨i, m, hi, hm, rfl⟩ := cell_of (w := w) w.rods.length n (Nat.le_refl _) hn
  have hl := ok.len _ (rod_mem hi)
  have hc : w.cellsTo i + 2 * (w.rod i).len ≤ y.length := by rw [hy]; exact cellsTo_mono hi
  have hf : w.cellsTo i + 2 * (w.rod i).len ≤ (w.flp y).length := by rw [flp_len]; exact cellsTo_mono hi
  rw [new_at ok flp_len hi hm, flp_at hi hm, bnew_at ok hy hi (by omega)]
  by_cases m0 : m = 0
  · subst m0
    rw [piece_0, show 2 * (w.rod i).len - 1 - 0 = 2 * (w.rod i).len - 1 by omega, bpiece_ll hl hc, tw_sq ok hi]
    exact lv_flp ok (show i < w.rods.length from hi)
  · by_cases ml : m = (w.rod i).len
    · subst ml
      rw [piece_l hl hf, show 2 * (w.rod i).len - 1 - (w.rod i).len = (w.rod i).len - 1 by omega, bpiece_l hl hc, tw_sq ok hi]
      exact lv_flp ok (show i < w.rods.length from hi)
    · by_cases c : m < (w.rod i).len
      · obtain ⟨q, rfl⟩ : ∃ q, m = q + 1 := ⟨m - 1, by omega⟩
        rw [piece_s (by omega) hf, flp_at hi (by omega), show 2 * (w.rod i).len - 1 - (q + 1) = (w.rod i).len + ((w.rod i).len - 2 - q) by omega, bpiece_ls (by omega) hc]
        congr 2
        omega
      · obtain ⟨q, rfl⟩ : ∃ q, m = (w.rod i).len + q + 1 := ⟨m - (w.rod i).len - 1, by omega⟩
        rw [piece_ls hl hf (by omega), Nat.add_assoc (w.cellsTo i), flp_at hi (by omega), show 2 * (w.rod i).len - 1 - ((w.rod i).len + q + 1) = (w.rod i).len - 2 - q by omega, bpiece_s (by omega) hc]
        congr 2
        omega
theorem flp_zero : w.flp (zeroN w.cells) = zeroN w.cells := by
  refine list_gt (by rw [flp_len]; unfold zeroN; simp) fun n hn => ?_
  rw [flp_len] at hn
  obtain ⟨i, m, hi, hm, rfl⟩ := cell_of (w := w) w.rods.length n (Nat.le_refl _) hn
  rw [flp_at hi hm, gt_zeroN, gt_zeroN]
  grind
theorem brr_zero {y : List Rat} {n : Nat} : w.brr y (zeroN n) = w.brr y [] := by
  funext a
  obtain ⟨s, i⟩ := a
  cases s
  · rfl
  · rfl
  · show gt (zeroN n) i = gt [] i
    rw [gt_zeroN, gt_nil]
theorem bnew_zero {y : List Rat} {n : Nat} : w.bnew y (zeroN n) = w.bnew y [] := by unfold bnew bpiece; rw [brr_zero]
theorem bout_zero {y : List Rat} {n : Nat} : w.bout y (zeroN n) = w.bout y [] := by unfold bout; rw [brr_zero]
theorem zero_len {n : Nat} : (zeroN n).length = n := by unfold zeroN; simp
theorem knock_0 {a : Nat} : w.knockAt a 0 0 = unitAt w.ears.length a := by unfold knockAt; rw [if_pos rfl]
theorem knock_s {a n : Nat} : w.knockAt a 0 (n + 1) = zeroN w.ears.length := by unfold knockAt; rw [if_neg (by omega)]
theorem stt_flp (ok : w.Ok) {a : Nat} : ∀ n, w.stt (zeroN w.cells) (w.knockAt a 0) (n + 1) = w.flp (w.bst (w.bnew (zeroN w.cells) (unitAt w.ears.length a)) n)
  | 0 => by
    show w.new (zeroN w.cells) (w.knockAt a 0 0) = _
    rw [knock_0]
    have h := new_flp ok (v := unitAt w.ears.length a) (zero_len (n := w.cells))
    rw [flp_zero] at h
    exact h
  | n + 1 => by
    show w.new (w.stt (zeroN w.cells) (w.knockAt a 0) (n + 1)) (w.knockAt a 0 (n + 1)) = _
    rw [stt_flp ok n, knock_s, new_flp ok (bst_len ok (bnew_len ok zero_len) n), bnew_zero]
    rfl
/-- what an ear hears of another's knock, each by its strength -/
theorem heard_each (ok : w.Ok) {a b : Nat} (ha : a < w.ears.length) (hb : b < w.ears.length) (t : Nat) :
    (w.ear a).z * gt (w.out (w.stt (zeroN w.cells) (w.knockAt b 0) t) (w.knockAt b 0 t)) a = (w.ear b).z * gt (w.out (w.stt (zeroN w.cells) (w.knockAt a 0) t) (w.knockAt a 0 t)) b := by
  have zc : ∀ X : Nat → Rat, w.ipc (fun n => gt (zeroN w.cells) n * X n) = 0 := fun X => by
    rw [ipc_ws, sumN_congr (g := fun _ => 0) fun i _ => by rw [gt_zeroN]; grind]
    exact sumN_null
  have zc2 : ∀ X : Nat → Rat, w.ipc (fun n => X n * gt (zeroN w.cells) n) = 0 := fun X => by
    rw [ipc_ws, sumN_congr (g := fun _ => 0) fun i _ => by rw [gt_zeroN]; grind]
    exact sumN_null
  have ue : ∀ X : Nat → Rat, w.ipe (fun n => gt (unitAt w.ears.length a) n * X n) = (w.ear a).z * X a := fun X => by
    rw [← unit_ipe ha X]
    unfold ipe
    exact sumN_congr fun i _ => by grind
  cases t with
  | zero =>
    have h := pair ok (x := zeroN w.cells) (u := unitAt w.ears.length b) (y := zeroN w.cells) (v := unitAt w.ears.length a) zero_len zero_len
    rw [zc, zc2, ue, unit_ipe hb] at h
    show (w.ear a).z * gt (w.out (zeroN w.cells) (w.knockAt b 0 0)) a = (w.ear b).z * gt (w.out (zeroN w.cells) (w.knockAt a 0 0)) b
    rw [knock_0, knock_0]
    have o := out_flp ok (y := zeroN w.cells) (v := unitAt w.ears.length a)
    rw [flp_zero] at o
    rw [o]
    grind
  | succ s =>
    have h := pair ok (x := w.stt (zeroN w.cells) (w.knockAt b 0) (s + 1)) (u := zeroN w.ears.length) (y := zeroN w.cells) (v := unitAt w.ears.length a) (stt_len ok zero_len _) zero_len
    rw [zc, ue, zero_ipe, run_pair ok zero_len (bnew_len ok zero_len) (s + 1) (Nat.le_refl _), Nat.sub_self] at h
    have e : w.stt (zeroN w.cells) (w.knockAt b 0) 0 = zeroN w.cells := rfl
    rw [e, zc2] at h
    rw [sumN_one (k := s) (c := (w.ear b).z * gt (w.bo (w.bnew (zeroN w.cells) (unitAt w.ears.length a)) s) b) (by omega) (fun s' hs hne => ?_) ?_] at h
    · rw [knock_s, knock_s, stt_flp ok (a := a) s, out_flp ok, bout_zero]
      show _ = (w.ear b).z * gt (w.bo (w.bnew (zeroN w.cells) (unitAt w.ears.length a)) s) b
      grind
    · rw [show s + 1 - 1 - s = 0 by omega, knock_0]
      exact unit_ipe hb _
    · obtain ⟨k, hk⟩ : ∃ k, s + 1 - 1 - s' = k + 1 := ⟨s - s' - 1, by omega⟩
      rw [hk, knock_s]
      exact zero_ipe
end WebD
end KM

set_option linter.all false
set_option maxRecDepth 100000
/-! Plain webs: when a knock is first heard. -/
namespace KM
open Gr
namespace WebD
variable {w : WebD}
def edOf (r : RodD) : List Ed := [(2 * r.st, 2 * r.en + r.len % 2, r.len), (2 * r.st + 1, 2 * r.en + (1 + r.len) % 2, r.len), (2 * r.en, 2 * r.st + r.len % 2, r.len), (2 * r.en + 1, 2 * r.st + (1 + r.len) % 2, r.len)]
def eds (w : WebD) : List Ed := w.rods.flatMap edOf
theorem rod_ex {r : RodD} (h : r ∈ w.rods) : ∃ i, i < w.rods.length ∧ w.rod i = r := by
  obtain ⟨i, hi, rfl⟩ := List.getElem_of_mem h
  refine ⟨i, hi, ?_⟩
  have := rod_at (w := w) hi
  rw [List.getElem?_eq_getElem hi] at this
  exact (Option.some.inj this).symm
theorem eds_mem {e : Ed} : e ∈ w.eds ↔ ∃ i p, i < w.rods.length ∧ p < 2 ∧ (e = (2 * (w.rod i).st + p, 2 * (w.rod i).en + (p + (w.rod i).len) % 2, (w.rod i).len) ∨ e = (2 * (w.rod i).en + p, 2 * (w.rod i).st + (p + (w.rod i).len) % 2, (w.rod i).len)) := by
  unfold eds
  rw [List.mem_flatMap]
  constructor
  · rintro ⟨r, hr, he⟩
    obtain ⟨i, hi, rfl⟩ := rod_ex hr
    unfold edOf at he
    simp only [List.mem_cons, List.not_mem_nil, or_false] at he
    rcases he with rfl | rfl | rfl | rfl
    · exact ⟨i, 0, hi, by decide, .inl (by simp)⟩
    · exact ⟨i, 1, hi, by decide, .inl rfl⟩
    · exact ⟨i, 0, hi, by decide, .inr (by simp)⟩
    · exact ⟨i, 1, hi, by decide, .inr rfl⟩
  · rintro ⟨i, p, hi, hp, h⟩
    refine ⟨w.rod i, rod_mem hi, ?_⟩
    unfold edOf
    simp only [List.mem_cons, List.not_mem_nil, or_false]
    rcases (show p = 0 ∨ p = 1 by omega) with rfl | rfl
    · rcases h with rfl | rfl
      · exact .inl (by simp)
      · exact .inr (.inr (.inl (by simp)))
    · rcases h with rfl | rfl
      · exact .inr (.inl rfl)
      · exact .inr (.inr (.inr rfl))
theorem eds_fine (ok : w.Ok) {j : Nat} (hj : j < w.kinds.length) : Fine w.eds (2 * j) (2 * w.kinds.length) where
  s := by omega
  e := fun e he => by
    obtain ⟨i, p, hi, hp, h⟩ := eds_mem.mp he
    have h1 := ok.st _ (rod_mem hi)
    have h2 := ok.en _ (rod_mem hi)
    have h3 := ok.len _ (rod_mem hi)
    rcases h with rfl | rfl
    · dsimp only; omega
    · dsimp only; omega
theorem rch_par {j : Nat} {x a : Nat} (h : Rch w.eds (2 * j) x a) : x % 2 = a % 2 := by
  induction h with
  | zero => omega
  | step _ m ih =>
    obtain ⟨i, p, hi, hp, h⟩ := eds_mem.mp m
    rcases h with h | h
    · injection h with h1 h2
      injection h2 with h2 h3
      omega
    · injection h with h1 h2
      injection h2 with h2 h3
      omega
/-- a walk of t ticks from j to v -/
def Wk (w : WebD) (j v t : Nat) : Prop := Rch w.eds (2 * j) (2 * v + t % 2) t
def MnW (w : WebD) (j v t : Nat) : Prop := Mn w.eds (2 * j) (2 * v + t % 2) t
theorem Wk.se {j r i : Nat} (hi : i < w.rods.length) (h : w.Wk j (w.rod i).st r) : w.Wk j (w.rod i).en (r + (w.rod i).len) := by
  have := Rch.step h (eds_mem.mpr ⟨i, r % 2, hi, by omega, .inl rfl⟩)
  have e : (r % 2 + (w.rod i).len) % 2 = (r + (w.rod i).len) % 2 := by omega
  rw [e] at this
  exact this
theorem Wk.es {j r i : Nat} (hi : i < w.rods.length) (h : w.Wk j (w.rod i).en r) : w.Wk j (w.rod i).st (r + (w.rod i).len) := by
  have := Rch.step h (eds_mem.mpr ⟨i, r % 2, hi, by omega, .inr rfl⟩)
  have e : (r % 2 + (w.rod i).len) % 2 = (r + (w.rod i).len) % 2 := by omega
  rw [e] at this
  exact this
theorem Wk.prev {j v t : Nat} (h : w.Wk j v t) : (v = j ∧ t = 0) ∨ ∃ i r, i < w.rods.length ∧ t = r + (w.rod i).len ∧ ((v = (w.rod i).en ∧ w.Wk j (w.rod i).st r) ∨ (v = (w.rod i).st ∧ w.Wk j (w.rod i).en r)) := by
  unfold Wk at h
  generalize hx : 2 * v + t % 2 = x at h
  cases h with
  | zero => exact .inl ⟨by omega, rfl⟩
  | @step y _ l a r m =>
    obtain ⟨i, p, hi, hp, h⟩ := eds_mem.mp m
    have pr := rch_par r
    refine .inr ⟨i, a, hi, ?_⟩
    rcases h with h | h
    · injection h with h1 h2
      injection h2 with h2 h3
      refine ⟨by omega, .inl ⟨by omega, ?_⟩⟩
      unfold Wk
      rw [show 2 * (w.rod i).st + a % 2 = y by omega]
      exact r
    · injection h with h1 h2
      injection h2 with h2 h3
      refine ⟨by omega, .inr ⟨by omega, ?_⟩⟩
      unfold Wk
      rw [show 2 * (w.rod i).en + a % 2 = y by omega]
      exact r
/-! what leaves, tick by tick -/
def kst (w : WebD) (e t : Nat) : List Rat := w.stt (zeroN w.cells) (w.knockAt e 0) t
def kL (w : WebD) (e t : Nat) (a : Arm) : Rat := w.lv (w.kst e t) (w.knockAt e 0 t) a
def kA (w : WebD) (e t : Nat) (a : Arm) : Rat := w.arr (w.kst e t) (w.knockAt e 0 t) a
theorem kst_len (ok : w.Ok) {e t : Nat} : (w.kst e t).length = w.cells := stt_len ok (by unfold zeroN; simp) t
theorem kst_at (ok : w.Ok) {e i : Nat} (hi : i < w.rods.length) : ∀ t m, m < (w.rod i).len →
    gt (w.kst e t) (w.cellsTo i + m) = (if m < t then w.kL e (t - 1 - m) (.st, i) else 0) ∧ gt (w.kst e t) (w.cellsTo i + (w.rod i).len + m) = (if m < t then w.kL e (t - 1 - m) (.en, i) else 0)
  | 0, m, hm => by
    rw [if_neg (by omega), if_neg (by omega)]
    exact ⟨gt_zeroN, gt_zeroN⟩
  | t + 1, m, hm => by
    have l1 := ok.len _ (rod_mem hi)
    have hx := kst_len ok (e := e) (t := t)
    have hc : w.cellsTo i + 2 * (w.rod i).len ≤ (w.kst e t).length := by rw [hx]; exact cellsTo_mono hi
    have e0 : w.kst e (t + 1) = w.new (w.kst e t) (w.knockAt e 0 t) := rfl
    rw [e0, new_at ok hx hi (by omega), Nat.add_assoc, new_at ok hx hi (by omega)]
    cases m with
    | zero =>
      have pl := piece_l (u := w.knockAt e 0 t) l1 hc
      rw [if_pos (by omega), if_pos (by omega), piece_0]
      exact ⟨rfl, pl⟩
    | succ m =>
      have ih := kst_at ok (e := e) hi t m (by omega)
      rw [piece_s (by omega) hc, ih.1, ← Nat.add_assoc, piece_ls l1 hc (by omega), ih.2]
      by_cases c : m < t
      · rw [if_pos c, if_pos c, if_pos (by omega), if_pos (by omega), show t + 1 - 1 - (m + 1) = t - 1 - m by omega]
        exact ⟨rfl, rfl⟩
      · rw [if_neg c, if_neg c, if_neg (by omega), if_neg (by omega)]
        exact ⟨rfl, rfl⟩
theorem kA_en (ok : w.Ok) (p : w.Plain) {e i t : Nat} (hi : i < w.rods.length) : w.kA e t (.en, i) = if (w.rod i).len ≤ t then w.kL e (t - (w.rod i).len) (.st, i) else 0 := by
  have l1 := ok.len _ (rod_mem hi)
  have h := (kst_at ok (e := e) hi t ((w.rod i).len - 1) (by omega)).1
  have e1 : (w.kst e t)[w.cellsTo i + (w.rod i).len - 1]?.getD 0 = gt (w.kst e t) (w.cellsTo i + ((w.rod i).len - 1)) := by
    unfold gt
    rw [Nat.add_sub_assoc l1]
  show ((w.rod i).tw : Rat) * (w.kst e t)[w.cellsTo i + (w.rod i).len - 1]?.getD 0 = _
  rw [p.tw _ (rod_mem hi), e1, h]
  by_cases c : (w.rod i).len ≤ t
  · rw [if_pos c, if_pos (by omega), show t - 1 - ((w.rod i).len - 1) = t - (w.rod i).len by omega]
    exact Rat.one_mul _
  · rw [if_neg c, if_neg (by omega)]
    exact Rat.one_mul _
theorem kA_st (ok : w.Ok) (p : w.Plain) {e i t : Nat} (hi : i < w.rods.length) : w.kA e t (.st, i) = if (w.rod i).len ≤ t then w.kL e (t - (w.rod i).len) (.en, i) else 0 := by
  have l1 := ok.len _ (rod_mem hi)
  have h := (kst_at ok (e := e) hi t ((w.rod i).len - 1) (by omega)).2
  have e1 : (w.kst e t)[w.cellsTo i + 2 * (w.rod i).len - 1]?.getD 0 = gt (w.kst e t) (w.cellsTo i + (w.rod i).len + ((w.rod i).len - 1)) := by
    unfold gt
    rw [show w.cellsTo i + 2 * (w.rod i).len - 1 = w.cellsTo i + (w.rod i).len + ((w.rod i).len - 1) by omega]
  show ((w.rod i).tw : Rat) * (w.kst e t)[w.cellsTo i + 2 * (w.rod i).len - 1]?.getD 0 = _
  rw [p.tw _ (rod_mem hi), e1, h]
  by_cases c : (w.rod i).len ≤ t
  · rw [if_pos c, if_pos (by omega), show t - 1 - ((w.rod i).len - 1) = t - (w.rod i).len by omega]
    exact Rat.one_mul _
  · rw [if_neg c, if_neg (by omega)]
    exact Rat.one_mul _
theorem kA_ea {e i t : Nat} (hi : i < w.ears.length) : w.kA e t (.ea, i) = if t = 0 ∧ i = e then 1 else 0 := by
  show gt (w.knockAt e 0 t) i = _
  unfold knockAt
  by_cases c : t = 0
  · rw [if_pos c, gt_unit hi]
    by_cases c2 : i = e
    · rw [if_pos c2, if_pos ⟨c, c2⟩]
    · rw [if_neg c2, if_neg (fun z => c2 z.2)]
  · rw [if_neg c, if_neg (fun z => c z.1)]
    exact gt_zeroN
def kC (w : WebD) (e t v : Nat) : Rat := w.mid (w.kst e t) (w.knockAt e 0 t) v
theorem kL_eq (p : w.Plain) {e t : Nat} {a : Arm} : w.kL e t a = w.kC e t (w.armJ a) - w.kA e t a := by
  unfold kL lv kC kA
  rw [if_pos (p.lv _)]
theorem sum_zero' {α : Type} {f : α → Rat} : ∀ {L : List α}, (∀ a ∈ L, f a = 0) → (L.map f).sum = 0
  | [], _ => rfl
  | a :: L, h => by
    rw [List.map_cons, List.sum_cons, h a (List.mem_cons_self ..), sum_zero' fun b hb => h b (List.mem_cons_of_mem _ hb)]
    grind
theorem sum_nonneg' {α : Type} {f : α → Rat} : ∀ {L : List α}, (∀ a ∈ L, 0 ≤ f a) → 0 ≤ (L.map f).sum
  | [], _ => by simp
  | a :: L, h => by
    have h1 := h a (List.mem_cons_self ..)
    have h2 := sum_nonneg' fun b hb => h b (List.mem_cons_of_mem _ hb)
    rw [List.map_cons, List.sum_cons]
    grind
theorem sum_pos' {α : Type} {f : α → Rat} {b : α} : ∀ {L : List α}, (∀ a ∈ L, 0 ≤ f a) → b ∈ L → 0 < f b → 0 < (L.map f).sum
  | [], _, hb, _ => by cases hb
  | a :: L, h, hb, hp => by
    have h1 := h a (List.mem_cons_self ..)
    have hs : ∀ c ∈ L, 0 ≤ f c := fun c hc => h c (List.mem_cons_of_mem _ hc)
    rw [List.map_cons, List.sum_cons]
    rcases List.mem_cons.mp hb with rfl | hb
    · have h2 := sum_nonneg' hs
      grind
    · have h2 := sum_pos' hs hb hp
      grind
theorem kC_zero (p : w.Plain) {e t v : Nat} (h : ∀ a ∈ w.armsAt v, w.kA e t a = 0) : w.kC e t v = 0 := by
  unfold kC mid cmn
  split
  · rfl
  · rw [if_pos (p.lv _)]
    unfold zsAt
    rw [dotR_map, sum_zero' fun a ha => by
      have := h a ha
      unfold kA at this
      rw [this]
      exact Rat.mul_zero _]
    grind
theorem kC_pos (ok : w.Ok) (p : w.Plain) {e t v : Nat} (h : ∀ a ∈ w.armsAt v, 0 ≤ w.kA e t a) {b : Arm} (hb : b ∈ w.armsAt v) (hp : 0 < w.kA e t b) : 0 < w.kC e t v := by
  have zp : ∀ a ∈ w.armsAt v, 0 < w.armZ a := fun a ha => armZ_pos ok (armsAt_mem ha).1
  have ne : w.zsAt v ≠ [] := fun z => by
    unfold zsAt at z
    rw [List.map_eq_nil_iff] at z
    rw [z] at hb
    cases hb
  have sp : 0 < (w.zsAt v).sum := sum_pos ne fun z hz => by
    unfold zsAt at hz
    obtain ⟨a, ha, rfl⟩ := List.mem_map.mp hz
    exact zp a ha
  unfold kC mid cmn
  rw [if_neg ne, if_pos (p.lv _)]
  have top : 0 < dotR (w.zsAt v) ((w.armsAt v).map (w.arr (w.kst e t) (w.knockAt e 0 t))) := by
    have e9 : w.zsAt v = (w.armsAt v).map w.armZ := rfl
    rw [e9, dotR_map]
    refine sum_pos' (fun a ha => ?_) hb ?_
    · exact Rat.mul_nonneg (Rat.le_of_lt (zp a ha)) (h a ha)
    · exact Rat.mul_pos (zp b hb) hp
  have t2 : 0 < 2 * dotR (w.zsAt v) ((w.armsAt v).map (w.arr (w.kst e t) (w.knockAt e 0 t))) := by grind
  rw [Rat.div_def]
  exact Rat.mul_pos t2 (Rat.inv_pos.mpr sp)
/-- no number comes where no walk comes -/
theorem no_walk (ok : w.Ok) (p : w.Plain) {e : Nat} (he : e < w.ears.length) : ∀ t v, ¬ w.Wk (w.ear e).pl v t → ∀ a ∈ w.armsAt v, w.kA e t a = 0 := by
  intro t
  induction t using Nat.strongRecOn with
  | ind t ih =>
    have lz : ∀ r, r < t → ∀ a, w.IsArm a → ¬ w.Wk (w.ear e).pl (w.armJ a) r → w.kL e r a = 0 := fun r hr a ia nw => by
      rw [kL_eq p, kC_zero p (ih r hr _ nw), ih r hr _ nw a (mem_armsAt ia)]
      grind
    intro v nv a ha
    obtain ⟨ia, ja⟩ := armsAt_mem ha
    obtain ⟨sd, i⟩ := a
    cases sd with
    | st =>
      have hi : i < w.rods.length := ia
      have l1 := ok.len _ (rod_mem hi)
      rw [kA_st ok p hi]
      split
      · rename_i c
        refine lz _ (by omega) (.en, i) hi fun wk => nv ?_
        have := Wk.es hi wk
        rw [Nat.sub_add_cancel c] at this
        rw [← ja]
        exact this
      · rfl
    | en =>
      have hi : i < w.rods.length := ia
      have l1 := ok.len _ (rod_mem hi)
      rw [kA_en ok p hi]
      split
      · rename_i c
        refine lz _ (by omega) (.st, i) hi fun wk => nv ?_
        have := Wk.se hi wk
        rw [Nat.sub_add_cancel c] at this
        rw [← ja]
        exact this
      · rfl
    | ea =>
      have hi : i < w.ears.length := ia
      rw [kA_ea hi, if_neg]
      rintro ⟨rfl, rfl⟩
      refine nv ?_
      rw [← ja]
      exact .zero
theorem kL_zero (ok : w.Ok) (p : w.Plain) {e t : Nat} (he : e < w.ears.length) {a : Arm} (ia : w.IsArm a) (nw : ¬ w.Wk (w.ear e).pl (w.armJ a) t) : w.kL e t a = 0 := by
  rw [kL_eq p, kC_zero p (no_walk ok p he t _ nw), no_walk ok p he t _ nw a (mem_armsAt ia)]
  grind
/-- the first number of its parity is above 0 -/
theorem first_pos (ok : w.Ok) (p : w.Plain) {e : Nat} (he : e < w.ears.length) : ∀ t v, w.MnW (w.ear e).pl v t → 0 < w.kC e t v := by
  intro t
  induction t using Nat.strongRecOn with
  | ind t ih =>
    intro v mn
    -- what comes along one arm
    have back : ∀ i r, i < w.rods.length → t = r + (w.rod i).len → (v = (w.rod i).en → w.kA e t (.en, i) = w.kC e r (w.rod i).st) ∧ (v = (w.rod i).st → w.kA e t (.st, i) = w.kC e r (w.rod i).en) := fun i r hi et => by
      have l1 := ok.len _ (rod_mem hi)
      have nar : ∀ r', r' + (w.rod i).len = r → ¬ w.Wk (w.ear e).pl v r' := fun r' e' wk => by
        unfold Wk at wk
        have e2 : r' % 2 = t % 2 := by omega
        rw [e2] at wk
        have := mn.2 _ wk
        omega
      constructor
      · intro ev
        rw [kA_en ok p hi, if_pos (by omega), show t - (w.rod i).len = r by omega, kL_eq p, kA_st ok p hi]
        split
        · rename_i c
          rw [kL_zero ok p he (a := (.en, i)) hi (by
            show ¬ w.Wk _ (w.rod i).en _
            rw [← ev]
            exact nar _ (by omega))]
          show w.kC e r (w.rod i).st - 0 = _
          grind
        · show w.kC e r (w.rod i).st - 0 = _
          grind
      · intro ev
        rw [kA_st ok p hi, if_pos (by omega), show t - (w.rod i).len = r by omega, kL_eq p, kA_en ok p hi]
        split
        · rename_i c
          rw [kL_zero ok p he (a := (.st, i)) hi (by
            show ¬ w.Wk _ (w.rod i).st _
            rw [← ev]
            exact nar _ (by omega))]
          show w.kC e r (w.rod i).en - 0 = _
          grind
        · show w.kC e r (w.rod i).en - 0 = _
          grind
    -- a walk to the other end is a least one
    have leastS : ∀ i r, i < w.rods.length → t = r + (w.rod i).len → v = (w.rod i).en → w.Wk (w.ear e).pl (w.rod i).st r → w.MnW (w.ear e).pl (w.rod i).st r := fun i r hi et ev wk => ⟨wk, fun a ha => by
      have pa := rch_par ha
      have wk2 : w.Wk (w.ear e).pl (w.rod i).st a := by unfold Wk; rw [show a % 2 = r % 2 by omega]; exact ha
      have h2 := Wk.se hi wk2
      unfold Wk at h2
      rw [← ev, show (a + (w.rod i).len) % 2 = t % 2 by omega] at h2
      have := mn.2 _ h2
      omega⟩
    have leastE : ∀ i r, i < w.rods.length → t = r + (w.rod i).len → v = (w.rod i).st → w.Wk (w.ear e).pl (w.rod i).en r → w.MnW (w.ear e).pl (w.rod i).en r := fun i r hi et ev wk => ⟨wk, fun a ha => by
      have pa := rch_par ha
      have wk2 : w.Wk (w.ear e).pl (w.rod i).en a := by unfold Wk; rw [show a % 2 = r % 2 by omega]; exact ha
      have h2 := Wk.es hi wk2
      unfold Wk at h2
      rw [← ev, show (a + (w.rod i).len) % 2 = t % 2 by omega] at h2
      have := mn.2 _ h2
      omega⟩
    have nn : ∀ a ∈ w.armsAt v, 0 ≤ w.kA e t a := fun a ha => by
      obtain ⟨ia, ja⟩ := armsAt_mem ha
      obtain ⟨sd, i⟩ := a
      cases sd with
      | st =>
        have hi : i < w.rods.length := ia
        have l1 := ok.len _ (rod_mem hi)
        by_cases c : (w.rod i).len ≤ t
        · rw [(back i (t - (w.rod i).len) hi (by omega)).2 ja.symm]
          by_cases q : w.Wk (w.ear e).pl (w.rod i).en (t - (w.rod i).len)
          · exact Rat.le_of_lt (ih _ (by omega) _ (leastE i _ hi (by omega) ja.symm q))
          · rw [kC_zero p (no_walk ok p he _ _ q)]
            exact Rat.le_refl
        · rw [kA_st ok p hi, if_neg c]
          exact Rat.le_refl
      | en =>
        have hi : i < w.rods.length := ia
        have l1 := ok.len _ (rod_mem hi)
        by_cases c : (w.rod i).len ≤ t
        · rw [(back i (t - (w.rod i).len) hi (by omega)).1 ja.symm]
          by_cases q : w.Wk (w.ear e).pl (w.rod i).st (t - (w.rod i).len)
          · exact Rat.le_of_lt (ih _ (by omega) _ (leastS i _ hi (by omega) ja.symm q))
          · rw [kC_zero p (no_walk ok p he _ _ q)]
            exact Rat.le_refl
        · rw [kA_en ok p hi, if_neg c]
          exact Rat.le_refl
      | ea =>
        have hi : i < w.ears.length := ia
        rw [kA_ea hi]
        split <;> decide
    rcases Wk.prev mn.1 with ⟨e1, e2⟩ | ⟨i, r, hi, et, ⟨ev, wk⟩ | ⟨ev, wk⟩⟩
    · subst e2
      refine kC_pos ok p nn (b := (.ea, e)) (by
        rw [e1]
        exact mem_armsAt (w := w) (a := (.ea, e)) he) ?_
      rw [kA_ea he, if_pos ⟨rfl, rfl⟩]
      decide
    · have l1 := ok.len _ (rod_mem hi)
      refine kC_pos ok p nn (b := (.en, i)) (by
        rw [ev]
        exact mem_armsAt (w := w) (a := (.en, i)) hi) ?_
      rw [(back i r hi et).1 ev]
      exact ih r (by omega) _ (leastS i r hi et ev wk)
    · have l1 := ok.len _ (rod_mem hi)
      refine kC_pos ok p nn (b := (.st, i)) (by
        rw [ev]
        exact mem_armsAt (w := w) (a := (.st, i)) hi) ?_
      rw [(back i r hi et).2 ev]
      exact ih r (by omega) _ (leastE i r hi et ev wk)
/-- what is heard: nothing while no walk comes -/
theorem heard_none (ok : w.Ok) (p : w.Plain) {e f t : Nat} (he : e < w.ears.length) (hf : f < w.ears.length) (h : ¬ w.Wk (w.ear e).pl (w.ear f).pl t) : gt (w.out (w.stt (zeroN w.cells) (w.knockAt e 0) t) (w.knockAt e 0 t)) f = 0 := by
  rw [gt_out hf]
  exact kL_zero ok p he (a := (.ea, f)) hf h
/-- .. and the first of its parity is above 0 -/
theorem heard_first (ok : w.Ok) (p : w.Plain) {e f t : Nat} (he : e < w.ears.length) (hf : f < w.ears.length) (h : w.MnW (w.ear e).pl (w.ear f).pl t) (ht : t ≠ 0 ∨ f ≠ e) : 0 < gt (w.out (w.stt (zeroN w.cells) (w.knockAt e 0) t) (w.knockAt e 0 t)) f := by
  rw [gt_out hf]
  have e1 : w.lv (w.stt (zeroN w.cells) (w.knockAt e 0) t) (w.knockAt e 0 t) (.ea, f) = w.kC e t (w.ear f).pl - w.kA e t (.ea, f) := kL_eq p
  rw [e1, kA_ea hf, if_neg (by omega)]
  have := first_pos ok p he t _ h
  grind
/-- no walk is longer than all cells -/
theorem mn_le (ok : w.Ok) {j x d : Nat} (hj : j < w.kinds.length) (h : Mn w.eds (2 * j) x d) : d ≤ w.cells := by
  have := far_le (eds_fine ok hj) (U := (List.range w.rods.length).flatMap fun i => [(i, 0), (i, 1)]) (len := fun u : Nat × Nat => (w.rod u.1).len) (X := fun u => 2 * (w.rod u.1).st + u.2) (Y := fun u => 2 * (w.rod u.1).en + (u.2 + (w.rod u.1).len) % 2) (fun e he => by
    obtain ⟨i, q, hi, hq, h⟩ := eds_mem.mp he
    rcases h with rfl | rfl
    · refine ⟨(i, q), List.mem_flatMap.mpr ⟨i, List.mem_range.mpr hi, ?_⟩, rfl, .inl ⟨rfl, rfl⟩⟩
      rcases (show q = 0 ∨ q = 1 by omega) with rfl | rfl <;> simp
    · refine ⟨(i, (q + (w.rod i).len) % 2), List.mem_flatMap.mpr ⟨i, List.mem_range.mpr hi, ?_⟩, rfl, .inr ⟨?_, rfl⟩⟩
      · rcases (show (q + (w.rod i).len) % 2 = 0 ∨ (q + (w.rod i).len) % 2 = 1 by omega) with z | z <;> rw [z] <;> simp
      · dsimp only
        omega) (fun u hu => by
    obtain ⟨i, hi, hu⟩ := List.mem_flatMap.mp hu
    have hi := List.mem_range.mp hi
    have hu : ∃ q, q < 2 ∧ u = (i, q) := by
      simp only [List.mem_cons, List.not_mem_nil, or_false] at hu
      rcases hu with rfl | rfl
      · exact ⟨0, by decide, rfl⟩
      · exact ⟨1, by decide, rfl⟩
    obtain ⟨q, hq, rfl⟩ := hu
    refine ⟨eds_mem.mpr ⟨i, q, hi, hq, .inl rfl⟩, eds_mem.mpr ⟨i, (q + (w.rod i).len) % 2, hi, by omega, .inr ?_⟩⟩
    dsimp only
    rw [show ((q + (w.rod i).len) % 2 + (w.rod i).len) % 2 = q by omega]) h
  refine Nat.le_trans this (Nat.le_of_eq ?_)
  have key : ∀ n, n ≤ w.rods.length → (((List.range n).flatMap fun i => [(i, 0), (i, 1)]).map fun u : Nat × Nat => (w.rod u.1).len).sum = w.cellsTo n := by
    intro n
    induction n with
    | zero => intro _; rw [cellsTo_zero]; rfl
    | succ n ih =>
      intro hn
      rw [List.range_succ, List.flatMap_append, List.map_append, List.sum_append, ih (by omega), cellsTo_succ (by omega)]
      simp
      omega
  exact key _ (Nat.le_refl _)
end WebD
end KM

set_option linter.all false
set_option maxRecDepth 100000
/-! Least walks between joints, of either parity. -/
namespace KM
open Gr
namespace WebD
variable {w : WebD}
def edF (r : RodD) : List Ed := [(r.st, r.en, r.len), (r.en, r.st, r.len)]
def edsF (w : WebD) : List Ed := w.rods.flatMap edF
theorem edsF_mem {e : Ed} : e ∈ w.edsF ↔ ∃ i, i < w.rods.length ∧ (e = ((w.rod i).st, (w.rod i).en, (w.rod i).len) ∨ e = ((w.rod i).en, (w.rod i).st, (w.rod i).len)) := by
  unfold edsF
  rw [List.mem_flatMap]
  constructor
  · rintro ⟨r, hr, he⟩
    obtain ⟨i, hi, rfl⟩ := rod_ex hr
    unfold edF at he
    simp only [List.mem_cons, List.not_mem_nil, or_false] at he
    exact ⟨i, hi, he⟩
  · rintro ⟨i, hi, h⟩
    refine ⟨w.rod i, rod_mem hi, ?_⟩
    unfold edF
    simp only [List.mem_cons, List.not_mem_nil, or_false]
    exact h
theorem edsF_fine (ok : w.Ok) {j : Nat} (hj : j < w.kinds.length) : Fine w.edsF j w.kinds.length where
  s := hj
  e := fun e he => by
    obtain ⟨i, hi, h⟩ := edsF_mem.mp he
    have h1 := ok.st _ (rod_mem hi)
    have h2 := ok.en _ (rod_mem hi)
    have h3 := ok.len _ (rod_mem hi)
    rcases h with rfl | rfl
    · dsimp only; omega
    · dsimp only; omega
theorem plain_walk {j v a : Nat} (h : Rch w.edsF j v a) : w.Wk j v a := by
  induction h with
  | zero => exact .zero
  | step _ m ih =>
    obtain ⟨i, hi, h⟩ := edsF_mem.mp m
    rcases h with h | h
    · injection h with h1 h2
      injection h2 with h2 h3
      subst h1 h2 h3
      exact Wk.se hi ih
    · injection h with h1 h2
      injection h2 with h2 h3
      subst h1 h2 h3
      exact Wk.es hi ih
theorem walk_plain {j x a : Nat} (h : Rch w.eds (2 * j) x a) : ∃ v, x = 2 * v + a % 2 ∧ Rch w.edsF j v a := by
  induction h with
  | zero => exact ⟨j, by omega, .zero⟩
  | step r m ih =>
    obtain ⟨v, hv, rv⟩ := ih
    obtain ⟨i, p, hi, hp, h⟩ := eds_mem.mp m
    have pr := rch_par r
    rcases h with h | h
    · injection h with h1 h2
      injection h2 with h2 h3
      obtain rfl : v = (w.rod i).st := by omega
      refine ⟨(w.rod i).en, by omega, ?_⟩
      rw [h3]
      exact .step rv (edsF_mem.mpr ⟨i, hi, .inl rfl⟩)
    · injection h with h1 h2
      injection h2 with h2 h3
      obtain rfl : v = (w.rod i).en := by omega
      refine ⟨(w.rod i).st, by omega, ?_⟩
      rw [h3]
      exact .step rv (edsF_mem.mpr ⟨i, hi, .inr rfl⟩)
theorem wk_iff {j v a : Nat} : w.Wk j v a ↔ Rch w.edsF j v a := ⟨fun h => by
  obtain ⟨v', e, r⟩ := walk_plain h
  obtain rfl : v = v' := by omega
  exact r, plain_walk⟩
/-- the lesser one, where there is one -/
def lesser : Option Nat → Option Nat → Option Nat
  | none, c => c
  | some a, none => some a
  | some a, some b => if a ≤ b then some a else some b
/-- what the program's table tells of both parities is the least one of all -/
theorem lesser_runs (ok : w.Ok) {j v : Nat} (hj : j < w.kinds.length) : lesser (runs w.eds (2 * j) (2 * w.kinds.length) (2 * v)) (runs w.eds (2 * j) (2 * w.kinds.length) (2 * v + 1)) = runs w.edsF j w.kinds.length v := by
  have r0 := runs_end (x := 2 * v) (eds_fine ok hj) (Nat.le_refl (2 * w.kinds.length))
  have r1 := runs_end (x := 2 * v + 1) (eds_fine ok hj) (Nat.le_refl (2 * w.kinds.length))
  have rf := runs_end (x := v) (edsF_fine ok hj) (Nat.le_refl w.kinds.length)
  have ev : ∀ a, Rch w.edsF j v a → a % 2 = 0 → Rch w.eds (2 * j) (2 * v) a := fun a h p => by
    have := wk_iff.mpr h
    unfold Wk at this
    rw [p] at this
    exact this
  have od : ∀ a, Rch w.edsF j v a → a % 2 = 1 → Rch w.eds (2 * j) (2 * v + 1) a := fun a h p => by
    have := wk_iff.mpr h
    unfold Wk at this
    rw [p] at this
    exact this
  have ev' : ∀ a, Rch w.eds (2 * j) (2 * v) a → Rch w.edsF j v a := fun a h => by
    have p := rch_par h
    refine wk_iff.mp ?_
    unfold Wk
    rw [show a % 2 = 0 by omega]
    exact h
  have od' : ∀ a, Rch w.eds (2 * j) (2 * v + 1) a → Rch w.edsF j v a := fun a h => by
    have p := rch_par h
    refine wk_iff.mp ?_
    unfold Wk
    rw [show a % 2 = 1 by omega]
    exact h
  cases h0 : runs w.eds (2 * j) (2 * w.kinds.length) (2 * v) with
  | none =>
    have n0 := r0.2.mp h0
    cases h1 : runs w.eds (2 * j) (2 * w.kinds.length) (2 * v + 1) with
    | none =>
      have n1 := r1.2.mp h1
      exact (rf.2.mpr fun a h => by
        rcases Nat.mod_two_eq_zero_or_one a with p | p
        · exact n0 a (ev a h p)
        · exact n1 a (od a h p)).symm
    | some b =>
      have m1 := (r1.1 b).mp h1
      exact ((rf.1 b).mpr ⟨od' b m1.1, fun a h => by
        rcases Nat.mod_two_eq_zero_or_one a with p | p
        · exact absurd (ev a h p) (n0 a)
        · exact m1.2 a (od a h p)⟩).symm
  | some a0 =>
    have m0 := (r0.1 a0).mp h0
    cases h1 : runs w.eds (2 * j) (2 * w.kinds.length) (2 * v + 1) with
    | none =>
      have n1 := r1.2.mp h1
      exact ((rf.1 a0).mpr ⟨ev' a0 m0.1, fun a h => by
        rcases Nat.mod_two_eq_zero_or_one a with p | p
        · exact m0.2 a (ev a h p)
        · exact absurd (od a h p) (n1 a)⟩).symm
    | some b =>
      have m1 := (r1.1 b).mp h1
      unfold lesser
      dsimp only
      by_cases c : a0 ≤ b
      · rw [if_pos c]
        exact ((rf.1 a0).mpr ⟨ev' a0 m0.1, fun a h => by
          rcases Nat.mod_two_eq_zero_or_one a with p | p
          · exact m0.2 a (ev a h p)
          · have := m1.2 a (od a h p); omega⟩).symm
      · rw [if_neg c]
        exact ((rf.1 b).mpr ⟨od' b m1.1, fun a h => by
          rcases Nat.mod_two_eq_zero_or_one a with p | p
          · have := m0.2 a (ev a h p); omega
          · exact m1.2 a (od a h p)⟩).symm
/-- a least walk between joints is the least one of its parity -/
theorem mnF {j v d : Nat} (h : Mn w.edsF j v d) : w.MnW j v d := by
  refine ⟨wk_iff.mpr h.1, fun a ha => ?_⟩
  obtain ⟨v', e, r⟩ := walk_plain ha
  have := rch_par ha
  obtain rfl : v = v' := by omega
  exact h.2 a r
end WebD
end KM

set_option Elab.async false
set_option linter.all false
set_option maxRecDepth 100000
set_option maxHeartbeats 4000000
set_option exponentiation.threshold 20000
namespace Fx
open PySem PySem.Spec PyProof.Rows L2 FM KM
/-! ### least walks, in lists -/
def optV : Option Nat → V
  | none => .non
  | some a => .int (a : Int)
def lsV (N : Nat) (f : Gr.Vs) : List V := (List.range N).map fun x => optV (f x)
theorem lsV_len {N : Nat} {f : Gr.Vs} : (lsV N f).length = N := by unfold lsV; simp
theorem lsV_at {N x : Nat} {f : Gr.Vs} (h : x < N) : (lsV N f)[x]? = some (optV (f x)) := by
  unfold lsV
  rw [List.getElem?_map, List.getElem?_range h]
  rfl
theorem lsV_set {N y : Nat} {f g : Gr.Vs} {v : Option Nat} (hg : ∀ z, g z = if z = y then v else f z) (hy : y < N) : lsV N g = (lsV N f).set y (optV v) := by
  refine List.ext_getElem? fun k => ?_
  by_cases hk : k < N
  · rw [lsV_at hk]
    by_cases e : y = k
    · subst e
      rw [List.getElem?_set_self (by rw [lsV_len]; exact hy), hg, if_pos rfl]
    · rw [List.getElem?_set_ne e, lsV_at hk, hg, if_neg (fun z => e z.symm)]
  · rw [List.getElem?_eq_none (by rw [lsV_len]; omega), List.getElem?_eq_none (by rw [List.length_set, lsV_len]; omega)]
theorem relax_none {f : Gr.Vs} {e : Gr.Ed} (h : f e.1 = none) : Gr.relax f e = f := by
  unfold Gr.relax
  rw [h]
theorem relax_some {f : Gr.Vs} {e : Gr.Ed} {a : Nat} (h : f e.1 = some a) : ∀ z, Gr.relax f e z = if z = e.2.1 then Gr.less (f e.2.1) (a + e.2.2) else f z := fun z => by
  unfold Gr.relax
  rw [h]
  dsimp only
  by_cases c : z = e.2.1
  · rw [if_pos c, if_pos c, c]
  · rw [if_neg c, if_neg c]
theorem relax_same {f : Gr.Vs} {e : Gr.Ed} {a b : Nat} (h : f e.1 = some a) (hb : f e.2.1 = some b) (hn : ¬ a + e.2.2 < b) : Gr.relax f e = f := by
  funext z
  rw [relax_some h, hb]
  unfold Gr.less
  dsimp only
  rw [if_neg hn]
  by_cases c : z = e.2.1
  · rw [if_pos c, c, hb]
  · rw [if_neg c]
theorem lsV_relax {N : Nat} {f : Gr.Vs} {e : Gr.Ed} {a : Nat} (h : f e.1 = some a) (hy : e.2.1 < N) : lsV N (Gr.relax f e) = (lsV N f).set e.2.1 (optV (Gr.less (f e.2.1) (a + e.2.2))) := lsV_set (relax_some h) hy
theorem fold_take {α β : Type} {f : β → α → β} {b : β} {l : List α} {i : Nat} {e : α} (h : l[i]? = some e) : (l.take (i + 1)).foldl f b = f ((l.take i).foldl f b) e := by
  rw [List.take_add_one, h, List.foldl_append]
  rfl
theorem edsF_take {w : WebD} {i : Nat} (hi : i < w.rods.length) : (w.rods.take (i + 1)).flatMap WebD.edF = (w.rods.take i).flatMap WebD.edF ++ WebD.edF (w.rod i) := by
  rw [List.take_add_one, WebD.rod_at hi, List.flatMap_append]
  simp
theorem eds_take {w : WebD} {i : Nat} (hi : i < w.rods.length) : (w.rods.take (i + 1)).flatMap WebD.edOf = (w.rods.take i).flatMap WebD.edOf ++ WebD.edOf (w.rod i) := by
  rw [List.take_add_one, WebD.rod_at hi, List.flatMap_append]
  simp
theorem start_lsV {N s : Nat} (hs : s < N) : lsV N (Gr.start s) = (List.replicate N V.non).set s (.int 0) := by
  have h0 : lsV N (fun _ => none) = List.replicate N V.non := by
    refine List.ext_getElem? fun k => ?_
    by_cases hk : k < N
    · rw [lsV_at hk, List.getElem?_replicate, if_pos hk]; rfl
    · rw [List.getElem?_eq_none (by rw [lsV_len]; omega), List.getElem?_eq_none (by simp; omega)]
  rw [← h0]
  exact lsV_set (v := some 0) (fun z => rfl) hs
section
variable {P : Program} {w : World} {K : PySem.W.Frag} {mg : Str → Option Value} {base : Heap} {A : Adr}
theorem scLfr : FnScope ["web", "joint", "least", "s", "rod", "side", "a", "b"] ["web", "joint"] (defScope (top 91)) := ⟨rfl, rfl, rfl, by decide +kernel, rfl, by decide +kernel, by decide +kernel⟩
def spLfr : Sp := fun vs H Q _ => ∃ t jl rl tl, ∃ wb : WebD, ∃ j : Nat, vs = [.ref t, .int (j : Int)] ∧ WebPy H t jl rl tl wb.kinds wb.rods wb.ears ∧ wb.Ok ∧ j < wb.kinds.length ∧ ∀ L H', H L = none → Ext H H' → H' L = some (.lst (lsV wb.kinds.length (Gr.runs wb.edsF j wb.kinds.length))) → Q (.ref L) H'
theorem ok_Lfr {f : Addr} {fd : FuncData} (F : Fun K "_law_far" "_law_far" (top 91) f fd)  : FnOk P w K mg base (L2.CX P w) 1 f fd ["web", "joint"] spLfr := by
  refine F.okX scLfr (fun vs H Q E h => ?_) (fun cdv AA outer s H vs Q E hr h => ?_)
  · obtain ⟨t, jl, rl, tl, wb, j, rfl, _⟩ := h; rfl
  · obtain ⟨t, jl, rl, tl, wb, j, rfl, hW, ok, hj, q⟩ := h
    refine ⟨_, (pss_cons (ps_setLc (i := 2) (own := [("s", 3)]) (g := (gName 3)) rfl scLfr.nd rfl rfl (sw_true rfl rfl rfl rfl) (pi_seq (pe_ix ix_tup (pv 0) pe_int (fun _ _ => rfl))) (blkOk_by (own := [("s", 3)]) (N := ["web", "joint", "least", "s", "rod", "side", "a", "b"]) (sc := defScope (top 91)) (by decide +kernel)) (fun _ _ _ _ _ => (pg_name (i := 3) scLfr.nd rfl (Or.inl rfl))) (fun _ _ _ _ _ => pts_nil) (fun _ _ _ _ _ => pe_non))
      (pss_cons (ps_asg pe_int (pg_sub (pv 2) (pv 1) set_list))
      (pss_cons (ps_for (passes_of rfl) rfl (pi_seq (pe_ix ix_tup (pv 0) pe_int (fun _ _ => rfl))) (pg_name (i := 3) scLfr.nd rfl (Or.inl rfl)) (pss_one (ps_for (passes_of rfl) rfl (pi_seq (pe_ix ix_tup (pv 0) pe_int (fun _ _ => rfl))) (pg_name (i := 4) scLfr.nd rfl (Or.inl rfl)) (pss_one (ps_for (passes_of rfl) rfl (pi_seq (pe_lst (pa_cons (pe_tup (pa_cons (pe_ix ix_tup (pv 4) pe_int (fun _ _ => rfl)) (pa_cons (pe_ix ix_tup (pv 4) pe_int (fun _ _ => rfl)) pa_nil))) (pa_cons (pe_tup (pa_cons (pe_ix ix_tup (pv 4) pe_int (fun _ _ => rfl)) (pa_cons (pe_ix ix_tup (pv 4) pe_int (fun _ _ => rfl)) pa_nil))) pa_nil)))) (pg_name (i := 5) scLfr.nd rfl (Or.inl rfl)) (pss_cons (ps_set (i := 6) scLfr.nd rfl (Or.inl rfl) (pe_ix ix_list (pv 2) (pe_ix ix_tup (pv 5) pe_int (fun _ _ => rfl)) (fun _ _ => rfl)))
      (pss_cons (ps_set (i := 7) scLfr.nd rfl (Or.inl rfl) (pe_ix ix_list (pv 2) (pe_ix ix_tup (pv 5) pe_int (fun _ _ => rfl)) (fun _ _ => rfl)))
      (pss_one (ps_if (PW.pt (pw_and (pt_cmpR L2.op_notN (pv 6) pe_non (nomark _)) (pw_and1 (PW.pt (pw_or (pt_cmpR L2.op_isN (pv 7) pe_non (nomark _)) (pw_or1 (pt_cmpR L2.op_lt (pe_op L2.op_add (pv 6) (pe_ix ix_tup (pv 4) pe_int (fun _ _ => rfl))) (pv 7) (nomark _)))))))) (pss_one (ps_asg (pe_op L2.op_add (pv 6) (pe_ix ix_tup (pv 4) pe_int (fun _ _ => rfl))) (pg_sub (pv 2) (pe_ix ix_tup (pv 5) pe_int (fun _ _ => rfl)) set_list))) pss_nil)))))))))
      (pss_one (ps_ret (pv 2)))))), ?_⟩
    have hW0 := hW
    obtain ⟨wt, wj, ⟨rx, wr, hrx⟩, _⟩ := hW0
    have n8 : wb.kinds.length ≤ 8 := ok.n
    have m8 : wb.rods.length ≤ 8 := ok.m
    have jl_ : (wb.kinds.map kV_).length = wb.kinds.length := by simp
    obtain ⟨N, hN⟩ : ∃ N, N = wb.kinds.length := ⟨_, rfl⟩
    -- the list
    refine tseq_of (t := tAsg (tLc _ _ _ _ _) (gName 2)) ?_
    refine tasg_of ?_
    refine tlc_X (R := fun (x : V) (_ : Unit) (_ : Hp) => x = .non) (ys := List.replicate N ()) (H1 := H) (by rw [List.length_replicate, hN, ← jl_]; exact walk_S (K := K) (k := true) (a := jl) (xs := wb.kinds.map kV_)) (fun R r' => ⟨_, rfl, t, _, _, _, rfl, rfl, SqT.of wt, rfl, true, jl, _, rfl, SqL.of wj, r'⟩) (fun _ _ _ _ _ h => h) (big1000 (by rw [List.length_replicate]; omega)) (fun H2 e => SqL.of (e _ _ wj)) ?_ gm_name fun L us H1 nL e1 hL hus => ?_
    · rintro i x _ H3 b hb e ⟨rfl, hxi⟩ Qy kk
      exact ⟨rfl, kk _ _ Ext.rfl' rfl⟩
    have eus : us = List.replicate N V.non := by
      refine List.ext_getElem (by rw [hus.1]; simp) fun i h1 h2 => ?_
      have := hus.2 i us[i] () (List.getElem?_eq_getElem h1) (by rw [List.getElem?_replicate, if_pos (by simpa using h2)])
      rw [this]
      simp
    subst eus
    dsimp only [gName, List.set]
    -- the start
    refine ⟨_, rfl, _, rfl, L, _, _, j, rfl, rfl, hL, ixN_nat (by simp; omega), ?_⟩
    have f0 : (upd H1 L (.lst ((List.replicate N V.non).set j (.int 0)))) L = some (.lst (lsV N (Gr.runs wb.edsF j 0))) := by
      rw [upd_same]
      exact congrArg (fun z => some (HO.lst z)) (start_lsV (by omega)).symm
    have e2 : Ext H (upd H1 L (.lst ((List.replicate N V.non).set j (.int 0)))) := kpl nL e1
    have LJ : jl ≠ L := ne_of_none wj nL
    generalize upd H1 L (.lst ((List.replicate N V.non).set j (.int 0))) = H2 at f0 e2 ⊢
    clear hL e1 hus
    -- each pass
    refine ⟨_, rfl, t, _, _, _, rfl, rfl, SqT.of (e2 _ _ wt), rfl, true, jl, _, rfl, SqL.of (e2 _ _ wj), ?_⟩
    refine for_it (walk_S (K := K) (k := true) (a := jl) (xs := wb.kinds.map kV_)) (fun k σ H' => Ext H H' ∧ H' L = some (.lst (lsV N (Gr.runs wb.edsF j k))) ∧ ∃ z3 z4 z5 z6 z7, σ = [some (.ref t), some (.int (j : Int)), some (.ref L), z3, z4, z5, z6, z7]) ⟨e2, f0, _, _, _, _, _, rfl⟩ (fun i σ H' _ e => SqL.of (e.1 _ _ wj)) ?_ ?_
    · rintro k x σ _ H3 hk ⟨e3, f3, z3, z4, z5, z6, z7, rfl⟩ ⟨rfl, _⟩
      dsimp only [gName, List.set]
      obtain ⟨fk, hfk⟩ : ∃ fk, fk = Gr.runs wb.edsF j k := ⟨_, rfl⟩
      have hks : Gr.runs wb.edsF j (k + 1) = (wb.rods.flatMap WebD.edF).foldl Gr.relax fk := by rw [hfk]; rfl
      rw [hks]
      rw [← hfk] at f3
      clear hks hfk f0 e2
      refine ⟨_, rfl, t, _, _, _, rfl, rfl, SqT.of (e3 _ _ wt), rfl, true, rl, rx, rfl, SqL.of (e3 _ _ wr), ?_⟩
      refine for_it walk_S (fun i σ H' => Ext H H' ∧ H' L = some (.lst (lsV N (((wb.rods.take i).flatMap WebD.edF).foldl Gr.relax fk))) ∧ ∃ z3 z4 z5 z6 z7, σ = [some (.ref t), some (.int (j : Int)), some (.ref L), z3, z4, z5, z6, z7]) ⟨e3, f3, _, _, _, _, _, rfl⟩ (fun i σ H' _ e => SqL.of (e.1 _ _ wr)) ?_ ?_
      · rintro i x σ _ H4 hi ⟨e4, f4, y3, y4, y5, y6, y7, rfl⟩ ⟨rfl, hxi⟩
        dsimp only [gName, List.set]
        obtain ⟨r, hri, hrv⟩ := hrx.get' hxi
        have hi' : i < wb.rods.length := by have := hrx.1; omega
        have er : r = wb.rod i := by rw [WebD.rod_at hi'] at hri; exact (Option.some.inj hri).symm
        subst er
        obtain ⟨rq, sv, rfl, hra, hsv⟩ := hrv
        have r1 := ok.st _ (WebD.rod_mem hi')
        have r2 := ok.en _ (WebD.rod_mem hi')
        rw [edsF_take hi', List.foldl_append]
        obtain ⟨fi, hfi⟩ : ∃ fi, fi = ((wb.rods.take i).flatMap WebD.edF).foldl Gr.relax fk := ⟨_, rfl⟩
        rw [← hfi] at f4 ⊢
        clear hfi
        -- the sides
        refine ⟨_, rfl, rq, _, _, _, rfl, rfl, SqT.of (e4 _ _ hra), rfl, _, rfl, rq, _, _, _, rfl, rfl, SqT.of (e4 _ _ hra), rfl, (by show 2 ≤ sizeLine; decide), fun t1 n1 => ?_⟩
        have e5 := e4.trans (ext1 (o := .tup [.int ((wb.rod i).st : Int), .int ((wb.rod i).en : Int)]) n1)
        refine ⟨_, rfl, rq, _, _, _, rfl, rfl, SqT.of (e5 _ _ hra), rfl, _, rfl, rq, _, _, _, rfl, rfl, SqT.of (e5 _ _ hra), rfl, (by show 2 ≤ sizeLine; decide), fun t2 n2 => ?_⟩
        refine ⟨(by show 2 ≤ sizeLine; decide), fun l nl => ?_⟩
        have hL4 : H4 L ≠ none := fun z => by rw [z] at f4; cases f4
        have L1 : t1 ≠ L := fun z => hL4 (by rw [← z]; exact n1)
        have L2_ : t2 ≠ L := fun z => hL4 (by
          rw [← z]
          exact ext_none (ext1 n1) n2)
        have Ll : l ≠ L := fun z => hL4 (by
          rw [← z]
          exact ext_none ((ext1 n1).trans (ext1 n2)) nl)
        have ht1 := (ext1 (o := .lst [V.ref t1, V.ref t2]) nl) _ _ ((ext1 (o := .tup [.int ((wb.rod i).en : Int), .int ((wb.rod i).st : Int)]) n2) _ _ (upd_same (H := H4) (a := t1) (o := .tup [.int ((wb.rod i).st : Int), .int ((wb.rod i).en : Int)])))
        have ht2 := (ext1 (o := .lst [V.ref t1, V.ref t2]) nl) _ _ (upd_same (H := upd H4 t1 (.tup [.int ((wb.rod i).st : Int), .int ((wb.rod i).en : Int)])) (a := t2) (o := .tup [.int ((wb.rod i).en : Int), .int ((wb.rod i).st : Int)]))
        have hl := upd_same (H := upd (upd H4 t1 (.tup [.int ((wb.rod i).st : Int), .int ((wb.rod i).en : Int)])) t2 (.tup [.int ((wb.rod i).en : Int), .int ((wb.rod i).st : Int)])) (a := l) (o := .lst [V.ref t1, V.ref t2])
        have e6 := (e5.trans (ext1 n2)).trans (ext1 (o := .lst [V.ref t1, V.ref t2]) nl)
        have f6 := ((ext1 n1).trans ((ext1 n2).trans (ext1 (o := .lst [V.ref t1, V.ref t2]) nl))) _ _ f4
        generalize (upd (upd (upd H4 t1 (.tup [.int ((wb.rod i).st : Int), .int ((wb.rod i).en : Int)])) t2 (.tup [.int ((wb.rod i).en : Int), .int ((wb.rod i).st : Int)])) l (.lst [V.ref t1, V.ref t2])) = H6 at ht1 ht2 hl e6 f6
        clear n1 n2 nl f4 hL4 e4 e5
        refine ⟨true, l, _, rfl, SqL.of hl, ?_⟩
        refine for_it walk_S (fun m σ H' => Ext H H' ∧ Kp L H6 H' ∧ H' L = some (.lst (lsV N (((WebD.edF (wb.rod i)).take m).foldl Gr.relax fi))) ∧ ∃ z5 z6 z7, σ = [some (.ref t), some (.int (j : Int)), some (.ref L), y3, some (.ref rq), z5, z6, z7]) ⟨e6, Kp.refl, f6, _, _, _, rfl⟩ (fun i σ H' _ e => SqL.of (e.2.1 _ _ hl Ll)) ?_ ?_
        · rintro m x σ _ H8 hm ⟨e8, k8, f8, z5, z6, z7, rfl⟩ ⟨rfl, hxm⟩
          dsimp only [gName, List.set]
          have hm2 : m < 2 := hm
          obtain ⟨tm, S, T, rfl, htm, hS, hT, he⟩ : ∃ tm S T, x = V.ref tm ∧ (∀ H', Kp L H6 H' → H' tm = some (.tup [.int ((S : Nat) : Int), .int ((T : Nat) : Int)])) ∧ S < wb.kinds.length ∧ T < wb.kinds.length ∧ (WebD.edF (wb.rod i))[m]? = some (S, T, (wb.rod i).len) := by
            rcases (show m = 0 ∨ m = 1 by omega) with rfl | rfl
            · exact ⟨t1, (wb.rod i).st, (wb.rod i).en, by injection hxm with z; exact z.symm, fun H' k => k _ _ ht1 L1, r1, r2, rfl⟩
            · exact ⟨t2, (wb.rod i).en, (wb.rod i).st, by injection hxm with z; exact z.symm, fun H' k => k _ _ ht2 L2_, r2, r1, rfl⟩
          rw [fold_take he]
          obtain ⟨g, hg⟩ : ∃ g, g = ((WebD.edF (wb.rod i)).take m).foldl Gr.relax fi := ⟨_, rfl⟩
          rw [← hg] at f8 ⊢
          clear hg he
          have hx : S < N := by omega
          have hy : T < N := by omega
          have htm8 := htm H8 k8
          have hra8 := e8 _ _ hra
          refine ⟨_, rfl, _, rfl, tm, _, _, _, rfl, rfl, SqT.of htm8, rfl, L, _, _, _, rfl, rfl, SqL.of f8, atI_nat (lsV_at hx), ?_⟩
          dsimp only [gName, List.set]
          refine ⟨_, rfl, _, rfl, tm, _, _, _, rfl, rfl, SqT.of htm8, rfl, L, _, _, _, rfl, rfl, SqL.of f8, atI_nat (lsV_at hy), ?_⟩
          dsimp only [gName, List.set]
          cases hgx : g S with
          | none =>
            refine ⟨_, rfl, rfl, _, rfl, if_ND (fun c => absurd rfl c) (fun _ => iteF ?_)⟩
            refine tnext_of ?_
            exact ⟨e8, k8, by rw [relax_none (e := (S, T, (wb.rod i).len)) hgx]; exact f8, _, _, _, rfl⟩
          | some a =>
            refine ⟨_, rfl, rfl, _, rfl, if_ND (fun _ => ?_) (fun c => by cases c)⟩
            have goB : ∀ (v : V), v = optV (Gr.less (g T) (a + (wb.rod i).len)) → Ext H (upd H8 L (.lst ((lsV N g).set T v))) ∧ Kp L H6 (upd H8 L (.lst ((lsV N g).set T v))) ∧ (upd H8 L (.lst ((lsV N g).set T v))) L = some (.lst (lsV N (Gr.relax g (S, T, (wb.rod i).len)))) := fun v hv => by
              refine ⟨kpl nL e8, k8.upd, ?_⟩
              rw [upd_same, hv]
              exact congrArg (fun z => some (HO.lst z)) (lsV_relax (e := (S, T, (wb.rod i).len)) hgx hy).symm
            cases hgy : g T with
            | none =>
              rw [hgy] at goB
              refine ⟨_, rfl, rfl, _, rfl, if_D (fun _ => ?_) (fun c => absurd rfl c)⟩
              refine iteT ?_
              refine ⟨_, rfl, _, rfl, rq, _, _, _, rfl, rfl, SqT.of hra8, rfl, _, _, rfl, rfl, _, rfl, _, rfl, tm, _, _, _, rfl, rfl, SqT.of htm8, rfl, L, _, _, T, rfl, rfl, f8, ixN_nat (by rw [lsV_len]; exact hy), ?_⟩
              obtain ⟨b1, b2, b3⟩ := goB (.int ((a : Int) + ((wb.rod i).len : Int))) (by show _ = V.int _; push_cast; rfl)
              exact ⟨b1, b2, b3, _, _, _, rfl⟩
            | some b =>
              rw [hgy] at goB
              refine ⟨_, rfl, rfl, _, rfl, if_D (fun c => by cases c) (fun _ => ?_)⟩
              refine ⟨_, rfl, _, rfl, rq, _, _, _, rfl, rfl, SqT.of hra8, rfl, _, _, rfl, rfl, _, rfl, _, _, rfl, rfl, _, rfl, if_D (fun c => ?_) (fun c => ?_)⟩
              · refine ⟨_, rfl, _, rfl, rq, _, _, _, rfl, rfl, SqT.of hra8, rfl, _, _, rfl, rfl, _, rfl, _, rfl, tm, _, _, _, rfl, rfl, SqT.of htm8, rfl, L, _, _, T, rfl, rfl, f8, ixN_nat (by rw [lsV_len]; exact hy), ?_⟩
                obtain ⟨b1, b2, b3⟩ := goB (.int ((a : Int) + ((wb.rod i).len : Int))) (by
                  unfold Gr.less
                  dsimp only
                  rw [if_pos (by omega)]
                  show _ = V.int _
                  push_cast
                  rfl)
                exact ⟨b1, b2, b3, _, _, _, rfl⟩
              · refine tnext_of ?_
                exact ⟨e8, k8, by rw [relax_same (e := (S, T, (wb.rod i).len)) hgx hgy (by dsimp only; omega)]; exact f8, _, _, _, rfl⟩
        · rintro σ H7 ⟨e7, k7, f7, z5, z6, z7, rfl⟩
          exact ⟨e7, f7, _, _, _, _, _, rfl⟩
      · rintro σ H4 ⟨e4, f4, y3, y4, y5, y6, y7, rfl⟩
        rw [hrx.1, List.take_length] at f4
        exact ⟨e4, f4, _, _, _, _, _, rfl⟩
    rintro σ H3 ⟨e3, f3, z3, z4, z5, z6, z7, rfl⟩
    rw [jl_, ← hN] at f3
    subst hN
    exact ⟨_, rfl, q L H3 nL e3 f3⟩
end
end Fx

set_option Elab.async false
set_option linter.all false
set_option maxRecDepth 100000
set_option maxHeartbeats 4000000
set_option exponentiation.threshold 20000
namespace Fx
open PySem PySem.Spec PyProof.Rows L2 FM KM
/-! ### players: rest, alone; the last state of a record -/
theorem rep_get0 {n i : Nat} {y : Rat} (h : (WebD.zeroN n)[i]? = some y) : y = 0 := by
  have := (List.getElem?_eq_some_iff.mp h).1
  unfold WebD.zeroN at h this
  rw [List.getElem?_replicate, if_pos (by simpa using this)] at h
  exact (Option.some.inj h).symm
theorem zeroN_len {n : Nat} : (WebD.zeroN n).length = n := by unfold WebD.zeroN; simp
theorem fv_zero {A : Adr} {v : Addr} {H : Hp} (h : FracAt A.C H v (0, 1)) : FV A (.ref v) 0 H := by
  have z0 : (0 : Rat) = ((0 : Int) : Rat) := rfl
  refine ⟨v, rfl, ?_⟩
  unfold FQ
  rw [z0, pr_int]
  exact h
section
variable {P : Program} {w : World} {K : PySem.W.Frag} {mg : Str → Option Value} {base : Heap} {A : Adr} {CW CR : Addr}
theorem scRe : FnScope ["self", "_"] ["self"] (defScope (inClass (top 60) 1)) := ⟨rfl, rfl, rfl, by decide +kernel, rfl, by decide +kernel, by decide +kernel⟩
def spRe (A : Adr) (CW : Addr) : Sp := fun vs H Q _ => ∃ a, ∃ w : WebD, vs = [.ref a] ∧ WebAt A CW H a w ∧ ∀ D xs H', H D = none → Ext H H' → H' D = some (.lst xs) → All2 (FV A) xs (WebD.zeroN w.cells) H' → Q (.ref D) H'
theorem ok_Re {f : Addr} {fd : FuncData} (F : Fun K "rest" "Player.rest" (inClass (top 60) 1) f fd) (W_ : WT K mg CW) (F_ : FA P w K mg base A) (ra : mg "range" = none) : FnOk P w K mg base (L2.CX P w) 3 f fd ["self"] (spRe A CW) := by
  refine F.okX scRe (fun vs H Q E h => ?_) (fun cdv AA outer s H vs Q E hr h => ?_)
  · obtain ⟨a, w, rfl, _⟩ := h; rfl
  · obtain ⟨a, w, rfl, hw, q⟩ := h
    refine ⟨_, (pss_one (ps_ret (pe_lc (own := [("_", 1)]) (g := (gName 1)) rfl scRe.nd (pi_range1 rfl ra (pa_cons (pe_fld (pv 0) rfl) pa_nil)) (blkOk_by (own := [("_", 1)]) (N := ["self", "_"]) (sc := defScope (inClass (top 60) 1)) (by decide +kernel)) (fun _ _ _ _ _ => (pg_name (i := 1) scRe.nd rfl (Or.inl rfl))) (fun _ _ _ _ _ => pts_nil) (fun _ _ _ _ _ => (pe_frac1 F_.M F_.T (hr.mono (by decide)) rfl (pa_cons pe_int pa_nil)))))), ?_⟩
    have hw0 := hw
    obtain ⟨ok, wdx, j, rr, e, sv, fv, al, az, cz, h0, _⟩ := hw0
    have c24 := ok.c
    refine tret_of ?_
    refine tlc_X (R := FV A) (ys := WebD.zeroN w.cells) (H1 := H) (by rw [zeroN_len]; exact walk_range (lo := 0)) (fun R r' => ⟨_, rfl, a, CW, wdx, _, _, rfl, h0, W_.cl, W_.n3, wf_cells, (w.cells : Int), rfl, by omega, by omega, r'⟩) moFV (by rw [zeroN_len, sizeLine_eq]; omega) (fun _ _ => trivial) ?_ gm_name fun D us H2 nD e2 hD hu => q D us H2 nD e2 hD hu
    rintro i x _ H2 y hy e ⟨rfl, rfl⟩ Qy kk
    rw [rep_get0 hy] at kk
    exact ⟨rfl, 0, rfl, fun v H3 e3 f3 => kk _ _ e3 (fv_zero f3)⟩
end
end Fx

set_option Elab.async false
set_option linter.all false
set_option maxRecDepth 100000
set_option maxHeartbeats 4000000
set_option exponentiation.threshold 20000
/-! The written forms, in signs. -/
namespace Fx
open PySem PySem.Spec PyProof.Rows L2 FM NumText TL
/-- the signs of an int -/
def sgL (n : Int) : List Nat := if n < 0 then 45 :: numL n.natAbs else numL n.natAbs
def wrL (p : Int × Int) : List Nat := if p.2 = 1 then sgL p.1 else sgL p.1 ++ 47 :: sgL p.2
theorem sgL_pos {n : Int} (h : 0 ≤ n) : sgL n = numL n.natAbs := by unfold sgL; rw [if_neg (by omega)]
theorem sgL_neg {n : Int} (h : n < 0) : sgL n = 45 :: numL n.natAbs := by unfold sgL; rw [if_pos h]
theorem tl_wi (n : Int) : tl (wi n) = sgL n := by
  show tl (Str.ofString (toString n)) = _
  match n with
  | .ofNat m =>
    show tl (Str.ofString (toString ((m : Nat) : Int))) = sgL ((m : Nat) : Int)
    rw [sgL_pos (Int.natCast_nonneg m)]
    exact tl_num m
  | .negSucc m =>
    rw [sgL_neg (Int.negSucc_lt_zero m), tl_ofString]
    have e : toString (Int.negSucc m) = "-" ++ toString (m + 1) := rfl
    rw [e]
    have e2 : tl (Str.ofString (toString (m + 1))) = numL (m + 1) := tl_num (m + 1)
    rw [tl_ofString] at e2
    rw [String.toList_append, List.map_append, e2]
    rfl
theorem tl_wr (p : Int × Int) : tl (wr p) = wrL p := by
  unfold wr wrL
  split
  · exact tl_wi _
  · rw [tl_append, tl_append, tl_append, tl_wi, tl_wi]
    rw [show tl Str.empty = [] from rfl, show tl ("/" : Str) = [47] by decide +kernel]
    simp
theorem sgL_ne (n : Int) : sgL n ≠ [] := by
  unfold sgL
  split
  · simp
  · exact numL_ne _
theorem sgL_chars (n : Int) : ∀ c ∈ sgL n, c = 45 ∨ (48 ≤ c ∧ c ≤ 57) := fun c hc => by
  unfold sgL at hc
  split at hc
  · rcases List.mem_cons.mp hc with e | h
    · exact .inl e
    · exact .inr (numL_digits _ c h)
  · exact .inr (numL_digits _ c hc)
theorem sgL_free (n : Int) : 47 ∉ sgL n := fun h => by have := sgL_chars n 47 h; omega
theorem numL_last (n : Nat) : ∃ l d, numL n = l ++ [d] ∧ 48 ≤ d ∧ d ≤ 57 := by
  have h := List.dropLast_concat_getLast (numL_ne n)
  exact ⟨_, _, h.symm, numL_digits n _ (List.getLast_mem _)⟩
theorem sgL_last (n : Int) : ∃ l d, sgL n = l ++ [d] ∧ 48 ≤ d ∧ d ≤ 57 := by
  obtain ⟨l, d, e, h⟩ := numL_last n.natAbs
  unfold sgL
  split
  · exact ⟨45 :: l, d, by rw [e]; rfl, h⟩
  · exact ⟨l, d, e, h⟩
theorem numL_zero {n : Nat} {r : List Nat} (h : numL n = 48 :: r) : n = 0 := by
  induction n using Nat.strongRecOn generalizing r with
  | _ n ih =>
    by_cases hn : n < 10
    · rw [numL_lt hn] at h
      injection h with h _
      omega
    · rw [numL_step (by omega)] at h
      cases e : numL (n / 10) with
      | nil => exact absurd e (numL_ne _)
      | cons c l =>
        rw [e] at h
        injection h with h1 _
        subst h1
        have := ih (n / 10) (by omega) e
        omega
theorem numL_head (n : Nat) : ∃ c r, numL n = c :: r ∧ 48 ≤ c ∧ c ≤ 57 := by
  cases e : numL n with
  | nil => exact absurd e (numL_ne n)
  | cons c r => exact ⟨c, r, rfl, numL_digits n c (by rw [e]; exact List.mem_cons_self)⟩
theorem sgL_inj {m n : Int} (h : sgL m = sgL n) : m = n := by
  obtain ⟨c, r, e, h1⟩ := numL_head m.natAbs
  obtain ⟨c', r', e', h1'⟩ := numL_head n.natAbs
  unfold sgL at h
  split at h <;> split at h
  · injection h with _ h
    have := numL_inj h
    omega
  · rw [e'] at h
    injection h with h _
    omega
  · rw [e] at h
    injection h with h _
    omega
  · have := numL_inj h
    omega
theorem app_cons_inj {a a' b b' : List Nat} {s : Nat} (h1 : s ∉ a) (h2 : s ∉ a') (h : a ++ s :: b = a' ++ s :: b') : a = a' ∧ b = b' := by
  induction a generalizing a' with
  | nil =>
    cases a' with
    | nil => exact ⟨rfl, by injection h⟩
    | cons c l =>
      injection h with h3 _
      exact absurd (by rw [h3]; exact List.mem_cons_self) h2
  | cons c l ih =>
    cases a' with
    | nil =>
      injection h with h3 _
      exact absurd (by rw [← h3]; exact List.mem_cons_self) h1
    | cons c' l' =>
      injection h with h3 h4
      obtain ⟨r1, r2⟩ := ih (fun z => h1 (List.mem_cons_of_mem _ z)) (fun z => h2 (List.mem_cons_of_mem _ z)) h4
      exact ⟨by rw [h3, r1], r2⟩
theorem wrL_chars (p : Int × Int) : ∀ c ∈ wrL p, c = 45 ∨ c = 47 ∨ (48 ≤ c ∧ c ≤ 57) := fun c hc => by
  unfold wrL at hc
  split at hc
  · have := sgL_chars _ c hc
    omega
  · rcases List.mem_append.mp hc with h | h
    · have := sgL_chars _ c h
      omega
    · rcases List.mem_cons.mp h with e | h
      · omega
      · have := sgL_chars _ c h
        omega
theorem wrL_last (p : Int × Int) : ∃ l d, wrL p = l ++ [d] ∧ 48 ≤ d ∧ d ≤ 57 := by
  unfold wrL
  split
  · exact sgL_last _
  · obtain ⟨l, d, e, h⟩ := sgL_last p.2
    exact ⟨sgL p.1 ++ 47 :: l, d, by rw [e]; simp, h⟩
/-- where the text has a slash -/
theorem wrL_cut {p : Int × Int} {a b : List Nat} (h : wrL p = a ++ 47 :: b) (ha : 47 ∉ a) : p.2 ≠ 1 ∧ sgL p.1 = a ∧ sgL p.2 = b := by
  unfold wrL at h
  split at h
  · exact absurd (h ▸ (by simp : 47 ∈ a ++ 47 :: b)) (sgL_free _)
  · exact ⟨by assumption, app_cons_inj (sgL_free _) ha h⟩
/-- where it has none -/
theorem wrL_one {p : Int × Int} {a : List Nat} (h : wrL p = a) (ha : 47 ∉ a) : p.2 = 1 ∧ sgL p.1 = a := by
  unfold wrL at h
  split at h
  · exact ⟨by assumption, h⟩
  · exact absurd (h ▸ (by simp : 47 ∈ sgL p.1 ++ 47 :: sgL p.2)) ha
theorem wrL_head (p : Int × Int) : ∃ r, wrL p = sgL p.1 ++ r ∧ (r = [] ∨ ∃ r', r = 47 :: r') := by
  unfold wrL
  split
  · exact ⟨[], by simp, .inl rfl⟩
  · exact ⟨_, rfl, .inr ⟨_, rfl⟩⟩
theorem wrL_inj {p q : Int × Int} (h : wrL p = wrL q) : p = q := by
  by_cases h2 : q.2 = 1
  · have e : wrL q = sgL q.1 := by unfold wrL; rw [if_pos h2]
    obtain ⟨a, b⟩ := wrL_one (h.trans e) (sgL_free _)
    exact Prod.ext (sgL_inj b) (a.trans h2.symm)
  · have e : wrL q = sgL q.1 ++ 47 :: sgL q.2 := by unfold wrL; rw [if_neg h2]
    obtain ⟨_, a, b⟩ := wrL_cut (h.trans e) (sgL_free _)
    exact Prod.ext (sgL_inj a) (sgL_inj b)
theorem wr_inj {p q : Int × Int} (h : wr p = wr q) : p = q := wrL_inj (by rw [← tl_wr, ← tl_wr, h])
/-! ### reading -/
def dgs (l : List Nat) : Bool := decide (1 ≤ l.length) && decide (l.length ≤ 60) && l.all fun c => decide (48 ≤ c) && decide (c ≤ 57)
theorem dgs_iff {l : List Nat} : dgs l = true ↔ 1 ≤ l.length ∧ l.length ≤ 60 ∧ AllDigits l := by
  unfold dgs AllDigits
  simp [and_assoc]
def strip : List Nat → List Nat
  | 45 :: r => r
  | l => l
def valL : List Nat → Int
  | 45 :: r => -(digitsVal r : Int)
  | l => (digitsVal l : Int)
/-- what is read, ahead of lowest terms: the parts above and below the first slash -/
def parse (a : List Nat) (b : Option (List Nat)) : Option (Int × Int) := match b with
  | none => if dgs (strip a) = true then some (valL a, 1) else none
  | some b => if (dgs (strip a) && dgs b) = true then some (valL a, (digitsVal b : Int)) else none
theorem fold_lt (l : List Nat) (h : AllDigits l) : ∀ k, l.foldl (fun acc c => acc * 10 + (c - 48)) k < (k + 1) * 10 ^ l.length := by
  induction l with
  | nil => intro k; simp
  | cons c l ih =>
    intro k
    have hc := h c List.mem_cons_self
    have := ih h.tail (k * 10 + (c - 48))
    rw [List.foldl_cons, List.length_cons, Nat.pow_succ]
    refine Nat.lt_of_lt_of_le this ?_
    have e : (k + 1) * (10 ^ l.length * 10) = ((k + 1) * 10) * 10 ^ l.length := by rw [Nat.mul_comm (10 ^ l.length) 10, Nat.mul_assoc]
    rw [e]
    exact Nat.mul_le_mul_right _ (by omega)
theorem digitsVal_lt {l : List Nat} (h : dgs l = true) : digitsVal l < 10 ^ 60 := by
  obtain ⟨_, h2, h3⟩ := dgs_iff.mp h
  have := fold_lt l h3 0
  unfold digitsVal
  rw [Nat.zero_add, Nat.one_mul] at this
  exact Nat.lt_of_lt_of_le this (Nat.pow_le_pow_right (by decide) h2)
theorem valL_abs (l : List Nat) : (valL l).natAbs = digitsVal (strip l) := by
  unfold valL strip
  split <;> omega
theorem strip_sgL (n : Int) : strip (sgL n) = numL n.natAbs := by
  unfold sgL
  split
  · rfl
  · obtain ⟨c, r, e, h1, h2⟩ := numL_head n.natAbs
    rw [e]
    unfold strip
    split
    · rename_i q
      injection q with q _
      omega
    · rfl
theorem valL_sgL (n : Int) : valL (sgL n) = n := by
  unfold sgL
  split
  · show -((digitsVal (numL n.natAbs) : Nat) : Int) = n
    rw [numL_val]
    omega
  · obtain ⟨c, r, e, h1, h2⟩ := numL_head n.natAbs
    have hv := numL_val n.natAbs
    rw [e] at hv ⊢
    unfold valL
    split
    · rename_i q
      injection q with q _
      omega
    · rw [hv]
      omega
theorem dgs_num {n : Nat} (h : n < 10 ^ 60) : dgs (numL n) = true := dgs_iff.mpr ⟨by
  have := numL_ne n
  cases e : numL n with
  | nil => exact absurd e this
  | cons c r => simp, numL_len (by decide) h, numL_digits n⟩
/-- the parts of a written form -/
theorem parse_wr {p : Int × Int} (lo : Low p) (h1 : p.1.natAbs < 10 ^ 60) (h2 : p.2.natAbs < 10 ^ 60) {a b : List Nat} {sl : Bool} (h : wrL p = if sl = true then a ++ 47 :: b else a) (ha : 47 ∉ a) : parse a (if sl = true then some b else none) = some p := by
  cases sl with
  | false =>
    obtain ⟨e1, e2⟩ := wrL_one h ha
    subst e2
    show (if dgs (strip (sgL p.1)) = true then some (valL (sgL p.1), (1 : Int)) else none) = some p
    rw [strip_sgL, if_pos (dgs_num h1), valL_sgL, ← e1]
  | true =>
    obtain ⟨e1, e2, e3⟩ := wrL_cut h ha
    subst e2 e3
    have lp := lo.pos
    have e4 : sgL p.2 = numL p.2.natAbs := sgL_pos (Int.le_of_lt lp)
    show (if (dgs (strip (sgL p.1)) && dgs (sgL p.2)) = true then some (valL (sgL p.1), (digitsVal (sgL p.2) : Int)) else none) = some p
    rw [strip_sgL, e4, dgs_num h1, dgs_num h2, if_pos (by decide), valL_sgL, numL_val]
    have : (p.2.natAbs : Int) = p.2 := by omega
    rw [this]
end Fx

set_option Elab.async false
set_option linter.all false
set_option maxRecDepth 100000
set_option maxHeartbeats 4000000
set_option exponentiation.threshold 20000
namespace Fx
open PySem PySem.Spec PyProof.Rows L2 FM NumText TL
abbrev sRdb : Stmt := top 45
abbrev sBad : Stmt := inClass (top 5) 0
/-! ### cuts, in signs -/
theorem par_cut : ∀ (l acc x y : List Nat), par [47] acc l = some (x, y) → ∃ a, x = acc ++ a ∧ l = a ++ 47 :: y ∧ 47 ∉ a := by
  intro l
  induction l with
  | nil => intro acc x y h; cases h
  | cons c r ih =>
    intro acc x y h
    cases e : pre [47] (c :: r) with
    | true =>
      rw [par_hit e] at h
      injection h with h
      injection h with h1 h2
      have ec : c = 47 := by simpa [pre] using e
      exact ⟨[], by rw [List.append_nil, h1], by rw [ec, ← h2]; rfl, by simp⟩
    | false =>
      rw [par_miss e] at h
      obtain ⟨a, h1, h2, h3⟩ := ih _ _ _ h
      have ec : c ≠ 47 := fun z => by rw [z] at e; simp [pre] at e
      exact ⟨c :: a, by rw [h1, List.append_assoc]; rfl, by rw [h2]; rfl, fun z => (List.mem_cons.mp z).elim (fun z => ec z.symm) h3⟩
theorem par_no : ∀ (l acc : List Nat), par [47] acc l = none → 47 ∉ l := by
  intro l
  induction l with
  | nil => intro acc _; simp
  | cons c r ih =>
    intro acc h
    cases e : pre [47] (c :: r) with
    | true => rw [par_hit e] at h; cases h
    | false =>
      rw [par_miss e] at h
      have ec : c ≠ 47 := fun z => by rw [z] at e; simp [pre] at e
      exact fun z => (List.mem_cons.mp z).elim (fun z => ec z.symm) (ih _ h)
theorem tl_slash : tl ("/" : Str) = [47] := by decide +kernel
theorem tl_dash : tl ("-" : Str) = [45] := by decide +kernel
def slS (s : Bool) : Str := if s = true then "/" else Str.empty
theorem part_of (t : Str) : ∃ (s : Bool) (a b : Str), Txt.partition t "/" = (a, slS s, b) ∧ 47 ∉ tl a ∧ tl t = if s = true then tl a ++ 47 :: tl b else tl a := by
  have h := partition_par t "/" (by rw [tl_slash]; simp)
  rw [tl_slash] at h
  cases e : par [47] [] (tl t) with
  | none =>
    rw [e] at h
    exact ⟨false, t, Str.empty, h, par_no _ _ e, rfl⟩
  | some p =>
    obtain ⟨x, y⟩ := p
    rw [e] at h
    obtain ⟨a, h1, h2, h3⟩ := par_cut _ _ _ _ e
    rw [List.nil_append] at h1
    subst h1
    exact ⟨true, ⟨x.toArray⟩, ⟨y.toArray⟩, h, h3, h2⟩
theorem starts_dash (z : Str) : Txt.startswith z "-" = pre [45] (tl z) := by
  have h := at_iff (x := z) (y := "-") (by rw [tl_dash]; simp) 0
  rw [tl_dash, List.drop_zero] at h
  rw [Bool.eq_iff_iff, ← h]
  unfold Txt.startswith
  rw [Bool.and_eq_true, decide_eq_true_iff]
  rfl
def stripS (z : Str) : Str := ⟨(strip (tl z)).toArray⟩
theorem cut1 {z : Str} (h : pre [45] (tl z) = true) : cutS z (some 1) none = stripS z := by
  have e : ∃ r, tl z = 45 :: r := by
    cases q : tl z with
    | nil => rw [q] at h; cases h
    | cons c r =>
      rw [q] at h
      have ec : c = 45 := by simpa [pre] using h
      exact ⟨r, by rw [ec]⟩
  obtain ⟨r, e⟩ := e
  have hl := len_tl z
  rw [e, List.length_cons] at hl
  refine ext_tl ?_
  show ((tl z).drop (HT.sIx z.length 0 (some ((1 : Nat) : Int)))).take (HT.sIx z.length z.length none - HT.sIx z.length 0 (some ((1 : Nat) : Int))) = strip (tl z)
  rw [HT.sIx_none, HT.sIx_nat, Nat.min_eq_left (by omega), e]
  show r.take (z.length - 1) = r
  exact List.take_of_length_le (by omega)
theorem nocut {z : Str} (h : pre [45] (tl z) = false) : z = stripS z := by
  refine ext_tl ?_
  show tl z = strip (tl z)
  unfold strip
  split
  · rename_i q
    rw [q] at h
    simp [pre] at h
  · rfl
/-! ### _readable -/
section
variable {P : Program} {w : World} {K : PySem.W.Frag} {mg : Str → Option Value} {base : Heap} {A : Adr} {Mm : Addr}
def spRdb : Sp := fun vs H Q _ => ∃ z, vs = [.str z] ∧ z.length ≤ 10000 ∧ ∀ H', Ext H H' → Q (.bl (dgs (tl z))) H'
theorem scRdb : FnScope ["digits", "digit"] ["digits"] (defScope sRdb) := ⟨rfl, rfl, rfl, by decide +kernel, rfl, by decide +kernel, by decide +kernel⟩
def tenS : Str := "0123456789"
theorem ten_mem {c : Nat} : decide (c ∈ tenS.cps.toList) = (decide (48 ≤ c) && decide (c ≤ 57)) := by
  have e : tenS.cps.toList = [48, 49, 50, 51, 52, 53, 54, 55, 56, 57] := by decide +kernel
  rw [e, Bool.eq_iff_iff]
  simp only [decide_eq_true_eq, Bool.and_eq_true, List.mem_cons, List.not_mem_nil, or_false]
  omega
theorem boot_len : bootBuiltins "len" = some (.builtin "len") := by decide +kernel
theorem ok_rdb {f : Addr} {fd : FuncData} (F : Fun K "_readable" "_readable" sRdb f fd) (T : FT K mg A) (S : StF K A) (ln : mg "len" = none) (al : mg "all" = none) (cv : ∃ u, ClX.CVal K A.C (.type "type") "MOST_DIGITS" (.int 60) u) :
    FnOk P w K mg base (L2.CX P w) 1 f fd ["digits"] spRdb := by
  obtain ⟨u, cv⟩ := cv
  refine F.okX scRdb (fun vs H Q E h => ?_) (fun cdv AA outer s H vs Q E hr h => ?_)
  · obtain ⟨z, rfl, _⟩ := h
    rfl
  · obtain ⟨z, rfl, hz, kk⟩ := h
    refine ⟨_, pss_cons (ps_if (pt_not (pt_chain L2.op_le L2.op_le pe_int (pe_callB call_len_str (by rfl) ln boot_len (pa_cons (pv 0) pa_nil)) (ClX.pe_cval (pe_glob (v := .ref A.C) (by rfl) T.mgC rfl)))) (pss_one (ps_ret pe_bl)) pss_nil)
      (pss_one (ps_ret (pe_callB (cr_all rfl) (by rfl) al boot_all (pa_cons (pe_lc (own := [("digit", 1)]) (g := gName 1) rfl scRdb.nd (pi_str (pv 0)) (blkOk_by (own := [("digit", 1)]) (N := ["digits", "digit"]) (sc := defScope sRdb) (by decide +kernel)) (fun _ _ _ _ _ => pg_name (i := 1) scRdb.nd rfl (Or.inl rfl)) (fun _ _ _ _ _ => pts_nil) (fun _ _ _ _ _ => pe_cmpR op_in_sign (pv 1) pe_str (by with_unfolding_all rfl))) pa_nil)))), ?_⟩
    have hsz : z.length ≤ sizeLine := by rw [sizeLine_eq]; omega
    have ez : (z.length : Nat) = (tl z).length := len_tl z
    refine ⟨_, rfl, z, rfl, hsz, _, _, rfl, rfl, _, rfl, ?_⟩
    by_cases h1 : (1 : Int) ≤ (z.length : Int)
    · rw [decide_eq_true h1]
      refine iteT ⟨_, _, _, _, rfl, S.cr, cv, _, _, rfl, rfl, _, rfl, ?_⟩
      by_cases h2 : (z.length : Int) ≤ 60
      · rw [decide_eq_true h2]
        refine iteF ?_
        refine ⟨_, rfl, z, rfl, fun D nD => ?_⟩
        refine lc_it (walk_str (z := z)) (fun i H2 => H2 D = some (.lst ((((tl z).take i).map fun c => decide (c ∈ tenS.cps.toList)).map V.bl)) ∧ Ext H H2) ⟨upd_same, ext1 nD⟩ (fun _ _ _ _ => trivial) ?_ ?_
        · rintro i x H2 H3 hi ⟨hD, e2⟩ ⟨rfl, c, hc, rfl⟩
          refine ⟨wipe1 _ _, @iteT _ True ⟨_, rfl, c, tenS, rfl, rfl, _, hD, ?_, ?_, ?_⟩⟩
          · rw [List.length_map, List.length_map, List.length_take, sizeLine_eq]
            omega
          · rw [upd_same]
            have hc' : (tl z)[i]? = some c := by rw [← hc]; exact (Array.getElem?_toList).symm ▸ rfl
            rw [List.take_add_one, hc', List.map_append, List.map_append]
            rfl
          · intro a o q
            rw [upd_ne (ne_of_none q nD)]
            exact e2 _ _ q
        · rintro H2 ⟨hD, e2⟩
          refine ⟨D, _, rfl, SqL.of hD, ?_⟩
          have e : (((tl z).take z.cps.size).map fun c => decide (c ∈ tenS.cps.toList)).all id = dgs (tl z) := by
            rw [List.take_of_length_le (by rw [← ez]; exact Nat.le_refl _), List.all_map]
            unfold dgs
            rw [decide_eq_true (show 1 ≤ (tl z).length by omega), decide_eq_true (show (tl z).length ≤ 60 by omega)]
            simp only [Bool.true_and]
            congr 1
            funext c
            exact ten_mem
          rw [e]
          exact kk _ e2
      · rw [decide_eq_false h2]
        refine iteT ?_
        have e : dgs (tl z) = false := by
          unfold dgs
          rw [decide_eq_false (show ¬ (tl z).length ≤ 60 by omega)]
          simp
        rw [e] at kk
        exact kk _ Ext.rfl'
    · rw [decide_eq_false h1]
      refine iteF ⟨_, rfl, iteT ?_⟩
      have e : dgs (tl z) = false := by
        unfold dgs
        rw [decide_eq_false (show ¬ 1 ≤ (tl z).length by omega)]
        simp
      rw [e] at kk
      exact kk _ Ext.rfl'
/-! ### BadText(text) -/
def spBad (C : Addr) : Sp := fun vs H Q _ => ∃ x t, vs = [.ref x, .str t] ∧ H x = some (exo x C none) ∧ ∀ dx, H dx = none → dx ≠ x → Q .non (upd (upd H dx (exd dx [("text", .str t)])) x (exo x C (some dx)))
theorem scBad : FnScope ["self", "text"] ["self", "text"] (defScope sBad) := ⟨rfl, rfl, rfl, by decide +kernel, rfl, by decide +kernel, by decide +kernel⟩
theorem ok_bad {C : Addr} {f : Addr} {fd : FuncData} (F : Fun K "__init__" "BadText.__init__" sBad f fd) (T : OexC K C) (no : PySem.W.findIn K (.ref C) "text" = some none) : FnOk P w K mg base (L2.CX P w) 1 f fd ["self", "text"] (spBad C) := by
  refine F.okX scBad (fun vs H Q E h => ?_) (fun cdv AA outer s H vs Q E hr h => ?_)
  · obtain ⟨x, t, rfl, _⟩ := h
    rfl
  · obtain ⟨x, t, rfl, hx, kk⟩ := h
    refine ⟨_, pss_one (ps_ost (pv 0) (pv 1)), ?_⟩
    exact ⟨_, rfl, _, rfl, x, C, rfl, T, no, .inl ⟨hx, fun dx nd ne => kk dx nd ne⟩⟩
end
end Fx

set_option Elab.async false
set_option linter.all false
set_option maxRecDepth 100000
set_option maxHeartbeats 8000000
set_option exponentiation.threshold 20000
namespace Fx
open PySem PySem.Spec PyProof.Rows L2 FM NumText TL
/-- what lets read raise -/
def Bad (t : Str) : Prop := ∀ p : Int × Int, Low p → p.1.natAbs < 10 ^ 60 → p.2.natAbs < 10 ^ 60 → t ≠ wr p
def spRead (A : Adr) : Sp := fun vs H Q E => ∃ t, vs = [.str t] ∧ t.length ≤ 5000 ∧ ((∃ p, Low p ∧ p.1.natAbs < 10 ^ 60 ∧ p.2.natAbs < 10 ^ 60 ∧ t = wr p ∧ ∀ r H', Ext H H' → FracAt A.C H' r p → Q (.ref r) H') ∨
  (Bad t ∧ ∀ dd H', Ext H H' → H' dd = some (.xd [("text", .str t)]) → E (.ref A.T) (some dd) H'))
theorem iteD {c A B : Prop} [Decidable c] (h : c) (a : A) : if decide c = true then A else B := by
  rw [decide_eq_true h, if_pos rfl]
  exact a
theorem iteDF {c A B : Prop} [Decidable c] (h : ¬ c) (b : B) : if decide c = true then A else B := by
  rw [decide_eq_false h, if_neg Bool.false_ne_true]
  exact b
abbrev sRead : Stmt := inClass (top 39) 24
theorem ifNT {b : Bool} {A B : Prop} (h : b = false) (a : A) : if (!b) = true then A else B := by
  subst h
  exact a
theorem ifNF {b : Bool} {A B : Prop} (h : b = true) (x : B) : if (!b) = true then A else B := by
  subst h
  exact x
theorem int_val {a : Str} (h : dgs (strip (tl a)) = true) : intText? a = some (valL (tl a)) := by
  obtain ⟨h1, h2, h3⟩ := dgs_iff.mp h
  have hl := len_tl a
  by_cases e : ∃ r, tl a = 45 :: r
  · obtain ⟨r, e⟩ := e
    rw [e] at h1 h2 h3 hl ⊢
    have hs : strip (45 :: r) = r := rfl
    rw [hs] at h1 h2 h3
    exact intText_neg e h3 (by intro z; rw [z] at h1; simp at h1) (by rw [hl, List.length_cons]; omega)
  · have hs : strip (tl a) = tl a := by
      unfold strip
      split
      · rename_i r q
        exact absurd ⟨r, q⟩ e
      · rfl
    have hv : valL (tl a) = (digitsVal (tl a) : Int) := by
      unfold valL
      split
      · rename_i r q
        exact absurd ⟨r, q⟩ e
      · rfl
    rw [hs] at h1 h2 h3
    rw [hv]
    exact intText_digits h3 (by intro z; rw [show tl a = [] from z] at h1; simp at h1) (by omega)
theorem int_dg {b : Str} (h : dgs (tl b) = true) : intText? b = some (digitsVal (tl b) : Int) := by
  obtain ⟨h1, h2, h3⟩ := dgs_iff.mp h
  have hl := len_tl b
  exact intText_digits h3 (by intro z; rw [show tl b = [] from z] at h1; simp at h1) (by omega)
theorem sl_tru {K : PySem.W.Frag} {H : Hp} : ∀ s : Bool, TruV K (.str (slS s)) H s
  | true => ⟨by decide +kernel, by decide +kernel⟩
  | false => ⟨by decide +kernel, by decide +kernel⟩
theorem len_strip {a : Str} (h : dgs (strip (tl a)) = true) : a.length ≤ 61 := by
  obtain ⟨h1, h2, h3⟩ := dgs_iff.mp h
  rw [len_tl a]
  unfold strip at h2
  split at h2
  · rename_i r q
    rw [q, List.length_cons]
    omega
  · omega
theorem pow60 : 10 ^ 60 ≤ 2 ^ 200 := by decide +kernel
theorem bi60 {d : Int} (h : d.natAbs < 10 ^ 60) : Bi d := Nat.lt_of_lt_of_le h (Nat.le_trans pow60 (Nat.pow_le_pow_right (by decide) (by decide)))
theorem oks60 {p : Int × Int} (lo : Low p) (h1 : p.1.natAbs < 10 ^ 60) (h2 : p.2.natAbs < 10 ^ 60) : Oks p :=
  ⟨lo, Nat.lt_of_lt_of_le h1 (Nat.le_trans pow60 (Nat.pow_le_pow_right (by decide) (by decide))), Nat.lt_of_lt_of_le h2 (Nat.le_trans pow60 (Nat.pow_le_pow_right (by decide) (by decide)))⟩
theorem raise_ok {C : Addr} {σ : L2.St} {H H1 : Hp} {t : Str} {E : XK} (h0 : σ[0]? = some (some (.str t))) (e : Ext H H1) (hE : ∀ dd H', Ext H H' → H' dd = some (.xd [("text", .str t)]) → E (.ref C) (some dd) H') :
    tMkO C (spBad C) [] (tCons (tVar 0) tNil) σ H1 E := by
  refine ⟨_, h0, by show 1 ≤ 1000; decide, fun a na => ⟨a, t, rfl, upd_same, fun dx ndx ne => ⟨rfl, dx, _, upd_same, by rw [upd_ne ne]; exact upd_same, ?_, hE dx _ ?_ upd_same⟩⟩⟩
  · rw [upd_ne ne] at ndx
    exact ndx
  · rw [upd_ne ne] at ndx
    intro b u hb
    have hb1 := e _ _ hb
    have n1 : b ≠ a := fun z => by rw [z, na] at hb1; cases hb1
    have n2 : b ≠ dx := fun z => by rw [z, ndx] at hb1; cases hb1
    rw [upd_ne n2, del_ne n1, upd_ne n1, upd_ne n2, upd_ne n1]
    exact hb1
section
variable {P : Program} {w : World} {K : PySem.W.Frag} {mg : Str → Option Value} {base : Heap} {A : Adr} {Mm : Addr}
theorem scRead : FnScope ["text", "above", "slash", "below", "digits", "den", "value"] ["text"] (defScope sRead) := ⟨rfl, rfl, rfl, by decide +kernel, rfl, by decide +kernel, by decide +kernel⟩
/-- what read asks of the text -/
structure RdF (P : Program) (w : World) (K : PySem.W.Frag) (mg : Str → Option Value) (base : Heap) (A : Adr) : Prop where
  ox : OexC K A.T
  init : ∃ fI, PySem.W.findIn K (.ref A.T) "__init__" = some (some (.ref fI)) ∧ PySem.W.typeIn K (.ref fI) = some (.type "function") ∧ Cal P w K mg base 1 fI ["self", "text"] (spBad A.T)
  gT : mg "BadText" = some (.ref A.T)
  gR : mg "_readable" = some (.ref A.rdb)
  cR : Cal P w K mg base 1 A.rdb ["digits"] spRdb
  st : mg "str" = none
theorem ok_read {f : Addr} {fd : FuncData} (F : FunD K "read" "Frac.read" (defArgs sRead) (defBody sRead) (defScope sRead) [] [] f fd) (F_ : FA P w K mg base A) (R : RdF P w K mg base A) :
    FnOk P w K mg base (L2.CX P w) 6 f fd ["text"] (spRead A) := by
  refine F.ok scRead (fun vs H Q E h => ?_) (fun cdv AA outer s H vs Q E hr h => ?_)
  · obtain ⟨t, rfl, _⟩ := h
    rfl
  · obtain ⟨t, rfl, hlen, h⟩ := h
    obtain ⟨fI, iC, tI, cI⟩ := R.init
    obtain ⟨fdI, GI, bI⟩ := cI.ex
    obtain ⟨fdR, GR, bR⟩ := R.cR.ex
    obtain ⟨fdS, GS, bS⟩ := F_.cStr.ex
    refine ⟨_, pss_cons (ps_asg (pe_partition (pv 0) pe_str) (pg_tup rfl (pgs_cons (pg_name (i := 1) scRead.nd rfl (Or.inl rfl)) (pgs_cons (pg_name (i := 2) scRead.nd rfl (Or.inl rfl)) (pgs_cons (pg_name (i := 3) scRead.nd rfl (Or.inl rfl)) pgs_nil)))))
      (C8.pss_cut (ps_set (i := 4) scRead.nd rfl (Or.inl rfl) (pe_ifExp (pt_val (pe_m1 PySem.F.slot_str_startswith PySem.F.type_str_startswith mt_startswith (pv 1) pe_str)) (pe_slice sl_str (pv 1) (po_some pe_int) po_none) (pv 1)))
      (C8.pss_cut (ps_if (PW.pt (pw_or (pt_not (pt_val (pe_call GR (hr.mono (by decide)) rfl R.gR R.cR.kp bR .nil (E := E0) passL (pa_cons (pv 4) pa_nil)))) (pw_or1 (PW.pt (pw_and (pt_truth (pv 2) (by intro _; rfl)) (pw_and1 (pt_not (pt_val (pe_call GR (hr.mono (by decide)) rfl R.gR R.cR.kp bR .nil (E := E0) passL (pa_cons (pv 3) pa_nil)))))))))) (pss_one (ps_raise rfl (takes_of rfl rfl rfl rfl) (pmk_oex R.ox iC tI GI (hr.mono (by decide)) bI .nil passL rfl R.gT (pa_cons (pv 0) pa_nil)))) pss_nil)
      (C8.pss_cut (ps_set (i := 5) scRead.nd rfl (Or.inl rfl) (pe_ifExp (pt_truth (pv 2) (by intro _; rfl)) (pe_callTy call_int_str (by rfl) F_.T.int0 boot_int (pa_cons (pv 3) pa_nil)) pe_int))
      (pss_cons (ps_if (pt_cmpR L2.op_eq (pv 5) pe_int (nomark _)) (pss_one (ps_raise rfl (takes_of rfl rfl rfl rfl) (pmk_oex R.ox iC tI GI (hr.mono (by decide)) bI .nil passL rfl R.gT (pa_cons (pv 0) pa_nil)))) pss_nil)
      (pss_cons (ps_set (i := 6) scRead.nd rfl (Or.inl rfl) (pe_frac2 F_.M F_.T (hr.mono (by decide)) rfl (pa_cons (pe_callTy call_int_str (by rfl) F_.T.int0 boot_int (pa_cons (pv 1) pa_nil)) (pa_cons (pv 5) pa_nil))))
      (pss_cons (ps_if (pt_cmpR L2.op_ne (pe_callTy (o_str F_.uStr GS (hr.mono (by decide)) bS (E := E0) passL) (by rfl) R.st boot_str (pa_cons (pv 6) pa_nil)) (pv 0) (nomark _)) (pss_one (ps_raise rfl (takes_of rfl rfl rfl rfl) (pmk_oex R.ox iC tI GI (hr.mono (by decide)) bI .nil passL rfl R.gT (pa_cons (pv 0) pa_nil)))) pss_nil)
      (pss_one (ps_ret (pv 6))))))))), ?_⟩
    obtain ⟨sb, a, b, hpt, ha, htl⟩ := part_of t
    have hT := len_tl t
    have hA : a.length ≤ 5000 := by
      rw [len_tl a]
      cases sb
      · rw [if_neg Bool.false_ne_true] at htl
        rw [← htl]
        omega
      · rw [if_pos rfl] at htl
        have := congrArg List.length htl
        rw [List.length_append] at this
        omega
    have hB : sb = true → b.length ≤ 5000 := fun z => by
      rw [len_tl b]
      rw [z, if_pos rfl] at htl
      have := congrArg List.length htl
      rw [List.length_append, List.length_cons] at this
      omega
    have sz : ∀ n : Nat, n ≤ 5000 → n ≤ sizeLine := fun n h => by rw [sizeLine_eq]; omega
    have hraise : (∀ q, parse (tl a) (if sb = true then some (tl b) else none) = some q → q.2 ≠ 0 → wr (low q.1 q.2) ≠ t) → ∀ dd H', Ext H H' → H' dd = some (.xd [("text", .str t)]) → E (.ref A.T) (some dd) H' := fun hn => by
      rcases h with ⟨p, lo, b1, b2, et, _⟩ | ⟨_, hE⟩
      · have hp := parse_wr lo b1 b2 (sl := sb) (a := tl a) (b := tl b) (by rw [← tl_wr, ← et]; exact htl) ha
        have lp := lo.pos
        exact absurd (by rw [low_self lo, et]) (hn p hp (by omega))
      · exact hE
    have hret : ∀ q, parse (tl a) (if sb = true then some (tl b) else none) = some q → q.2 ≠ 0 → q.1.natAbs < 10 ^ 60 → q.2.natAbs < 10 ^ 60 → wr (low q.1 q.2) = t → ∀ r H', Ext H H' → FracAt A.C H' r (low q.1 q.2) → Q (.ref r) H' := fun q hq hz c1 c2 hw => by
      rcases h with ⟨p, lo, b1, b2, et, kk⟩ | ⟨hb, _⟩
      · rw [wr_inj (hw.trans et)]
        exact kk
      · exact absurd hw.symm (hb _ (low_low hz) (Nat.lt_of_le_of_lt (low_le1 hz) c1) (Nat.lt_of_le_of_lt (low_le2 hz) c2))
    have hS : (stripS a).length ≤ 10000 := by
      rw [len_tl (stripS a)]
      show (strip (tl a)).length ≤ 10000
      have := len_tl a
      unfold strip
      split
      · rename_i r q
        rw [q, List.length_cons] at this
        omega
      · omega
    refine ⟨_, rfl, ⟨_, rfl⟩, t, "/", rfl, rfl, by decide +kernel, sz _ (by omega), fun p np => ?_⟩
    rw [hpt]
    have e1 : Ext H (upd H p (.tup [.str a, .str (slS sb), .str b])) := ext1 np
    refine ⟨p, _, rfl, SqT.of upd_same, rfl, _, _, rfl, _, _, rfl, _, _, rfl, rfl, ?_⟩
    refine ⟨fun σ H1 => σ = [some (.str t), some (.str a), some (.str (slS sb)), some (.str b), some (.str (stripS a)), none, none] ∧ Ext H H1, ?_, ?_⟩
    · refine ⟨_, rfl, ⟨_, rfl⟩, a, "-", rfl, rfl, _, rfl, ?_⟩
      rw [starts_dash]
      cases hp : pre [45] (tl a) with
      | true =>
        refine iteT ⟨_, rfl, 1, rfl, a, rfl, sz _ hA, ?_⟩
        rw [cut1 hp]
        exact ⟨rfl, e1⟩
      | false =>
        refine iteF ⟨_, rfl, ?_⟩
        exact ⟨by rw [← nocut hp]; rfl, e1⟩
    rintro σ H1 ⟨rfl, e1⟩
    refine ⟨fun σ H1 => σ = [some (.str t), some (.str a), some (.str (slS sb)), some (.str b), some (.str (stripS a)), none, none] ∧ Ext H H1 ∧ dgs (strip (tl a)) = true ∧ (sb = true → dgs (tl b) = true), ?_, ?_⟩
    · refine ⟨_, rfl, stripS a, rfl, hS, fun H2 e2 => ⟨_, rfl, ?_⟩⟩
      have e12 := e1.trans e2
      cases D1 : dgs (strip (tl a)) with
      | false =>
        refine ifNT D1 (iteT (raise_ok rfl e12 (hraise fun q hq => ?_)))
        unfold parse at hq
        cases sb
        · simp [D1] at hq
        · simp [D1] at hq
      | true =>
        refine ifNF D1 ⟨_, rfl, sb, sl_tru sb, ?_⟩
        cases sb with
        | false => exact iteF (iteF ⟨rfl, e12, rfl, fun z => nomatch z⟩)
        | true =>
          refine iteT ⟨_, rfl, b, rfl, Nat.le_trans (hB rfl) (by decide), fun H3 e3 => ⟨_, rfl, ?_⟩⟩
          cases D2 : dgs (tl b) with
          | false =>
            refine ifNT rfl (raise_ok rfl (e12.trans e3) (hraise fun q hq => ?_))
            unfold parse at hq
            simp [D1, D2] at hq
          | true => exact ifNF rfl ⟨rfl, e12.trans e3, rfl, fun _ => rfl⟩
    rintro σ H2 ⟨rfl, e2, D1, D2⟩
    refine ⟨fun σ H1 => ∃ d : Int, σ = [some (.str t), some (.str a), some (.str (slS sb)), some (.str b), some (.str (stripS a)), some (.int d), none] ∧ Ext H H1 ∧ parse (tl a) (if sb = true then some (tl b) else none) = some (valL (tl a), d) ∧ d.natAbs < 10 ^ 60, ?_, ?_⟩
    · refine ⟨_, rfl, sb, sl_tru sb, ?_⟩
      cases sb with
      | false =>
        refine iteF ⟨1, rfl, e2, ?_, by decide +kernel⟩
        show (if dgs (strip (tl a)) = true then some (valL (tl a), (1 : Int)) else none) = _
        rw [if_pos D1]
      | true =>
        have d2 := D2 rfl
        refine iteT ⟨_, rfl, b, _, rfl, int_dg d2, ?_, ⟨_, rfl, e2, ?_, ?_⟩⟩
        · obtain ⟨_, h2, _⟩ := dgs_iff.mp d2
          rw [len_tl b]
          omega
        · show (if (dgs (strip (tl a)) && dgs (tl b)) = true then some (valL (tl a), (digitsVal (tl b) : Int)) else none) = _
          rw [D1, d2, if_pos (by decide)]
        · have := digitsVal_lt d2
          omega
    rintro σ H3 ⟨d, rfl, e3, hpar, hd⟩
    have hn : (valL (tl a)).natAbs < 10 ^ 60 := by
      rw [valL_abs]
      exact digitsVal_lt D1
    by_cases hz : d = 0
    · refine ⟨_, rfl, rfl, _, rfl, iteD (by rw [hz]) (raise_ok rfl e3 (hraise fun q hq hq2 => ?_))⟩
      rw [hpar] at hq
      injection hq with hq
      rw [← hq] at hq2
      exact absurd hz hq2
    refine ⟨_, rfl, rfl, _, rfl, iteDF (by intro z; injection z with z; exact hz z) ?_⟩
    refine ⟨_, rfl, a, _, rfl, int_val D1, by have := len_strip D1; omega, _, rfl, _, _, rfl, hz, bi60 hd, fun r H4 e4 hf => ?_⟩
    have e34 := e3.trans e4
    refine ⟨_, rfl, _, rfl, hf.ins, r, _, rfl, hf, oks60 (low_low hz) (Nat.lt_of_le_of_lt (low_le1 hz) hn) (Nat.lt_of_le_of_lt (low_le2 hz) hd), ⟨_, rfl⟩, _, rfl, rfl, _, rfl, ?_⟩
    by_cases hw : wr (low (valL (tl a)) d) = t
    · rw [decide_eq_true (by rw [hw])]
      exact iteF ⟨_, rfl, hret _ hpar hz hn hd hw r H4 e34 hf⟩
    · rw [decide_eq_false (by intro z; injection z with z; exact hw z)]
      refine iteT (raise_ok rfl e34 (hraise fun q hq hq2 => ?_))
      rw [hpar] at hq
      injection hq with hq
      rw [← hq]
      exact hw
end
end Fx

set_option Elab.async false
set_option linter.all false
set_option maxRecDepth 100000
set_option maxHeartbeats 4000000
set_option exponentiation.threshold 20000
namespace Fx
open PySem PySem.Spec PyProof.Rows L2 FM KM
/-! ### what is heard of a knock -/
theorem gt_some {xs : List Rat} {n : Nat} (h : n < xs.length) : xs[n]? = some (KM.gt xs n) := by
  unfold KM.gt
  rw [List.getElem?_eq_getElem h]
  rfl
/-- what the tick keeps while it stores -/
theorem knk_len {w : WebD} {j t s : Nat} : (w.knockAt j t s).length = w.ears.length := by
  unfold WebD.knockAt
  split
  · exact WebD.unit_len
  · exact zeroN_len
def LstF (A : Adr) (v : V) (rs : List Rat) (H : Hp) : Prop := ∃ l xs, v = .ref l ∧ H l = some (.lst xs) ∧ All2 (FV A) xs rs H
def LstFN (A : Adr) (R : Addr) (v : V) (rs : List Rat) (H : Hp) : Prop := ∃ l xs, v = .ref l ∧ l ≠ R ∧ H l = some (.lst xs) ∧ All2 (FV A) xs rs H
theorem LstFN.kp {A : Adr} {R : Addr} {v : V} {rs : List Rat} {H H' : Hp} (h : LstFN A R v rs H) (k : Kp R H H') (e : ExtL H H') : LstFN A R v rs H' := by
  obtain ⟨l, xs, h1, h2, h3, h4⟩ := h
  exact ⟨l, xs, h1, h2, k _ _ h3 h2, h4.l moFV e⟩
section
variable {P : Program} {w : World} {K : PySem.W.Frag} {mg : Str → Option Value} {base : Heap} {A : Adr} {CW CR : Addr}
theorem scHk : FnScope ["player", "count", "ear", "state", "knocks", "out", "_", "heard", "other"] ["player", "count", "ear"] (defScope (top 75)) := ⟨rfl, rfl, rfl, by decide +kernel, rfl, by decide +kernel, by decide +kernel⟩
def spHk (A : Adr) (CW : Addr) : Sp := fun vs H Q _ => ∃ a, ∃ w : WebD, ∃ n e : Nat, vs = [.ref a, .int (n : Int), .int (e : Int)] ∧ WebAt A CW H a w ∧ n ≤ 200 ∧ (∀ i, i < n → TSz w (w.stt (WebD.zeroN w.cells) (w.knockAt e 0) i) (w.knockAt e 0 i)) ∧
  ∀ D ls H', H D = none → Ext H H' → H' D = some (.lst ls) → All2 (LstF A) ls ((List.range n).map fun i => w.out (w.stt (WebD.zeroN w.cells) (w.knockAt e 0) i) (w.knockAt e 0 i)) H' → (∀ v ∈ ls, ∃ l, v = V.ref l ∧ H l = none) → Q (.ref D) H'
theorem ok_Hk {f : Addr} {fd : FuncData} (F : Fun K "_heard_of_knock" "_heard_of_knock" (top 75) f fd) (W_ : WT K mg CW) {ft fe : Addr} (mT : Meth K CW "tick" ft) (kT : Cal P w K mg base 8 ft ["self", "state", "knocks"] (spTk K A CW)) (mR : Meth K CW "rest" fe) (kR : Cal P w K mg base 3 fe ["self"] (spRe A CW)) (ra : mg "range" = none) : FnOk P w K mg base (L2.CX P w) 9 f fd ["player", "count", "ear"] (spHk A CW) := by
  refine F.okX scHk (fun vs H Q E h => ?_) (fun cdv AA outer s H vs Q E hr h => ?_)
  · obtain ⟨a, w, n, e, rfl, _⟩ := h; rfl
  · obtain ⟨a, w, n, e, rfl, hw, hn, hsz, q⟩ := h
    obtain ⟨fdT, GT, bT⟩ := kT.ex
    obtain ⟨fdR, GR, bR⟩ := kR.ex
    refine ⟨_, (pss_cons (ps_set (i := 3) scHk.nd rfl (Or.inl rfl) (pe_meth0 (pv 0) W_.cl mR GR (hr.mono (by decide)) bR .nil (E := E0) passL))
      (pss_cons (ps_setLc (i := 4) (own := [("other", 8)]) (g := (gName 8)) rfl scHk.nd rfl rfl (sw_true rfl rfl rfl rfl) (pi_range1 rfl ra (pa_cons (pe_fld (pv 0) rfl) pa_nil)) (blkOk_by (own := [("other", 8)]) (N := ["player", "count", "ear", "state", "knocks", "out", "_", "heard", "other"]) (sc := defScope (top 75)) (by decide +kernel)) (fun _ _ _ _ _ => (pg_name (i := 8) scHk.nd rfl (Or.inl rfl))) (fun _ _ _ _ _ => pts_nil) (fun _ _ _ _ _ => (pe_ifExp (pt_cmpR L2.op_eq (pv 8) (pv 2) (nomark _)) pe_int pe_int)))
      (pss_cons (ps_set (i := 5) scHk.nd rfl (Or.inl rfl) (pe_lst pa_nil))
      (pss_cons (ps_for (passes_of rfl) rfl (pi_range1 rfl ra (pa_cons (pv 1) pa_nil)) (pg_name (i := 6) scHk.nd rfl (Or.inl rfl)) (pss_cons (ps_asg (pe_meth (pv 0) W_.cl mT GT (hr.mono (by decide)) bT .nil (E := E0) passL (pa_cons (pv 3) (pa_cons (pv 4) pa_nil))) (pg_tup rfl (pgs_cons (pg_name (i := 3) scHk.nd rfl (Or.inl rfl)) (pgs_cons (pg_name (i := 7) scHk.nd rfl (Or.inl rfl)) pgs_nil))))
      (pss_cons (ps_expr (pe_bm PySem.F.plainAttrs_list PySem.F.slot_list_append PySem.F.type_list_append mt_append (pv 5) (pa_cons (pv 7) pa_nil)))
      (pss_one (ps_set (i := 4) scHk.nd rfl (Or.inl rfl) (pe_op L2.op_rep (pe_lst (pa_cons pe_int pa_nil)) (pe_fld (pv 0) rfl)))))))
      (pss_one (ps_ret (pv 5))))))), ?_⟩
    have hw0 := hw
    obtain ⟨ok, wdx, j, rr, e_, sv, fv, al, az, cz, h0, _⟩ := hw0
    have c24 := ok.c
    have e4 := ok.e
    refine ⟨_, rfl, a, wdx, _, rfl, h0, wf_no (by decide +kernel), a, w, rfl, hw, fun S xs H1 nS e1 hS hx => ?_⟩
    dsimp only [gName, List.set]
    refine tseq_of (t := tAsg (tLc _ _ _ _ _) (gName 4)) ?_
    refine tasg_of ?_
    refine tlc_X (R := NV A) (ys := w.knockAt e 0 0) (H1 := H1) (by rw [knk_len]; exact walk_range (lo := 0)) (fun R r' => ⟨_, rfl, a, CW, wdx, _, _, rfl, e1 _ _ h0, W_.cl, W_.n5, wf_ears, (w.ears.length : Int), rfl, by omega, by omega, r'⟩) moNV (big1000 (by rw [knk_len]; omega)) (fun _ _ => trivial) ?_ gm_name fun U us H2 nU e2 hU hus => ?_
    · rintro i x _ H2 y hy ee ⟨rfl, rfl⟩ Qy kk
      have ei : (0 + (i : Int)) = (i : Int) := by omega
      have hy' : y = if i = e then 1 else 0 := by
        unfold WebD.knockAt WebD.unitAt at hy
        rw [if_pos rfl, List.getElem?_map] at hy
        obtain ⟨i', h1, h2⟩ := Option.map_eq_some_iff.mp hy
        obtain ⟨_, h3⟩ := List.getElem?_eq_some_iff.mp h1
        rw [List.getElem_range] at h3
        rw [← h2, h3]
      refine ⟨rfl, _, rfl, _, rfl, rfl, _, rfl, ?_⟩
      dsimp only
      by_cases c : i = e
      · refine iteD (by rw [ei, c]) ?_
        refine kk _ _ Ext.rfl' ?_
        rw [hy', if_pos c]
        exact NV.int 1
      · refine iteDF (fun z => c (by injection z with z; omega)) ?_
        refine kk _ _ Ext.rfl' ?_
        rw [hy', if_neg c]
        exact NV.int 0
    dsimp only [gName, List.set]
    refine ⟨by decide, fun R nR => ?_⟩
    have e12 := e1.trans e2
    have e3 := ext1 (o := .lst []) nR
    have hS2 := e2 _ _ hS
    have R0 := ext_none e12 nR
    refine ⟨_, rfl, (n : Int), rfl, by omega, by omega, ?_⟩
    refine for_it (walk_range (lo := 0) (n := n)) (fun i σ H' => ∃ z6 z7 S' U' xs us rs, σ = [some (.ref a), some (.int (n : Int)), some (.int (e : Int)), some (.ref S'), some (.ref U'), some (.ref R), z6, z7, none] ∧ Ext H H' ∧ S' ≠ R ∧ U' ≠ R ∧ H' S' = some (.lst xs) ∧ All2 (FV A) xs (w.stt (WebD.zeroN w.cells) (w.knockAt e 0) i) H' ∧ H' U' = some (.lst us) ∧ All2 (NV A) us (w.knockAt e 0 i) H' ∧ H' R = some (.lst rs) ∧ All2 (LstFN A R) rs ((List.range i).map fun i => w.out (w.stt (WebD.zeroN w.cells) (w.knockAt e 0) i) (w.knockAt e 0 i)) H' ∧ ∀ v ∈ rs, ∃ l, v = V.ref l ∧ H l = none)
      ⟨_, _, S, U, xs, us, [], rfl, e12.trans e3, ne_of_none hS2 nR, ne_of_none hU nR, e3 _ _ hS2, hx.ext moFV (e2.trans e3), e3 _ _ hU, hus.ext moNV e3, upd_same, All2.nil, by simp⟩ (fun _ _ _ _ _ => trivial) ?_ ?_
    · rintro i v σ _ H5 hi ⟨z6, z7, S', U', xs, us, rs, rfl, e1, SR, UR, hS, hx, hU, hu, hR, hrs, hnw⟩ ⟨rfl, rfl⟩
      dsimp only [gName, List.set]
      refine ⟨_, rfl, a, wdx, _, rfl, e1 _ _ h0, wf_no (by decide +kernel), _, rfl, _, rfl, a, true, S', xs, _, true, U', us, _, w, rfl, hw.ext e1, SqL.of hS, fv_nv hx, WebD.stt_len ok zeroN_len i, SqL.of hU, hu, knk_len, hsz i hi, fun T nl ns ol os H6 nT nnl nol nlo e6 hT hn6 hns ho hos => ?_⟩
      refine ⟨T, _, rfl, SqT.of hT, rfl, _, _, rfl, _, _, rfl, rfl, ?_⟩
      dsimp only [gName, List.set]
      have hR6 := e6 _ _ hR
      have rl_ : rs.length = i := by have := hrs.1; simpa using this
      refine ⟨_, rfl, .inl ⟨rfl, _, SqL.of hR6⟩, _, rfl, R, rs, _, rfl, rfl, hR6, lt1000 (by omega), ?_⟩
      have el := ExtL.upd (o := .lst (rs ++ [V.ref ol])) hR6
      have kp : Kp R H6 (upd H6 R (.lst (rs ++ [V.ref ol]))) := Kp.refl.upd
      have e16 : Ext H (upd H6 R (.lst (rs ++ [V.ref ol]))) := kpl R0 (e1.trans e6)
      have nR' : nl ≠ R := fun z => by rw [z, hR] at nnl; cases nnl
      have oR : ol ≠ R := fun z => by rw [z, hR] at nol; cases nol
      have hrs7 : All2 (LstFN A R) (rs ++ [V.ref ol]) ((List.range (i + 1)).map fun i => w.out (w.stt (WebD.zeroN w.cells) (w.knockAt e 0) i) (w.knockAt e 0 i)) (upd H6 R (.lst (rs ++ [V.ref ol]))) := by
        rw [List.range_succ, List.map_append]
        refine All2.snoc ⟨hrs.1, fun i x y hx hy => (hrs.2 i x y hx hy).kp ((Kp.of e6).trans kp) ((Ext.l e6).trans el)⟩ ⟨ol, os, rfl, oR, ?_, hos.l moFV el⟩
        rw [upd_ne oR]
        exact ho
      have hn7 : (upd H6 R (.lst (rs ++ [V.ref ol]))) nl = some (.lst ns) := by rw [upd_ne nR']; exact hn6
      have hns7 := hns.l moFV el
      have hR7 : (upd H6 R (.lst (rs ++ [V.ref ol]))) R = some (.lst (rs ++ [V.ref ol])) := upd_same
      generalize upd H6 R (.lst (rs ++ [V.ref ol])) = H7 at e16 hrs7 hn7 hns7 hR7 ⊢
      refine ⟨(by show 1 ≤ sizeLine; decide), fun m nm => ⟨_, rfl, a, CW, wdx, _, _, rfl, (ext1 nm) _ _ (e16 _ _ h0), W_.cl, W_.n5, wf_ears, m, _, _, rfl, rfl, upd_same, by omega, by omega, by rw [sizeLine_eq]; show 1 * w.ears.length ≤ _; omega, fun U2 nU2 => ?_⟩⟩
      have en : (w.ears.length : Int).toNat = w.ears.length := by omega
      rw [en, flat_one]
      have e8 := (ext1 (o := .lst [V.int 0]) nm).trans (ext1 (o := .lst (List.replicate w.ears.length (V.int 0))) nU2)
      refine ⟨_, _, nl, U2, ns, _, _, rfl, e16.trans e8, nR', ?_, e8 _ _ hn7, hns7.ext moFV e8, upd_same, ?_, e8 _ _ hR7, ⟨hrs7.1, fun i x y hx hy => (hrs7.2 i x y hx hy).kp (Kp.of e8) (Ext.l e8)⟩, fun v hv => ?_⟩
      · intro z
        have := (ext1 (o := .lst [V.int 0]) nm) _ _ hR7
        rw [← z, nU2] at this
        cases this
      · unfold WebD.knockAt
        rw [if_neg (by omega)]
        exact all2_replicate (NV.int 0) _
      · rcases List.mem_append.mp hv with hv | hv
        · exact hnw v hv
        · exact ⟨ol, List.mem_singleton.mp hv, ext_none e1 nol⟩
    rintro σ H5 ⟨z6, z7, S', U', xs, us, rs, rfl, e1, SR, UR, hS, hx, hU, hu, hR, hrs, hnw⟩
    refine ⟨_, rfl, q R rs H5 R0 e1 hR ⟨hrs.1, fun i x y hx hy => ?_⟩ hnw⟩
    obtain ⟨l, xs, a1, a2, a3, a4⟩ := hrs.2 i x y hx hy
    exact ⟨l, xs, a1, a3, a4⟩
end
end Fx

set_option Elab.async false
set_option linter.all false
set_option maxRecDepth 100000
set_option maxHeartbeats 4000000
set_option exponentiation.threshold 20000
namespace Fx
open PySem PySem.Spec PyProof.Rows L2 FM KM
/-! ### one echo -/
def echoRow (w : WebD) (e t : Nat) : List Rat := w.out (w.stt (WebD.zeroN w.cells) (w.knockAt e 0) t) (w.knockAt e 0 t)
theorem echoRow_len {w : WebD} {e t : Nat} : (echoRow w e t).length = w.ears.length := by unfold echoRow WebD.out; simp
section
variable {P : Program} {w : World} {K : PySem.W.Frag} {mg : Str → Option Value} {base : Heap} {A : Adr} {CW CR CT : Addr}
theorem scCer : FnScope ["ear", "count"] ["ear", "count"] (defScope (top 30)) := ⟨rfl, rfl, rfl, by decide +kernel, rfl, by decide +kernel, by decide +kernel⟩
def spCer : Sp := fun vs H Q _ => ∃ e n : Nat, vs = [.int (e : Int), .int (n : Int)] ∧ e < n ∧ Q .non H
theorem ok_Cer {f : Addr} {fd : FuncData} (F : Fun K "check_ear" "check_ear" (top 30) f fd)  : FnOk P w K mg base (L2.CX P w) 1 f fd ["ear", "count"] spCer := by
  refine F.okX scCer (fun vs H Q E h => ?_) (fun cdv AA outer s H vs Q E hr h => ?_)
  · obtain ⟨e, n, rfl, _⟩ := h; rfl
  · obtain ⟨e, n, rfl, he, q⟩ := h
    refine ⟨_, (pss_one (ps_if (pt_not (pt_chain L2.op_le L2.op_lt pe_int (pv 0) (pv 1))) (pss_one ps_never) pss_nil)), ?_⟩
    exact ⟨_, rfl, _, _, rfl, rfl, _, rfl, if_D (fun _ => ⟨_, rfl, _, _, rfl, rfl, _, rfl, if_ND (fun z => absurd (by omega) z) (fun _ => q)⟩) (fun z => absurd (by omega) z)⟩
theorem scEo : FnScope ["player", "count", "heard", "knocked", "numbers"] ["player", "count", "heard", "knocked"] (defScope (top 74)) := ⟨rfl, rfl, rfl, by decide +kernel, rfl, by decide +kernel, by decide +kernel⟩
def spEo (A : Adr) (CW : Addr) : Sp := fun vs H Q _ => ∃ a, ∃ w : WebD, ∃ n h k : Nat, vs = [.ref a, .int (n : Int), .int (h : Int), .int (k : Int)] ∧ WebAt A CW H a w ∧ n ≤ 200 ∧ h < w.ears.length ∧ k < w.ears.length ∧ (∀ i, i < n → TSz w (w.stt (WebD.zeroN w.cells) (w.knockAt k 0) i) (w.knockAt k 0 i)) ∧
  ∀ D xs H', H D = none → Ext H H' → H' D = some (.lst xs) → All2 (FV A) xs ((List.range n).map fun t => KM.gt (echoRow w k t) h) H' → Q (.ref D) H'
theorem ok_Eo {f : Addr} {fd : FuncData} (F : FunD K "echo" "echo" (defArgs (top 74)) (defBody (top 74)) (defScope (top 74)) [] [("heard", V.int 0), ("knocked", V.int 0)] f fd) (W_ : WT K mg CW) (hC : LF P w K mg base "check_count" 1 ["count", "low", "high"] spCc) (hE : LF P w K mg base "check_ear" 1 ["ear", "count"] spCer) (hK : LF P w K mg base "_heard_of_knock" 9 ["player", "count", "ear"] (spHk A CW)) (mM : ∃ t, mg "MOST_ECHOES" = some (.int 200 t)) : FnOk P w K mg base (L2.CX P w) 10 f fd ["player", "count", "heard", "knocked"] (spEo A CW) := by
  refine F.ok scEo (fun vs H Q E h => ?_) (fun cdv AA outer s H vs Q E hr h => ?_)
  · obtain ⟨a, w, n, h1, k1, rfl, _⟩ := h; rfl
  · obtain ⟨a, w, n, hh, kk_, rfl, hw, hn, hlt, klt, hsz, q⟩ := h
    obtain ⟨fC, gC, cC⟩ := hC
    obtain ⟨fdC, GC, bC⟩ := cC.ex
    obtain ⟨fE, gE, cE⟩ := hE
    obtain ⟨fdE, GE, bE⟩ := cE.ex
    obtain ⟨fK, gK, cK⟩ := hK
    obtain ⟨fdK, GK, bK⟩ := cK.ex
    obtain ⟨tM, mM⟩ := mM
    refine ⟨_, (pss_cons (ps_expr (pe_call GC (hr.mono (by decide)) rfl gC cC.kp bC .nil (E := E0) passL (pa_cons (pv 1) (pa_cons pe_int (pa_cons (pe_glob (v := .int 200) (by rfl) mM ⟨_, rfl⟩) pa_nil)))))
      (pss_cons (ps_expr (pe_call GE (hr.mono (by decide)) rfl gE cE.kp bE .nil (E := E0) passL (pa_cons (pv 2) (pa_cons (pe_fld (pv 0) rfl) pa_nil))))
      (pss_cons (ps_expr (pe_call GE (hr.mono (by decide)) rfl gE cE.kp bE .nil (E := E0) passL (pa_cons (pv 3) (pa_cons (pe_fld (pv 0) rfl) pa_nil))))
      (pss_one (ps_ret (pe_lc (own := [("numbers", 4)]) (g := (gName 4)) rfl scEo.nd (pi_seq (pe_call GK (hr.mono (by decide)) rfl gK cK.kp bK .nil (E := E0) passL (pa_cons (pv 0) (pa_cons (pv 1) (pa_cons (pv 3) pa_nil))))) (blkOk_by (own := [("numbers", 4)]) (N := ["player", "count", "heard", "knocked", "numbers"]) (sc := defScope (top 74)) (by decide +kernel)) (fun _ _ _ _ _ => (pg_name (i := 4) scEo.nd rfl (Or.inl rfl))) (fun _ _ _ _ _ => pts_nil) (fun _ _ _ _ _ => (pe_ix (r := rIxL K) ix_list (pv 4) (pv 2) (fun _ _ => rfl))))))))), ?_⟩
    have hw0 := hw
    obtain ⟨ok, wdx, j, rr, e_, sv, fv, al, az, cz, h0, _⟩ := hw0
    refine ⟨_, rfl, _, 0, 200, rfl, Int.natCast_nonneg _, by omega, ?_⟩
    refine ⟨_, rfl, _, rfl, a, CW, wdx, _, _, rfl, h0, W_.cl, W_.n5, wf_ears, hh, w.ears.length, rfl, hlt, ?_⟩
    refine ⟨_, rfl, _, rfl, a, CW, wdx, _, _, rfl, h0, W_.cl, W_.n5, wf_ears, kk_, w.ears.length, rfl, klt, ?_⟩
    dsimp only
    refine tret_of ?_
    refine tlc_cps (P := fun J H1 => ∃ D2 ls, J = ItS K true D2 ∧ Ext H H1 ∧ H1 D2 = some (.lst ls) ∧ All2 (LstF A) ls ((List.range n).map fun t => echoRow w kk_ t) H1) (fun R r => ⟨_, rfl, _, rfl, _, rfl, a, w, n, kk_, rfl, hw, hn, hsz, fun D2 ls H4 nD2 e4 hD2 hls hnw => ⟨true, D2, ls, rfl, SqL.of hD2, r _ _ ⟨D2, ls, rfl, e4, hD2, hls⟩⟩⟩) ?_
    rintro J H1 ⟨D2, ls, rfl, e1, hD2, hls⟩
    have ll : ls.length = n := by have := hls.1; simpa using this
    refine tlc_X (R := FV A) (ys := (List.range n).map fun t => KM.gt (echoRow w kk_ t) hh) (H1 := H1) (by rw [List.length_map, List.length_range, ← ll]; exact walk_S (K := K) (k := true) (a := D2) (xs := ls)) (fun R r => r) moFV (big1000 (by rw [List.length_map, List.length_range]; omega)) (fun H3 e => SqL.of (e _ _ hD2)) ?_ gm_name fun D us H3 nD e3 hD hus => q D us H3 (ext_none e1 nD) (e1.trans e3) hD hus
    rintro i x _ H2 y hy e ⟨rfl, hxi⟩ Qy kk
    rw [List.getElem?_map] at hy
    obtain ⟨t, ht, rfl⟩ := Option.map_eq_some_iff.mp hy
    obtain ⟨l, xs, rfl, h2, h3⟩ := hls.2 i x (echoRow w kk_ t) hxi (by rw [List.getElem?_map, ht]; rfl)
    obtain ⟨fv9, hfv, pf⟩ := h3.get (gt_some (n := hh) (by rw [echoRow_len]; exact hlt))
    exact ⟨rfl, _, rfl, _, rfl, l, _, _, fv9, rfl, rfl, SqL.of (e _ _ h2), atI_nat hfv, kk _ _ Ext.rfl' (pf.ext e)⟩
end
end Fx

set_option Elab.async false
set_option linter.all false
set_option maxRecDepth 100000
set_option maxHeartbeats 4000000
set_option exponentiation.threshold 20000
namespace Fx
open PySem PySem.Spec PyProof.Rows L2 FM KM
/-! ### the program's least walks -/
/-- the program's edges: all rods along, then all rods back -/
def stepsOf (w : WebD) : List (Nat × Nat × Nat) := (w.rods.map fun r => (r.st, r.en, r.len)) ++ (w.rods.map fun r => (r.en, r.st, r.len))
def edS (p : Nat × Nat × Nat) : List Gr.Ed := [(2 * p.1, 2 * p.2.1 + p.2.2 % 2, p.2.2), (2 * p.1 + 1, 2 * p.2.1 + (1 + p.2.2) % 2, p.2.2)]
def edp (w : WebD) : List Gr.Ed := (stepsOf w).flatMap edS
theorem edS_mem {p : Nat × Nat × Nat} {e : Gr.Ed} : e ∈ edS p ↔ ∃ o, o < 2 ∧ e = (2 * p.1 + o, 2 * p.2.1 + (o + p.2.2) % 2, p.2.2) := by
  unfold edS
  simp only [List.mem_cons, List.not_mem_nil, or_false]
  constructor
  · rintro (rfl | rfl)
    · exact ⟨0, by decide, by simp⟩
    · exact ⟨1, by decide, rfl⟩
  · rintro ⟨o, ho, rfl⟩
    rcases (show o = 0 ∨ o = 1 by omega) with rfl | rfl
    · exact .inl (by simp)
    · exact .inr rfl
theorem edp_mem {w : WebD} {e : Gr.Ed} : e ∈ edp w ↔ e ∈ w.eds := by
  unfold edp stepsOf
  rw [WebD.eds_mem, List.mem_flatMap]
  constructor
  · rintro ⟨p, hp, he⟩
    obtain ⟨o, ho, rfl⟩ := edS_mem.mp he
    rcases List.mem_append.mp hp with hp | hp
    · obtain ⟨r, hr, rfl⟩ := List.mem_map.mp hp
      obtain ⟨i, hi, rfl⟩ := WebD.rod_ex hr
      exact ⟨i, o, hi, ho, .inl rfl⟩
    · obtain ⟨r, hr, rfl⟩ := List.mem_map.mp hp
      obtain ⟨i, hi, rfl⟩ := WebD.rod_ex hr
      exact ⟨i, o, hi, ho, .inr rfl⟩
  · rintro ⟨i, o, hi, ho, rfl | rfl⟩
    · exact ⟨((w.rod i).st, (w.rod i).en, (w.rod i).len), List.mem_append_left _ (List.mem_map.mpr ⟨_, WebD.rod_mem hi, rfl⟩), edS_mem.mpr ⟨o, ho, rfl⟩⟩
    · exact ⟨((w.rod i).en, (w.rod i).st, (w.rod i).len), List.mem_append_right _ (List.mem_map.mpr ⟨_, WebD.rod_mem hi, rfl⟩), edS_mem.mpr ⟨o, ho, rfl⟩⟩
theorem edp_fine {w : WebD} (ok : w.Ok) {j : Nat} (hj : j < w.kinds.length) : Gr.Fine (edp w) (2 * j) (2 * w.kinds.length) :=
  ⟨(WebD.eds_fine ok hj).s, fun e he => (WebD.eds_fine ok hj).e e (edp_mem.mp he)⟩
theorem edp_same {w : WebD} (ok : w.Ok) {j x : Nat} (hj : j < w.kinds.length) : Gr.runs (edp w) (2 * j) (2 * w.kinds.length) x = Gr.runs w.eds (2 * j) (2 * w.kinds.length) x :=
  Gr.runs_same (edp_fine ok hj) (WebD.eds_fine ok hj) (fun e he => edp_mem.mp he) (fun e he => edp_mem.mpr he) (Nat.le_refl _) (Nat.le_refl _)
theorem edp_par {w : WebD} {j x a : Nat} (h : Gr.Rch (edp w) (2 * j) x a) : x % 2 = a % 2 := WebD.rch_par (h.mono fun e he => edp_mem.mp he)
theorem stepsOf_fine {w : WebD} (ok : w.Ok) : ∀ p ∈ stepsOf w, p.1 < w.kinds.length ∧ p.2.1 < w.kinds.length ∧ p.2.2 ≤ 24 := fun p hp => by
  have c24 := ok.c
  have len_ : ∀ r ∈ w.rods, r.len ≤ 24 := fun r hr => by
    obtain ⟨i, hi, rfl⟩ := WebD.rod_ex hr
    have := WebD.cellsTo_mono (w := w) hi
    omega
  unfold stepsOf at hp
  rcases List.mem_append.mp hp with hp | hp
  · obtain ⟨r, hr, rfl⟩ := List.mem_map.mp hp
    exact ⟨ok.st r hr, ok.en r hr, len_ r hr⟩
  · obtain ⟨r, hr, rfl⟩ := List.mem_map.mp hp
    exact ⟨ok.en r hr, ok.st r hr, len_ r hr⟩
def StepV (v : V) (p : Nat × Nat × Nat) (H : Hp) : Prop := ∃ a, v = .ref a ∧ H a = some (.tup [.int (p.1 : Int), .int (p.2.1 : Int), .int (p.2.2 : Int)])
theorem moStepV : MoX StepV := fun x y H H' e h => by
  obtain ⟨a, h1, h2⟩ := h
  exact ⟨a, h1, e _ _ h2 (fun ys z => by cases z)⟩
/-- all but some lists stand -/
def KpL (ps : List Addr) (H H' : Hp) : Prop := ∀ b o, H b = some o → b ∉ ps → H' b = some o
theorem KpL.refl {ps : List Addr} {H : Hp} : KpL ps H H := fun _ _ h _ => h
theorem KpL.upd {ps : List Addr} {H H1 : Hp} {p : Addr} {o : HO} (k : KpL ps H H1) (hp : p ∈ ps) : KpL ps H (L2.upd H1 p o) := fun b u hb hn => by
  rw [upd_ne (fun z => hn (by rw [z]; exact hp))]
  exact k b u hb hn
theorem KpL.ext {ps : List Addr} {H H1 H2 : Hp} (k : KpL ps H H1) (e : Ext H1 H2) : KpL ps H H2 := fun b u hb hn => e _ _ (k b u hb hn)
/-- the lists of one place each -/
def Fars (ps : List Addr) (f : Gr.Vs) (H : Hp) : Prop := ∀ v p, ps[v]? = some p → H p = some (.lst [optV (f (2 * v)), optV (f (2 * v + 1))])
theorem Fars.ext {ps : List Addr} {f : Gr.Vs} {H H' : Hp} (h : Fars ps f H) (e : Ext H H') : Fars ps f H' := fun v p hv => e _ _ (h v p hv)
theorem Fars.set {ps : List Addr} {f g : Gr.Vs} {H : Hp} {v o : Nat} {p : Addr} {c : Option Nat} (h : Fars ps f H) (nd : ps.Nodup) (hv : ps[v]? = some p) (ho : o < 2) (hg : ∀ z, g z = if z = 2 * v + o then c else f z) :
    Fars ps g (L2.upd H p (.lst ([optV (f (2 * v)), optV (f (2 * v + 1))].set o (optV c)))) := fun u q hu => by
  by_cases e : u = v
  · subst e
    rw [hv] at hu
    cases hu
    rw [upd_same, hg, hg]
    rcases (show o = 0 ∨ o = 1 by omega) with rfl | rfl
    · rw [if_pos (by omega), if_neg (by omega)]; rfl
    · rw [if_neg (by omega), if_pos (by omega)]; rfl
  · have ne : q ≠ p := fun z => by
      rw [z] at hu
      have lt : u < ps.length := (List.getElem?_eq_some_iff.mp hu).1
      exact e ((List.getElem?_inj lt nd).mp (hu.trans hv.symm))
    rw [upd_ne ne, hg, hg, if_neg (by omega), if_neg (by omega)]
    exact h u q hu
theorem pair_at {g : Gr.Vs} {v o : Nat} (ho : o < 2) : atI [optV (g (2 * v)), optV (g (2 * v + 1))] ((o : Nat) : Int) = some (optV (g (2 * v + o))) := by
  refine atI_nat ?_
  rcases (show o = 0 ∨ o = 1 by omega) with rfl | rfl
  · rfl
  · rfl
theorem edp_of {w : WebD} {p : Nat × Nat × Nat} {o : Nat} (hp : p ∈ stepsOf w) (ho : o < 2) : (2 * p.1 + o, 2 * p.2.1 + (o + p.2.2) % 2, p.2.2) ∈ edp w := List.mem_flatMap.mpr ⟨p, hp, edS_mem.mpr ⟨o, ho, rfl⟩⟩
theorem edS_at {p : Nat × Nat × Nat} {o : Nat} (ho : o < 2) : (edS p)[o]? = some (2 * p.1 + o, 2 * p.2.1 + (o + p.2.2) % 2, p.2.2) := by
  rcases (show o = 0 ∨ o = 1 by omega) with rfl | rfl
  · unfold edS; simp
  · rfl
/-- a comprehension that makes new lists, all of one content -/
theorem tlc_rows {J : It} {n : Nat} {G : Hp → Prop} {Y : Nat → Hp → V → Hp → Prop} {g : TG} {te : TE} {vs : List Nat} {σ : L2.St} {H H1 : Hp} {Q : VK} {wi : TI} {us : List V} (w : Walk J n G Y) (hw : ∀ R, R J H1 → wi σ H R) (hn : n ≤ 900) (hG : ∀ H, Ext H1 H → G H)
    (step : ∀ i x H H', i < n → Ext H1 H → Y i H x H' → ∀ Qy : VK, (∀ p H4, H p = none → Ext H H4 → H4 p = some (.lst us) → Qy (.ref p) H4) → g x (wipe σ vs) H' fun σ2 H2 => wipe σ2 vs = wipe σ vs ∧ te σ2 H2 Qy)
    (gmono : ∀ x σ H (P Q : L2.St → Hp → Prop), (∀ σ H, P σ H → Q σ H) → g x σ H P → g x σ H Q)
    (hd : ∀ D (ps : List Addr) H', H1 D = none → Ext H1 H' → H' D = some (.lst (ps.map V.ref)) → ps.length = n → ps.Nodup → (∀ p ∈ ps, H1 p = none ∧ p ≠ D ∧ H' p = some (.lst us)) → Q (.ref D) H') : tLc wi g tYes te vs σ H Q := by
  refine hw _ fun D nD => ?_
  refine lc_it w (fun i H => ∃ ps : List Addr, H D = some (.lst (ps.map V.ref)) ∧ ps.length = i ∧ ps.Nodup ∧ (∀ p ∈ ps, H1 p = none ∧ p ≠ D ∧ H p = some (.lst us)) ∧ Ext H1 H) ⟨[], upd_same, rfl, List.nodup_nil, by simp, ext1 nD⟩ (fun i H _ ⟨_, _, _, _, _, e⟩ => hG H e) ?_ (fun H' ⟨ps, h1, h2, h3, h4, h5⟩ => hd D ps H' nD h5 h1 h2 h3 h4)
  rintro i x H2 H' hi ⟨ps, hD, hl, hnd, hps, e2⟩ hY
  refine gmono _ _ _ _ _ ?_ (step i x H2 H' hi e2 hY (fun y H4 => ∃ acc, H4 D = some (.lst acc) ∧ acc.length < sizeLine ∧ ∃ ps' : List Addr, (upd H4 D (.lst (acc ++ [y]))) D = some (.lst (ps'.map V.ref)) ∧ ps'.length = i + 1 ∧ ps'.Nodup ∧ (∀ p ∈ ps', H1 p = none ∧ p ≠ D ∧ (upd H4 D (.lst (acc ++ [y]))) p = some (.lst us)) ∧ Ext H1 (upd H4 D (.lst (acc ++ [y])))) ?_)
  · rintro σ2 H3 ⟨q1, q2⟩
    exact ⟨q1, @iteT _ (∃ ps : List Addr, H3 D = some (.lst (ps.map V.ref)) ∧ ps.length = i + 1 ∧ ps.Nodup ∧ (∀ p ∈ ps, H1 p = none ∧ p ≠ D ∧ H3 p = some (.lst us)) ∧ Ext H1 H3) q2⟩
  · intro p H4 np e4 hp4
    have hD4 := e4 _ _ hD
    have pD_ : p ≠ D := fun z => by rw [z, hD] at np; cases np
    refine ⟨ps.map V.ref, hD4, lt1000 (by rw [List.length_map, hl]; omega), ps ++ [p], by rw [upd_same, List.map_append]; rfl, by rw [List.length_append, hl]; rfl, ?_, fun u hu => ?_, kpl nD (e2.trans e4)⟩
    · rw [List.nodup_append]
      refine ⟨hnd, by simp, fun a ha b hb => ?_⟩
      rw [List.mem_singleton.mp hb]
      intro z
      rw [z] at ha
      rw [(hps p ha).2.2] at np
      cases np
    · rcases List.mem_append.mp hu with hu | hu
      · obtain ⟨a1, a2, a3⟩ := hps u hu
        exact ⟨a1, a2, by rw [upd_ne a2]; exact e4 _ _ a3⟩
      · rw [List.mem_singleton.mp hu]
        exact ⟨ext_none e2 np, pD_, by rw [upd_ne pD_]; exact hp4⟩

section
variable {P : Program} {w : World} {K : PySem.W.Frag} {mg : Str → Option Value} {base : Heap} {A : Adr} {CW CR CT : Addr}
theorem scLsr : FnScope ["one", "other"] ["one", "other"] (defScope (top 36)) := ⟨rfl, rfl, rfl, by decide +kernel, rfl, by decide +kernel, by decide +kernel⟩
def spLsr : Sp := fun vs H Q _ => ∃ (b : Option Nat) (c : Nat), vs = [optV b, .int (c : Int)] ∧ Q (optV (Gr.less b c)) H
theorem ok_Lsr {f : Addr} {fd : FuncData} (F : Fun K "_lesser" "_lesser" (top 36) f fd)  : FnOk P w K mg base (L2.CX P w) 1 f fd ["one", "other"] spLsr := by
  refine F.okX scLsr (fun vs H Q E h => ?_) (fun cdv AA outer s H vs Q E hr h => ?_)
  · obtain ⟨b, c, rfl, _⟩ := h; rfl
  · obtain ⟨b, c, rfl, q⟩ := h
    refine ⟨_, (pss_cons (ps_if (pt_cmpR L2.op_isN (pv 0) pe_non (nomark _)) (pss_one (ps_ret (pv 1))) pss_nil)
      (pss_cons (ps_if (PW.pt (pw_or (pt_cmpR L2.op_isN (pv 1) pe_non (nomark _)) (pw_or1 (pt_cmpR L2.op_le (pv 0) (pv 1) (nomark _))))) (pss_one (ps_ret (pv 0))) pss_nil)
      (pss_one (ps_ret (pv 1))))), ?_⟩
    cases b with
    | none => exact ⟨_, rfl, rfl, _, rfl, if_D (fun _ => ⟨_, rfl, q⟩) (fun c => absurd rfl c)⟩
    | some b =>
      refine ⟨_, rfl, rfl, _, rfl, if_D (fun c => by cases c) (fun _ => ?_)⟩
      refine tnext_of ?_
      dsimp only
      refine ⟨_, rfl, rfl, _, rfl, if_D (fun c => by cases c) (fun _ => ?_)⟩
      refine ⟨_, rfl, _, rfl, _, _, rfl, rfl, _, rfl, if_D (fun c => ?_) (fun c => ?_)⟩
      · refine ⟨_, rfl, ?_⟩
        unfold Gr.less at q
        dsimp only at q
        rw [if_neg (by omega)] at q
        exact q
      · refine tnext_of ?_
        dsimp only
        refine ⟨_, rfl, ?_⟩
        unfold Gr.less at q
        dsimp only at q
        rw [if_pos (by omega)] at q
        exact q
theorem scJo : FnScope ["web", "ear"] ["web", "ear"] (defScope (top 34)) := ⟨rfl, rfl, rfl, by decide +kernel, rfl, by decide +kernel, by decide +kernel⟩
def spJo (A : Adr) (CW : Addr) : Sp := fun vs H Q _ => ∃ a, ∃ w : WebD, ∃ e : Nat, vs = [.ref a, .int (e : Int)] ∧ WebAt A CW H a w ∧ e < w.ears.length ∧ Q (.int ((w.ear e).pl : Int)) H
theorem ok_Jo {f : Addr} {fd : FuncData} (F : Fun K "_joint_of" "_joint_of" (top 34) f fd) (W_ : WT K mg CW) : FnOk P w K mg base (L2.CX P w) 1 f fd ["web", "ear"] (spJo A CW) := by
  refine F.okX scJo (fun vs H Q E h => ?_) (fun cdv AA outer s H vs Q E hr h => ?_)
  · obtain ⟨a, w, e, rfl, _⟩ := h; rfl
  · obtain ⟨a, w, e, rfl, hw, he, q⟩ := h
    refine ⟨_, (pss_one (ps_ret (pe_ix ix_tup (pe_ix ix_tup (pe_fld (pv 0) rfl) (pv 1) (fun _ _ => rfl)) pe_int (fun _ _ => rfl)))), ?_⟩
    obtain ⟨ok, dx, jt, rt, et, sv, fv, al, az, cz, h0, h1, h2, ⟨ea, ex, rfl, hea, hex⟩, _⟩ := hw
    obtain ⟨v, hv, ev⟩ := hex.get (WebD.ear_at he)
    obtain ⟨p, s, rfl, hp, _⟩ := ev
    exact ⟨_, rfl, a, CW, dx, _, _, rfl, h0, W_.cl, W_.n2, wf_ear_list, _, rfl, ea, _, _, _, rfl, rfl, SqT.of hea, atI_nat hv, p, _, _, _, rfl, rfl, SqT.of hp, rfl, q⟩
theorem scLw2 : FnScope ["web", "joint", "far", "_", "along", "start", "end", "length", "steps", "odd", "reached"] ["web", "joint"] (defScope (top 35)) := ⟨rfl, rfl, rfl, by decide +kernel, rfl, by decide +kernel, by decide +kernel⟩
def spLw2 (A : Adr) (CW : Addr) : Sp := fun vs H Q _ => ∃ a, ∃ w : WebD, ∃ j : Nat, vs = [.ref a, .int (j : Int)] ∧ WebAt A CW H a w ∧ j < w.kinds.length ∧ ∀ D ps H', Ext H H' → H' D = some (.lst (ps.map V.ref)) → ps.length = w.kinds.length → Fars ps (Gr.runs (edp w) (2 * j) (2 * w.kinds.length)) H' → Q (.ref D) H'
theorem ok_Lw2 {f : Addr} {fd : FuncData} (F : Fun K "_least_walks" "_least_walks" (top 35) f fd) (W_ : WT K mg CW) (hL : LF P w K mg base "_lesser" 1 ["one", "other"] spLsr) (le : mg "len" = none) (ra : mg "range" = none) : FnOk P w K mg base (L2.CX P w) 2 f fd ["web", "joint"] (spLw2 A CW) := by
  refine F.okX scLw2 (fun vs H Q E h => ?_) (fun cdv AA outer s H vs Q E hr h => ?_)
  · obtain ⟨a, w, j, rfl, _⟩ := h; rfl
  · obtain ⟨a, w, j, rfl, hw, hj, q⟩ := h
    obtain ⟨fL, gL, cL⟩ := hL
    obtain ⟨fdL, GL, bL⟩ := cL.ex
    refine ⟨_, (pss_cons (ps_setLc (i := 2) (own := [("_", 3)]) (g := (gName 3)) rfl scLw2.nd rfl rfl (sw_true rfl rfl rfl rfl) (pi_seq (pe_fld (pv 0) rfl)) (blkOk_by (own := [("_", 3)]) (N := ["web", "joint", "far", "_", "along", "start", "end", "length", "steps", "odd", "reached"]) (sc := defScope (top 35)) (by decide +kernel)) (fun _ _ _ _ _ => (pg_name (i := 3) scLw2.nd rfl (Or.inl rfl))) (fun _ _ _ _ _ => pts_nil) (fun _ _ _ _ _ => (pe_lst (pa_cons pe_non (pa_cons pe_non pa_nil)))))
      (pss_cons (ps_asg pe_int (pg_sub (pe_ix ix_list (pv 2) (pv 1) (fun _ _ => rfl)) pe_int set_list))
      (pss_cons (ps_setLc (i := 4) (own := [("start", 5), ("end", 6), ("length", 7), ("_", 3)]) (g := (gTup K 5 (gCons (gName 5) (gCons (gName 6) (gCons (gName 7) (gCons (gName 3) (gCons (gName 3) gNil))))))) rfl scLw2.nd rfl rfl (sw_true rfl rfl rfl rfl) (pi_seq (pe_fld (pv 0) rfl)) (blkOk_by (own := [("start", 5), ("end", 6), ("length", 7), ("_", 3)]) (N := ["web", "joint", "far", "_", "along", "start", "end", "length", "steps", "odd", "reached"]) (sc := defScope (top 35)) (by decide +kernel)) (fun _ _ _ _ _ => (pg_tup rfl (pgs_cons (pg_name (i := 5) scLw2.nd rfl (Or.inl rfl)) (pgs_cons (pg_name (i := 6) scLw2.nd rfl (Or.inl rfl)) (pgs_cons (pg_name (i := 7) scLw2.nd rfl (Or.inl rfl)) (pgs_cons (pg_name (i := 3) scLw2.nd rfl (Or.inl rfl)) (pgs_cons (pg_name (i := 3) scLw2.nd rfl (Or.inl rfl)) pgs_nil))))))) (fun _ _ _ _ _ => pts_nil) (fun _ _ _ _ _ => (pe_tup (pa_cons (pv 5) (pa_cons (pv 6) (pa_cons (pv 7) pa_nil))))))
      (pss_cons (ps_set (i := 8) scLw2.nd rfl (Or.inl rfl) (pe_op op_cat (pv 4) (pe_lc (own := [("start", 5), ("end", 6), ("length", 7)]) (g := (gTup K 3 (gCons (gName 5) (gCons (gName 6) (gCons (gName 7) gNil))))) rfl scLw2.nd (pi_seq (pv 4)) (blkOk_by (own := [("start", 5), ("end", 6), ("length", 7)]) (N := ["web", "joint", "far", "_", "along", "start", "end", "length", "steps", "odd", "reached"]) (sc := defScope (top 35)) (by decide +kernel)) (fun _ _ _ _ _ => (pg_tup rfl (pgs_cons (pg_name (i := 5) scLw2.nd rfl (Or.inl rfl)) (pgs_cons (pg_name (i := 6) scLw2.nd rfl (Or.inl rfl)) (pgs_cons (pg_name (i := 7) scLw2.nd rfl (Or.inl rfl)) pgs_nil))))) (fun _ _ _ _ _ => pts_nil) (fun _ _ _ _ _ => (pe_tup (pa_cons (pv 6) (pa_cons (pv 5) (pa_cons (pv 7) pa_nil))))))))
      (pss_cons (ps_for (passes_of rfl) rfl (pi_range1 rfl ra (pa_cons (pe_op op_mulW pe_int (pe_callB call_len_seq (by rfl) le PySem.boot_len (pa_cons (pe_fld (pv 0) rfl) pa_nil))) pa_nil)) (pg_name (i := 3) scLw2.nd rfl (Or.inl rfl)) (pss_one (ps_for (passes_of rfl) rfl (pi_seq (pv 8)) (pg_tup rfl (pgs_cons (pg_name (i := 5) scLw2.nd rfl (Or.inl rfl)) (pgs_cons (pg_name (i := 6) scLw2.nd rfl (Or.inl rfl)) (pgs_cons (pg_name (i := 7) scLw2.nd rfl (Or.inl rfl)) pgs_nil)))) (pss_one (ps_for (passes_of rfl) rfl (pi_seq (pe_tup (pa_cons pe_int (pa_cons pe_int pa_nil)))) (pg_name (i := 9) scLw2.nd rfl (Or.inl rfl)) (pss_one (ps_if (pt_cmpR L2.op_notN (pe_ix ix_list (pe_ix ix_list (pv 2) (pv 5) (fun _ _ => rfl)) (pv 9) (fun _ _ => rfl)) pe_non (nomark _)) (pss_cons (ps_set (i := 10) scLw2.nd rfl (Or.inl rfl) (pe_op L2.op_add (pe_ix ix_list (pe_ix ix_list (pv 2) (pv 5) (fun _ _ => rfl)) (pv 9) (fun _ _ => rfl)) (pv 7)))
      (pss_one (ps_asg (pe_call GL (hr.mono (by decide)) rfl gL cL.kp bL .nil (E := E0) passL (pa_cons (pe_ix ix_list (pe_ix ix_list (pv 2) (pv 6) (fun _ _ => rfl)) (pe_op L2.op_odd (pv 10) pe_int) (fun _ _ => rfl)) (pa_cons (pv 10) pa_nil))) (pg_sub (pe_ix ix_list (pv 2) (pv 6) (fun _ _ => rfl)) (pe_op L2.op_odd (pv 10) pe_int) set_list)))) pss_nil)))))))
      (pss_one (ps_ret (pv 2)))))))), ?_⟩
    have hw0 := hw
    obtain ⟨ok, dx, jt, rt, et, sv, fv, al, az, cz, h0, ⟨ja, jx, rfl, hja, hjx⟩, ⟨ra, rx, rfl, hra, hrx⟩, _⟩ := hw0
    have n8 : w.kinds.length ≤ 8 := ok.n
    have m8 : w.rods.length ≤ 8 := ok.m
    have jn : jx.length = w.kinds.length := hjx.1
    have rn : rx.length = w.rods.length := hrx.1
    -- far
    refine tseq_of (t := tAsg (tLc _ _ _ _ _) (gName 2)) ?_
    refine tasg_of ?_
    refine tlc_rows (n := w.kinds.length) (H1 := H) (us := [V.non, V.non]) (by rw [← jn]; exact walk_S (K := K) (k := false) (a := ja) (xs := jx)) (fun R r => ⟨_, rfl, a, CW, dx, _, _, rfl, h0, W_.cl, W_.n0, wf_joints, false, ja, jx, rfl, SqT.of hja, r⟩) (by omega) (fun H2 e => SqT.of (e _ _ hja)) ?_ gm_name fun D ps H1 nD e1 hD hpl hnd hps => ?_
    · rintro i x _ H2 hi e ⟨rfl, hxi⟩ Qy kk
      exact ⟨rfl, (by show 2 ≤ sizeLine; decide), fun p np => kk p _ np (ext1 np) upd_same⟩
    dsimp only [gName, List.set]
    have hjl : j < ps.length := by omega
    obtain ⟨np0, npD, hp0⟩ := hps _ (List.getElem_mem hjl)
    have hpj : ps[j]? = some ps[j] := List.getElem?_eq_getElem hjl
    have F0 : Fars ps (fun _ => none) H1 := fun v p hv => (hps p (List.mem_of_getElem? hv)).2.2
    refine ⟨_, rfl, _, rfl, D, _, _, _, rfl, rfl, SqL.of hD, atI_nat (by rw [List.getElem?_map, hpj]; rfl), ps[j], _, (0 : Int), 0, rfl, rfl, hp0, ixN_nat (i := 0) (by decide), ?_⟩
    have F1 : Fars ps (Gr.runs (edp w) (2 * j) 0) (upd H1 ps[j] (.lst ([V.non, V.non].set 0 (.int 0)))) := Fars.set (f := fun _ => none) (c := some 0) F0 hnd hpj (by decide) (fun z => rfl)
    have e2 : Ext H (upd H1 ps[j] (.lst ([V.non, V.non].set 0 (.int 0)))) := kpl np0 e1
    have hD2 : (upd H1 ps[j] (.lst ([V.non, V.non].set 0 (.int 0)))) D = some (.lst (ps.map V.ref)) := by rw [upd_ne (fun z => npD z.symm)]; exact hD
    have DN : D ∉ ps := fun z => (hps D z).2.1 rfl
    have fresh : ∀ p ∈ ps, H p = none := fun p hp => (hps p hp).1
    generalize upd H1 ps[j] (.lst ([V.non, V.non].set 0 (.int 0))) = H2 at F1 e2 hD2 ⊢
    clear F0 hps hD e1 np0 npD hp0
    -- along
    dsimp only
    refine tseq_of (t := tAsg (tLc _ _ _ _ _) (gName 4)) ?_
    refine tasg_of ?_
    refine tlc_X (R := StepV) (ys := w.rods.map fun r => (r.st, r.en, r.len)) (H1 := H2) (by rw [List.length_map, ← rn]; exact walk_S (K := K) (k := false) (a := ra) (xs := rx)) (fun R r => ⟨_, rfl, a, CW, dx, _, _, rfl, e2 _ _ h0, W_.cl, W_.n1, wf_rods, false, ra, rx, rfl, SqT.of (e2 _ _ hra), r⟩) moStepV (big1000 (by rw [List.length_map]; omega)) (fun H3 e => SqT.of (e _ _ (e2 _ _ hra))) ?_ (gm_tup (gms_cons gm_name (gms_cons gm_name (gms_cons gm_name (gms_cons gm_name (gms_cons gm_name gms_nil)))))) fun Al as H3 nA e3 hA has => ?_
    · rintro i x _ H4 y hy e ⟨rfl, hxi⟩ Qy kk
      rw [List.getElem?_map] at hy
      obtain ⟨r, hr', rfl⟩ := Option.map_eq_some_iff.mp hy
      obtain ⟨p, s, rfl, hp, _⟩ := hrx.2 i x r hxi hr'
      have hp4 := e _ _ (e2 _ _ hp)
      refine ⟨p, _, rfl, SqT.of hp4, rfl, _, _, rfl, _, _, rfl, _, _, rfl, _, _, rfl, _, _, rfl, rfl, rfl, ?_⟩
      exact ⟨_, rfl, _, rfl, _, rfl, (by show 3 ≤ sizeLine; decide), fun q nq => kk _ _ (ext1 nq) ⟨q, rfl, upd_same⟩⟩
    dsimp only [gName, List.set]
    -- steps
    refine tseq_of (t := tAsg (tOp _ _ (tLc _ _ _ _ _)) (gName 8)) ?_
    refine tasg_of ?_
    refine top_of ?_
    refine ⟨_, rfl, ?_⟩
    have al_ : as.length = w.rods.length := by rw [has.1]; simp
    refine tlc_X (R := StepV) (ys := w.rods.map fun r => (r.en, r.st, r.len)) (H1 := H3) (by rw [List.length_map, ← al_]; exact walk_S (K := K) (k := true) (a := Al) (xs := as)) (fun R r => ⟨_, rfl, true, Al, as, rfl, SqL.of hA, r⟩) moStepV (big1000 (by rw [List.length_map]; omega)) (fun H4 e => SqL.of (e _ _ hA)) ?_ (gm_tup (gms_cons gm_name (gms_cons gm_name (gms_cons gm_name gms_nil)))) fun Bl bs H4 nB e4 hB hbs => ?_
    · rintro i x _ H4 y hy e ⟨rfl, hxi⟩ Qy kk
      rw [List.getElem?_map] at hy
      obtain ⟨r, hr', rfl⟩ := Option.map_eq_some_iff.mp hy
      obtain ⟨p, rfl, hp⟩ := has.2 i x (r.st, r.en, r.len) hxi (by rw [List.getElem?_map, hr']; rfl)
      refine ⟨p, _, rfl, SqT.of (e _ _ hp), rfl, _, _, rfl, _, _, rfl, _, _, rfl, rfl, rfl, ?_⟩
      exact ⟨_, rfl, _, rfl, _, rfl, (by show 3 ≤ sizeLine; decide), fun q nq => kk _ _ (ext1 nq) ⟨q, rfl, upd_same⟩⟩
    have bl_ : bs.length = w.rods.length := by rw [hbs.1]; simp
    refine ⟨Al, Bl, as, bs, rfl, rfl, e4 _ _ hA, hB, big1000 (by omega), fun St nS => ?_⟩
    dsimp only [gName, List.set]
    have hSt := upd_same (H := H4) (a := St) (o := .lst (as ++ bs))
    have e5 : Ext H2 (upd H4 St (.lst (as ++ bs))) := (e3.trans e4).trans (ext1 nS)
    have hsv : All2 StepV (as ++ bs) (stepsOf w) (upd H4 St (.lst (as ++ bs))) := by
      have h := (has.ext moStepV e4).append hbs
      exact h.ext moStepV (ext1 nS)
    have F5 := F1.ext e5
    have e05 : Ext H (upd H4 St (.lst (as ++ bs))) := e2.trans e5
    have hD5 := e5 _ _ hD2
    have SN : St ∉ ps := fun z => by
      obtain ⟨v, hv⟩ := List.getElem?_of_mem z
      have := (e3.trans e4) _ _ (F1 v St hv)
      rw [nS] at this
      cases this
    generalize upd H4 St (.lst (as ++ bs)) = H5 at hSt hsv F5 e05 hD5 ⊢
    clear F1 e2 hD2 e3 hA has e4 hB hbs nS e5
    -- each pass
    have svl : (as ++ bs).length = (stepsOf w).length := hsv.1
    have NV_ : [V.int (2 * (jx.length : Int))] = [V.int ((2 * w.kinds.length : Nat) : Int)] := by rw [jn]; push_cast; rfl
    refine ⟨_, rfl, a, CW, dx, _, _, rfl, e05 _ _ h0, W_.cl, W_.n0, wf_joints, ja, jx, rfl, .inr (SqT.of (e05 _ _ hja)), _, _, rfl, rfl, (bd_le (by decide)).cm (bd_le (by omega)), _, NV_, by omega, by omega, ?_⟩
    refine for_it (walk_range (lo := 0) (n := 2 * w.kinds.length)) (fun k σ H' => KpL ps H5 H' ∧ Fars ps (Gr.runs (edp w) (2 * j) k) H' ∧ ∃ z3 z5 z6 z7 z9 z10, σ = [some (.ref a), some (.int (j : Int)), some (.ref D), z3, some (.ref Al), z5, z6, z7, some (.ref St), z9, z10]) ⟨KpL.refl, F5, _, _, _, _, _, _, rfl⟩ (fun _ _ _ _ _ => trivial) ?_ ?_
    · rintro k x σ _ H6 hk ⟨k6, F6, z3, z5, z6, z7, z9, z10, rfl⟩ ⟨rfl, rfl⟩
      dsimp only [gName, List.set]
      obtain ⟨fk, hfk⟩ : ∃ fk, fk = Gr.runs (edp w) (2 * j) k := ⟨_, rfl⟩
      have hks : Gr.runs (edp w) (2 * j) (k + 1) = ((stepsOf w).flatMap edS).foldl Gr.relax fk := by rw [hfk]; rfl
      have so : Gr.Sound (edp w) (2 * j) fk := by rw [hfk]; exact Gr.runs_sound k
      rw [hks]
      rw [← hfk] at F6
      clear hks hfk
      refine ⟨_, rfl, true, St, _, rfl, SqL.of (k6 _ _ hSt SN), ?_⟩
      refine for_it walk_S (fun i σ H' => KpL ps H5 H' ∧ Fars ps (((((stepsOf w).take i).flatMap edS)).foldl Gr.relax fk) H' ∧ Gr.Sound (edp w) (2 * j) (((((stepsOf w).take i).flatMap edS)).foldl Gr.relax fk) ∧ ∃ z3 z5 z6 z7 z9 z10, σ = [some (.ref a), some (.int (j : Int)), some (.ref D), z3, some (.ref Al), z5, z6, z7, some (.ref St), z9, z10]) ⟨k6, F6, so, _, _, _, _, _, _, rfl⟩ (fun i σ H' _ e => SqL.of (e.1 _ _ hSt SN)) ?_ ?_
      · rintro i x σ _ H7 hi ⟨k7, F7, so7, y3, y5, y6, y7, y9, y10, rfl⟩ ⟨rfl, hxi⟩
        obtain ⟨p, hpi, hpv⟩ := hsv.get' hxi
        have mp := List.mem_of_getElem? hpi
        obtain ⟨p1, p2, p24⟩ := stepsOf_fine ok p mp
        have et : ((stepsOf w).take (i + 1)).flatMap edS = ((stepsOf w).take i).flatMap edS ++ edS p := by
          rw [List.take_add_one, hpi, List.flatMap_append]
          simp
        rw [et, List.foldl_append]
        obtain ⟨fi, hfi⟩ : ∃ fi, fi = ((((stepsOf w).take i).flatMap edS)).foldl Gr.relax fk := ⟨_, rfl⟩
        rw [← hfi] at F7 so7 ⊢
        clear hfi et
        obtain ⟨s, t, l⟩ := p
        dsimp only at p1 p2 p24
        obtain ⟨q0, rfl, hq0⟩ := hpv
        have q0n : q0 ∉ ps := fun z => by
          obtain ⟨v, hv⟩ := List.getElem?_of_mem z
          have h9 := F5 v q0 hv
          rw [hq0] at h9
          cases h9
        have hq7 := k7 _ _ hq0 q0n
        refine ⟨q0, _, rfl, SqT.of hq7, rfl, _, _, rfl, _, _, rfl, _, _, rfl, rfl, ?_⟩
        refine ⟨(by show 2 ≤ sizeLine; decide), fun tq nq => ?_⟩
        have tqn : tq ∉ ps := fun z => by
          obtain ⟨v, hv⟩ := List.getElem?_of_mem z
          rw [F7 v tq hv] at nq
          cases nq
        have htq := upd_same (H := H7) (a := tq) (o := .tup [V.int 0, V.int 1])
        have k8 := k7.ext (ext1 (o := .tup [V.int 0, V.int 1]) nq)
        have F8 := F7.ext (ext1 (o := .tup [V.int 0, V.int 1]) nq)
        generalize upd H7 tq (.tup [V.int 0, V.int 1]) = H8 at htq k8 F8
        refine ⟨false, tq, _, rfl, SqT.of htq, ?_⟩
        refine for_it walk_S (fun o σ H' => KpL ps H5 H' ∧ KpL ps H8 H' ∧ Fars ps (((edS (s, t, l)).take o).foldl Gr.relax fi) H' ∧ Gr.Sound (edp w) (2 * j) (((edS (s, t, l)).take o).foldl Gr.relax fi) ∧ ∃ z9 z10, σ = [some (.ref a), some (.int (j : Int)), some (.ref D), y3, some (.ref Al), some (.int (s : Int)), some (.int (t : Int)), some (.int (l : Int)), some (.ref St), z9, z10]) ⟨k8, KpL.refl, F8, so7, _, _, rfl⟩ (fun i σ H' _ e => SqT.of (e.2.1 _ _ htq tqn)) ?_ ?_
        · rintro o x σ _ H9 ho ⟨k9, k89, F9, so9, w9, w10, rfl⟩ ⟨rfl, hxo⟩
          have ho2 : o < 2 := ho
          obtain rfl : x = V.int (o : Int) := by
            rcases (show o = 0 ∨ o = 1 by omega) with rfl | rfl
            · injection hxo with z; exact z.symm
            · injection hxo with z; exact z.symm
          dsimp only [gName, List.set]
          rw [fold_take (edS_at (p := (s, t, l)) ho2)]
          obtain ⟨g, hg⟩ : ∃ g, g = ((edS (s, t, l)).take o).foldl Gr.relax fi := ⟨_, rfl⟩
          rw [← hg] at F9 so9 ⊢
          clear hg
          have hD9 := k9 _ _ hD5 DN
          have hs_ : s < ps.length := by omega
          have ht_ : t < ps.length := by omega
          have es : ps[s]? = some ps[s] := List.getElem?_eq_getElem hs_
          have et : ps[t]? = some ps[t] := List.getElem?_eq_getElem ht_
          have hs9 := F9 s _ es
          have ht9 := F9 t _ et
          have me := edp_of (o := o) mp ho2
          cases hgx : g (2 * s + o) with
          | none =>
            have pn : atI [optV (g (2 * s)), optV (g (2 * s + 1))] ((o : Nat) : Int) = some V.non := by rw [pair_at ho2, hgx]; rfl
            refine ⟨_, rfl, _, rfl, D, _, _, _, rfl, rfl, SqL.of hD9, atI_nat (by rw [List.getElem?_map, es]; rfl), _, rfl, ps[s], _, _, _, rfl, rfl, SqL.of hs9, pn, rfl, _, rfl, if_ND (fun c => absurd rfl c) (fun _ => ?_)⟩
            refine ⟨k9, k89, ?_, Gr.relax_sound so9 me, _, _, rfl⟩
            rw [relax_none hgx]
            exact F9
          | some b =>
            have pb : atI [optV (g (2 * s)), optV (g (2 * s + 1))] ((o : Nat) : Int) = some (V.int (b : Int)) := by rw [pair_at ho2, hgx]; rfl
            have bp : (2 * s + o) % 2 = b % 2 := edp_par (so9 _ _ hgx)
            refine ⟨_, rfl, _, rfl, D, _, _, _, rfl, rfl, SqL.of hD9, atI_nat (by rw [List.getElem?_map, es]; rfl), _, rfl, ps[s], _, _, _, rfl, rfl, SqL.of hs9, pb, rfl, _, rfl, if_ND (fun _ => ?_) (fun c => by cases c)⟩
            refine ⟨_, rfl, _, rfl, D, _, _, _, rfl, rfl, SqL.of hD9, atI_nat (by rw [List.getElem?_map, es]; rfl), _, rfl, ps[s], _, _, _, rfl, rfl, SqL.of hs9, pb, _, rfl, _, _, rfl, rfl, ?_⟩
            dsimp only [gName, List.set]
            rw [show ((b : Int) + (l : Int)) = ((b + l : Nat) : Int) by omega]
            have par : (b + l) % 2 = (o + l) % 2 := by omega
            have pl2 : (b + l) % 2 < 2 := by omega
            refine ⟨_, rfl, _, rfl, D, _, _, _, rfl, rfl, SqL.of hD9, atI_nat (by rw [List.getElem?_map, et]; rfl), _, rfl, b + l, rfl, rfl, ps[t], _, _, _, rfl, rfl, SqL.of ht9, pair_at pl2, _, rfl, g (2 * t + (b + l) % 2), b + l, rfl, ?_⟩
            refine ⟨_, rfl, _, rfl, D, _, _, _, rfl, rfl, SqL.of hD9, atI_nat (by rw [List.getElem?_map, et]; rfl), _, rfl, b + l, rfl, rfl, ps[t], _, _, (b + l) % 2, rfl, rfl, ht9, ixN_nat (by show (b + l) % 2 < 2; omega), ?_⟩
            have Fn := Fars.set (g := Gr.relax g (2 * s + o, 2 * t + (o + l) % 2, l)) (c := Gr.less (g (2 * t + (b + l) % 2)) (b + l)) F9 hnd et pl2 (fun z => by
              rw [relax_some (e := (2 * s + o, 2 * t + (o + l) % 2, l)) hgx, par])
            exact ⟨k9.upd (List.mem_of_getElem? et), k89.upd (List.mem_of_getElem? et), Fn, Gr.relax_sound so9 me, _, _, rfl⟩
        · rintro σ H9 ⟨k9, k89, F9, so9, w9, w10, rfl⟩
          exact ⟨k9, F9, so9, _, _, _, _, _, _, rfl⟩
      · rintro σ H7 ⟨k7, F7, so7, y3, y5, y6, y7, y9, y10, rfl⟩
        rw [svl, List.take_length] at F7
        exact ⟨k7, F7, _, _, _, _, _, _, rfl⟩
    rintro σ H6 ⟨k6, F6, z3, z5, z6, z7, z9, z10, rfl⟩
    have e06 : Ext H H6 := fun b u hb => k6 b u (e05 b u hb) (fun z => by rw [fresh b z] at hb; cases hb)
    exact ⟨_, rfl, q D ps H6 e06 (k6 _ _ hD5 DN) hpl F6⟩
end
end Fx

set_option Elab.async false
set_option linter.all false
set_option maxRecDepth 100000
set_option maxHeartbeats 4000000
set_option exponentiation.threshold 20000
namespace Fx
open PySem PySem.Spec PyProof.Rows L2 FM KM
/-! ### exceptions with one int -/
def spXc (C : Addr) (fld : Str) : Sp := fun vs H Q _ => ∃ x n, vs = [.ref x, .int n] ∧ H x = some (exo x C none) ∧ ∀ dx, H dx = none → dx ≠ x → Q .non (upd (upd H dx (exd dx [(fld, .int n)])) x (exo x C (some dx)))
/-- what a raise asks of the text -/
structure XcF (P : Program) (w : World) (K : PySem.W.Frag) (mg : Str → Option Value) (base : Heap) (C : Addr) (nm fld : Str) : Prop where
  ox : OexC K C
  init : ∃ fI, PySem.W.findIn K (.ref C) "__init__" = some (some (.ref fI)) ∧ PySem.W.typeIn K (.ref fI) = some (.type "function") ∧ Cal P w K mg base 1 fI ["self", fld] (spXc C fld)
  g : mg nm = some (.ref C)
theorem raise_xc {C : Addr} {fld : Str} {σ : L2.St} {H H1 : Hp} {n : Int} {E : XK} (e : Ext H H1) (hE : ∀ dd H', Ext H H' → H' dd = some (.xd [(fld, .int n)]) → E (.ref C) (some dd) H') :
    tMkO C (spXc C fld) [] (fun _ H Q => Q [.int n] H) σ H1 E := by
  refine ⟨by show 1 ≤ 1000; decide, fun a na => ⟨a, n, rfl, upd_same, fun dx ndx ne => ⟨rfl, dx, _, upd_same, by rw [upd_ne ne]; exact upd_same, ?_, hE dx _ ?_ upd_same⟩⟩⟩
  · rw [upd_ne ne] at ndx
    exact ndx
  · rw [upd_ne ne] at ndx
    intro b u hb
    have hb1 := e _ _ hb
    have n1 : b ≠ a := fun z => by rw [z, na] at hb1; cases hb1
    have n2 : b ≠ dx := fun z => by rw [z, ndx] at hb1; cases hb1
    rw [upd_ne n2, del_ne n1, upd_ne n1, upd_ne n2, upd_ne n1]
    exact hb1

/-- the classes of the errors that may come -/
structure ERx (K : PySem.W.Frag) (mg : Str → Option Value) (NE NJ Wb : Addr) : Prop where
  gN : mg "NoEar" = some (.ref NE)
  gJ : mg "NoJoint" = some (.ref NJ)
  gW : mg "WebError" = some (.ref Wb)
  ve : mg "ValueError" = none
  eN : ExcC K NE
  eJ : ExcC K NJ
  nW : PySem.W.kitOne K (.ref NE) (.ref Wb) = some true
  nJ : PySem.W.kitOne K (.ref NE) (.ref NJ) = some false
  jV : PySem.W.kitOne K (.ref NJ) (.type "ValueError") = some true
  jN : PySem.W.kitOne K (.ref NJ) (.ref NE) = some false
  xN : PySem.W.exmOne K (.ref NE) (.ref NE) = some true
  xJN : PySem.W.exmOne K (.ref NJ) (.ref NE) = some false
  xJ : PySem.W.exmOne K (.ref NJ) (.ref NJ) = some true
  fN : XfC K NE
  fJ : XfC K NJ
  iN : PySem.W.findIn K (.ref NE) "ear" = some none
  iJ : PySem.W.findIn K (.ref NJ) "joint" = some none
/-- a def that is called while an exception is handled, with its promise -/
structure CalZ (P : Program) (w : World) (K : PySem.W.Frag) (mg : Str → Option Value) (base : Heap) (k : Nat) (f : Addr) (ps : List Str) (sp : Addr → Value → Option Addr → Sp) : Prop where
  ex : ∃ fd, FnZ P w K mg base k f fd ps sp ∧ Binds K fd ps []
  kp : PySem.W.keepIn K (.ref f) = true
theorem roomH_mark {k : Nat} {A : Around} {v : Option Value} (r : Room k A) : L2H.RoomH k (A.mark v) := ⟨r.dp, r.un⟩
def EW (n : Nat) (W : WX) : XK := fun cls d H => ∀ σ : L2.St, σ.length = n → W cls d σ H
/-- what a clause's suite tells -/
def tsX (C : Addr) (fld word : Str) : Addr → Value → Option Addr → TS := fun a cls d D σ H => cls = .ref C ∧ ∃ dd i, d = some dd ∧ H dd = some (.xd [(fld, .int i)]) ∧ σ.length = 6 ∧ σ[4]? = some (some (.ref a)) ∧ ∀ r, H r = none → D.rt (.ref r) (upd H r (.tup [.str word, .int i, .bl true]))
theorem boot_VE : bootBuiltins "ValueError" = some (.type "ValueError") := by decide +kernel
theorem lesser_none (c : Option Nat) : WebD.lesser none c = c := rfl
theorem pss_at {X : Cx} {b : List Stmt} {t' : TS} (h : ∀ D σ H, t' D σ H → ∃ t, PSs X b t ∧ t D σ H) : PSs X b t' := ⟨fun pins s σ H D I q => let ⟨_, h1, h2⟩ := h D σ H q; h1.run pins s σ H D I h2⟩
theorem gm_lst {K : PySem.W.Frag} {n : Nat} {gs : TGs} (h1 : GMs gs) : GM (gLst K n gs) := fun x σ H P Q h k => by
  obtain ⟨a, xs, e1, e2, e3, k⟩ := k
  exact ⟨a, xs, e1, e2, e3, h1 _ _ _ _ _ h k⟩
section
variable {P : Program} {w : World} {K : PySem.W.Frag} {mg : Str → Option Value} {base : Heap} {A : Adr} {CW CR CT NE NJ Wb : Addr}
theorem scNeI : FnScope ["self", "ear"] ["self", "ear"] (defScope (inClass (top 17) 0)) := ⟨rfl, rfl, rfl, by decide +kernel, rfl, by decide +kernel, by decide +kernel⟩
theorem ok_NeI {C : Addr} {f : Addr} {fd : FuncData} (F : Fun K "__init__" "NoEar.__init__" (inClass (top 17) 0) f fd) (T : OexC K C) (no : PySem.W.findIn K (.ref C) "ear" = some none) : FnOk P w K mg base (L2.CX P w) 1 f fd ["self", "ear"] (spXc C "ear") := by
  refine F.okX scNeI (fun vs H Q E h => ?_) (fun cdv AA outer s H vs Q E hr h => ?_)
  · obtain ⟨x, t, rfl, _⟩ := h
    rfl
  · obtain ⟨x, t, rfl, hx, kk⟩ := h
    refine ⟨_, pss_one (ps_ost (pv 0) (pv 1)), ?_⟩
    exact ⟨_, rfl, _, rfl, x, C, rfl, T, no, .inl ⟨hx, fun dx nd ne => kk dx nd ne⟩⟩
theorem scNjI : FnScope ["self", "joint"] ["self", "joint"] (defScope (inClass (top 15) 0)) := ⟨rfl, rfl, rfl, by decide +kernel, rfl, by decide +kernel, by decide +kernel⟩
theorem ok_NjI {C : Addr} {f : Addr} {fd : FuncData} (F : Fun K "__init__" "NoJoint.__init__" (inClass (top 15) 0) f fd) (T : OexC K C) (no : PySem.W.findIn K (.ref C) "joint" = some none) : FnOk P w K mg base (L2.CX P w) 1 f fd ["self", "joint"] (spXc C "joint") := by
  refine F.okX scNjI (fun vs H Q E h => ?_) (fun cdv AA outer s H vs Q E hr h => ?_)
  · obtain ⟨x, t, rfl, _⟩ := h
    rfl
  · obtain ⟨x, t, rfl, hx, kk⟩ := h
    refine ⟨_, pss_one (ps_ost (pv 0) (pv 1)), ?_⟩
    exact ⟨_, rfl, _, rfl, x, C, rfl, T, no, .inl ⟨hx, fun dx nd ne => kk dx nd ne⟩⟩
def spCeX (B : Addr) : Sp := fun vs H Q E => ∃ n b, vs = [.int n, .int b] ∧ (0 ≤ n ∧ n < b → Q .non H) ∧ (¬ (0 ≤ n ∧ n < b) → ∀ dd H', Ext H H' → H' dd = some (.xd [("ear", .int n)]) → E (.ref B) (some dd) H')
theorem ok_CeX {B f : Addr} {fd : FuncData} (F : Fun K "check_ear" "check_ear" (top 30) f fd) (X : XcF P w K mg base B "NoEar" "ear") : FnOk P w K mg base (L2.CX P w) 3 f fd ["ear", "count"] (spCeX B) := by
  refine F.okX scCer (fun vs H Q E h => ?_) (fun cdv AA outer s H vs Q E hr h => ?_)
  · obtain ⟨n, b, rfl, _⟩ := h
    rfl
  · obtain ⟨n, b, rfl, k1, k2⟩ := h
    obtain ⟨fI, iC, tI, cI⟩ := X.init
    obtain ⟨fdI, GI, bI⟩ := cI.ex
    refine ⟨_, (pss_one (ps_if (pt_not (pt_chain L2.op_le L2.op_lt pe_int (pv 0) (pv 1))) (pss_one (ps_raise rfl (takes_of rfl rfl rfl rfl) (pmk_oex X.ox iC tI GI (hr.mono (by decide)) bI .nil passL rfl X.g (pa_cons (pv 0) pa_nil)))) pss_nil)), ?_⟩
    refine ⟨_, rfl, _, _, rfl, rfl, _, rfl, if_D (fun h1 => ⟨_, rfl, _, _, rfl, rfl, _, rfl, if_ND (fun h2 => ?_) (fun h2 => ?_)⟩) (fun h1 => ?_)⟩
    · exact ⟨_, rfl, raise_xc (σ := []) Ext.rfl' (k2 fun z => h2 z.2)⟩
    · exact k1 ⟨h1, h2⟩
    · refine ⟨_, rfl, ?_⟩
      refine iteT ?_
      exact ⟨_, rfl, raise_xc (σ := []) Ext.rfl' (k2 fun z => h1 z.1)⟩
def spCjX (B : Addr) : Sp := fun vs H Q E => ∃ n b, vs = [.int n, .int b] ∧ (0 ≤ n ∧ n < b → Q .non H) ∧ (¬ (0 ≤ n ∧ n < b) → ∀ dd H', Ext H H' → H' dd = some (.xd [("joint", .int n)]) → E (.ref B) (some dd) H')
theorem ok_CjX {B f : Addr} {fd : FuncData} (F : Fun K "check_joint" "check_joint" (top 28) f fd) (X : XcF P w K mg base B "NoJoint" "joint") : FnOk P w K mg base (L2.CX P w) 3 f fd ["joint", "count"] (spCjX B) := by
  refine F.okX scCj (fun vs H Q E h => ?_) (fun cdv AA outer s H vs Q E hr h => ?_)
  · obtain ⟨n, b, rfl, _⟩ := h
    rfl
  · obtain ⟨n, b, rfl, k1, k2⟩ := h
    obtain ⟨fI, iC, tI, cI⟩ := X.init
    obtain ⟨fdI, GI, bI⟩ := cI.ex
    refine ⟨_, (pss_one (ps_if (pt_not (pt_chain L2.op_le L2.op_lt pe_int (pv 0) (pv 1))) (pss_one (ps_raise rfl (takes_of rfl rfl rfl rfl) (pmk_oex X.ox iC tI GI (hr.mono (by decide)) bI .nil passL rfl X.g (pa_cons (pv 0) pa_nil)))) pss_nil)), ?_⟩
    refine ⟨_, rfl, _, _, rfl, rfl, _, rfl, if_D (fun h1 => ⟨_, rfl, _, _, rfl, rfl, _, rfl, if_ND (fun h2 => ?_) (fun h2 => ?_)⟩) (fun h1 => ?_)⟩
    · exact ⟨_, rfl, raise_xc (σ := []) Ext.rfl' (k2 fun z => h2 z.2)⟩
    · exact k1 ⟨h1, h2⟩
    · refine ⟨_, rfl, ?_⟩
      refine iteT ?_
      exact ⟨_, rfl, raise_xc (σ := []) Ext.rfl' (k2 fun z => h1 z.1)⟩
def spLs2 : Sp := fun vs H Q _ => ∃ b c : Option Nat, vs = [optV b, optV c] ∧ Q (optV (WebD.lesser b c)) H
theorem ok_Ls2 {f : Addr} {fd : FuncData} (F : Fun K "_lesser" "_lesser" (top 36) f fd) : FnOk P w K mg base (L2.CX P w) 1 f fd ["one", "other"] spLs2 := by
  refine F.okX scLsr (fun vs H Q E h => ?_) (fun cdv AA outer s H vs Q E hr h => ?_)
  · obtain ⟨b, c, rfl, _⟩ := h; rfl
  · obtain ⟨b, c, rfl, q⟩ := h
    refine ⟨_, (pss_cons (ps_if (pt_cmpR L2.op_isN (pv 0) pe_non (nomark _)) (pss_one (ps_ret (pv 1))) pss_nil)
      (pss_cons (ps_if (PW.pt (pw_or (pt_cmpR L2.op_isN (pv 1) pe_non (nomark _)) (pw_or1 (pt_cmpR L2.op_le (pv 0) (pv 1) (nomark _))))) (pss_one (ps_ret (pv 0))) pss_nil)
      (pss_one (ps_ret (pv 1))))), ?_⟩
    cases b with
    | none => exact ⟨_, rfl, rfl, _, rfl, if_D (fun _ => ⟨_, rfl, q⟩) (fun c => absurd rfl c)⟩
    | some b =>
      refine ⟨_, rfl, rfl, _, rfl, if_D (fun c => by cases c) (fun _ => ?_)⟩
      refine tnext_of ?_
      dsimp only
      cases c with
      | none => exact ⟨_, rfl, rfl, _, rfl, if_D (fun _ => ⟨_, rfl, q⟩) (fun c => absurd rfl c)⟩
      | some c =>
        refine ⟨_, rfl, rfl, _, rfl, if_D (fun c => by cases c) (fun _ => ?_)⟩
        unfold WebD.lesser at q
        dsimp only at q
        refine ⟨_, rfl, _, rfl, _, _, rfl, rfl, _, rfl, if_D (fun c => ?_) (fun c => ?_)⟩
        · refine ⟨_, rfl, ?_⟩
          rw [if_pos (by omega)] at q
          exact q
        · refine tnext_of ?_
          dsimp only
          refine ⟨_, rfl, ?_⟩
          rw [if_neg (by omega)] at q
          exact q
theorem scDi : FnScope ["web", "joint", "even", "odd"] ["web", "joint"] (defScope (top 32)) := ⟨rfl, rfl, rfl, by decide +kernel, rfl, by decide +kernel, by decide +kernel⟩
def spDi (A : Adr) (CW NJ : Addr) : Sp := fun vs H Q E => ∃ a, ∃ w : WebD, ∃ x : Int, vs = [.ref a, .int x] ∧ WebAt A CW H a w ∧ (∀ j : Nat, x = (j : Int) → j < w.kinds.length → ∀ D H', H D = none → Ext H H' → H' D = some (.lst (lsV w.kinds.length (Gr.runs w.edsF j w.kinds.length))) → Q (.ref D) H') ∧ (¬ (0 ≤ x ∧ x < (w.kinds.length : Int)) → ∀ dd H', Ext H H' → H' dd = some (.xd [("joint", .int x)]) → E (.ref NJ) (some dd) H')
theorem ok_Di {f : Addr} {fd : FuncData} (F : Fun K "distances" "distances" (top 32) f fd) (W_ : WT K mg CW) (hC : LF P w K mg base "check_joint" 3 ["joint", "count"] (spCjX NJ)) (hS : LF P w K mg base "_lesser" 1 ["one", "other"] spLs2) (hL : LF P w K mg base "_least_walks" 2 ["web", "joint"] (spLw2 A CW)) (le : mg "len" = none) : FnOk P w K mg base (L2.CX P w) 4 f fd ["web", "joint"] (spDi A CW NJ) := by
  refine F.okX scDi (fun vs H Q E h => ?_) (fun cdv AA outer s H vs Q E hr h => ?_)
  · obtain ⟨a, w, x, rfl, _⟩ := h; rfl
  · obtain ⟨a, w, x, rfl, hw, k1, k2⟩ := h
    obtain ⟨fC, gC, cC⟩ := hC
    obtain ⟨fdC, GC, bC⟩ := cC.ex
    obtain ⟨fS, gS, cS⟩ := hS
    obtain ⟨fdS, GS, bS⟩ := cS.ex
    obtain ⟨fL, gL, cL⟩ := hL
    obtain ⟨fdL, GL, bL⟩ := cL.ex
    refine ⟨_, (pss_cons (ps_expr (pe_call GC (hr.mono (by decide)) rfl gC cC.kp bC .nil (E := E) (passes_call (takes_of rfl rfl rfl rfl) (fun _ _ _ _ h => h)) (pa_cons (pv 1) (pa_cons (pe_callB call_len_seq (by rfl) le PySem.boot_len (pa_cons (pe_fld (pv 0) rfl) pa_nil)) pa_nil))))
      (pss_one (ps_ret (pe_lc (own := [("even", 2), ("odd", 3)]) (g := (gLst K 2 (gCons (gName 2) (gCons (gName 3) gNil)))) rfl scDi.nd (pi_seq (pe_call GL (hr.mono (by decide)) rfl gL cL.kp bL .nil (E := E0) passL (pa_cons (pv 0) (pa_cons (pv 1) pa_nil)))) (blkOk_by (own := [("even", 2), ("odd", 3)]) (N := ["web", "joint", "even", "odd"]) (sc := defScope (top 32)) (by decide +kernel)) (fun _ _ _ _ _ => (pg_lst rfl (pgs_cons (pg_name (i := 2) scDi.nd rfl (Or.inl rfl)) (pgs_cons (pg_name (i := 3) scDi.nd rfl (Or.inl rfl)) pgs_nil)))) (fun _ _ _ _ _ => pts_nil) (fun _ _ _ _ _ => (pe_call GS (hr.mono (by decide)) rfl gS cS.kp bS .nil (E := E0) passL (pa_cons (pv 2) (pa_cons (pv 3) pa_nil)))))))), ?_⟩
    have hw0 := hw
    obtain ⟨ok, dx, jt, rt, et, sv, fv, al, az, cz, h0, ⟨ja, jx, rfl, hja, hjx⟩, _⟩ := hw0
    have jn : jx.length = w.kinds.length := hjx.1
    have n8 : w.kinds.length ≤ 8 := ok.n
    refine ⟨_, rfl, _, rfl, a, CW, dx, _, _, rfl, h0, W_.cl, W_.n0, wf_joints, ja, jx, rfl, .inr (SqT.of hja), x, (jx.length : Int), rfl, fun hx => ?_, fun hx => k2 (by rw [← jn]; exact hx)⟩
    obtain ⟨j, hj⟩ : ∃ j : Nat, x = (j : Int) := ⟨x.toNat, by omega⟩
    subst hj
    have hl : j < w.kinds.length := by omega
    dsimp only
    refine tret_of ?_
    refine tlc_cps (P := fun J H1 => ∃ D2 ps, J = ItS K true D2 ∧ Ext H H1 ∧ H1 D2 = some (.lst (ps.map V.ref)) ∧ ps.length = w.kinds.length ∧ Fars ps (Gr.runs (edp w) (2 * j) (2 * w.kinds.length)) H1) (fun R r => ⟨_, rfl, _, rfl, a, w, j, rfl, hw, hl, fun D ps H' e' hD hn hF => ⟨true, D, _, rfl, SqL.of hD, r _ _ ⟨D, ps, rfl, e', hD, hn, hF⟩⟩⟩) ?_
    rintro J H1 ⟨D2, ps, rfl, e1, hD2, hpl, hF⟩
    refine tlc_X (R := fun (x : V) (d : Option Nat) (_ : Hp) => x = optV d) (ys := (List.range w.kinds.length).map fun v => Gr.runs w.edsF j w.kinds.length v) (H1 := H1) (by rw [List.length_map, List.length_range, ← hpl, ← List.length_map (f := V.ref)]; exact walk_S (K := K) (k := true) (a := D2) (xs := ps.map V.ref)) (fun R r => r) (fun _ _ _ _ _ h => h) (big1000 (by rw [List.length_map, List.length_range]; omega)) (fun H3 e => SqL.of (e _ _ hD2)) ?_ (gm_lst (gms_cons gm_name (gms_cons gm_name gms_nil))) fun D us H3 nD e3 hD hus => ?_
    · rintro i x _ H2 d hd e ⟨rfl, hxi⟩ Qy kk
      rw [List.getElem?_map] at hd
      obtain ⟨v, hv, rfl⟩ := Option.map_eq_some_iff.mp hd
      have hi : i < w.kinds.length := by have := (List.getElem?_eq_some_iff.mp hv).1; rw [List.length_range] at this; exact this
      rw [List.getElem?_range hi] at hv
      cases hv
      rw [List.getElem?_map] at hxi
      obtain ⟨p, hp, rfl⟩ := Option.map_eq_some_iff.mp hxi
      refine ⟨p, _, rfl, SqL.of (e _ _ (hF i p hp)), rfl, _, _, rfl, _, _, rfl, rfl, rfl, ?_⟩
      refine ⟨_, rfl, _, rfl, _, _, rfl, ?_⟩
      rw [edp_same ok hl, edp_same ok hl, WebD.lesser_runs ok hl]
      exact kk _ _ Ext.rfl' rfl
    have eu : us = lsV w.kinds.length (Gr.runs w.edsF j w.kinds.length) := by
      refine List.ext_getElem (by rw [hus.1, lsV_len]; simp) fun i h1 h2 => ?_
      rw [lsV_len] at h2
      have h3 := hus.2 i us[i] (Gr.runs w.edsF j w.kinds.length i) (List.getElem?_eq_getElem h1) (by rw [List.getElem?_map, List.getElem?_range h2]; rfl)
      have h4 := lsV_at (f := Gr.runs w.edsF j w.kinds.length) h2
      rw [h3]
      exact (Option.some.inj ((List.getElem?_eq_getElem _).symm.trans h4)).symm
    subst eu
    exact k1 j rfl hl D H3 (ext_none e1 nD) (e1.trans e3) hD
theorem scEd : FnScope ["web", "first", "second"] ["web", "first", "second"] (defScope (top 33)) := ⟨rfl, rfl, rfl, by decide +kernel, rfl, by decide +kernel, by decide +kernel⟩
def spEd (A : Adr) (CW NE : Addr) : Sp := fun vs H Q E => ∃ a, ∃ w : WebD, ∃ x y : Int, vs = [.ref a, .int x, .int y] ∧ WebAt A CW H a w ∧ (∀ e f : Nat, x = (e : Int) → y = (f : Int) → e < w.ears.length → f < w.ears.length → ∀ H', Ext H H' → Q (optV (Gr.runs w.edsF (w.ear e).pl w.kinds.length (w.ear f).pl)) H') ∧ (¬ (0 ≤ x ∧ x < (w.ears.length : Int)) → ∀ dd H', Ext H H' → H' dd = some (.xd [("ear", .int x)]) → E (.ref NE) (some dd) H') ∧ (0 ≤ x ∧ x < (w.ears.length : Int) → ¬ (0 ≤ y ∧ y < (w.ears.length : Int)) → ∀ dd H', Ext H H' → H' dd = some (.xd [("ear", .int y)]) → E (.ref NE) (some dd) H')
theorem ok_Ed {f : Addr} {fd : FuncData} (F : Fun K "ear_distance" "ear_distance" (top 33) f fd) (W_ : WT K mg CW) (hC : LF P w K mg base "check_ear" 3 ["ear", "count"] (spCeX NE)) (hJ : LF P w K mg base "_joint_of" 1 ["web", "ear"] (spJo A CW)) (hD : LF P w K mg base "distances" 4 ["web", "joint"] (spDi A CW NJ)) : FnOk P w K mg base (L2.CX P w) 5 f fd ["web", "first", "second"] (spEd A CW NE) := by
  refine F.okX scEd (fun vs H Q E h => ?_) (fun cdv AA outer s H vs Q E hr h => ?_)
  · obtain ⟨a, w, x, y, rfl, _⟩ := h; rfl
  · obtain ⟨a, w, x, y, rfl, hw, k1, k2, k3⟩ := h
    obtain ⟨fC, gC, cC⟩ := hC
    obtain ⟨fdC, GC, bC⟩ := cC.ex
    obtain ⟨fJ, gJ, cJ⟩ := hJ
    obtain ⟨fdJ, GJ, bJ⟩ := cJ.ex
    obtain ⟨fD, gD, cD⟩ := hD
    obtain ⟨fdD, GD, bD⟩ := cD.ex
    refine ⟨_, (pss_cons (ps_expr (pe_call GC (hr.mono (by decide)) rfl gC cC.kp bC .nil (E := E) (passes_call (takes_of rfl rfl rfl rfl) (fun _ _ _ _ h => h)) (pa_cons (pv 1) (pa_cons (pe_fld (pv 0) rfl) pa_nil))))
      (pss_cons (ps_expr (pe_call GC (hr.mono (by decide)) rfl gC cC.kp bC .nil (E := E) (passes_call (takes_of rfl rfl rfl rfl) (fun _ _ _ _ h => h)) (pa_cons (pv 2) (pa_cons (pe_fld (pv 0) rfl) pa_nil))))
      (pss_one (ps_ret (pe_ix ix_list (pe_call GD (hr.mono (by decide)) rfl gD cD.kp bD .nil (E := E0) passL (pa_cons (pv 0) (pa_cons (pe_call GJ (hr.mono (by decide)) rfl gJ cJ.kp bJ .nil (E := E0) passL (pa_cons (pv 0) (pa_cons (pv 1) pa_nil))) pa_nil))) (pe_call GJ (hr.mono (by decide)) rfl gJ cJ.kp bJ .nil (E := E0) passL (pa_cons (pv 0) (pa_cons (pv 2) pa_nil))) (fun _ _ => rfl)))))), ?_⟩
    have hw0 := hw
    obtain ⟨ok, dx, jt, rt, et, sv, fv, al, az, cz, h0, _⟩ := hw0
    refine ⟨_, rfl, _, rfl, a, CW, dx, _, _, rfl, h0, W_.cl, W_.n5, wf_ears, x, (w.ears.length : Int), rfl, fun hx => ?_, fun hx => k2 hx⟩
    refine ⟨_, rfl, _, rfl, a, CW, dx, _, _, rfl, h0, W_.cl, W_.n5, wf_ears, y, (w.ears.length : Int), rfl, fun hy => ?_, fun hy => k3 hx hy⟩
    obtain ⟨e, he⟩ : ∃ e : Nat, x = (e : Int) := ⟨x.toNat, by omega⟩
    obtain ⟨f2, hf⟩ : ∃ e : Nat, y = (e : Int) := ⟨y.toNat, by omega⟩
    subst he hf
    have el : e < w.ears.length := by omega
    have fl : f2 < w.ears.length := by omega
    have pe_ := ok.pl _ (WebD.ear_mem el)
    have pf := ok.pl _ (WebD.ear_mem fl)
    refine ⟨_, rfl, _, rfl, _, rfl, a, w, e, rfl, hw, el, a, w, ((w.ear e).pl : Int), rfl, hw, fun j hj hl D H' nD e' hD => ?_, fun hn => absurd ⟨by omega, by omega⟩ hn⟩
    obtain rfl : (w.ear e).pl = j := by omega
    exact ⟨_, rfl, _, rfl, a, w, f2, rfl, hw.ext e', fl, D, _, _, _, rfl, rfl, SqL.of hD, atI_nat (lsV_at pf), k1 e f2 rfl rfl el fl H' e'⟩
end
end Fx

set_option Elab.async false
set_option linter.all false
set_option maxRecDepth 100000
set_option maxHeartbeats 4000000
set_option exponentiation.threshold 20000
namespace Fx
open PySem PySem.Spec PyProof.Rows L2 FM KM
/-! ### what an ear hears of itself -/
def optD : Option Nat → PyData
  | none => .none
  | some a => .int (a : Int)
theorem dp_opt {K : PySem.W.Frag} {H : Hp} (d : Option Nat) : Dp K H (optV d) (optD d) := by
  cases d with
  | none => exact .non
  | some a => exact .int _
theorem optD_sh (d : Option Nat) : SeqAt.shaped (optD d) = true := by
  cases d with
  | none => rfl
  | some a => rfl
theorem eqv_opt (t : Nat) (d : Option Nat) : PyData.eqv (.int (t : Int)) (optD d) = decide (d = some t) := by
  cases d with
  | none => simp [optD, PyData.eqv]
  | some a =>
    simp [optD, PyData.eqv]
    by_cases h : t = a
    · subst h; simp
    · simp [h, show ¬ a = t from fun z => h z.symm]
      omega
theorem rgc2 : ∀ n : Nat, n < 18 → RgC 1 (n : Int) 2 (n / 2) := by
  intro n hn
  unfold RgC
  revert n
  decide +kernel
theorem num_pos {r : Rat} (h : 0 < r) : ¬ r.num < 1 := by
  have h1 := Rat.num_nonneg.mpr (Rat.le_of_lt h)
  have h2 : r.num ≠ 0 := fun z => by
    have : r = 0 := Rat.num_eq_zero.mp z
    rw [this] at h
    exact absurd h (by decide)
  omega
def ticksOf : Option Nat → Nat
  | none => 8
  | some b => b + 1
theorem cut63 {xs : List V} (h : xs.length ≤ 63) : cutV xs none (some 63) = xs := by
  unfold cutV
  have e1 : HT.sIx xs.length 0 none = 0 := rfl
  have e2 : HT.sIx xs.length xs.length (some ((63 : Nat) : Int)) = min 63 xs.length := HT.sIx_nat _ _ _
  have e3 : (some (63 : Int)) = some ((63 : Nat) : Int) := rfl
  rw [e3, e2, e1, Nat.min_eq_right h]
  simp
theorem tifcmp_of {te : TE} {t u : TS} {D : Ends} {σ : L2.St} {H : Hp} (h : te σ H fun x H1 => ∃ k, x = .bl k ∧ if k = true then t D σ H1 else u D σ H1) : tIfS (tTest te) t u D σ H := h
/-- what calling echo with its two keywords wants -/
def EoK (P : Program) (w : World) (K : PySem.W.Frag) (mg : Str → Option Value) (base : Heap) (A : Adr) (CW : Addr) : Prop := ∃ f, mg "echo" = some (.ref f) ∧ PySem.W.keepIn K (.ref f) = true ∧ ∃ fd, FnOk P w K mg base (L2.CX P w) 10 f fd ["player", "count", "heard", "knocked"] (spEo A CW) ∧ KBn K fd ["player", "count", "heard", "knocked"] 2 ["heard", "knocked"] (fun us ws => us ++ ws) (fun vs zs => vs ++ zs)
section
variable {P : Program} {w : World} {K : PySem.W.Frag} {mg : Str → Option Value} {base : Heap} {A : Adr} {CW CR CT NE NJ Wb : Addr}
theorem eo_of {f : Addr} {fd : FuncData} (g : mg "echo" = some (.ref f)) (kp : PySem.W.keepIn K (.ref f) = true) (F : FunD K "echo" "echo" (defArgs (top 74)) (defBody (top 74)) (defScope (top 74)) [] [("heard", V.int 0), ("knocked", V.int 0)] f fd) (ok : FnOk P w K mg base (L2.CX P w) 10 f fd ["player", "count", "heard", "knocked"] (spEo A CW)) : EoK P w K mg base A CW := by
  refine ⟨f, g, kp, fd, ok, ?_⟩
  obtain ⟨mv, h⟩ := F.kbinds0 (ps := ["player", "count", "heard", "knocked"]) 2 ["heard", "knocked"] [] (fun us mv ws => us ++ ws) (by simp) (by simp) (fun a b c => a.append c) (fun D doc pm an cdv ct us mv ws l1 l2 l3 => by
    obtain ⟨u1, u2, rfl⟩ : ∃ u1 u2, us = [u1, u2] := by
      match us, l1 with
      | [u1, u2], _ => exact ⟨u1, u2, rfl⟩
    obtain ⟨k1, k2, rfl⟩ : ∃ k1 k2, ws = [k1, k2] := by
      match ws, l3 with
      | [k1, k2], _ => exact ⟨k1, k2, rfl⟩
    obtain rfl : mv = [] := List.length_eq_zero_iff.mp l2
    rfl)
  exact h
theorem ok_LiZ {f : Addr} {fd : FuncData} (F : Fun K "_law_int" "_law_int" (top 84) f fd) (isi : mg "isinstance" = none) (it : mg "int" = none) (bo : mg "bool" = none) : FnZ P w K mg base 1 f fd ["x"] (fun _ _ _ vs H Q _ => ∃ n, vs = [.int n] ∧ Q (.bl true) H) := by
  obtain ⟨oc, od, kV, doc, pm, an, cdv, ct, osl, rfl, lk, hcd⟩ := F.ex
  refine fn_ofZ lk hcd scLi (fun a cls d vs H Q E h => ?_) (fun AA outer s H vs Q p cls d hz hf hr h => ?_)
  · obtain ⟨n, rfl, _⟩ := h
    rfl
  · obtain ⟨n, rfl, k⟩ := h
    refine ⟨_, pss_one (ps_ret (pe_and (pe_callB call_isi (by rfl) isi boot_isi (pa_cons (pv 0) (pa_cons (pe_bltn (v := .ty "int") (by rfl) it boot_int rfl) pa_nil))) (pe_one (pe_not (pe_callB call_isi (by rfl) isi boot_isi (pa_cons (pv 0) (pa_cons (pe_bltn (v := .ty "bool") (by rfl) bo boot_bool rfl) pa_nil))))))), ?_⟩
    exact ⟨_, rfl, _, _, _, _, true, rfl, .ty "int", tyI _, kit_II, _, rfl, iteT ⟨_, rfl, _, _, _, _, false, rfl, .ty "bool", tyI _, kit_ty (by decide +kernel), _, rfl, k⟩⟩
theorem scTo_ : FnScope ["made", "one", "other", "way", "e", "fine"] ["made", "one", "other", "way"] (defScope (top 93)) := ⟨rfl, rfl, rfl, by decide +kernel, rfl, by decide +kernel, by decide +kernel⟩
def toldQ (H : Hp) (Q : VK) (s : Str) (i : Int) : Prop := ∀ r H', Ext H H' → H' r = some (.tup [.str s, .int i, .bl true]) → Q (.ref r) H'
def spLto (A : Adr) (CW : Addr) : Sp := fun vs H Q _ => ∃ a, ∃ w : WebD, ∃ x y wy : Int, vs = [.ref a, .int x, .int y, .int wy] ∧ WebAt A CW H a w ∧
  ((wy = 0 ∧ (0 ≤ x ∧ x < (w.ears.length : Int) → 0 ≤ y ∧ y < (w.ears.length : Int) → toldQ H Q "let" 0) ∧ (¬ (0 ≤ x ∧ x < (w.ears.length : Int)) → toldQ H Q "ear" x) ∧ (0 ≤ x ∧ x < (w.ears.length : Int) → ¬ (0 ≤ y ∧ y < (w.ears.length : Int)) → toldQ H Q "ear" y)) ∨
   (wy = 1 ∧ (0 ≤ x ∧ x < (w.kinds.length : Int) → toldQ H Q "let" 0) ∧ (¬ (0 ≤ x ∧ x < (w.kinds.length : Int)) → toldQ H Q "joint" x)))
theorem ok_Lto {f : Addr} {fd : FuncData} (F : Fun K "_law_told" "_law_told" (top 93) f fd) (R : ERx K mg NE NJ Wb) (isi : mg "isinstance" = none) (hO : LF P w K mg base "ear_distance" 5 ["web", "first", "second"] (spEd A CW NE)) (hD : LF P w K mg base "distances" 4 ["web", "joint"] (spDi A CW NJ)) (hI : ∃ f, mg "_law_int" = some (.ref f) ∧ CalZ P w K mg base 1 f ["x"] (fun _ _ _ vs H Q _ => ∃ n, vs = [.int n] ∧ Q (.bl true) H)) : FnOk P w K mg base (L2.CX P w) 7 f fd ["made", "one", "other", "way"] (spLto A CW) := by
  refine F.okX scTo_ (fun vs H Q E h => ?_) (fun cdv AA outer s H vs Q E hr h => ?_)
  · obtain ⟨a, w, x, y, wy, rfl, _⟩ := h
    rfl
  · obtain ⟨a, w, x, y, wy, rfl, hw, h⟩ := h
    obtain ⟨fO, gO, cO⟩ := hO
    obtain ⟨fdO, GO, bO⟩ := cO.ex
    obtain ⟨fD, gD, cD⟩ := hD
    obtain ⟨fdD, GD, bD⟩ := cD.ex
    obtain ⟨fI, gI, cI⟩ := hI
    obtain ⟨fdI, GI, bI⟩ := cI.ex
    have pas : ∀ {X : Cx} {W : WX}, X.N.length = 6 → Takes X W → Passes (L2.CX X.prog X.w) X (EW 6 W) := fun hN tk => passes_len tk fun _ _ σ _ hl h => h σ (hl.trans hN)
    refine ⟨_, pss_cons (ps_try_named (l := [(.ref NE, 4, tsX NE "ear" "ear"), (.ref NJ, 4, tsX NJ "joint" "joint")]) rfl rfl scTo_.nd (takes_of rfl rfl rfl rfl)
      (fun W pn xe tk po => pss_one (ps_if (pt_cmpR L2.op_eq (pv 3) pe_int (nomark _)) (pss_one (ps_expr (pe_call GO (hr.mono (by decide)) rfl gO cO.kp bO .nil (E := EW 6 W) (pas rfl tk) (pa_cons (pv 0) (pa_cons (pv 1) (pa_cons (pv 2) pa_nil)))))) (pss_one (ps_expr (pe_call GD (hr.mono (by decide)) rfl gD cD.kp bD .nil (E := EW 6 W) (pas rfl tk) (pa_cons (pv 0) (pa_cons (pv 1) pa_nil)))))))
      (Clauses.cons (i := 4) rfl rfl ⟨rfl, by decide, .inl R.gN⟩ (fun a oe cls d pn hz hf => pss_at fun D σ H' h' => by
          obtain ⟨rfl, dd, i, rfl, hdd, hl, h4, k⟩ := h'
          refine ⟨_, pss_cons (ps_set (i := 5) scTo_.nd rfl (Or.inl rfl) (pe_and (pe_callZ GI (L2H.RoomH.mono (roomH_mark hr) (by decide)) List.mem_cons_self hz hf (by rfl) gI cI.kp bI (pa_cons (pe_xf R.fN R.iN hz hf (pv 4)) pa_nil)) (pe_one (pe_callB (call_isX R.eN List.mem_cons_self hz hf) (by rfl) isi boot_isi (pa_cons (pv 4) (pa_cons (pe_glob (v := .ref Wb) (by rfl) R.gW rfl) pa_nil))))))
            (pss_one (ps_ret (pe_tup (pa_cons pe_str (pa_cons (pe_xf R.fN R.iN hz hf (pv 4)) (pa_cons (pe_and (pv 5) (pe_one (pe_not (pe_callB (call_isX R.eN List.mem_cons_self hz hf) (by rfl) isi boot_isi (pa_cons (pv 4) (pa_cons (pe_glob (v := .ref NJ) (by rfl) R.gJ rfl) pa_nil)))))) pa_nil)))))), ?_⟩
          have dk : Dk H' (some dd) := .inr ⟨dd, _, rfl, hdd⟩
          have h5 : (σ.set 5 (some (V.bl true)))[5]? = some (some (V.bl true)) := List.getElem?_set_self (by omega)
          have h6 : (σ.set 5 (some (V.bl true)))[4]? = some (some (V.ref a)) := by rw [List.getElem?_set_ne (by decide)]; exact h4
          refine ⟨_, h4, rfl, rfl, dd, _, .int i, rfl, hdd, by simp [List.lookup], i, rfl, _, rfl, iteT ?_⟩
          refine ⟨_, h4, _, _, _, rfl, fun u z => z, R.nW, dk, ?_⟩
          refine ⟨_, h6, rfl, rfl, dd, _, .int i, rfl, hdd, by simp [List.lookup], ?_⟩
          refine ⟨_, h5, _, rfl, iteT ?_⟩
          exact ⟨_, h6, _, _, _, rfl, fun u z => z, R.nJ, dk, _, rfl, by show 3 ≤ sizeLine; decide, k⟩)
      (Clauses.cons (i := 4) rfl rfl ⟨rfl, by decide, .inl R.gJ⟩ (fun a oe cls d pn hz hf => pss_at fun D σ H' h' => by
          obtain ⟨rfl, dd, i, rfl, hdd, hl, h4, k⟩ := h'
          refine ⟨_, pss_cons (ps_set (i := 5) scTo_.nd rfl (Or.inl rfl) (pe_and (pe_callZ GI (L2H.RoomH.mono (roomH_mark hr) (by decide)) List.mem_cons_self hz hf (by rfl) gI cI.kp bI (pa_cons (pe_xf R.fJ R.iJ hz hf (pv 4)) pa_nil)) (pe_one (pe_callB (call_isX R.eJ List.mem_cons_self hz hf) (by rfl) isi boot_isi (pa_cons (pv 4) (pa_cons (pe_bltn (v := .ty "ValueError") (by rfl) R.ve boot_VE rfl) pa_nil))))))
            (pss_one (ps_ret (pe_tup (pa_cons pe_str (pa_cons (pe_xf R.fJ R.iJ hz hf (pv 4)) (pa_cons (pe_and (pv 5) (pe_one (pe_not (pe_callB (call_isX R.eJ List.mem_cons_self hz hf) (by rfl) isi boot_isi (pa_cons (pv 4) (pa_cons (pe_glob (v := .ref NE) (by rfl) R.gN rfl) pa_nil)))))) pa_nil)))))), ?_⟩
          have dk : Dk H' (some dd) := .inr ⟨dd, _, rfl, hdd⟩
          have h5 : (σ.set 5 (some (V.bl true)))[5]? = some (some (V.bl true)) := List.getElem?_set_self (by omega)
          have h6 : (σ.set 5 (some (V.bl true)))[4]? = some (some (V.ref a)) := by rw [List.getElem?_set_ne (by decide)]; exact h4
          refine ⟨_, h4, rfl, rfl, dd, _, .int i, rfl, hdd, by simp [List.lookup], i, rfl, _, rfl, iteT ?_⟩
          refine ⟨_, h4, _, _, _, rfl, fun u z => z, R.jV, dk, ?_⟩
          refine ⟨_, h6, rfl, rfl, dd, _, .int i, rfl, hdd, by simp [List.lookup], ?_⟩
          refine ⟨_, h5, _, rfl, iteT ?_⟩
          exact ⟨_, h6, _, _, _, rfl, fun u z => z, R.jN, dk, _, rfl, by show 3 ≤ sizeLine; decide, k⟩) .nil)))
      (pss_one (ps_ret (pe_tup (pa_cons pe_str (pa_cons pe_int (pa_cons pe_bl pa_nil)))))), ?_⟩
    have zN : ∀ (Wo : WX) (D : Ends) (i : Int), D.rt = Q → toldQ H Q "ear" i → ∀ dd H1, Ext H H1 → H1 dd = some (.xd [("ear", .int i)]) → EW 6 (wNamed K Wo D [(.ref NE, 4, tsX NE "ear" "ear"), (.ref NJ, 4, tsX NJ "joint" "joint")]) (.ref NE) (some dd) H1 := fun Wo D i hD kk dd H1 e1 hdd σ hl =>
      ⟨true, R.xN, fun _ a na => ⟨rfl, dd, i, rfl, hdd, by rw [List.length_set]; exact hl, List.getElem?_set_self (by omega), fun r nr => by
        show D.rt _ _
        rw [hD]
        exact kk r _ (e1.trans (ext1 nr)) upd_same⟩, fun z => nomatch z⟩
    have zJ : ∀ (Wo : WX) (D : Ends) (i : Int), D.rt = Q → toldQ H Q "joint" i → ∀ dd H1, Ext H H1 → H1 dd = some (.xd [("joint", .int i)]) → EW 6 (wNamed K Wo D [(.ref NE, 4, tsX NE "ear" "ear"), (.ref NJ, 4, tsX NJ "joint" "joint")]) (.ref NJ) (some dd) H1 := fun Wo D i hD kk dd H1 e1 hdd σ hl =>
      ⟨false, R.xJN, (fun z => nomatch z), fun _ => ⟨true, R.xJ, fun _ a na => ⟨rfl, dd, i, rfl, hdd, by rw [List.length_set]; exact hl, List.getElem?_set_self (by omega), fun r nr => by
        show D.rt _ _
        rw [hD]
        exact kk r _ (e1.trans (ext1 nr)) upd_same⟩, fun z => nomatch z⟩⟩
    rcases h with ⟨rfl, h1, h2, h3⟩ | ⟨rfl, h1, h2⟩
    · refine ⟨_, rfl, rfl, _, rfl, iteD rfl ?_⟩
      refine ⟨_, rfl, _, rfl, _, rfl, a, w, x, y, rfl, hw, fun e f he hf el fl H' e' => ⟨by show 3 ≤ sizeLine; decide, fun r nr => h1 (by omega) (by omega) r _ (e'.trans (ext1 nr)) upd_same⟩, fun hn dd H' e' hdd => zN _ _ _ rfl (h2 hn) dd H' e' hdd, fun hx hn dd H' e' hdd => zN _ _ _ rfl (h3 hx hn) dd H' e' hdd⟩
    · refine ⟨_, rfl, rfl, _, rfl, iteDF (by decide) ?_⟩
      exact ⟨_, rfl, _, rfl, a, w, x, rfl, hw, fun j hj jl D H' nD e' hD => ⟨by show 3 ≤ sizeLine; decide, fun r nr => h1 (by omega) r _ (e'.trans (ext1 nr)) upd_same⟩, fun hn dd H' e' hdd => zJ _ _ _ rfl (h2 hn) dd H' e' hdd⟩
theorem scLsm : FnScope ["told", "due"] ["told", "due"] (defScope (top 92)) := ⟨rfl, rfl, rfl, by decide +kernel, rfl, by decide +kernel, by decide +kernel⟩
def spLsm : Sp := fun vs H Q _ => ∃ d : Option Nat, vs = [optV d, optV d] ∧ Q (.bl true) H
theorem ok_Lsm {f : Addr} {fd : FuncData} (F : Fun K "_law_same" "_law_same" (top 92) f fd) (hI : LF P w K mg base "_law_int" 1 ["x"] spLi) : FnOk P w K mg base (L2.CX P w) 2 f fd ["told", "due"] spLsm := by
  refine F.okX scLsm (fun vs H Q E h => ?_) (fun cdv AA outer s H vs Q E hr h => ?_)
  · obtain ⟨d, rfl, _⟩ := h; rfl
  · obtain ⟨d, rfl, q⟩ := h
    obtain ⟨fI, gI, cI⟩ := hI
    obtain ⟨fdI, GI, bI⟩ := cI.ex
    refine ⟨_, (pss_cons (ps_if (pt_cmpR L2.op_isN (pv 1) pe_non (nomark _)) (pss_one (ps_ret (pe_cmpR L2.op_isN (pv 0) pe_non (nomark _)))) pss_nil)
      (pss_one (ps_ret (pe_and (pe_call GI (hr.mono (by decide)) rfl gI cI.kp bI .nil (E := E0) passL (pa_cons (pv 0) pa_nil)) (pe_one (pe_cmpR (op_eqD hr.units) (pv 0) (pv 1) (nomark _))))))), ?_⟩
    cases d with
    | none =>
      refine ⟨_, rfl, rfl, _, rfl, if_D (fun _ => ?_) (fun c => absurd rfl c)⟩
      exact ⟨_, rfl, rfl, q⟩
    | some b =>
      refine ⟨_, rfl, rfl, _, rfl, if_D (fun c => by cases c) (fun _ => ?_)⟩
      refine tnext_of ?_
      dsimp only
      refine ⟨_, rfl, (b : Int), rfl, _, rfl, iteT ?_⟩
      refine ⟨_, rfl, _, rfl, optD (some b), optD (some b), dp_opt _, dp_opt _, optD_sh _, optD_sh _, ?_⟩
      rw [show PyData.eqv (optD (some b)) (optD (some b)) = true from SeqAt.eqv_refl _ rfl]
      exact q
theorem scLft : FnScope ["made", "a", "b", "due", "ticks", "told", "t", "x"] ["made", "a", "b", "due"] (defScope (top 95)) := ⟨rfl, rfl, rfl, by decide +kernel, rfl, by decide +kernel, by decide +kernel⟩
def spLft (A : Adr) (CW : Addr) : Sp := fun vs H Q _ => ∃ a, ∃ w : WebD, ∃ f e : Nat, ∃ d : Option Nat, vs = [.ref a, .int (f : Int), .int (e : Int), optV d] ∧ WebAt A CW H a w ∧ e < w.ears.length ∧ f < w.ears.length ∧ ticksOf d < 18 ∧ (∀ i, i < ticksOf d → TSz w (w.stt (WebD.zeroN w.cells) (w.knockAt e 0) i) (w.knockAt e 0 i)) ∧ (∀ t, t < ticksOf d → Ok4 (KM.gt (echoRow w e t) f)) ∧ (∀ t, t < ticksOf d → ¬ d = some t → KM.gt (echoRow w e t) f = 0) ∧ (∀ t, t < ticksOf d → d = some t → 0 < KM.gt (echoRow w e t) f) ∧ ∀ H', Ext H H' → Q (.bl true) H'
theorem ok_Lft {f : Addr} {fd : FuncData} (F : Fun K "_law_first" "_law_first" (top 95) f fd) (isi : mg "isinstance" = none) (hR : LF P w K mg base "_law_read" 2 ["x"] (spLr A)) (hEo : EoK P w K mg base A CW) (le : mg "len" = none) (ra : mg "range" = none) (li : mg "list" = none) : FnOk P w K mg base (L2.CX P w) 12 f fd ["made", "a", "b", "due"] (spLft A CW) := by
  refine F.okX scLft (fun vs H Q E h => ?_) (fun cdv AA outer s H vs Q E hr h => ?_)
  · obtain ⟨a, w, f, e, d, rfl, _⟩ := h; rfl
  · obtain ⟨a, w, f2, e, d, rfl, hw, he, hf, n17, hsz, o4, z, p, q⟩ := h
    obtain ⟨fR, gR, cR⟩ := hR
    obtain ⟨fdR, GR, bR⟩ := cR.ex
    obtain ⟨fEo, gEo, kEo, fdEo, GEo, bEo⟩ := hEo
    refine ⟨_, (pss_cons (ps_set (i := 4) scLft.nd rfl (Or.inl rfl) pe_int)
      (C8.pss_cut (ps_if (pt_cmpR L2.op_notN (pv 3) pe_non (nomark _)) (pss_one (ps_set (i := 4) scLft.nd rfl (Or.inl rfl) (pe_op L2.op_add (pv 3) pe_int))) pss_nil)
      (pss_cons (ps_set (i := 5) scLft.nd rfl (Or.inl rfl) (pe_callN GEo (hr.mono (by decide)) (by rfl) gEo kEo bEo (E := E0) passL (pa_cons (pv 0) (pa_cons (pv 4) pa_nil)) (pk_cons (pv 1) (pk_cons (pv 2) pk_nil))))
      (pss_cons (ps_if (PW.pt (pw_or (pt_not (pt_val (pe_callB call_isi (by rfl) isi boot_isi (pa_cons (pv 5) (pa_cons (pe_bltn (v := .ty "list") (by rfl) li boot_list rfl) pa_nil))))) (pw_or1 (pt_cmpR L2.op_ne (pe_callB call_len_seq (by rfl) le PySem.boot_len (pa_cons (pv 5) pa_nil)) (pv 4) (nomark _))))) (pss_one (ps_ret pe_bl)) pss_nil)
      (pss_cons (ps_for (passes_of rfl) rfl (pi_range1 rfl ra (pa_cons (pv 4) pa_nil)) (pg_name (i := 6) scLft.nd rfl (Or.inl rfl)) (pss_cons (ps_set (i := 7) scLft.nd rfl (Or.inl rfl) (pe_call GR (hr.mono (by decide)) rfl gR cR.kp bR .nil (E := E0) passL (pa_cons (pe_ix ix_list (pv 5) (pv 6) (fun _ _ => rfl)) pa_nil)))
      (pss_one (ps_if (PW.pt (pw_or (pt_cmpR L2.op_isN (pv 7) pe_non (nomark _)) (pw_or (PW.pt (pw_and (pt_cmpR (op_neD hr.units) (pv 6) (pv 3) (nomark _)) (pw_and1 (pt_cmpR (op_neD hr.units) (pv 7) (pe_tup (pa_cons pe_int (pa_cons pe_int pa_nil))) (nomark _))))) (pw_or1 (PW.pt (pw_and (pt_cmpR (op_eqD hr.units) (pv 6) (pv 3) (nomark _)) (pw_and1 (pt_cmpR L2.op_lt (pe_ix ix_tup (pv 7) pe_int (fun _ _ => rfl)) pe_int (nomark _))))))))) (pss_one (ps_ret pe_bl)) pss_nil))))
      (pss_one (ps_ret pe_bl))))))), ?_⟩
    have hw0 := hw
    obtain ⟨ok, _⟩ := hw0
    -- the number of ticks
    refine ⟨fun σ H' => H' = H ∧ σ = [some (.ref a), some (.int (f2 : Int)), some (.int (e : Int)), some (optV d), some (.int (ticksOf d : Int)), none, none, none], ?_, ?_⟩
    · cases d with
      | none => exact ⟨_, rfl, rfl, _, rfl, if_ND (fun c => absurd rfl c) (fun _ => ⟨rfl, rfl⟩)⟩
      | some b => exact ⟨_, rfl, rfl, _, rfl, if_ND (fun _ => ⟨_, rfl, _, _, rfl, rfl, rfl, by show [_, _, _, _, some (V.int ((b : Int) + 1)), _, _, _] = _; rfl⟩) (fun c => by cases c)⟩
    rintro σ _ ⟨rfl, rfl⟩
    obtain ⟨n, hn⟩ : ∃ n, n = ticksOf d := ⟨_, rfl⟩
    rw [← hn] at n17 ⊢
    rw [← hn] at hsz o4 z p
    -- told
    refine ⟨_, rfl, _, rfl, _, rfl, _, rfl, rfl, rfl, a, w, n, f2, e, rfl, hw, by omega, hf, he, hsz, fun D xs H1 nD e1 hD hx => ?_⟩
    dsimp only [gName, List.set]
    have xl : xs.length = n := by have := hx.1; simpa using this
    refine ⟨_, rfl, _, _, _, _, true, rfl, .ty "list", .base (.lst hD), kit_ty (by decide +kernel), _, rfl, iteF ?_⟩
    refine ⟨_, rfl, D, xs, rfl, .inl (SqL.of hD), _, rfl, rfl, _, rfl, if_ND (fun z => absurd (by rw [xl]) z) (fun _ => ?_)⟩
    refine tnext_of ?_
    dsimp only
    -- each tick
    refine ⟨_, rfl, (n : Int), rfl, by omega, by omega, ?_⟩
    refine for_it (walk_range (lo := 0) (n := n)) (fun i σ H' => Ext H1 H' ∧ ∃ z5 z6, σ = [some (.ref a), some (.int (f2 : Int)), some (.int (e : Int)), some (optV d), some (.int (n : Int)), some (.ref D), z5, z6]) ⟨Ext.rfl', _, _, rfl⟩ (fun _ _ _ _ _ => trivial) ?_ ?_
    · rintro t x σ _ H2 tn ⟨e2, z5, z6, rfl⟩ ⟨rfl, rfl⟩
      have et : (0 + (t : Int)) = (t : Int) := by omega
      dsimp only
      rw [et]
      dsimp only [gName, List.set]
      obtain ⟨xv, hxv, fxv⟩ := hx.get (y := KM.gt (echoRow w e t) f2) (i := t) (by rw [List.getElem?_map, List.getElem?_range tn]; rfl)
      refine ⟨_, rfl, _, rfl, D, _, _, xv, rfl, rfl, SqL.of (e2 _ _ hD), atI_nat hxv, xv, _, rfl, fxv.ext e2, o4 t tn, fun v H3 e3 p3 => ?_⟩
      dsimp only [gName, List.set]
      obtain ⟨va, rfl, hva⟩ := p3
      have pv3 : PV (.ref va) (KM.gt (echoRow w e t) f2) H3 := ⟨va, rfl, hva⟩
      refine ⟨_, rfl, rfl, _, rfl, if_D (fun c => by cases c) (fun _ => ?_)⟩
      by_cases hd : d = some t
      · have hp := p t tn hd
        refine ⟨_, rfl, _, rfl, .int _, optD d, .int _, dp_opt d, rfl, optD_sh d, _, rfl, ?_⟩
        rw [eqv_opt, decide_eq_true hd]
        refine iteF ?_
        refine ⟨_, rfl, _, rfl, .int _, optD d, .int _, dp_opt d, rfl, optD_sh d, _, rfl, ?_⟩
        rw [eqv_opt, decide_eq_true hd]
        refine iteT ?_
        refine ⟨_, rfl, va, _, _, _, rfl, rfl, SqT.of hva, rfl, _, _, rfl, rfl, _, rfl, if_D (fun c => absurd c (num_pos hp)) (fun _ => ?_)⟩
        refine tnext_of ?_
        exact ⟨e2.trans e3, _, _, rfl⟩
      · have hz := z t tn hd
        rw [hz] at pv3
        refine ⟨_, rfl, _, rfl, .int _, optD d, .int _, dp_opt d, rfl, optD_sh d, _, rfl, ?_⟩
        rw [eqv_opt, decide_eq_false hd]
        refine iteT ?_
        refine ⟨_, rfl, (by show 2 ≤ sizeLine; decide), fun q1 nq1 => ⟨pD 0, pD 0, dp_pv (pv3.ext (ext1 nq1)), dp_pv (pv_zero upd_same), pD_sh _, pD_sh _, _, rfl, ?_⟩⟩
        rw [pD_refl]
        refine iteF ?_
        refine ⟨_, rfl, _, rfl, .int _, optD d, .int _, dp_opt d, rfl, optD_sh d, _, rfl, ?_⟩
        rw [eqv_opt, decide_eq_false hd]
        refine iteF ?_
        refine tnext_of ?_
        exact ⟨(e2.trans e3).trans (ext1 nq1), _, _, rfl⟩
    rintro σ H2 ⟨e2, z5, z6, rfl⟩
    exact q _ (e1.trans e2)
end
end Fx

set_option Elab.async false
set_option linter.all false
set_option maxRecDepth 100000
set_option exponentiation.threshold 20000
namespace KM
open FM
namespace WebD
variable {w : WebD}
theorem rep_one' {D M : Nat} {y : Rat} (h : y = 0 ∨ y = 1) (hm : D ≤ M) : Rep D M y := by
  rcases h with rfl | rfl
  · exact Rep.zero D M
  · have e : (1 : Rat) = ((1 : Int) : Rat) := rfl
    rw [e]
    exact Rep.int (by simpa using hm)
theorem knock_01 {j t s : Nat} : ∀ y ∈ w.knockAt j t s, y = 0 ∨ y = 1 := fun y hy => by
  unfold knockAt at hy
  split at hy
  · unfold unitAt at hy
    obtain ⟨i, _, rfl⟩ := List.mem_map.mp hy
    split
    · exact .inr rfl
    · exact .inl rfl
  · exact .inl (List.mem_replicate.mp hy).2
theorem pw_lt' {G a : Nat} (h : G < 2 ^ a) : ∀ n : Nat, G ^ n ≤ 2 ^ (a * n)
  | 0 => by simp
  | n + 1 => by
    rw [Nat.pow_succ, Nat.mul_succ, Nat.pow_add]
    exact Nat.mul_le_mul (pw_lt' h n) (Nat.le_of_lt h)
theorem pw_ltk {G a n k : Nat} (h : G < 2 ^ a) (hn : n ≤ k) : G ^ n < 2 ^ (a * k + 1) := Nat.lt_of_le_of_lt (pw_lt' h n) (Nat.pow_lt_pow_right (by decide) (by have := Nat.mul_le_mul_left a hn; omega))
theorem m156 {G : Nat} (g1 : G < 2 ^ 137) : 2 ^ 19 * G < 2 ^ 156 := by
  have := Nat.mul_lt_mul_of_pos_left g1 (show 0 < 2 ^ 19 by decide)
  rw [← Nat.pow_add] at this
  exact this
theorem pw_le_ {G : Nat} (n : Nat) : G ^ n ≤ (2 ^ 19 * G) ^ n := Nat.pow_le_pow_left (Nat.le_mul_of_pos_left _ (by decide)) n
/-- sizes of a run from one knock, to twelve ticks -/
theorem knock_rep16 {G : Nat} (tf : w.TickF 17 G) (g0 : 0 < G) (g1 : G < 2 ^ 137) {e : Nat} : ∀ n, n ≤ 16 → ∀ y ∈ w.stt (zeroN w.cells) (w.knockAt e 0) n, Rep (G ^ n) ((2 ^ 19 * G) ^ n) y
  | 0, _ => fun y hy => rep_one' (.inl (List.mem_replicate.mp hy).2) (by simp)
  | n + 1, h => fun y hy => by
    have ih := knock_rep16 tf g0 g1 (e := e) n (by omega)
    have d1 : G ^ n < 2 ^ 2600 := Nat.lt_of_lt_of_le (pw_ltk (k := 16) g1 (by omega)) (Nat.pow_le_pow_right (by decide) (by decide))
    have m1 : (2 ^ 19 * G) ^ n < 2 ^ 2600 := Nat.lt_of_lt_of_le (pw_ltk (k := 16) (m156 g1) (by omega)) (Nat.pow_le_pow_right (by decide) (by decide))
    have t := (tf (G ^ n) ((2 ^ 19 * G) ^ n) _ (w.knockAt e 0 n) (Nat.pow_pos g0) d1 m1 ih fun y hy => rep_one' (knock_01 y hy) (pw_le_ n)).1 y hy
    rw [Nat.pow_succ, Nat.pow_succ]
    rw [Nat.mul_assoc ((2 ^ 19 * G) ^ n) (2 ^ (17 + 2)) G] at t
    exact t
theorem knock_out16 {G : Nat} (tf : w.TickF 17 G) (g0 : 0 < G) (g1 : G < 2 ^ 137) {e n : Nat} (h : n < 17) : ∀ y ∈ w.out (w.stt (zeroN w.cells) (w.knockAt e 0) n) (w.knockAt e 0 n), Rep (G ^ (n + 1)) ((2 ^ 19 * G) ^ (n + 1)) y := fun y hy => by
  have ih := knock_rep16 tf g0 g1 (e := e) n (by omega)
  have d1 : G ^ n < 2 ^ 2600 := Nat.lt_of_lt_of_le (pw_ltk (k := 16) g1 (by omega)) (Nat.pow_le_pow_right (by decide) (by decide))
  have m1 : (2 ^ 19 * G) ^ n < 2 ^ 2600 := Nat.lt_of_lt_of_le (pw_ltk (k := 16) (m156 g1) (by omega)) (Nat.pow_le_pow_right (by decide) (by decide))
  have t := (tf (G ^ n) ((2 ^ 19 * G) ^ n) _ (w.knockAt e 0 n) (Nat.pow_pos g0) d1 m1 ih fun y hy => rep_one' (knock_01 y hy) (pw_le_ n)).2 y hy
  rw [Nat.pow_succ, Nat.pow_succ]
  rw [Nat.mul_assoc ((2 ^ 19 * G) ^ n) (2 ^ (17 + 2)) G] at t
  exact t
end WebD
end KM
namespace Fx
open FM KM
theorem tsz16 {w : WebD} {G : Nat} (s : w.SzZ 12 108 1260 5040) (tf : w.TickF 17 G) (g0 : 0 < G) (g1 : G < 2 ^ 137) {e n : Nat} (h : n < 17) : TSz w (w.stt (WebD.zeroN w.cells) (w.knockAt e 0) n) (w.knockAt e 0 n) :=
  ⟨12, 108, 1260, 5040, G ^ n, (2 ^ 19 * G) ^ n, s, Nat.pow_pos g0, pow_le (WebD.pw_ltk (k := 16) g1 (by omega)) (by decide), pow_le (WebD.pw_ltk (k := 16) (WebD.m156 g1) (by omega)) (by decide), WebD.knock_rep16 tf g0 g1 n (by omega), fun y hy => WebD.rep_one' (WebD.knock_01 y hy) (WebD.pw_le_ n)⟩
theorem echo_o4 {w : WebD} {G : Nat} (tf : w.TickF 17 G) (g0 : 0 < G) (g1 : G < 2 ^ 137) {t a b : Nat} (h : t < 17) (ha : a < w.ears.length) : Ok4 (KM.gt (echoRow w b t) a) := by
  have r : Rep (G ^ (t + 1)) ((2 ^ 19 * G) ^ (t + 1)) (KM.gt (echoRow w b t) a) := WebD.knock_out16 tf g0 g1 h _ (List.mem_of_getElem? (gt_some (xs := echoRow w b t) (by rw [echoRow_len]; exact ha)))
  exact ok4_rep r (Nat.pow_pos g0) (pow_le (WebD.pw_ltk (k := 17) g1 (by omega)) (by decide)) (pow_le (WebD.pw_ltk (k := 17) (WebD.m156 g1) (by omega)) (by decide))
end Fx

set_option Elab.async false
set_option linter.all false
set_option maxRecDepth 100000
set_option maxHeartbeats 4000000
set_option exponentiation.threshold 20000
namespace Fx
open PySem PySem.Spec PyProof.Rows L2 FM KM
/-! ### the law -/
def told3 (s : Str) (i : Int) : PyData := .tuple [.str s, .int i, .bool true]
theorem told3_lay {s : Str} (i : Int) (h : PyData.strOk s = true) : (told3 s i).canLay0 = true := by unfold told3; simp [PyData.canLay0, PyData.canLayAll0, h]
theorem told3_sh {s : Str} (i : Int) (h : PyData.strOk s = true) : SeqAt.shaped (told3 s i) = true := by unfold SeqAt.shaped; rw [told3_lay i h]; unfold told3; simp [PyData.depth, PyData.depthAll]
theorem told3_refl {s : Str} (i : Int) (h : PyData.strOk s = true) : PyData.eqv (told3 s i) (told3 s i) = true := SeqAt.eqv_refl _ (told3_lay i h)
theorem let_ok : PyData.strOk ("let" : Str) = true := by decide +kernel
theorem ear_ok : PyData.strOk ("ear" : Str) = true := by decide +kernel
theorem optV_some {d : Option Nat} (h : ¬ optV d = V.non) : ∃ b, d = some b := by
  cases d with
  | none => exact absurd rfl h
  | some b => exact ⟨b, rfl⟩
theorem dp_told3 {K : PySem.W.Frag} {H : Hp} {r : Addr} {s : Str} {i : Int} (h : H r = some (.tup [.str s, .int i, .bl true])) : Dp K H (.ref r) (told3 s i) := .tup (SqT.of h) (.cons (.str _) (.cons (.int _) (.cons (.bl _) .nil)))
theorem optD_refl (d : Option Nat) : PyData.eqv (optD d) (optD d) = true := by
  cases d with
  | none => rfl
  | some a => exact SeqAt.eqv_refl _ rfl
theorem joint_ok : PyData.strOk ("joint" : Str) = true := by decide +kernel
theorem str_refl {s : Str} (h : PyData.strOk s = true) : PyData.eqv (.str s) (.str s) = true := SeqAt.eqv_refl _ (by simp [PyData.canLay0, h])
theorem str_sh {s : Str} (h : PyData.strOk s = true) : SeqAt.shaped (.str s) = true := by unfold SeqAt.shaped; simp [PyData.canLay0, h, PyData.depth]
theorem rch_pre {E : List Gr.Ed} {x y l : Nat} (m : (x, y, l) ∈ E) {z b : Nat} (h : Gr.Rch E y z b) : Gr.Rch E x z (l + b) := by
  induction h with
  | zero => have := Gr.Rch.step (.zero) m; rw [Nat.zero_add] at this; exact this
  | step _ m2 ih => rw [← Nat.add_assoc]; exact .step ih m2
theorem edsF_sym {w : WebD} {x y l : Nat} (m : (x, y, l) ∈ w.edsF) : (y, x, l) ∈ w.edsF := by
  obtain ⟨i, hi, h⟩ := WebD.edsF_mem.mp m
  refine WebD.edsF_mem.mpr ⟨i, hi, ?_⟩
  rcases h with h | h
  · injection h with h1 h2
    injection h2 with h2 h3
    subst h1 h2 h3
    exact .inr rfl
  · injection h with h1 h2
    injection h2 with h2 h3
    subst h1 h2 h3
    exact .inl rfl
theorem rch_sym {w : WebD} {j v a : Nat} (h : Gr.Rch w.edsF j v a) : Gr.Rch w.edsF v j a := by
  induction h with
  | zero => exact .zero
  | step _ m ih =>
    rw [Nat.add_comm]
    exact rch_pre (edsF_sym m) ih
theorem mn_sym {w : WebD} {j v d : Nat} (h : Gr.Mn w.edsF j v d) : Gr.Mn w.edsF v j d := ⟨rch_sym h.1, fun a ha => h.2 a (rch_sym ha)⟩
theorem due_ok2 {w : WebD} (ok : w.Ok) (p : w.Plain) (c16 : w.cells ≤ 16) {e f : Nat} (he : e < w.ears.length) (hf : f < w.ears.length) (ne : f ≠ e) {d : Option Nat} (hd : d = Gr.runs w.edsF (w.ear f).pl w.kinds.length (w.ear e).pl) :
    ticksOf d < 18 ∧ (∀ t, t < ticksOf d → ¬ d = some t → KM.gt (echoRow w e t) f = 0) ∧ (∀ t, t < ticksOf d → d = some t → 0 < KM.gt (echoRow w e t) f) := by
  have pf := ok.pl _ (WebD.ear_mem hf)
  have pe_ := ok.pl _ (WebD.ear_mem he)
  have re := Gr.runs_end (x := (w.ear e).pl) (WebD.edsF_fine ok pf) (Nat.le_refl w.kinds.length)
  rw [← hd] at re
  refine ⟨?_, fun t ht hn => ?_, fun t ht h => ?_⟩
  · cases d with
    | none => decide
    | some b =>
      have := WebD.mn_le ok pf (WebD.mnF ((re.1 b).mp rfl))
      show b + 1 < 18
      omega
  · refine WebD.heard_none ok p he hf fun wk => ?_
    have r := rch_sym (WebD.wk_iff.mp wk)
    cases d with
    | none => exact re.2.mp rfl t r
    | some b =>
      have := ((re.1 b).mp rfl).2 t r
      have hb : t < b + 1 := ht
      exact hn (by rw [show b = t by omega])
  · exact WebD.heard_first ok p he hf (WebD.mnF (mn_sym ((re.1 t).mp h))) (.inr ne)
theorem lawstart {sa : V} : L2.start ["script", "cells", "x", "pool", "web", "made", "tips", "many", "joint", "told", "least", "k", "a", "b", "due"] [sa] = [some sa, none, none, none, none, none, none, none, none, none, none, none, none, none, none] := rfl
section
variable {P : Program} {w : World} {K : PySem.W.Frag} {mg : Str → Option Value} {base : Heap} {A : Adr} {CW CR CT NE NJ Wb : Addr}
theorem scLrf : FnScope ["pool", "made", "tips", "many", "odd", "far", "good", "p"] ["pool", "made", "tips", "many"] (defScope (top 94)) := ⟨rfl, rfl, rfl, by decide +kernel, rfl, by decide +kernel, by decide +kernel⟩
def spLrf (A : Adr) (CW : Addr) : Sp := fun vs H Q _ => ∃ (r a : Addr) (w : WebD), vs = [.ref r, .ref a, .int (w.ears.length : Int), .int (w.kinds.length : Int)] ∧ PoolL H r ∧ WebAt A CW H a w ∧ 1 ≤ w.ears.length ∧ 1 ≤ w.kinds.length ∧ ∀ H', Q (.bl true) H'
theorem ok_Lrf {f : Addr} {fd : FuncData} (F : Fun K "_law_refused" "_law_refused" (top 94) f fd) (hD : LF P w K mg base "_law_digit" 1 ["pool", "many"] spLd) (hT : LF P w K mg base "_law_told" 7 ["made", "one", "other", "way"] (spLto A CW)) : FnOk P w K mg base (L2.CX P w) 8 f fd ["pool", "made", "tips", "many"] (spLrf A CW) := by
  refine F.okX scLrf (fun vs H Q E h => ?_) (fun cdv AA outer s H vs Q E hr h => ?_)
  · obtain ⟨r, a, w, rfl, _⟩ := h; rfl
  · obtain ⟨r, a, w, rfl, hp, hw, e1_, n1_, q⟩ := h
    have ok := hw.ok
    have e4_ := ok.e
    have n8_ := ok.n
    obtain ⟨fD, gD, cD⟩ := hD
    obtain ⟨fdD, GD, bD⟩ := cD.ex
    obtain ⟨fT, gT, cT⟩ := hT
    obtain ⟨fdT, GT, bT⟩ := cT.ex
    refine ⟨_, (pss_cons (ps_set (i := 4) scLrf.nd rfl (Or.inl rfl) (pe_ix ix_list (pe_lst (pa_cons (pe_un L2.un_neg pe_int) (pa_cons (pv 2) (pa_cons (pe_op L2.op_add (pv 2) pe_int) pa_nil)))) (pe_call GD (hr.mono (by decide)) rfl gD cD.kp bD .nil (E := E0) passL (pa_cons (pv 0) (pa_cons pe_int pa_nil))) (fun _ _ => rfl)))
      (pss_cons (ps_set (i := 5) scLrf.nd rfl (Or.inl rfl) (pe_ix ix_list (pe_lst (pa_cons (pe_un L2.un_neg pe_int) (pa_cons (pv 3) (pa_cons (pe_op L2.op_add (pv 3) pe_int) pa_nil)))) (pe_call GD (hr.mono (by decide)) rfl gD cD.kp bD .nil (E := E0) passL (pa_cons (pv 0) (pa_cons pe_int pa_nil))) (fun _ _ => rfl)))
      (pss_cons (ps_set (i := 6) scLrf.nd rfl (Or.inl rfl) (pe_call GD (hr.mono (by decide)) rfl gD cD.kp bD .nil (E := E0) passL (pa_cons (pv 0) (pa_cons (pv 2) pa_nil))))
      (pss_cons (ps_for (passes_of rfl) rfl (pi_seq (pe_lst (pa_cons (pe_tup (pa_cons (pv 4) (pa_cons (pe_un L2.un_neg pe_int) pa_nil))) (pa_cons (pe_tup (pa_cons (pv 4) (pa_cons (pv 6) pa_nil))) (pa_cons (pe_tup (pa_cons (pv 6) (pa_cons (pv 4) pa_nil))) pa_nil))))) (pg_name (i := 7) scLrf.nd rfl (Or.inl rfl)) (pss_one (ps_if (pt_cmpR (op_neD hr.units) (pe_call GT (hr.mono (by decide)) rfl gT cT.kp bT .nil (E := E0) passL (pa_cons (pv 1) (pa_cons (pe_ix ix_tup (pv 7) pe_int (fun _ _ => rfl)) (pa_cons (pe_ix ix_tup (pv 7) pe_int (fun _ _ => rfl)) (pa_cons pe_int pa_nil))))) (pe_tup (pa_cons pe_str (pa_cons (pv 4) (pa_cons pe_bl pa_nil)))) (nomark _)) (pss_one (ps_ret pe_bl)) pss_nil)))
      (pss_cons (ps_if (pt_cmpR (op_neD hr.units) (pe_call GT (hr.mono (by decide)) rfl gT cT.kp bT .nil (E := E0) passL (pa_cons (pv 1) (pa_cons (pv 5) (pa_cons pe_int (pa_cons pe_int pa_nil))))) (pe_tup (pa_cons pe_str (pa_cons (pv 5) (pa_cons pe_bl pa_nil)))) (nomark _)) (pss_one (ps_ret pe_bl)) pss_nil)
      (pss_cons (ps_if (pt_cmpR (op_neD hr.units) (pe_ix ix_tup (pe_call GT (hr.mono (by decide)) rfl gT cT.kp bT .nil (E := E0) passL (pa_cons (pv 1) (pa_cons pe_int (pa_cons pe_int (pa_cons pe_int pa_nil))))) pe_int (fun _ _ => rfl)) pe_str (nomark _)) (pss_one (ps_ret pe_bl)) pss_nil)
      (pss_one (ps_ret (pe_cmpR (op_eqD hr.units) (pe_ix ix_tup (pe_call GT (hr.mono (by decide)) rfl gT cT.kp bT .nil (E := E0) passL (pa_cons (pv 1) (pa_cons (pv 6) (pa_cons (pv 6) (pa_cons pe_int pa_nil))))) pe_int (fun _ _ => rfl)) pe_str (nomark _)))))))))), ?_⟩
    -- odd
    refine ⟨_, rfl, _, rfl, _, rfl, _, _, rfl, rfl, (by show 3 ≤ sizeLine; decide), fun l1 nl1 => ?_⟩
    have hq1 : (upd H l1 (.lst ([-1, (w.ears.length : Int), (w.ears.length : Int) + 4].map V.int))) l1 = some (.lst ([-1, (w.ears.length : Int), (w.ears.length : Int) + 4].map V.int)) := upd_same
    refine ⟨_, rfl, r, 3, rfl, hp.ext (ext1 nl1), by decide, by decide, fun d1 H2 d10 d11 hp2 k2 => ?_⟩
    obtain ⟨o, ho, hoa⟩ := ints_at (ns := [-1, (w.ears.length : Int), (w.ears.length : Int) + 4]) d10 d11
    have on : ¬ (0 ≤ o ∧ o < (w.ears.length : Int)) := by
      simp only [List.mem_cons, List.not_mem_nil, or_false] at ho
      omega
    refine ⟨l1, _, _, _, rfl, rfl, SqL.of (k2 _ _ hq1 (pool_ne hp nl1)), hoa, ?_⟩
    dsimp only [gName, List.set]
    have x2 : ExtL H H2 := (Ext.l (ext1 nl1)).trans (k2.l (hp.ext (ext1 nl1)))
    have hA2 := hw.l x2
    clear hq1 hoa ho x2 k2
    -- far
    refine ⟨_, rfl, _, rfl, _, rfl, _, _, rfl, rfl, (by show 3 ≤ sizeLine; decide), fun l2 nl2 => ?_⟩
    have hq2 : (upd H2 l2 (.lst ([-1, (w.kinds.length : Int), (w.kinds.length : Int) + 2].map V.int))) l2 = some (.lst ([-1, (w.kinds.length : Int), (w.kinds.length : Int) + 2].map V.int)) := upd_same
    refine ⟨_, rfl, r, 3, rfl, hp2.ext (ext1 nl2), by decide, by decide, fun d2 H3 d20 d21 hp3 k3 => ?_⟩
    obtain ⟨fa, hfa, hfaa⟩ := ints_at (ns := [-1, (w.kinds.length : Int), (w.kinds.length : Int) + 2]) d20 d21
    have fn_ : ¬ (0 ≤ fa ∧ fa < (w.kinds.length : Int)) := by
      simp only [List.mem_cons, List.not_mem_nil, or_false] at hfa
      omega
    refine ⟨l2, _, _, _, rfl, rfl, SqL.of (k3 _ _ hq2 (pool_ne hp2 nl2)), hfaa, ?_⟩
    dsimp only [gName, List.set]
    have x3 : ExtL H2 H3 := (Ext.l (ext1 nl2)).trans (k3.l (hp2.ext (ext1 nl2)))
    have hA3 := hA2.l x3
    clear hq2 hfaa hfa x3 k3 hA2
    -- good
    refine ⟨_, rfl, _, rfl, r, _, rfl, hp3, by omega, log_small (by omega), fun gd H4 g0 g1 hp4 k4 => ?_⟩
    dsimp only [gName, List.set]
    have hA4 := hA3.l (k4.l hp3)
    clear hA3 k4 hp3 hp2 hp4
    -- three pairs
    refine ⟨_, rfl, _, rfl, (by show 2 ≤ sizeLine; decide), fun t1 m1 => ?_⟩
    refine ⟨_, rfl, _, rfl, (by show 2 ≤ sizeLine; decide), fun t2 m2 => ?_⟩
    refine ⟨_, rfl, _, rfl, (by show 2 ≤ sizeLine; decide), fun t3 m3 => ?_⟩
    refine ⟨(by show 3 ≤ sizeLine; decide), fun l m4 => ?_⟩
    have ht1 : (upd (upd (upd (upd H4 t1 (.tup [.int o, .int (-3)])) t2 (.tup [.int o, .int gd])) t3 (.tup [.int gd, .int o])) l (.lst [V.ref t1, V.ref t2, V.ref t3])) t1 = some (.tup [.int o, .int (-3)]) := (ext1 m4) _ _ ((ext1 m3) _ _ ((ext1 m2) _ _ upd_same))
    have ht2 : (upd (upd (upd (upd H4 t1 (.tup [.int o, .int (-3)])) t2 (.tup [.int o, .int gd])) t3 (.tup [.int gd, .int o])) l (.lst [V.ref t1, V.ref t2, V.ref t3])) t2 = some (.tup [.int o, .int gd]) := (ext1 m4) _ _ ((ext1 m3) _ _ upd_same)
    have ht3 : (upd (upd (upd (upd H4 t1 (.tup [.int o, .int (-3)])) t2 (.tup [.int o, .int gd])) t3 (.tup [.int gd, .int o])) l (.lst [V.ref t1, V.ref t2, V.ref t3])) t3 = some (.tup [.int gd, .int o]) := (ext1 m4) _ _ upd_same
    have hl : (upd (upd (upd (upd H4 t1 (.tup [.int o, .int (-3)])) t2 (.tup [.int o, .int gd])) t3 (.tup [.int gd, .int o])) l (.lst [V.ref t1, V.ref t2, V.ref t3])) l = some (.lst [V.ref t1, V.ref t2, V.ref t3]) := upd_same
    have hA5 : WebAt A CW (upd (upd (upd (upd H4 t1 (.tup [.int o, .int (-3)])) t2 (.tup [.int o, .int gd])) t3 (.tup [.int gd, .int o])) l (.lst [V.ref t1, V.ref t2, V.ref t3])) a w := hA4.ext ((((ext1 m1).trans (ext1 m2)).trans (ext1 m3)).trans (ext1 m4))
    clear m1 m2 m3 m4
    obtain ⟨H5, hH5⟩ : ∃ H5, H5 = (upd (upd (upd (upd H4 t1 (.tup [.int o, .int (-3)])) t2 (.tup [.int o, .int gd])) t3 (.tup [.int gd, .int o])) l (.lst [V.ref t1, V.ref t2, V.ref t3])) := ⟨_, rfl⟩
    rw [← hH5] at ht1 ht2 ht3 hl hA5
    refine ⟨true, l, _, rfl, SqL.of (by rw [← hH5] <;> exact hl), ?_⟩
    refine for_it (walk_S (K := K) (k := true) (a := l) (xs := [V.ref t1, V.ref t2, V.ref t3])) (fun i σ H' => Ext H5 H' ∧ ∃ z7, σ = [some (.ref r), some (.ref a), some (.int (w.ears.length : Int)), some (.int (w.kinds.length : Int)), some (.int o), some (.int fa), some (.int gd), z7]) ⟨by rw [hH5]; exact Ext.rfl', _, rfl⟩ (fun i σ H' _ e => SqL.of (e.1 _ _ hl)) ?_ ?_
    · rintro i x σ _ H6 hi ⟨e6, z7, rfl⟩ ⟨rfl, hxi⟩
      have i3 : i < 3 := hi
      obtain ⟨tm, x1, x2, rfl, htm, hx⟩ : ∃ tm x1 x2, x = V.ref tm ∧ H5 tm = some (.tup [.int x1, .int x2]) ∧ ((x1 = o) ∨ (0 ≤ x1 ∧ x1 < (w.ears.length : Int) ∧ x2 = o)) := by
        rcases (show i = 0 ∨ i = 1 ∨ i = 2 by omega) with rfl | rfl | rfl
        · exact ⟨t1, _, _, by injection hxi with z; exact z.symm, ht1, .inl rfl⟩
        · exact ⟨t2, _, _, by injection hxi with z; exact z.symm, ht2, .inl rfl⟩
        · exact ⟨t3, _, _, by injection hxi with z; exact z.symm, ht3, .inr ⟨g0, g1, rfl⟩⟩
      dsimp only [gName, List.set]
      have htm6 := e6 _ _ htm
      have fin : ∀ r9 H7, Ext H6 H7 → H7 r9 = some (.tup [.str "ear", .int o, .bl true]) → True := fun _ _ _ _ => trivial
      refine ⟨_, rfl, _, rfl, tm, _, _, _, rfl, rfl, SqT.of htm6, rfl, _, rfl, tm, _, _, _, rfl, rfl, SqT.of htm6, rfl, a, w, x1, x2, 0, rfl, hA5.ext e6, .inl ⟨rfl, fun c1 c2 => ?_, fun c1 => ?_, fun c1 c2 => ?_⟩⟩
      · rcases hx with rfl | ⟨_, _, rfl⟩
        · exact absurd c1 on
        · exact absurd c2 on
      · intro r9 H7 e7 hr9
        obtain rfl : x1 = o := hx.elim id fun z => absurd ⟨z.1, z.2.1⟩ c1
        refine ⟨_, rfl, (by show 3 ≤ sizeLine; decide), fun q9 nq9 => ⟨told3 "ear" x1, told3 "ear" x1, dp_told3 ((ext1 nq9) _ _ hr9), dp_told3 upd_same, told3_sh _ ear_ok, told3_sh _ ear_ok, _, rfl, ?_⟩⟩
        rw [told3_refl _ ear_ok]
        refine iteF ?_
        refine tnext_of ?_
        exact ⟨(e6.trans e7).trans (ext1 nq9), _, rfl⟩
      · intro r9 H7 e7 hr9
        obtain rfl : x2 = o := hx.elim (fun z => absurd (by rw [← z]; exact c1) on) fun z => z.2.2
        refine ⟨_, rfl, (by show 3 ≤ sizeLine; decide), fun q9 nq9 => ⟨told3 "ear" x2, told3 "ear" x2, dp_told3 ((ext1 nq9) _ _ hr9), dp_told3 upd_same, told3_sh _ ear_ok, told3_sh _ ear_ok, _, rfl, ?_⟩⟩
        rw [told3_refl _ ear_ok]
        refine iteF ?_
        refine tnext_of ?_
        exact ⟨(e6.trans e7).trans (ext1 nq9), _, rfl⟩
    rintro σ H6 ⟨e6, z7, rfl⟩
    have hA6 := hA5.ext e6
    -- a joint too far
    refine ⟨_, rfl, _, rfl, a, w, fa, 0, 1, rfl, hA6, .inr ⟨rfl, fun c => absurd c fn_, fun _ r9 H7 e7 hr9 => ?_⟩⟩
    refine ⟨_, rfl, (by show 3 ≤ sizeLine; decide), fun q9 nq9 => ⟨told3 "joint" fa, told3 "joint" fa, dp_told3 ((ext1 nq9) _ _ hr9), dp_told3 upd_same, told3_sh _ joint_ok, told3_sh _ joint_ok, _, rfl, ?_⟩⟩
    rw [told3_refl _ joint_ok]
    refine iteF ?_
    refine tnext_of ?_
    dsimp only
    have hA8 := hA6.ext (e7.trans (ext1 (o := .tup [V.str "joint", V.int fa, V.bl true]) nq9))
    -- a joint that is there
    refine ⟨_, rfl, a, w, 0, 0, 1, rfl, hA8, .inr ⟨rfl, fun _ r8 H9 e9 hr8 => ?_, fun c => absurd ⟨by omega, by omega⟩ c⟩⟩
    refine ⟨r8, _, _, _, rfl, rfl, SqT.of hr8, rfl, ?_⟩
    refine ⟨.str "let", .str "let", .str _, .str _, str_sh let_ok, str_sh let_ok, _, rfl, ?_⟩
    rw [str_refl let_ok]
    refine iteF ?_
    refine tnext_of ?_
    dsimp only
    have hA9 := hA8.ext e9
    -- ears that are there
    refine ⟨_, rfl, _, rfl, _, rfl, a, w, gd, gd, 0, rfl, hA9, .inl ⟨rfl, fun _ _ r7 H10 e10 hr7 => ?_, fun c => absurd ⟨g0, g1⟩ c, fun _ c => absurd ⟨g0, g1⟩ c⟩⟩
    refine ⟨r7, _, _, _, rfl, rfl, SqT.of hr7, rfl, ?_⟩
    refine ⟨.str "let", .str "let", .str _, .str _, str_sh let_ok, str_sh let_ok, ?_⟩
    rw [str_refl let_ok]
    exact q _
end
end Fx

set_option Elab.async false
set_option linter.all false
set_option maxRecDepth 100000
set_option maxHeartbeats 4000000
set_option exponentiation.threshold 20000
namespace Fx
open PySem PySem.Spec PyProof.Rows L2 FM KM
/-! ### the law itself -/
section
variable {P : Program} {w : World} {K : PySem.W.Frag} {mg : Str → Option Value} {base : Heap} {A : Adr} {CW CR CT NE NJ Wb : Addr}
theorem scLa : FnScope ["script", "cells", "x", "pool", "web", "made", "tips", "many", "joint", "told", "least", "k", "a", "b", "due"] ["script"] (defScope (top 96)) := ⟨rfl, rfl, rfl, by decide +kernel, rfl, by decide +kernel, by decide +kernel⟩
def spLa (K : PySem.W.Frag) : Sp := fun vs H Q _ => ∃ (a : Addr) (ns : List Int), vs = [.ref a] ∧ SqL K H a (ns.map V.int) ∧ ns.length ≤ 63 ∧ ∀ H', Q (.bl true) H'
theorem ok_La {f : Addr} {fd : FuncData} (F : Fun K "law" "law" (top 96) f fd) (isi : mg "isinstance" = none) (hO : LF P w K mg base "_law_pool" 1 ["cells"] spLpo) (hW : LF P w K mg base "_law_web" 3 ["pool", "most"] spLw) (hM : LF P w K mg base "_law_made" 9 ["web", "way"] (spLma A CW)) (hD : LF P w K mg base "_law_digit" 1 ["pool", "many"] spLd) (hQ : LF P w K mg base "distances" 4 ["web", "joint"] (spDi A CW NJ)) (hF : LF P w K mg base "_law_far" 1 ["web", "joint"] spLfr) (hS : LF P w K mg base "_law_same" 2 ["told", "due"] spLsm) (hE : LF P w K mg base "ear_distance" 5 ["web", "first", "second"] (spEd A CW NE)) (hT : LF P w K mg base "_law_first" 12 ["made", "a", "b", "due"] (spLft A CW)) (hR : LF P w K mg base "_law_refused" 8 ["pool", "made", "tips", "many"] (spLrf A CW)) (le : mg "len" = none) (ra : mg "range" = none) (it : mg "int" = none) (li : mg "list" = none) : FnOk P w K mg base (L2.CX P w) 13 f fd ["script"] (spLa K) := by
  refine F.okX scLa (fun vs H Q E h => ?_) (fun cdv AA outer s H vs Q E hr h => ?_)
  · obtain ⟨a, ns, rfl, _⟩ := h; rfl
  · obtain ⟨sa, ns, rfl, hs, hn, q⟩ := h
    obtain ⟨fO, gO, cO⟩ := hO
    obtain ⟨fdO, GO, bO⟩ := cO.ex
    obtain ⟨fW, gW, cW⟩ := hW
    obtain ⟨fdW, GW, bW⟩ := cW.ex
    obtain ⟨fM, gM, cM⟩ := hM
    obtain ⟨fdM, GM, bM⟩ := cM.ex
    obtain ⟨fD, gD, cD⟩ := hD
    obtain ⟨fdD, GD, bD⟩ := cD.ex
    obtain ⟨fQ, gQ, cQ⟩ := hQ
    obtain ⟨fdQ, GQ, bQ⟩ := cQ.ex
    obtain ⟨fF, gF, cF⟩ := hF
    obtain ⟨fdF, GF, bF⟩ := cF.ex
    obtain ⟨fS, gS, cS⟩ := hS
    obtain ⟨fdS, GS, bS⟩ := cS.ex
    obtain ⟨fE, gE, cE⟩ := hE
    obtain ⟨fdE, GE, bE⟩ := cE.ex
    obtain ⟨fT, gT, cT⟩ := hT
    obtain ⟨fdT, GT, bT⟩ := cT.ex
    obtain ⟨fR, gR, cR⟩ := hR
    obtain ⟨fdR, GR, bR⟩ := cR.ex
    refine ⟨_, (pss_cons (ps_setLc (i := 1) (own := [("x", 2)]) (g := (gName 2)) rfl scLa.nd rfl rfl (sw_true rfl rfl rfl rfl) (pi_seq (pe_slice sl_list (pv 0) po_none (po_some pe_int))) (blkOk_by (own := [("x", 2)]) (N := ["script", "cells", "x", "pool", "web", "made", "tips", "many", "joint", "told", "least", "k", "a", "b", "due"]) (sc := defScope (top 96)) (by decide +kernel)) (fun _ _ _ _ _ => (pg_name (i := 2) scLa.nd rfl (Or.inl rfl))) (fun _ _ _ _ _ => pts_nil) (fun _ _ _ _ _ => (pe_callTy call_int1 (by rfl) it boot_int (pa_cons (pv 2) pa_nil))))
      (pss_cons (ps_set (i := 3) scLa.nd rfl (Or.inl rfl) (pe_call GO (hr.mono (by decide)) rfl gO cO.kp bO .nil (E := E0) passL (pa_cons (pv 1) pa_nil)))
      (pss_cons (ps_set (i := 4) scLa.nd rfl (Or.inl rfl) (pe_call GW (hr.mono (by decide)) rfl gW cW.kp bW .nil (E := E0) passL (pa_cons (pv 3) (pa_cons pe_int pa_nil))))
      (pss_cons (ps_set (i := 5) scLa.nd rfl (Or.inl rfl) (pe_call GM (hr.mono (by decide)) rfl gM cM.kp bM .nil (E := E0) passL (pa_cons (pv 4) (pa_cons (pe_call GD (hr.mono (by decide)) rfl gD cD.kp bD .nil (E := E0) passL (pa_cons (pv 3) (pa_cons pe_int pa_nil))) pa_nil))))
      (pss_cons (ps_set (i := 6) scLa.nd rfl (Or.inl rfl) (pe_callB call_len_seq (by rfl) le PySem.boot_len (pa_cons (pe_ix ix_tup (pv 4) pe_int (fun _ _ => rfl)) pa_nil)))
      (pss_cons (ps_set (i := 7) scLa.nd rfl (Or.inl rfl) (pe_callB call_len_seq (by rfl) le PySem.boot_len (pa_cons (pe_ix ix_tup (pv 4) pe_int (fun _ _ => rfl)) pa_nil)))
      (pss_cons (ps_set (i := 8) scLa.nd rfl (Or.inl rfl) (pe_call GD (hr.mono (by decide)) rfl gD cD.kp bD .nil (E := E0) passL (pa_cons (pv 3) (pa_cons (pv 7) pa_nil))))
      (pss_cons (ps_set (i := 9) scLa.nd rfl (Or.inl rfl) (pe_call GQ (hr.mono (by decide)) rfl gQ cQ.kp bQ .nil (E := E0) passL (pa_cons (pv 5) (pa_cons (pv 8) pa_nil))))
      (pss_cons (ps_set (i := 10) scLa.nd rfl (Or.inl rfl) (pe_call GF (hr.mono (by decide)) rfl gF cF.kp bF .nil (E := E0) passL (pa_cons (pv 4) (pa_cons (pv 8) pa_nil))))
      (pss_cons (ps_if (PW.pt (pw_or (pt_not (pt_val (pe_callB call_isi (by rfl) isi boot_isi (pa_cons (pv 9) (pa_cons (pe_bltn (v := .ty "list") (by rfl) li boot_list rfl) pa_nil))))) (pw_or1 (pt_cmpR L2.op_ne (pe_callB call_len_seq (by rfl) le PySem.boot_len (pa_cons (pv 9) pa_nil)) (pv 7) (nomark _))))) (pss_one (ps_ret pe_bl)) pss_nil)
      (pss_cons (ps_for (passes_of rfl) rfl (pi_range1 rfl ra (pa_cons (pv 7) pa_nil)) (pg_name (i := 11) scLa.nd rfl (Or.inl rfl)) (pss_one (ps_if (pt_not (pt_val (pe_call GS (hr.mono (by decide)) rfl gS cS.kp bS .nil (E := E0) passL (pa_cons (pe_ix ix_list (pv 9) (pv 11) (fun _ _ => rfl)) (pa_cons (pe_ix ix_list (pv 10) (pv 11) (fun _ _ => rfl)) pa_nil))))) (pss_one (ps_ret pe_bl)) pss_nil)))
      (pss_cons (ps_for (passes_of rfl) rfl (pi_range1 rfl ra (pa_cons (pv 6) pa_nil)) (pg_name (i := 12) scLa.nd rfl (Or.inl rfl)) (pss_cons (ps_set (i := 10) scLa.nd rfl (Or.inl rfl) (pe_call GF (hr.mono (by decide)) rfl gF cF.kp bF .nil (E := E0) passL (pa_cons (pv 4) (pa_cons (pe_ix ix_tup (pe_ix ix_list (pe_ix ix_tup (pv 4) pe_int (fun _ _ => rfl)) (pv 12) (fun _ _ => rfl)) pe_int (fun _ _ => rfl)) pa_nil))))
      (pss_one (ps_for (passes_of rfl) rfl (pi_range1 rfl ra (pa_cons (pv 6) pa_nil)) (pg_name (i := 13) scLa.nd rfl (Or.inl rfl)) (pss_cons (ps_set (i := 14) scLa.nd rfl (Or.inl rfl) (pe_ix ix_list (pv 10) (pe_ix ix_tup (pe_ix ix_list (pe_ix ix_tup (pv 4) pe_int (fun _ _ => rfl)) (pv 13) (fun _ _ => rfl)) pe_int (fun _ _ => rfl)) (fun _ _ => rfl)))
      (pss_cons (ps_if (pt_not (pt_val (pe_call GS (hr.mono (by decide)) rfl gS cS.kp bS .nil (E := E0) passL (pa_cons (pe_call GE (hr.mono (by decide)) rfl gE cE.kp bE .nil (E := E0) passL (pa_cons (pv 5) (pa_cons (pv 12) (pa_cons (pv 13) pa_nil)))) (pa_cons (pv 14) pa_nil))))) (pss_one (ps_ret pe_bl)) pss_nil)
      (pss_one (ps_if (PW.pt (pw_and (pt_cmpR L2.op_ne (pv 12) (pv 13) (nomark _)) (pw_and1 (pt_not (pt_val (pe_call GT (hr.mono (by decide)) rfl gT cT.kp bT .nil (E := E0) passL (pa_cons (pv 5) (pa_cons (pv 12) (pa_cons (pv 13) (pa_cons (pv 14) pa_nil)))))))))) (pss_one (ps_ret pe_bl)) pss_nil))))))))
      (pss_one (ps_ret (pe_call GR (hr.mono (by decide)) rfl gR cR.kp bR .nil (E := E0) passL (pa_cons (pv 3) (pa_cons (pv 5) (pa_cons (pv 6) (pa_cons (pv 7) pa_nil))))))))))))))))))), ?_⟩
    rw [lawstart]
    -- cells
    refine tseq_of (t := tAsg (tLc _ _ _ _ _) (gName 1)) ?_
    refine tasg_of ?_
    have nl : (ns.map V.int).length ≤ 63 := by rw [List.length_map]; exact hn
    refine tlc_cps (P := fun J H1 => ∃ p, J = Itl K p ∧ H1 = upd H p (.lst (ns.map V.int)) ∧ H p = none) (fun R hR => ⟨_, rfl, 63, rfl, sa, _, rfl, hs, fun p np => ?_⟩) ?_
    · rw [cut63 nl]
      exact ⟨true, p, _, rfl, SqL.of upd_same, hR _ _ ⟨p, rfl, rfl, np⟩⟩
    rintro J H1 ⟨p, rfl, rfl, np⟩
    refine tlc_X (R := fun (x : V) (n : Int) (_ : Hp) => x = .int n) (ys := ns) (H1 := upd H p (.lst (ns.map V.int))) (by rw [← List.length_map (f := V.int)]; exact walk_list (K := K) (a := p) (xs := ns.map V.int)) (fun R r => r) moInt (big1000 (by omega)) (fun H2 e => SqL.of (e _ _ upd_same)) ?_ gm_name fun C1 c1 H1 nC1 e1 hC1 hc1 => ?_
    · rintro i x _ H2 y hy e ⟨rfl, hxi⟩ Qy kk
      rw [List.getElem?_map, hy] at hxi
      cases hxi
      exact ⟨rfl, _, rfl, .inl ⟨_, rfl, kk _ _ Ext.rfl' rfl⟩⟩
    have ec := ints_eq hc1
    subst ec
    dsimp only [gName, List.set]
    refine ⟨_, rfl, C1, ns, rfl, hC1, hn, fun r H2 e2 nr hp2 => ?_⟩
    -- the web
    refine ⟨_, rfl, r, 16, rfl, by decide, hp2, fun t jl rl tl bs rods tips H3 nj nrl ntl hc hw3 hp3 k3 => ?_⟩
    have jr : jl ≠ r := pool_ne hp2 nj
    have rr : rl ≠ r := pool_ne hp2 nrl
    have tr : tl ≠ r := pool_ne hp2 ntl
    -- made
    refine ⟨_, rfl, _, rfl, r, 6, rfl, hp3, by decide, by decide, fun d0 H4 d00 d01 hp4 k4 => ?_⟩
    have hw4 := hw3.kp hp3 jr rr tr k4
    refine ⟨t, jl, rl, tl, bs, rods, tips, 16, by decide, d0, rfl, hw4, hc, fun a H5 na e5 hA5 => ?_⟩
    have hw5 : WebPy H5 t jl rl tl (theWeb bs rods tips).kinds (theWeb bs rods tips).rods (theWeb bs rods tips).ears := hw4.ext e5
    have hp5 := hp4.ext e5
    have szW := web_sz hc
    have c16 : (theWeb bs rods tips).cells ≤ 16 := by rw [cells_theWeb]; exact hc.c
    have pln : (theWeb bs rods tips).Plain := ⟨fun j => by
      unfold WebD.kind
      cases h : (theWeb bs rods tips).kinds[j]? with
      | none => rfl
      | some b => exact hc.pk b (List.mem_of_getElem? h), hc.pt⟩
    have e1_ : 1 ≤ (theWeb bs rods tips).ears.length := hc.e1
    have n1_ : 1 ≤ (theWeb bs rods tips).kinds.length := hc.n1
    clear hw3 hw4 hp2 hp3 hp4 k3 k4 e5 hc
    generalize theWeb bs rods tips = wb at *
    have ok := hA5.ok
    have e4 := ok.e
    have n8 := ok.n
    obtain ⟨ht5, hj5, _, ⟨txs, htl5, htx5⟩⟩ := id hw5
    have tl_ : txs.length = wb.ears.length := htx5.1
    have jl_ : (wb.kinds.map kV_).length = wb.kinds.length := by simp
    obtain ⟨G, g0, g1, tf⟩ := WebD.tick_repu ok szW (b := 17) (by decide) (by decide) (by decide)
    have g2 : G < 2 ^ 137 := Nat.lt_of_lt_of_le g1 (Nat.pow_le_pow_right (by decide) (by have := ok.n; omega))
    -- tips
    dsimp only [gName, List.set]
    refine ⟨_, rfl, t, _, _, _, rfl, rfl, SqT.of ht5, rfl, tl, txs, rfl, .inl (SqL.of htl5), ?_⟩
    dsimp only [gName, List.set]
    rw [tl_]
    -- many
    refine ⟨_, rfl, t, _, _, _, rfl, rfl, SqT.of ht5, rfl, jl, _, rfl, .inl (SqL.of hj5), ?_⟩
    dsimp only [gName, List.set]
    rw [jl_]
    -- joint
    refine ⟨_, rfl, _, rfl, r, _, rfl, hp5, by omega, log_small (by omega), fun d1 H6 d10 d11 hp6 k6 => ?_⟩
    obtain ⟨j, hj⟩ : ∃ j : Nat, d1 = (j : Int) := ⟨d1.toNat, by omega⟩
    subst hj
    have hjl : j < wb.kinds.length := by omega
    dsimp only [gName, List.set]
    have hw6 := hw5.kp hp5 jr rr tr k6
    have hA6 := hA5.l (k6.l hp5)
    clear hw5 hA5 hp5 k6 ht5 hj5 htl5 htx5
    -- told
    refine ⟨_, rfl, _, rfl, a, wb, (j : Int), rfl, hA6, fun j' hj' _ Td H7 nT e7 hT => ?_, fun hn' => absurd ⟨by omega, by omega⟩ hn'⟩
    obtain rfl : j = j' := by omega
    dsimp only [gName, List.set]
    -- least
    refine ⟨_, rfl, _, rfl, t, jl, rl, tl, wb, j, rfl, hw6.ext e7, ok, hjl, fun Ls H8 nL e8 hL => ?_⟩
    dsimp only [gName, List.set]
    have hT8 := e8 _ _ hT
    have e68 := e7.trans e8
    refine ⟨_, rfl, _, _, _, _, true, rfl, .ty "list", .base (.lst hT8), kit_ty (by decide +kernel), _, rfl, iteF ?_⟩
    refine ⟨_, rfl, Td, _, rfl, .inl (SqL.of hT8), _, rfl, rfl, _, rfl, if_ND (fun z => absurd (by rw [lsV_len]) z) (fun _ => ?_)⟩
    refine tnext_of ?_
    dsimp only
    -- each joint
    refine ⟨_, rfl, (wb.kinds.length : Int), rfl, by omega, by omega, ?_⟩
    refine for_it (walk_range (lo := 0) (n := wb.kinds.length)) (fun i σ H' => Ext H8 H' ∧ ∃ z11, σ = [some (.ref sa), some (.ref C1), none, some (.ref r), some (.ref t), some (.ref a), some (.int (wb.ears.length : Int)), some (.int (wb.kinds.length : Int)), some (.int (j : Int)), some (.ref Td), some (.ref Ls), z11, none, none, none]) ⟨Ext.rfl', _, rfl⟩ (fun _ _ _ _ _ => trivial) ?_ ?_
    · rintro i x σ _ H9 hi ⟨e9, z11, rfl⟩ ⟨rfl, rfl⟩
      have ei : (0 + (i : Int)) = (i : Int) := by omega
      dsimp only
      rw [ei]
      dsimp only [gName, List.set]
      refine ⟨_, rfl, _, rfl, Td, _, _, _, rfl, rfl, SqL.of (e9 _ _ hT8), atI_nat (lsV_at hi), _, rfl, _, rfl, Ls, _, _, _, rfl, rfl, SqL.of (e9 _ _ hL), atI_nat (lsV_at hi), _, rfl, ?_⟩
      refine ⟨_, rfl, iteF ?_⟩
      refine tnext_of ?_
      exact ⟨e9, _, rfl⟩
    rintro σ H9 ⟨e9, z11, rfl⟩
    have e69 := e68.trans e9
    clear hT hT8 hL e7 e8 e68
    -- each pair of ears
    refine ⟨_, rfl, (wb.ears.length : Int), rfl, by omega, by omega, ?_⟩
    refine for_it (walk_range (lo := 0) (n := wb.ears.length)) (fun i σ H' => Ext H6 H' ∧ ∃ z10 z12 z13 z14, σ = [some (.ref sa), some (.ref C1), none, some (.ref r), some (.ref t), some (.ref a), some (.int (wb.ears.length : Int)), some (.int (wb.kinds.length : Int)), some (.int (j : Int)), some (.ref Td), z10, z11, z12, z13, z14]) ⟨e69, _, _, _, _, rfl⟩ (fun _ _ _ _ _ => trivial) ?_ ?_
    · rintro f2 x σ _ H10 hf ⟨e10, z10, z12, z13, z14, rfl⟩ ⟨rfl, rfl⟩
      have ei : (0 + (f2 : Int)) = (f2 : Int) := by omega
      dsimp only
      rw [ei]
      dsimp only [gName, List.set]
      have pf := ok.pl _ (WebD.ear_mem hf)
      obtain ⟨ht6, _, _, ⟨txs, htl6, htx6⟩⟩ := id hw6
      obtain ⟨tv, htv, ea, es, rfl, hea, _⟩ := htx6.get (WebD.ear_at hf)
      refine ⟨_, rfl, _, rfl, t, _, _, _, rfl, rfl, SqT.of (e10 _ _ ht6), rfl, _, rfl, tl, _, _, _, rfl, rfl, SqL.of (e10 _ _ htl6), atI_nat htv, ea, _, _, _, rfl, rfl, SqT.of (e10 _ _ hea), rfl, t, jl, rl, tl, wb, (wb.ear f2).pl, rfl, hw6.ext e10, ok, pf, fun Lf H11 nLf e11 hLf => ?_⟩
      dsimp only [gName, List.set]
      have e611 := e10.trans e11
      refine ⟨_, rfl, (wb.ears.length : Int), rfl, by omega, by omega, ?_⟩
      refine for_it (walk_range (lo := 0) (n := wb.ears.length)) (fun i σ H' => Ext H6 H' ∧ Ext H11 H' ∧ ∃ z13 z14, σ = [some (.ref sa), some (.ref C1), none, some (.ref r), some (.ref t), some (.ref a), some (.int (wb.ears.length : Int)), some (.int (wb.kinds.length : Int)), some (.int (j : Int)), some (.ref Td), some (.ref Lf), z11, some (.int (f2 : Int)), z13, z14]) ⟨e611, Ext.rfl', _, _, rfl⟩ (fun _ _ _ _ _ => trivial) ?_ ?_
      · rintro e x σ _ H12 he ⟨e12, e1112, y13, y14, rfl⟩ ⟨rfl, rfl⟩
        have ei : (0 + (e : Int)) = (e : Int) := by omega
        dsimp only
        rw [ei]
        dsimp only [gName, List.set]
        have pe_ := ok.pl _ (WebD.ear_mem he)
        obtain ⟨tv2, htv2, ea2, es2, rfl, hea2, _⟩ := htx6.get (WebD.ear_at he)
        obtain ⟨d, hd⟩ : ∃ d, d = Gr.runs wb.edsF (wb.ear f2).pl wb.kinds.length (wb.ear e).pl := ⟨_, rfl⟩
        refine ⟨_, rfl, _, rfl, t, _, _, _, rfl, rfl, SqT.of (e12 _ _ ht6), rfl, _, rfl, tl, _, _, _, rfl, rfl, SqL.of (e12 _ _ htl6), atI_nat htv2, ea2, _, _, _, rfl, rfl, SqT.of (e12 _ _ hea2), rfl, Lf, _, _, _, rfl, rfl, SqL.of (e1112 _ _ hLf), atI_nat (lsV_at pe_), ?_⟩
        rw [← hd]
        dsimp only [gName, List.set]
        -- the distance of the ears
        refine ⟨_, rfl, _, rfl, _, rfl, a, wb, (f2 : Int), (e : Int), rfl, hA6.ext e12, fun f' e' hf' he' _ _ H13 e13 => ?_, fun hn' => absurd ⟨by omega, by omega⟩ hn', fun _ hn' => absurd ⟨by omega, by omega⟩ hn'⟩
        obtain rfl : f2 = f' := by omega
        obtain rfl : e = e' := by omega
        rw [← hd]
        refine ⟨_, rfl, d, rfl, ?_⟩
        refine ⟨_, rfl, iteF ?_⟩
        refine tnext_of ?_
        dsimp only
        have e613 := e12.trans e13
        refine (fun nx => ⟨_, rfl, _, rfl, rfl, _, rfl, if_ND (fun c => ?inner) (fun _ => iteF nx)⟩) ?rest
        case inner =>
          have ne : f2 ≠ e := fun z => c (by rw [z])
          obtain ⟨d17, dz, dp⟩ := due_ok2 ok pln c16 he hf ne hd
          refine ⟨_, rfl, _, rfl, _, rfl, _, rfl, a, wb, f2, e, d, rfl, hA6.ext e613, he, hf, d17, fun i hi => tsz16 szW tf g0 g2 (by omega), fun t ht => echo_o4 tf g0 g2 (by omega) hf, dz, dp, fun H14 e14 => ?_⟩
          refine ⟨_, rfl, iteF ?_⟩
          refine tnext_of ?_
          exact ⟨e613.trans e14, (e1112.trans e13).trans e14, _, _, rfl⟩
        refine tnext_of ?_
        exact ⟨e613, e1112.trans e13, _, _, rfl⟩
      · rintro σ H12 ⟨e12, e1112, y13, y14, rfl⟩
        exact ⟨e12, _, _, _, _, rfl⟩
    rintro σ H10 ⟨e10, z10, z12, z13, z14, rfl⟩
    -- refusals
    exact ⟨_, rfl, _, rfl, _, rfl, _, rfl, r, a, wb, rfl, hp6.ext e10, hA6.ext e10, e1_, n1_, fun H' => q _⟩
end
end Fx

set_option Elab.async false
set_option linter.all false
set_option maxRecDepth 100000
/-! The class of an error with a field, from what is looked at. -/
namespace Fx
open PySem PySem.Spec PyProof.Rows L2
theorem oex_of {K : PySem.W.Frag} {h : Heap} {C : Addr} (X : K.In h) (q : PySem.W.excInitIn K C He.veBase "ValueError.__new__" = true) (hd : PySem.W.hasDictIn K C = true) (rv : ((PySem.W.clsIn K C).any fun cd => PySem.HandSPX.refsVE cd.mro.tail) = true)
    (sa : PySem.W.findIn K (.ref C) "__setattr__" = some (some (.builtin "object.__setattr__"))) (ex : PySem.W.subIn K (.ref C) (.type "BaseException") = some true) (ty : PySem.W.typeIn K (.ref C) = some (.type "type")) (kc : PySem.W.keepIn K (.ref C) = true) : OexC K C := by
  refine ⟨?_, sa, ex, ty, kc⟩
  obtain ⟨nm, N, qn, bs, bm, hdct, sn, sub, ab, col, dd, k0, k1, k2, k3, k5, ho, _⟩ := PySem.W.excInit_of X q
  cases e : K.lookup C with
  | none =>
    unfold PySem.W.excInitIn at q
    rw [e] at q
    cases q
  | some o =>
    have := X _ _ e
    rw [ho] at this
    obtain rfl := (Option.some.inj this).symm
    unfold PySem.W.hasDictIn PySem.W.clsIn at hd
    unfold PySem.W.clsIn at rv
    rw [e] at hd rv
    obtain rfl : hdct = true := by simpa using hd
    exact ⟨nm, qn, N, bs, bm, sn, sub, ab, col, dd, k0, k1, k2, k3, k5, rfl, by simpa using rv⟩
end Fx

set_option Elab.async false
set_option linter.all false
set_option maxRecDepth 100000
set_option maxHeartbeats 8000000
set_option exponentiation.threshold 20000
namespace Fx
open PySem PySem.Spec PyProof.Rows L2 FM KM
theorem d_add : PySem.dunder Operator.Add.info.2 = ("__add__" : Str) := by decide +kernel
theorem dr_add : dunderR Operator.Add.info.2 = ("__radd__" : Str) := by decide +kernel
theorem d_sub : PySem.dunder Operator.Sub.info.2 = ("__sub__" : Str) := by decide +kernel
theorem dr_sub : dunderR Operator.Sub.info.2 = ("__rsub__" : Str) := by decide +kernel
theorem d_mul : PySem.dunder Operator.Mult.info.2 = ("__mul__" : Str) := by decide +kernel
theorem dr_mul : dunderR Operator.Mult.info.2 = ("__rmul__" : Str) := by decide +kernel
theorem d_flo : PySem.dunder Operator.FloorDiv.info.2 = ("__floordiv__" : Str) := by decide +kernel
theorem dr_flo : dunderR Operator.FloorDiv.info.2 = ("__rfloordiv__" : Str) := by decide +kernel
theorem d_mod : PySem.dunder Operator.Mod.info.2 = ("__mod__" : Str) := by decide +kernel
theorem dr_mod : dunderR Operator.Mod.info.2 = ("__rmod__" : Str) := by decide +kernel
theorem d_pow : PySem.dunder Operator.Pow.info.2 = ("__pow__" : Str) := by decide +kernel
theorem dr_pow : dunderR Operator.Pow.info.2 = ("__rpow__" : Str) := by decide +kernel
theorem all_core {l : PySem.W.OpenLaw} {w : World} {K : PySem.W.Frag} {h : Heap} {mg : Str → Option Value} {fa CW NE NJ Wb CP : Addr} {A : Adr} (X : K.In h) (G : h.Ns mainGlobals mg) (hfa : mg "law" = some (.ref fa))
    {tkP : Tok} {nmC bsC nsC qC hdC snC sbC abC coC dlC} {oi_add oj_add : Option Value} {oi_sub oj_sub : Option Value} {oi_mul oj_mul : Option Value} {oi_flo oj_flo : Option Value} {oi_mod oj_mod : Option Value} {oi_pow oj_pow : Option Value} {tkL tkE tkS : Tok} {kkA : Addr} {odK : Option Addr} {nK : Nat} {slK : Array (Option Value)} {tkMOST_JOINTS : Tok} {tkMOST_RODS : Tok} {tkMOST_EARS : Tok} {tkMOST_CELLS : Tok} {pi wi fIN fIJ fFr fBk fArr fTk fRe : Addr} {tkME : Tok} {e1 e2 e3 : Addr} {rest_of_ : List Value} {fCc_ : Addr} {fCs_ : Addr} {fCl_ : Addr} {fCk_ : Addr} {fCg_ : Addr} {fCr_ : Addr} {fCt_ : Addr} {fCj_ : Addr} {fCo_ : Addr} {fFo_ : Addr} {fSh_ : Addr} {fDo_ : Addr} {fTo_ : Addr} {fCa_ : Addr} {fCn_ : Addr} {fSc_ : Addr} {fRt_ : Addr} {fCc2_ : Addr} {fCce_ : Addr} {fCjs_ : Addr} {fCrs_ : Addr} {fCes_ : Addr} {fCsg_ : Addr} {fAa_ : Addr} {fAs_ : Addr} {fLl_ : Addr} {fLi_ : Addr} {fLr_ : Addr} {fLg_ : Addr} {fLd_ : Addr} {fLpo_ : Addr} {fLpw_ : Addr} {fLw_ : Addr} {fLma_ : Addr} {fHk_ : Addr} {fCer_ : Addr} {fEo_ : Addr} {fLsr_ : Addr} {fJo_ : Addr} {fLw2_ : Addr} {fLto_ : Addr} {fLfr_ : Addr} {fDi_ : Addr} {fEd_ : Addr} {fLft_ : Addr} {fLsm_ : Addr} {fLrf_ : Addr} {fLa_ : Addr} {fdPi : FuncData} {fdWi : FuncData} {fdNi : FuncData} {fdJi : FuncData} {fdFr : FuncData} {fdBk : FuncData} {fdArr : FuncData} {fdTk : FuncData} {fdRe : FuncData} {fd_init : FuncData} {fd_add : FuncData} {fd_radd : FuncData} {fd_sub : FuncData} {fd_rsub : FuncData} {fd_mul : FuncData} {fd_rmul : FuncData} {fd_flo : FuncData} {fd_rflo : FuncData} {fd_mod : FuncData} {fd_rmod : FuncData} {fd_pow : FuncData} {fd_neg : FuncData} {fd_abs : FuncData} {fd_bool : FuncData} {fd_eq : FuncData} {fd_lt : FuncData} {fd_le : FuncData} {fd_gt : FuncData} {fd_ge : FuncData} {fd_str : FuncData} {fd_over : FuncData} {fd_of_ : FuncData} {fd_isnum : FuncData} {fd_wq : FuncData} {fdCc_ : FuncData} {fdCs_ : FuncData} {fdCl_ : FuncData} {fdCk_ : FuncData} {fdCg_ : FuncData} {fdCr_ : FuncData} {fdCt_ : FuncData} {fdCj_ : FuncData} {fdCo_ : FuncData} {fdFo_ : FuncData} {fdSh_ : FuncData} {fdDo_ : FuncData} {fdTo_ : FuncData} {fdCa_ : FuncData} {fdCn_ : FuncData} {fdSc_ : FuncData} {fdRt_ : FuncData} {fdCc2_ : FuncData} {fdCce_ : FuncData} {fdCjs_ : FuncData} {fdCrs_ : FuncData} {fdCes_ : FuncData} {fdCsg_ : FuncData} {fdAa_ : FuncData} {fdAs_ : FuncData} {fdLl_ : FuncData} {fdLi_ : FuncData} {fdLr_ : FuncData} {fdLg_ : FuncData} {fdLd_ : FuncData} {fdLpo_ : FuncData} {fdLpw_ : FuncData} {fdLw_ : FuncData} {fdLma_ : FuncData} {fdHk_ : FuncData} {fdCer_ : FuncData} {fdEo_ : FuncData} {fdLsr_ : FuncData} {fdJo_ : FuncData} {fdLw2_ : FuncData} {fdLto_ : FuncData} {fdLfr_ : FuncData} {fdDi_ : FuncData} {fdEd_ : FuncData} {fdLft_ : FuncData} {fdLsm_ : FuncData} {fdLrf_ : FuncData} {fdLa_ : FuncData}
    (aC : PySem.W.nsIn K mainGlobals "Frac" = some (some (.ref A.C)))
    (aZ : PySem.W.nsIn K mainGlobals "DivisionByZero" = some (some (.ref A.Z)))
    (agcd : PySem.W.nsIn K mainGlobals "gcd" = some (some (.builtin "math.gcd")))
    (amp : PySem.W.nsIn K mainGlobals "MOST_POWER" = some (some (.int 64 tkP)))
    (n_isinstance : PySem.W.nsIn K mainGlobals "isinstance" = some none)
    (n_int : PySem.W.nsIn K mainGlobals "int" = some none)
    (n_all : PySem.W.nsIn K mainGlobals "all" = some none)
    (n_abs : PySem.W.nsIn K mainGlobals "abs" = some none)
    (n_bool : PySem.W.nsIn K mainGlobals "bool" = some none)
    (n_len : PySem.W.nsIn K mainGlobals "len" = some none)
    (n_str : PySem.W.nsIn K mainGlobals "str" = some none)
    (n_range : PySem.W.nsIn K mainGlobals "range" = some none)
    (pg : PySem.W.plainGet K A.C Str.empty = true)
    (hd : PySem.W.hasDictIn K A.C = true)
    (po : PySem.W.plainOver K A.C = true)
    (sa : PySem.W.findIn K (.ref A.C) "__setattr__" = some (some (.builtin "object.__setattr__")))
    (mk : PySem.W.makesIn K A.C = true)
    (kc : PySem.W.keepIn K (.ref A.C) = true)
    (nN : PySem.W.findIn K (.ref A.C) "num" = some none)
    (nD : PySem.W.findIn K (.ref A.C) "den" = some none)
    (ca : PySem.W.findIn K (.ref A.C) "__class__" = some (some (.builtin "object.__class__")))
    (cg : PySem.W.specialIn K (.builtin "object.__class__") "__get__" = some (some (.builtin "getset_descriptor.__get__")))
    (ct : PySem.W.takesIn K (.builtin "object.__class__") = some true)
    (cm : PySem.W.mroIn K A.C (.type "object") = some true)
    (isC : PySem.W.isClsIn K A.C = true)
    (tC : PySem.W.typeIn K (.ref A.C) = some (.type "type"))
    (su1 : PySem.W.subIn K (.ref A.C) (.type "int") = some false)
    (su2 : PySem.W.subIn K (.type "int") (.ref A.C) = some false)
    (sf : PySem.W.selfFirst K A.C = true)
    (lC : PySem.W.clsIn K A.C = some { name := nmC, bases := bsC, mro := [(.ref A.C), .type "object"], ns := nsC, qualname := qC, hasDict := hdC, slotNames := snC, subclasses := sbC, abstract := abC, collection := coC, hasDel := dlC })
    (ne : PySem.W.findIn K (.ref A.C) "__ne__" = some (some (.builtin "object.__ne__")))
    (rdC : PySem.W.readsIn K A.C (.type "type") = true)
    (gaC : PySem.W.specialIn K (.ref A.C) "__getattribute__" = some (some (.builtin "type.__getattribute__")))
    (iaC : PySem.W.findIn K (.ref A.C) "__iadd__" = some none)
    (iaO : PySem.W.findIn K (.type "object") "__iadd__" = some none)
    (iaI : PySem.W.findIn K (.type "int") "__iadd__" = some none)
    (rpw : PySem.W.findIn K (.ref A.C) "__rpow__" = some none)
    (i1add : PySem.W.findIn K (.type "int") "__add__" = some oi_add)
    (i2add : PySem.W.findIn K (.type "int") "__radd__" = some oj_add)
    (i1sub : PySem.W.findIn K (.type "int") "__sub__" = some oi_sub)
    (i2sub : PySem.W.findIn K (.type "int") "__rsub__" = some oj_sub)
    (i1mul : PySem.W.findIn K (.type "int") "__mul__" = some oi_mul)
    (i2mul : PySem.W.findIn K (.type "int") "__rmul__" = some oj_mul)
    (i1flo : PySem.W.findIn K (.type "int") "__floordiv__" = some oi_flo)
    (i2flo : PySem.W.findIn K (.type "int") "__rfloordiv__" = some oj_flo)
    (i1mod : PySem.W.findIn K (.type "int") "__mod__" = some oi_mod)
    (i2mod : PySem.W.findIn K (.type "int") "__rmod__" = some oj_mod)
    (i1pow : PySem.W.findIn K (.type "int") "__pow__" = some oi_pow)
    (i2pow : PySem.W.findIn K (.type "int") "__rpow__" = some oj_pow)
    (n_tuple : PySem.W.nsIn K mainGlobals "tuple" = some none)
    (n_list : PySem.W.nsIn K mainGlobals "list" = some none)
    (n_zip : PySem.W.nsIn K mainGlobals "zip" = some none)
    (n_enumerate : PySem.W.nsIn K mainGlobals "enumerate" = some none)
    (n_sum : PySem.W.nsIn K mainGlobals "sum" = some none)
    (xsZ : PySem.W.subIn K (.ref A.Z) (.type "BaseException") = some true)
    (xtZ : PySem.W.typeIn K (.ref A.Z) = some (.type "type"))
    (xeZ : PySem.W.keepIn K (.ref A.Z) = true)
    (xZ : PySem.W.excIn K A.Z [.type "ValueError", .type "Exception", .type "BaseException", .type "object"] "ValueError.__new__" = true)
    (alcm : PySem.W.nsIn K mainGlobals "lcm" = some (some (.builtin "math.lcm")))
    (amL : PySem.W.nsIn K mainGlobals "MOST_LENGTH" = some (some (.int 12 tkL)))
    (aKi : PySem.W.nsIn K mainGlobals "KINDS" = some (some (.ref kkA)))
    (lKi : K.lookup kkA = some ⟨.type "tuple", odK, .seq [.str "level" tkE, .str "stream" tkS].toArray nK, slK⟩)
    (nt_str : PySem.W.subIn K (.ref A.C) (.type "str") = some false)
    (nt_bytes : PySem.W.subIn K (.ref A.C) (.type "bytes") = some false)
    (nt_bytearray : PySem.W.subIn K (.ref A.C) (.type "bytearray") = some false)
    (mCW : PySem.W.nsIn K mainGlobals "Web" = some (some (.ref CW)))
    (pgCW : PySem.W.plainGet K CW Str.empty = true)
    (hdCW : PySem.W.hasDictIn K CW = true)
    (poCW : PySem.W.plainOver K CW = true)
    (saCW : PySem.W.findIn K (.ref CW) "__setattr__" = some (some (.builtin "object.__setattr__")))
    (tyCW : PySem.W.typeIn K (.ref CW) = some (.type "type"))
    (rdCW : PySem.W.readsIn K CW (.type "type") = true)
    (gaCW : PySem.W.specialIn K (.ref CW) "__getattribute__" = some (some (.builtin "type.__getattribute__")))
    (vMOST_JOINTS : PySem.W.findCls K (.ref CW) (.type "type") "MOST_JOINTS" = some (.val (.int 8 tkMOST_JOINTS)))
    (vMOST_RODS : PySem.W.findCls K (.ref CW) (.type "type") "MOST_RODS" = some (.val (.int 8 tkMOST_RODS)))
    (vMOST_EARS : PySem.W.findCls K (.ref CW) (.type "type") "MOST_EARS" = some (.val (.int 4 tkMOST_EARS)))
    (vMOST_CELLS : PySem.W.findCls K (.ref CW) (.type "type") "MOST_CELLS" = some (.val (.int 24 tkMOST_CELLS)))
    (noCW0 : PySem.W.findIn K (.ref CW) "joints" = some none)
    (noCW1 : PySem.W.findIn K (.ref CW) "rods" = some none)
    (noCW2 : PySem.W.findIn K (.ref CW) "ear_list" = some none)
    (noCW3 : PySem.W.findIn K (.ref CW) "cells" = some none)
    (noCW4 : PySem.W.findIn K (.ref CW) "strengths" = some none)
    (noCW5 : PySem.W.findIn K (.ref CW) "ears" = some none)
    (noCW6 : PySem.W.findIn K (.ref CW) "first_cells" = some none)
    (noCW7 : PySem.W.findIn K (.ref CW) "arm_lists" = some none)
    (noCW8 : PySem.W.findIn K (.ref CW) "arm_strengths" = some none)
    (noCW9 : PySem.W.findIn K (.ref CW) "cell_strengths" = some none)
    (mkCW : PySem.W.makesIn K CW = true)
    (kcCW : PySem.W.keepIn K (.ref CW) = true)
    (mCP : PySem.W.nsIn K mainGlobals "Player" = some (some (.ref CP)))
    (rdCP : PySem.W.readsIn K CP (.type "type") = true)
    (gaCP : PySem.W.specialIn K (.ref CP) "__getattribute__" = some (some (.builtin "type.__getattribute__")))
    (amE : PySem.W.nsIn K mainGlobals "MOST_ECHOES" = some (some (.int 200 tkME)))
    (bPi : PySem.W.findCls K (.ref CP) (.type "type") "__init__" = some (.val (.ref pi)))
    (FnPi : Fun K "__init__" "Player.__init__" ((inClass (top 60) 0)) pi fdPi)
    (a_wi : PySem.W.findIn K (.ref CW) "__init__" = some (some (.ref wi)))
    (i_wi : PySem.W.isFn K (.ref wi) = true)
    (FnW : FunD K "__init__" "Web.__init__" (defArgs sWi) (defBody sWi) (defScope sWi) [.ref e1, .ref e2, .ref e3] [] wi fdWi)
    (aNE : PySem.W.nsIn K mainGlobals "NoEar" = some (some (.ref NE)))
    (xgN : PySem.W.findIn K (.ref NE) "__getattribute__" = some (some (.builtin "BaseException.__getattribute__")))
    (xkN : PySem.W.findIn K (.ref NE) "__getattr__" = some none)
    (xsN : PySem.W.subIn K (.ref NE) (.type "BaseException") = some true)
    (xhN : PySem.W.hasDictIn K NE = true)
    (xaN : PySem.W.findIn K (.ref NE) "__class__" = some (some (.builtin "object.__class__")))
    (xmN : PySem.W.mroIn K NE (.type "object") = some true)
    (xqN : PySem.W.excInitIn K NE He.veBase "ValueError.__new__" = true)
    (xrN : ((PySem.W.clsIn K NE).any fun cd => PySem.HandSPX.refsVE cd.mro.tail) = true)
    (saN : PySem.W.findIn K (.ref NE) "__setattr__" = some (some (.builtin "object.__setattr__")))
    (xtN : PySem.W.typeIn K (.ref NE) = some (.type "type"))
    (xeN : PySem.W.keepIn K (.ref NE) = true)
    (xnN : PySem.W.findIn K (.ref NE) "ear" = some none)
    (iNE : PySem.W.findIn K (.ref NE) "__init__" = some (some (.ref fIN)))
    (tNE : PySem.W.typeIn K (.ref fIN) = some (.type "function"))
    (aNJ : PySem.W.nsIn K mainGlobals "NoJoint" = some (some (.ref NJ)))
    (xgJ : PySem.W.findIn K (.ref NJ) "__getattribute__" = some (some (.builtin "BaseException.__getattribute__")))
    (xkJ : PySem.W.findIn K (.ref NJ) "__getattr__" = some none)
    (xsJ : PySem.W.subIn K (.ref NJ) (.type "BaseException") = some true)
    (xhJ : PySem.W.hasDictIn K NJ = true)
    (xaJ : PySem.W.findIn K (.ref NJ) "__class__" = some (some (.builtin "object.__class__")))
    (xmJ : PySem.W.mroIn K NJ (.type "object") = some true)
    (xqJ : PySem.W.excInitIn K NJ He.veBase "ValueError.__new__" = true)
    (xrJ : ((PySem.W.clsIn K NJ).any fun cd => PySem.HandSPX.refsVE cd.mro.tail) = true)
    (saJ : PySem.W.findIn K (.ref NJ) "__setattr__" = some (some (.builtin "object.__setattr__")))
    (xtJ : PySem.W.typeIn K (.ref NJ) = some (.type "type"))
    (xeJ : PySem.W.keepIn K (.ref NJ) = true)
    (xnJ : PySem.W.findIn K (.ref NJ) "joint" = some none)
    (iNJ : PySem.W.findIn K (.ref NJ) "__init__" = some (some (.ref fIJ)))
    (tNJ : PySem.W.typeIn K (.ref fIJ) = some (.type "function"))
    (aWb : PySem.W.nsIn K mainGlobals "WebError" = some (some (.ref Wb)))
    (n_VE : PySem.W.nsIn K mainGlobals "ValueError" = some none)
    (fNW : PySem.W.kitOne K (.ref NE) (.ref Wb) = some true)
    (fNJ : PySem.W.kitOne K (.ref NE) (.ref NJ) = some false)
    (fJV : PySem.W.kitOne K (.ref NJ) (.type "ValueError") = some true)
    (fJN : PySem.W.kitOne K (.ref NJ) (.ref NE) = some false)
    (mNN : PySem.W.exmOne K (.ref NE) (.ref NE) = some true)
    (mJN : PySem.W.exmOne K (.ref NJ) (.ref NE) = some false)
    (mJJ : PySem.W.exmOne K (.ref NJ) (.ref NJ) = some true)
    (FnNi : Fun K "__init__" "NoEar.__init__" ((inClass (top 17) 0)) fIN fdNi)
    (FnJi : Fun K "__init__" "NoJoint.__init__" ((inClass (top 15) 0)) fIJ fdJi)
    (aFr : PySem.W.findIn K (.ref CW) "forth" = some (some (.ref fFr)))
    (iFr : PySem.W.isFn K (.ref fFr) = true)
    (FnFr : Fun K "forth" "Web.forth" ((inClass (top 62) 14)) fFr fdFr)
    (aBk : PySem.W.findIn K (.ref CW) "backs" = some (some (.ref fBk)))
    (iBk : PySem.W.isFn K (.ref fBk) = true)
    (FnBk : Fun K "backs" "Web.backs" ((inClass (top 62) 15)) fBk fdBk)
    (aArr : PySem.W.findIn K (.ref CW) "_arriving" = some (some (.ref fArr)))
    (iArr : PySem.W.isFn K (.ref fArr) = true)
    (FnArr : Fun K "_arriving" "Web._arriving" ((inClass (top 62) 17)) fArr fdArr)
    (aTk : PySem.W.findIn K (.ref CW) "tick" = some (some (.ref fTk)))
    (iTk : PySem.W.isFn K (.ref fTk) = true)
    (FnTk : Fun K "tick" "Web.tick" ((inClass (top 62) 9)) fTk fdTk)
    (aRe : PySem.W.findIn K (.ref CW) "rest" = some (some (.ref fRe)))
    (iRe : PySem.W.isFn K (.ref fRe) = true)
    (FnRe : Fun K "rest" "Player.rest" ((inClass (top 60) 1)) fRe fdRe)
    (neW : CW ≠ A.C)
    (a_init : PySem.W.findIn K (.ref A.C) "__init__" = some (some (.ref A.init)))
    (i_init : PySem.W.isFn K (.ref A.init) = true)
    (FnI : FunD K "__init__" "Frac.__init__" (defArgs sInit) (defBody sInit) (defScope sInit) [.int 0, .int 1] [] A.init fd_init)
    (a_add : PySem.W.findIn K (.ref A.C) "__add__" = some (some (.ref A.add)))
    (i_add : PySem.W.isFn K (.ref A.add) = true)
    (Fn_add : Fun K "__add__" "Frac.__add__" (sAdd) A.add fd_add)
    (a_radd : PySem.W.findIn K (.ref A.C) "__radd__" = some (some (.ref A.radd)))
    (i_radd : PySem.W.isFn K (.ref A.radd) = true)
    (Fn_radd : Fun K "__radd__" "Frac.__radd__" (sRadd) A.radd fd_radd)
    (a_sub : PySem.W.findIn K (.ref A.C) "__sub__" = some (some (.ref A.sub)))
    (i_sub : PySem.W.isFn K (.ref A.sub) = true)
    (Fn_sub : Fun K "__sub__" "Frac.__sub__" (sSub) A.sub fd_sub)
    (a_rsub : PySem.W.findIn K (.ref A.C) "__rsub__" = some (some (.ref A.rsub)))
    (i_rsub : PySem.W.isFn K (.ref A.rsub) = true)
    (Fn_rsub : Fun K "__rsub__" "Frac.__rsub__" (sRsub) A.rsub fd_rsub)
    (a_mul : PySem.W.findIn K (.ref A.C) "__mul__" = some (some (.ref A.mul)))
    (i_mul : PySem.W.isFn K (.ref A.mul) = true)
    (Fn_mul : Fun K "__mul__" "Frac.__mul__" (sMul) A.mul fd_mul)
    (a_rmul : PySem.W.findIn K (.ref A.C) "__rmul__" = some (some (.ref A.rmul)))
    (i_rmul : PySem.W.isFn K (.ref A.rmul) = true)
    (Fn_rmul : Fun K "__rmul__" "Frac.__rmul__" (sRmul) A.rmul fd_rmul)
    (a_flo : PySem.W.findIn K (.ref A.C) "__floordiv__" = some (some (.ref A.flo)))
    (i_flo : PySem.W.isFn K (.ref A.flo) = true)
    (Fn_flo : Fun K "__floordiv__" "Frac.__floordiv__" (sFlo) A.flo fd_flo)
    (a_rflo : PySem.W.findIn K (.ref A.C) "__rfloordiv__" = some (some (.ref A.rflo)))
    (i_rflo : PySem.W.isFn K (.ref A.rflo) = true)
    (Fn_rflo : Fun K "__rfloordiv__" "Frac.__rfloordiv__" (sRflo) A.rflo fd_rflo)
    (a_mod : PySem.W.findIn K (.ref A.C) "__mod__" = some (some (.ref A.mod)))
    (i_mod : PySem.W.isFn K (.ref A.mod) = true)
    (Fn_mod : Fun K "__mod__" "Frac.__mod__" (sMod) A.mod fd_mod)
    (a_rmod : PySem.W.findIn K (.ref A.C) "__rmod__" = some (some (.ref A.rmod)))
    (i_rmod : PySem.W.isFn K (.ref A.rmod) = true)
    (Fn_rmod : Fun K "__rmod__" "Frac.__rmod__" (sRmod) A.rmod fd_rmod)
    (a_pow : PySem.W.findIn K (.ref A.C) "__pow__" = some (some (.ref A.pow)))
    (i_pow : PySem.W.isFn K (.ref A.pow) = true)
    (Fn_pow : Fun K "__pow__" "Frac.__pow__" (sPow) A.pow fd_pow)
    (a_neg : PySem.W.findIn K (.ref A.C) "__neg__" = some (some (.ref A.neg)))
    (i_neg : PySem.W.isFn K (.ref A.neg) = true)
    (Fn_neg : Fun K "__neg__" "Frac.__neg__" (sNeg) A.neg fd_neg)
    (a_abs : PySem.W.findIn K (.ref A.C) "__abs__" = some (some (.ref A.abs)))
    (i_abs : PySem.W.isFn K (.ref A.abs) = true)
    (Fn_abs : Fun K "__abs__" "Frac.__abs__" (sAbs) A.abs fd_abs)
    (a_bool : PySem.W.findIn K (.ref A.C) "__bool__" = some (some (.ref A.bool)))
    (i_bool : PySem.W.isFn K (.ref A.bool) = true)
    (Fn_bool : Fun K "__bool__" "Frac.__bool__" (sBool) A.bool fd_bool)
    (a_eq : PySem.W.findIn K (.ref A.C) "__eq__" = some (some (.ref A.eq)))
    (i_eq : PySem.W.isFn K (.ref A.eq) = true)
    (Fn_eq : Fun K "__eq__" "Frac.__eq__" (sEq) A.eq fd_eq)
    (a_lt : PySem.W.findIn K (.ref A.C) "__lt__" = some (some (.ref A.lt)))
    (i_lt : PySem.W.isFn K (.ref A.lt) = true)
    (Fn_lt : Fun K "__lt__" "Frac.__lt__" (sLt) A.lt fd_lt)
    (a_le : PySem.W.findIn K (.ref A.C) "__le__" = some (some (.ref A.le)))
    (i_le : PySem.W.isFn K (.ref A.le) = true)
    (Fn_le : Fun K "__le__" "Frac.__le__" (sLe) A.le fd_le)
    (a_gt : PySem.W.findIn K (.ref A.C) "__gt__" = some (some (.ref A.gt)))
    (i_gt : PySem.W.isFn K (.ref A.gt) = true)
    (Fn_gt : Fun K "__gt__" "Frac.__gt__" (sGt) A.gt fd_gt)
    (a_ge : PySem.W.findIn K (.ref A.C) "__ge__" = some (some (.ref A.ge)))
    (i_ge : PySem.W.isFn K (.ref A.ge) = true)
    (Fn_ge : Fun K "__ge__" "Frac.__ge__" (sGe) A.ge fd_ge)
    (a_str : PySem.W.findIn K (.ref A.C) "__str__" = some (some (.ref A.str)))
    (i_str : PySem.W.isFn K (.ref A.str) = true)
    (Fn_str : Fun K "__str__" "Frac.__str__" (sStr) A.str fd_str)
    (a_over : PySem.W.findIn K (.ref A.C) "over" = some (some (.ref A.over)))
    (i_over : PySem.W.isFn K (.ref A.over) = true)
    (Fn_over : Fun K "over" "Frac.over" (sOver) A.over fd_over)
    (a_of_ : PySem.W.findCls K (.ref A.C) (.type "type") "of" = some (.get (.builtin "staticmethod.__get__") (.ref A.pOf) .none (.ref A.C)))
    (r_of_ : PySem.W.recIn K A.pOf "staticmethod" = some (.ref A.of_ :: rest_of_))
    (Fn_of_ : Fun K "of" "Frac.of" (sOf) A.of_ fd_of_)
    (a_isnum : PySem.W.nsIn K mainGlobals "is_number" = some (some (.ref A.isnum)))
    (Fn_isnum : Fun K "is_number" "is_number" (sIsNum) A.isnum fd_isnum)
    (a_wq : PySem.W.nsIn K mainGlobals "_whole_quotient" = some (some (.ref A.wq)))
    (Fn_wq : Fun K "_whole_quotient" "_whole_quotient" (sWq) A.wq fd_wq)
    (aCc_ : PySem.W.nsIn K mainGlobals "check_count" = some (some (.ref fCc_)))
    (FnCc_ : Fun K "check_count" "check_count" ((top 21)) fCc_ fdCc_)
    (aCs_ : PySem.W.nsIn K mainGlobals "check_size" = some (some (.ref fCs_)))
    (FnCs_ : Fun K "check_size" "check_size" ((top 22)) fCs_ fdCs_)
    (aCl_ : PySem.W.nsIn K mainGlobals "check_length" = some (some (.ref fCl_)))
    (FnCl_ : Fun K "check_length" "check_length" ((top 23)) fCl_ fdCl_)
    (aCk_ : PySem.W.nsIn K mainGlobals "check_kind" = some (some (.ref fCk_)))
    (FnCk_ : Fun K "check_kind" "check_kind" ((top 24)) fCk_ fdCk_)
    (aCg_ : PySem.W.nsIn K mainGlobals "check_strength" = some (some (.ref fCg_)))
    (FnCg_ : Fun K "check_strength" "check_strength" ((top 25)) fCg_ fdCg_)
    (aCr_ : PySem.W.nsIn K mainGlobals "check_rod_length" = some (some (.ref fCr_)))
    (FnCr_ : Fun K "check_rod_length" "check_rod_length" ((top 26)) fCr_ fdCr_)
    (aCt_ : PySem.W.nsIn K mainGlobals "check_twist" = some (some (.ref fCt_)))
    (FnCt_ : Fun K "check_twist" "check_twist" ((top 27)) fCt_ fdCt_)
    (aCj_ : PySem.W.nsIn K mainGlobals "check_joint" = some (some (.ref fCj_)))
    (FnCj_ : Fun K "check_joint" "check_joint" ((top 28)) fCj_ fdCj_)
    (aCo_ : PySem.W.nsIn K mainGlobals "check_rod" = some (some (.ref fCo_)))
    (FnCo_ : Fun K "check_rod" "check_rod" ((top 29)) fCo_ fdCo_)
    (aFo_ : PySem.W.nsIn K mainGlobals "fracs_of" = some (some (.ref fFo_)))
    (FnFo_ : Fun K "fracs_of" "fracs_of" ((top 41)) fFo_ fdFo_)
    (aSh_ : PySem.W.nsIn K mainGlobals "shared" = some (some (.ref fSh_)))
    (FnSh_ : Fun K "shared" "shared" ((top 42)) fSh_ fdSh_)
    (aDo_ : PySem.W.nsIn K mainGlobals "dot" = some (some (.ref fDo_)))
    (FnDo_ : Fun K "dot" "dot" ((top 43)) fDo_ fdDo_)
    (aTo_ : PySem.W.nsIn K mainGlobals "_total" = some (some (.ref fTo_)))
    (FnTo_ : Fun K "_total" "_total" ((top 58)) fTo_ fdTo_)
    (aCa_ : PySem.W.nsIn K mainGlobals "_check_joint_arms" = some (some (.ref fCa_)))
    (FnCa_ : Fun K "_check_joint_arms" "_check_joint_arms" ((top 56)) fCa_ fdCa_)
    (aCn_ : PySem.W.nsIn K mainGlobals "_common_number" = some (some (.ref fCn_)))
    (FnCn_ : Fun K "_common_number" "_common_number" ((top 57)) fCn_ fdCn_)
    (aSc_ : PySem.W.nsIn K mainGlobals "scatter" = some (some (.ref fSc_)))
    (FnSc_ : Fun K "scatter" "scatter" ((top 55)) fSc_ fdSc_)
    (aRt_ : PySem.W.nsIn K mainGlobals "rod_with_twist" = some (some (.ref fRt_)))
    (FnRt_ : Fun K "rod_with_twist" "rod_with_twist" ((top 63)) fRt_ fdRt_)
    (aCc2_ : PySem.W.nsIn K mainGlobals "cell_count" = some (some (.ref fCc2_)))
    (FnCc2_ : Fun K "cell_count" "cell_count" ((top 64)) fCc2_ fdCc2_)
    (aCce_ : PySem.W.nsIn K mainGlobals "check_cells" = some (some (.ref fCce_)))
    (FnCce_ : Fun K "check_cells" "check_cells" ((top 65)) fCce_ fdCce_)
    (aCjs_ : PySem.W.nsIn K mainGlobals "_check_joints" = some (some (.ref fCjs_)))
    (FnCjs_ : Fun K "_check_joints" "_check_joints" ((top 66)) fCjs_ fdCjs_)
    (aCrs_ : PySem.W.nsIn K mainGlobals "_check_rods" = some (some (.ref fCrs_)))
    (FnCrs_ : Fun K "_check_rods" "_check_rods" ((top 67)) fCrs_ fdCrs_)
    (aCes_ : PySem.W.nsIn K mainGlobals "_check_ears" = some (some (.ref fCes_)))
    (FnCes_ : Fun K "_check_ears" "_check_ears" ((top 68)) fCes_ fdCes_)
    (aCsg_ : PySem.W.nsIn K mainGlobals "_cell_strengths" = some (some (.ref fCsg_)))
    (FnCsg_ : Fun K "_cell_strengths" "_cell_strengths" ((top 69)) fCsg_ fdCsg_)
    (aAa_ : PySem.W.nsIn K mainGlobals "_arms_at" = some (some (.ref fAa_)))
    (FnAa_ : Fun K "_arms_at" "_arms_at" ((top 70)) fAa_ fdAa_)
    (aAs_ : PySem.W.nsIn K mainGlobals "_arm_strength" = some (some (.ref fAs_)))
    (FnAs_ : Fun K "_arm_strength" "_arm_strength" ((top 71)) fAs_ fdAs_)
    (aLl_ : PySem.W.nsIn K mainGlobals "_law_low" = some (some (.ref fLl_)))
    (FnLl_ : Fun K "_law_low" "_law_low" ((top 79)) fLl_ fdLl_)
    (aLi_ : PySem.W.nsIn K mainGlobals "_law_int" = some (some (.ref fLi_)))
    (FnLi_ : Fun K "_law_int" "_law_int" ((top 84)) fLi_ fdLi_)
    (aLr_ : PySem.W.nsIn K mainGlobals "_law_read" = some (some (.ref fLr_)))
    (FnLr_ : Fun K "_law_read" "_law_read" ((top 85)) fLr_ fdLr_)
    (aLg_ : PySem.W.nsIn K mainGlobals "_law_give" = some (some (.ref fLg_)))
    (FnLg_ : Fun K "_law_give" "_law_give" ((top 87)) fLg_ fdLg_)
    (aLd_ : PySem.W.nsIn K mainGlobals "_law_digit" = some (some (.ref fLd_)))
    (FnLd_ : Fun K "_law_digit" "_law_digit" ((top 78)) fLd_ fdLd_)
    (aLpo_ : PySem.W.nsIn K mainGlobals "_law_pool" = some (some (.ref fLpo_)))
    (FnLpo_ : Fun K "_law_pool" "_law_pool" ((top 77)) fLpo_ fdLpo_)
    (aLpw_ : PySem.W.nsIn K mainGlobals "_law_power" = some (some (.ref fLpw_)))
    (FnLpw_ : Fun K "_law_power" "_law_power" ((top 88)) fLpw_ fdLpw_)
    (aLw_ : PySem.W.nsIn K mainGlobals "_law_web" = some (some (.ref fLw_)))
    (FnLw_ : Fun K "_law_web" "_law_web" ((top 89)) fLw_ fdLw_)
    (aLma_ : PySem.W.nsIn K mainGlobals "_law_made" = some (some (.ref fLma_)))
    (FnLma_ : Fun K "_law_made" "_law_made" ((top 90)) fLma_ fdLma_)
    (aHk_ : PySem.W.nsIn K mainGlobals "_heard_of_knock" = some (some (.ref fHk_)))
    (FnHk_ : Fun K "_heard_of_knock" "_heard_of_knock" ((top 75)) fHk_ fdHk_)
    (aCer_ : PySem.W.nsIn K mainGlobals "check_ear" = some (some (.ref fCer_)))
    (FnCer_ : Fun K "check_ear" "check_ear" ((top 30)) fCer_ fdCer_)
    (aEo_ : PySem.W.nsIn K mainGlobals "echo" = some (some (.ref fEo_)))
    (FnEo_ : FunD K "echo" "echo" (defArgs (top 74)) (defBody (top 74)) (defScope (top 74)) [] [("heard", V.int 0), ("knocked", V.int 0)] fEo_ fdEo_)
    (aLsr_ : PySem.W.nsIn K mainGlobals "_lesser" = some (some (.ref fLsr_)))
    (FnLsr_ : Fun K "_lesser" "_lesser" ((top 36)) fLsr_ fdLsr_)
    (aJo_ : PySem.W.nsIn K mainGlobals "_joint_of" = some (some (.ref fJo_)))
    (FnJo_ : Fun K "_joint_of" "_joint_of" ((top 34)) fJo_ fdJo_)
    (aLw2_ : PySem.W.nsIn K mainGlobals "_least_walks" = some (some (.ref fLw2_)))
    (FnLw2_ : Fun K "_least_walks" "_least_walks" ((top 35)) fLw2_ fdLw2_)
    (aLto_ : PySem.W.nsIn K mainGlobals "_law_told" = some (some (.ref fLto_)))
    (FnLto_ : Fun K "_law_told" "_law_told" ((top 93)) fLto_ fdLto_)
    (aLfr_ : PySem.W.nsIn K mainGlobals "_law_far" = some (some (.ref fLfr_)))
    (FnLfr_ : Fun K "_law_far" "_law_far" ((top 91)) fLfr_ fdLfr_)
    (aDi_ : PySem.W.nsIn K mainGlobals "distances" = some (some (.ref fDi_)))
    (FnDi_ : Fun K "distances" "distances" ((top 32)) fDi_ fdDi_)
    (aEd_ : PySem.W.nsIn K mainGlobals "ear_distance" = some (some (.ref fEd_)))
    (FnEd_ : Fun K "ear_distance" "ear_distance" ((top 33)) fEd_ fdEd_)
    (aLft_ : PySem.W.nsIn K mainGlobals "_law_first" = some (some (.ref fLft_)))
    (FnLft_ : Fun K "_law_first" "_law_first" ((top 95)) fLft_ fdLft_)
    (aLsm_ : PySem.W.nsIn K mainGlobals "_law_same" = some (some (.ref fLsm_)))
    (FnLsm_ : Fun K "_law_same" "_law_same" ((top 92)) fLsm_ fdLsm_)
    (aLrf_ : PySem.W.nsIn K mainGlobals "_law_refused" = some (some (.ref fLrf_)))
    (FnLrf_ : Fun K "_law_refused" "_law_refused" ((top 94)) fLrf_ fdLrf_)
    (aLa_ : PySem.W.nsIn K mainGlobals "law" = some (some (.ref fLa_)))
    (FnLa_ : Fun K "law" "law" ((top 96)) fLa_ fdLa_) :
    ∃ fd : FuncData, (∀ (s : Shared) (v : Value), BindsTo s fd ⟨[v], []⟩ [("script", v)]) ∧ ∀ base : Heap, K.In base → base.Ns mainGlobals mg → FnOk l.prog w K mg base (L2.CX l.prog w) 13 fa fd ["script"] (spLa K) := by
  have e := hfa.symm.trans (PySem.W.mg_of X G aLa_)
  cases e
  have g : ∀ {x : Str} {v : Value}, PySem.W.nsIn K mainGlobals x = some (some v) → mg x = some v := fun q => PySem.W.mg_of X G q
  have gn : ∀ {x : Str}, PySem.W.nsIn K mainGlobals x = some none → mg x = none := fun q => PySem.W.mg_none_of X G q
  have T : FT K mg A := { cl := ⟨pg, hd, po, sa⟩, nN := nN, nD := nD, mgC := g aC, gcd := g agcd, gZ := g aZ, xZ := xZ, kZ := xeZ, bZ := xsZ, tZ := xtZ, isi := gn n_isinstance, int0 := gn n_int, ca := ca, cg := cg, ct := ct, cm := cm, isC := isC, tC := tC, sub1 := su1, sub2 := su2, sf := sf, gIs := g a_isnum, gWq := g a_wq }
  have S : StF K A := ⟨⟨rdC, gaC⟩, ⟨a_of_, ⟨_, r_of_⟩, Fn_of_.kp⟩⟩
  have Badd : BinF K A.C A.add .Add := ⟨sf, by rw [d_add]; exact a_add, i_add, ⟨some (.ref A.radd), by rw [dr_add]; exact a_radd, .inr ⟨_, rfl⟩⟩, ⟨_, by rw [d_add]; exact i1add⟩, ⟨_, by rw [dr_add]; exact i2add⟩, su2⟩
  have Bsub : BinF K A.C A.sub .Sub := ⟨sf, by rw [d_sub]; exact a_sub, i_sub, ⟨some (.ref A.rsub), by rw [dr_sub]; exact a_rsub, .inr ⟨_, rfl⟩⟩, ⟨_, by rw [d_sub]; exact i1sub⟩, ⟨_, by rw [dr_sub]; exact i2sub⟩, su2⟩
  have Bmul : BinF K A.C A.mul .Mult := ⟨sf, by rw [d_mul]; exact a_mul, i_mul, ⟨some (.ref A.rmul), by rw [dr_mul]; exact a_rmul, .inr ⟨_, rfl⟩⟩, ⟨_, by rw [d_mul]; exact i1mul⟩, ⟨_, by rw [dr_mul]; exact i2mul⟩, su2⟩
  have Bflo : BinF K A.C A.flo .FloorDiv := ⟨sf, by rw [d_flo]; exact a_flo, i_flo, ⟨some (.ref A.rflo), by rw [dr_flo]; exact a_rflo, .inr ⟨_, rfl⟩⟩, ⟨_, by rw [d_flo]; exact i1flo⟩, ⟨_, by rw [dr_flo]; exact i2flo⟩, su2⟩
  have Bmod : BinF K A.C A.mod .Mod := ⟨sf, by rw [d_mod]; exact a_mod, i_mod, ⟨some (.ref A.rmod), by rw [dr_mod]; exact a_rmod, .inr ⟨_, rfl⟩⟩, ⟨_, by rw [d_mod]; exact i1mod⟩, ⟨_, by rw [dr_mod]; exact i2mod⟩, su2⟩
  have Bpow : BinF K A.C A.pow .Pow := ⟨sf, by rw [d_pow]; exact a_pow, i_pow, ⟨none, by rw [dr_pow]; exact rpw, .inl rfl⟩, ⟨_, by rw [d_pow]; exact i1pow⟩, ⟨_, by rw [dr_pow]; exact i2pow⟩, su2⟩
  have Radd : RefF K A.C A.radd .Add := ⟨sf, ⟨_, by rw [d_add]; exact a_add⟩, by rw [dr_add]; exact a_radd, i_radd, su1⟩
  have Rsub : RefF K A.C A.rsub .Sub := ⟨sf, ⟨_, by rw [d_sub]; exact a_sub⟩, by rw [dr_sub]; exact a_rsub, i_rsub, su1⟩
  have Rmul : RefF K A.C A.rmul .Mult := ⟨sf, ⟨_, by rw [d_mul]; exact a_mul⟩, by rw [dr_mul]; exact a_rmul, i_rmul, su1⟩
  have Rflo : RefF K A.C A.rflo .FloorDiv := ⟨sf, ⟨_, by rw [d_flo]; exact a_flo⟩, by rw [dr_flo]; exact a_rflo, i_rflo, su1⟩
  have Rmod : RefF K A.C A.rmod .Mod := ⟨sf, ⟨_, by rw [d_mod]; exact a_mod⟩, by rw [dr_mod]; exact a_rmod, i_rmod, su1⟩
  have Keq : CmpF K A.C A.eq "__eq__" := ⟨a_eq, i_eq, su2, su1⟩
  have Klt : CmpF K A.C A.lt "__lt__" := ⟨a_lt, i_lt, su2, su1⟩
  have Kle : CmpF K A.C A.le "__le__" := ⟨a_le, i_le, su2, su1⟩
  have Kgt : CmpF K A.C A.gt "__gt__" := ⟨a_gt, i_gt, su2, su1⟩
  have Kge : CmpF K A.C A.ge "__ge__" := ⟨a_ge, i_ge, su2, su1⟩
  have Uneg : UnF K A.C A.neg "__neg__" := ⟨a_neg, i_neg⟩
  have Uabs : UnF K A.C A.abs "__abs__" := ⟨a_abs, i_abs⟩
  have Ubool : UnF K A.C A.bool "__bool__" := ⟨a_bool, i_bool⟩
  have Ustr : UnF K A.C A.str "__str__" := ⟨a_str, i_str⟩
  have k_add := Fn_add.kp
  have Bn_add := Fn_add.binds (ps := ["self", "other"]) fun _ _ _ _ _ _ us hl => match us, hl with | [_, _], _ => rfl
  have k_radd := Fn_radd.kp
  have Bn_radd := Fn_radd.binds (ps := ["self", "other"]) fun _ _ _ _ _ _ us hl => match us, hl with | [_, _], _ => rfl
  have k_sub := Fn_sub.kp
  have Bn_sub := Fn_sub.binds (ps := ["self", "other"]) fun _ _ _ _ _ _ us hl => match us, hl with | [_, _], _ => rfl
  have k_rsub := Fn_rsub.kp
  have Bn_rsub := Fn_rsub.binds (ps := ["self", "other"]) fun _ _ _ _ _ _ us hl => match us, hl with | [_, _], _ => rfl
  have k_mul := Fn_mul.kp
  have Bn_mul := Fn_mul.binds (ps := ["self", "other"]) fun _ _ _ _ _ _ us hl => match us, hl with | [_, _], _ => rfl
  have k_rmul := Fn_rmul.kp
  have Bn_rmul := Fn_rmul.binds (ps := ["self", "other"]) fun _ _ _ _ _ _ us hl => match us, hl with | [_, _], _ => rfl
  have k_flo := Fn_flo.kp
  have Bn_flo := Fn_flo.binds (ps := ["self", "other"]) fun _ _ _ _ _ _ us hl => match us, hl with | [_, _], _ => rfl
  have k_rflo := Fn_rflo.kp
  have Bn_rflo := Fn_rflo.binds (ps := ["self", "other"]) fun _ _ _ _ _ _ us hl => match us, hl with | [_, _], _ => rfl
  have k_mod := Fn_mod.kp
  have Bn_mod := Fn_mod.binds (ps := ["self", "other"]) fun _ _ _ _ _ _ us hl => match us, hl with | [_, _], _ => rfl
  have k_rmod := Fn_rmod.kp
  have Bn_rmod := Fn_rmod.binds (ps := ["self", "other"]) fun _ _ _ _ _ _ us hl => match us, hl with | [_, _], _ => rfl
  have k_pow := Fn_pow.kp
  have Bn_pow := Fn_pow.binds (ps := ["self", "other"]) fun _ _ _ _ _ _ us hl => match us, hl with | [_, _], _ => rfl
  have k_neg := Fn_neg.kp
  have Bn_neg := Fn_neg.binds (ps := ["self"]) fun _ _ _ _ _ _ us hl => match us, hl with | [_], _ => rfl
  have k_abs := Fn_abs.kp
  have Bn_abs := Fn_abs.binds (ps := ["self"]) fun _ _ _ _ _ _ us hl => match us, hl with | [_], _ => rfl
  have k_bool := Fn_bool.kp
  have Bn_bool := Fn_bool.binds (ps := ["self"]) fun _ _ _ _ _ _ us hl => match us, hl with | [_], _ => rfl
  have k_eq := Fn_eq.kp
  have Bn_eq := Fn_eq.binds (ps := ["self", "other"]) fun _ _ _ _ _ _ us hl => match us, hl with | [_, _], _ => rfl
  have k_lt := Fn_lt.kp
  have Bn_lt := Fn_lt.binds (ps := ["self", "other"]) fun _ _ _ _ _ _ us hl => match us, hl with | [_, _], _ => rfl
  have k_le := Fn_le.kp
  have Bn_le := Fn_le.binds (ps := ["self", "other"]) fun _ _ _ _ _ _ us hl => match us, hl with | [_, _], _ => rfl
  have k_gt := Fn_gt.kp
  have Bn_gt := Fn_gt.binds (ps := ["self", "other"]) fun _ _ _ _ _ _ us hl => match us, hl with | [_, _], _ => rfl
  have k_ge := Fn_ge.kp
  have Bn_ge := Fn_ge.binds (ps := ["self", "other"]) fun _ _ _ _ _ _ us hl => match us, hl with | [_, _], _ => rfl
  have k_str := Fn_str.kp
  have Bn_str := Fn_str.binds (ps := ["self"]) fun _ _ _ _ _ _ us hl => match us, hl with | [_], _ => rfl
  have k_over := Fn_over.kp
  have Bn_over := Fn_over.binds (ps := ["self", "b"]) fun _ _ _ _ _ _ us hl => match us, hl with | [_, _], _ => rfl
  have k_of_ := Fn_of_.kp
  have Bn_of_ := Fn_of_.binds (ps := ["value"]) fun _ _ _ _ _ _ us hl => match us, hl with | [_], _ => rfl
  have k_isnum := Fn_isnum.kp
  have Bn_isnum := Fn_isnum.binds (ps := ["value"]) fun _ _ _ _ _ _ us hl => match us, hl with | [_], _ => rfl
  have k_wq := Fn_wq.kp
  have Bn_wq := Fn_wq.binds (ps := ["first", "second"]) fun _ _ _ _ _ _ us hl => match us, hl with | [_, _], _ => rfl
  have kCc_ := FnCc_.kp
  have BnCc_ := FnCc_.binds (ps := ["count", "low", "high"]) fun _ _ _ _ _ _ us hl => match us, hl with | [_, _, _], _ => rfl
  have kCs_ := FnCs_.kp
  have BnCs_ := FnCs_.binds (ps := ["size", "most"]) fun _ _ _ _ _ _ us hl => match us, hl with | [_, _], _ => rfl
  have kCl_ := FnCl_.kp
  have BnCl_ := FnCl_.binds (ps := ["numbers", "wanted"]) fun _ _ _ _ _ _ us hl => match us, hl with | [_, _], _ => rfl
  have kCk_ := FnCk_.kp
  have BnCk_ := FnCk_.binds (ps := ["kind"]) fun _ _ _ _ _ _ us hl => match us, hl with | [_], _ => rfl
  have kCg_ := FnCg_.kp
  have BnCg_ := FnCg_.binds (ps := ["strength"]) fun _ _ _ _ _ _ us hl => match us, hl with | [_], _ => rfl
  have kCr_ := FnCr_.kp
  have BnCr_ := FnCr_.binds (ps := ["length"]) fun _ _ _ _ _ _ us hl => match us, hl with | [_], _ => rfl
  have kCt_ := FnCt_.kp
  have BnCt_ := FnCt_.binds (ps := ["twist"]) fun _ _ _ _ _ _ us hl => match us, hl with | [_], _ => rfl
  have kCj_ := FnCj_.kp
  have BnCj_ := FnCj_.binds (ps := ["joint", "count"]) fun _ _ _ _ _ _ us hl => match us, hl with | [_, _], _ => rfl
  have kCo_ := FnCo_.kp
  have BnCo_ := FnCo_.binds (ps := ["rod", "count"]) fun _ _ _ _ _ _ us hl => match us, hl with | [_, _], _ => rfl
  have kFo_ := FnFo_.kp
  have BnFo_ := FnFo_.binds (ps := ["numbers"]) fun _ _ _ _ _ _ us hl => match us, hl with | [_], _ => rfl
  have kSh_ := FnSh_.kp
  have BnSh_ := FnSh_.binds (ps := ["numbers"]) fun _ _ _ _ _ _ us hl => match us, hl with | [_], _ => rfl
  have kDo_ := FnDo_.kp
  have BnDo_ := FnDo_.binds (ps := ["first", "second"]) fun _ _ _ _ _ _ us hl => match us, hl with | [_, _], _ => rfl
  have kTo_ := FnTo_.kp
  have BnTo_ := FnTo_.binds (ps := ["numbers"]) fun _ _ _ _ _ _ us hl => match us, hl with | [_], _ => rfl
  have kCa_ := FnCa_.kp
  have BnCa_ := FnCa_.binds (ps := ["kind", "strengths", "arriving"]) fun _ _ _ _ _ _ us hl => match us, hl with | [_, _, _], _ => rfl
  have kCn_ := FnCn_.kp
  have BnCn_ := FnCn_.binds (ps := ["kind", "strengths", "arriving"]) fun _ _ _ _ _ _ us hl => match us, hl with | [_, _, _], _ => rfl
  have kSc_ := FnSc_.kp
  have BnSc_ := FnSc_.binds (ps := ["kind", "strengths", "arriving"]) fun _ _ _ _ _ _ us hl => match us, hl with | [_, _, _], _ => rfl
  have kRt_ := FnRt_.kp
  have BnRt_ := FnRt_.binds (ps := ["rod"]) fun _ _ _ _ _ _ us hl => match us, hl with | [_], _ => rfl
  have kCc2_ := FnCc2_.kp
  have BnCc2_ := FnCc2_.binds (ps := ["rods"]) fun _ _ _ _ _ _ us hl => match us, hl with | [_], _ => rfl
  have kCce_ := FnCce_.kp
  have BnCce_ := FnCce_.binds (ps := ["count"]) fun _ _ _ _ _ _ us hl => match us, hl with | [_], _ => rfl
  have kCjs_ := FnCjs_.kp
  have BnCjs_ := FnCjs_.binds (ps := ["joints"]) fun _ _ _ _ _ _ us hl => match us, hl with | [_], _ => rfl
  have kCrs_ := FnCrs_.kp
  have BnCrs_ := FnCrs_.binds (ps := ["rods", "joint_count"]) fun _ _ _ _ _ _ us hl => match us, hl with | [_, _], _ => rfl
  have kCes_ := FnCes_.kp
  have BnCes_ := FnCes_.binds (ps := ["ears", "joint_count"]) fun _ _ _ _ _ _ us hl => match us, hl with | [_, _], _ => rfl
  have kCsg_ := FnCsg_.kp
  have BnCsg_ := FnCsg_.binds (ps := ["rods"]) fun _ _ _ _ _ _ us hl => match us, hl with | [_], _ => rfl
  have kAa_ := FnAa_.kp
  have BnAa_ := FnAa_.binds (ps := ["web", "joint"]) fun _ _ _ _ _ _ us hl => match us, hl with | [_, _], _ => rfl
  have kAs_ := FnAs_.kp
  have BnAs_ := FnAs_.binds (ps := ["web", "arm"]) fun _ _ _ _ _ _ us hl => match us, hl with | [_, _], _ => rfl
  have kLl_ := FnLl_.kp
  have BnLl_ := FnLl_.binds (ps := ["top", "low"]) fun _ _ _ _ _ _ us hl => match us, hl with | [_, _], _ => rfl
  have kLi_ := FnLi_.kp
  have BnLi_ := FnLi_.binds (ps := ["x"]) fun _ _ _ _ _ _ us hl => match us, hl with | [_], _ => rfl
  have kLr_ := FnLr_.kp
  have BnLr_ := FnLr_.binds (ps := ["x"]) fun _ _ _ _ _ _ us hl => match us, hl with | [_], _ => rfl
  have kLg_ := FnLg_.kp
  have BnLg_ := FnLg_.binds (ps := ["pairs", "way"]) fun _ _ _ _ _ _ us hl => match us, hl with | [_, _], _ => rfl
  have kLd_ := FnLd_.kp
  have BnLd_ := FnLd_.binds (ps := ["pool", "many"]) fun _ _ _ _ _ _ us hl => match us, hl with | [_, _], _ => rfl
  have kLpo_ := FnLpo_.kp
  have BnLpo_ := FnLpo_.binds (ps := ["cells"]) fun _ _ _ _ _ _ us hl => match us, hl with | [_], _ => rfl
  have kLpw_ := FnLpw_.kp
  have BnLpw_ := FnLpw_.binds (ps := ["pool", "k"]) fun _ _ _ _ _ _ us hl => match us, hl with | [_, _], _ => rfl
  have kLw_ := FnLw_.kp
  have BnLw_ := FnLw_.binds (ps := ["pool", "most"]) fun _ _ _ _ _ _ us hl => match us, hl with | [_, _], _ => rfl
  have kLma_ := FnLma_.kp
  have BnLma_ := FnLma_.binds (ps := ["web", "way"]) fun _ _ _ _ _ _ us hl => match us, hl with | [_, _], _ => rfl
  have kHk_ := FnHk_.kp
  have BnHk_ := FnHk_.binds (ps := ["player", "count", "ear"]) fun _ _ _ _ _ _ us hl => match us, hl with | [_, _, _], _ => rfl
  have kCer_ := FnCer_.kp
  have BnCer_ := FnCer_.binds (ps := ["ear", "count"]) fun _ _ _ _ _ _ us hl => match us, hl with | [_, _], _ => rfl
  have kEo_ := FnEo_.kp
  have kLsr_ := FnLsr_.kp
  have BnLsr_ := FnLsr_.binds (ps := ["one", "other"]) fun _ _ _ _ _ _ us hl => match us, hl with | [_, _], _ => rfl
  have kJo_ := FnJo_.kp
  have BnJo_ := FnJo_.binds (ps := ["web", "ear"]) fun _ _ _ _ _ _ us hl => match us, hl with | [_, _], _ => rfl
  have kLw2_ := FnLw2_.kp
  have BnLw2_ := FnLw2_.binds (ps := ["web", "joint"]) fun _ _ _ _ _ _ us hl => match us, hl with | [_, _], _ => rfl
  have kLto_ := FnLto_.kp
  have BnLto_ := FnLto_.binds (ps := ["made", "one", "other", "way"]) fun _ _ _ _ _ _ us hl => match us, hl with | [_, _, _, _], _ => rfl
  have kLfr_ := FnLfr_.kp
  have BnLfr_ := FnLfr_.binds (ps := ["web", "joint"]) fun _ _ _ _ _ _ us hl => match us, hl with | [_, _], _ => rfl
  have kDi_ := FnDi_.kp
  have BnDi_ := FnDi_.binds (ps := ["web", "joint"]) fun _ _ _ _ _ _ us hl => match us, hl with | [_, _], _ => rfl
  have kEd_ := FnEd_.kp
  have BnEd_ := FnEd_.binds (ps := ["web", "first", "second"]) fun _ _ _ _ _ _ us hl => match us, hl with | [_, _, _], _ => rfl
  have kLft_ := FnLft_.kp
  have BnLft_ := FnLft_.binds (ps := ["made", "a", "b", "due"]) fun _ _ _ _ _ _ us hl => match us, hl with | [_, _, _, _], _ => rfl
  have kLsm_ := FnLsm_.kp
  have BnLsm_ := FnLsm_.binds (ps := ["told", "due"]) fun _ _ _ _ _ _ us hl => match us, hl with | [_, _], _ => rfl
  have kLrf_ := FnLrf_.kp
  have BnLrf_ := FnLrf_.binds (ps := ["pool", "made", "tips", "many"]) fun _ _ _ _ _ _ us hl => match us, hl with | [_, _, _, _], _ => rfl
  have kLa_ := FnLa_.kp
  have kPi := FnPi.kp
  have BnPi := FnPi.binds (ps := ["self", "cells", "strengths"]) fun _ _ _ _ _ _ us hl => match us, hl with | [_, _, _], _ => rfl
  have kNi := FnNi.kp
  have BnNi := FnNi.binds (ps := ["self", "ear"]) fun _ _ _ _ _ _ us hl => match us, hl with | [_, _], _ => rfl
  have kJi := FnJi.kp
  have BnJi := FnJi.binds (ps := ["self", "joint"]) fun _ _ _ _ _ _ us hl => match us, hl with | [_, _], _ => rfl
  have kFr := FnFr.kp
  have BnFr := FnFr.binds (ps := ["self", "state", "rod"]) fun _ _ _ _ _ _ us hl => match us, hl with | [_, _, _], _ => rfl
  have kBk := FnBk.kp
  have BnBk := FnBk.binds (ps := ["self", "state", "rod"]) fun _ _ _ _ _ _ us hl => match us, hl with | [_, _, _], _ => rfl
  have kArr := FnArr.kp
  have BnArr := FnArr.binds (ps := ["self", "state", "knocks"]) fun _ _ _ _ _ _ us hl => match us, hl with | [_, _, _], _ => rfl
  have kTk := FnTk.kp
  have BnTk := FnTk.binds (ps := ["self", "state", "knocks"]) fun _ _ _ _ _ _ us hl => match us, hl with | [_, _, _], _ => rfl
  have kRe := FnRe.kp
  have BnRe := FnRe.binds (ps := ["self"]) fun _ _ _ _ _ _ us hl => match us, hl with | [_], _ => rfl
  have k_init := FnI.kp
  have kWi := FnW.kp
  refine ⟨fdLa_, fun s v => by
    obtain ⟨_, _, _, _, _, _, _, _, _, rfl, _, _⟩ := FnLa_.ex
    exact .of_eq rfl, fun base _ _ => ?_⟩
  have M : MkF l.prog w K mg base A := mkF FnI ⟨mk, a_init, i_init, kc⟩ T
  obtain ⟨dsW, vW, BnW⟩ := FnW.binds1 (ps := ["self", "joints", "rods", "ears"]) 4 3 (by simp) rfl fun T kV doc pm an cdv ct us its l1 l2 => match us, its, l1, l2 with | [_, _, _, _], [_, _, _], _, _ => ⟨_, rfl, rfl⟩
  cases vW
  have c_isnumC : Cal l.prog w K mg base 1 A.isnum ["value"] (spIsNum A) := ⟨⟨_, ok_isnum Fn_isnum T, Bn_isnum⟩, k_isnum⟩
  have c_wqC : Cal l.prog w K mg base 1 A.wq ["first", "second"] (spWq A) := ⟨⟨_, ok_wq Fn_wq T, Bn_wq⟩, k_wq⟩
  have c_of_C : Cal l.prog w K mg base 3 A.of_ ["value"] (spOf A) := ⟨⟨_, ok_of Fn_of_ T M, Bn_of_⟩, k_of_⟩
  have c_addC : Cal l.prog w K mg base 3 A.add ["self", "other"] (spB A fadd) := ⟨⟨_, ok_add Fn_add T M c_isnumC, Bn_add⟩, k_add⟩
  have c_subC : Cal l.prog w K mg base 3 A.sub ["self", "other"] (spB A fsub) := ⟨⟨_, ok_sub Fn_sub T M c_isnumC, Bn_sub⟩, k_sub⟩
  have c_mulC : Cal l.prog w K mg base 3 A.mul ["self", "other"] (spB A fmul) := ⟨⟨_, ok_mul Fn_mul T M c_isnumC, Bn_mul⟩, k_mul⟩
  have c_negC : Cal l.prog w K mg base 3 A.neg ["self"] (spU A fneg) := ⟨⟨_, ok_neg Fn_neg T M, Bn_neg⟩, k_neg⟩
  have c_absC : Cal l.prog w K mg base 3 A.abs ["self"] (spU A fabs) := ⟨⟨_, ok_abs Fn_abs T M (gn n_abs), Bn_abs⟩, k_abs⟩
  have c_raddC : Cal l.prog w K mg base 4 A.radd ["self", "other"] (spB A fun p q => fadd q p) := ⟨⟨_, ok_radd Fn_radd T c_isnumC Badd c_addC, Bn_radd⟩, k_radd⟩
  have c_rmulC : Cal l.prog w K mg base 4 A.rmul ["self", "other"] (spB A fun p q => fmul q p) := ⟨⟨_, ok_rmul Fn_rmul T c_isnumC Bmul c_mulC, Bn_rmul⟩, k_rmul⟩
  have c_rsubC : Cal l.prog w K mg base 4 A.rsub ["self", "other"] (spB A fun p q => fsub q p) := ⟨⟨_, ok_rsub Fn_rsub T c_isnumC Badd c_addC Uneg c_negC, Bn_rsub⟩, k_rsub⟩
  have c_floC : Cal l.prog w K mg base 4 A.flo ["self", "other"] (spFlo A) := ⟨⟨_, ok_flo Fn_flo T S c_of_C c_isnumC c_wqC, Bn_flo⟩, k_flo⟩
  have c_rfloC : Cal l.prog w K mg base 4 A.rflo ["self", "other"] (spRflo A) := ⟨⟨_, ok_rflo Fn_rflo T S c_of_C c_isnumC c_wqC, Bn_rflo⟩, k_rflo⟩
  have c_modC : Cal l.prog w K mg base 4 A.mod ["self", "other"] (spMod A) := ⟨⟨_, ok_mod Fn_mod T S c_of_C c_isnumC c_wqC Bsub c_subC Bmul c_mulC, Bn_mod⟩, k_mod⟩
  have c_rmodC : Cal l.prog w K mg base 5 A.rmod ["self", "other"] (spRmod A) := ⟨⟨_, ok_rmod Fn_rmod T S c_of_C c_isnumC c_wqC Rsub c_rsubC Bmul c_mulC, Bn_rmod⟩, k_rmod⟩
  have c_powC : Cal l.prog w K mg base 3 A.pow ["self", "other"] (spPow A) := ⟨⟨_, ok_pow Fn_pow T M (gn n_range) ⟨_, g amp⟩, Bn_pow⟩, k_pow⟩
  have c_boolC : Cal l.prog w K mg base 1 A.bool ["self"] (spBool A) := ⟨⟨_, ok_bool Fn_bool T (gn n_bool), Bn_bool⟩, k_bool⟩
  have c_strC : Cal l.prog w K mg base 1 A.str ["self"] (spStr A) := ⟨⟨_, ok_str Fn_str T (gn n_str), Bn_str⟩, k_str⟩
  have c_eqC : Cal l.prog w K mg base 1 A.eq ["self", "other"] (spC A ceq) := ⟨⟨_, ok_eq Fn_eq T, Bn_eq⟩, k_eq⟩
  have c_ltC : Cal l.prog w K mg base 4 A.lt ["self", "other"] (spC A clt) := ⟨⟨_, ok_lt Fn_lt T S c_of_C c_isnumC, Bn_lt⟩, k_lt⟩
  have c_leC : Cal l.prog w K mg base 4 A.le ["self", "other"] (spC A cle) := ⟨⟨_, ok_le Fn_le T S c_of_C c_isnumC, Bn_le⟩, k_le⟩
  have c_gtC : Cal l.prog w K mg base 4 A.gt ["self", "other"] (spC A cgt) := ⟨⟨_, ok_gt Fn_gt T S c_of_C c_isnumC, Bn_gt⟩, k_gt⟩
  have c_geC : Cal l.prog w K mg base 4 A.ge ["self", "other"] (spC A cge) := ⟨⟨_, ok_ge Fn_ge T S c_of_C c_isnumC, Bn_ge⟩, k_ge⟩
  have c_overC : Cal l.prog w K mg base 4 A.over ["self", "b"] (spOver A) := ⟨⟨_, ok_over Fn_over T S c_of_C M, Bn_over⟩, k_over⟩
  have F_ : FA l.prog w K mg base A := { T := T, M := M, S := S, O := c_of_C, bAdd := Badd, cAdd := c_addC, rAdd := Radd, cRadd := c_raddC, bSub := Bsub, cSub := c_subC, rSub := Rsub, cRsub := c_rsubC, bMul := Bmul, cMul := c_mulC, rMul := Rmul, cRmul := c_rmulC, bFlo := Bflo, cFlo := c_floC, rFlo := Rflo, cRflo := c_rfloC, bMod := Bmod, cMod := c_modC, rMod := Rmod, cRmod := c_rmodC, bPow := Bpow, cPow := c_powC, uNeg := Uneg, cNeg := c_negC, uAbs := Uabs, cAbs := c_absC, uBool := Ubool, cBool := c_boolC, uStr := Ustr, cStr := c_strC, kEq := Keq, cEq := c_eqC, kLt := Klt, cLt := c_ltC, kLe := Kle, cLe := c_leC, kGt := Kgt, cGt := c_gtC, kGe := Kge, cGe := c_geC, kNe := ⟨a_eq, i_eq, ne, cm, su2, su1⟩, mOver := ⟨a_over, i_over, k_over⟩, cOver := c_overC, noIn := ⟨⟨_, lC, rfl⟩, iaC, iaO, iaI⟩, ab := gn n_abs, all := gn n_all }
  have NT : NoTxt K A.C := ⟨nt_str, nt_bytes, nt_bytearray⟩
  have W_ : WT K mg CW := { cl := ⟨pgCW, hdCW, poCW, saCW⟩, mgC := g mCW, tC := ⟨_, tyCW, ⟨rdCW, gaCW⟩, ⟨_, vMOST_JOINTS, ⟨_, rfl⟩⟩, ⟨_, vMOST_RODS, ⟨_, rfl⟩⟩, ⟨_, vMOST_EARS, ⟨_, rfl⟩⟩, ⟨_, vMOST_CELLS, ⟨_, rfl⟩⟩⟩, n0 := noCW0, n1 := noCW1, n2 := noCW2, n3 := noCW3, n4 := noCW4, n5 := noCW5, n6 := noCW6, n7 := noCW7, n8 := noCW8, n9 := noCW9 }
  have eN : ExcC K NE := ⟨xgN, xkN, xsN, xhN, xaN, cg, ct, xmN⟩
  have oxN : OexC K NE := oex_of X xqN xhN xrN saN xsN xtN xeN
  have eJ : ExcC K NJ := ⟨xgJ, xkJ, xsJ, xhJ, xaJ, cg, ct, xmJ⟩
  have oxJ : OexC K NJ := oex_of X xqJ xhJ xrJ saJ xsJ xtJ xeJ
  have ER_ : ERx K mg NE NJ Wb := { gN := g aNE, gJ := g aNJ, gW := g aWb, ve := gn n_VE, eN := eN, eJ := eJ, nW := fNW, nJ := fNJ, jV := fJV, jN := fJN, xN := mNN, xJN := mJN, xJ := mJJ, fN := ⟨xgN, xkN, xsN, xhN⟩, fJ := ⟨xgJ, xkJ, xsJ, xhJ⟩, iN := xnN, iJ := xnJ }
  have MW : Mk K CW wi := ⟨mkCW, a_wi, i_wi, kcCW⟩
  have sK : ∀ H, SqT K H kkA [.str "level", .str "stream"] := fun H => .inr ⟨_, _, _, lKi, rfl, rfl, (show 2 ≤ sizeLine by decide), .cons ⟨_, rfl⟩ (.cons ⟨_, rfl⟩ .nil)⟩
  have CCc : Cal l.prog w K mg base 1 fCc_ ["count", "low", "high"] spCc := ⟨⟨_, ok_Cc FnCc_, BnCc_⟩, kCc_⟩
  have LCc : LF l.prog w K mg base "check_count" 1 ["count", "low", "high"] spCc := ⟨fCc_, g aCc_, CCc⟩
  have CCs : Cal l.prog w K mg base 1 fCs_ ["size", "most"] spCs := ⟨⟨_, ok_Cs FnCs_, BnCs_⟩, kCs_⟩
  have LCs : LF l.prog w K mg base "check_size" 1 ["size", "most"] spCs := ⟨fCs_, g aCs_, CCs⟩
  have CCl : Cal l.prog w K mg base 1 fCl_ ["numbers", "wanted"] (spCl K) := ⟨⟨_, ok_Cl FnCl_ (gn n_len), BnCl_⟩, kCl_⟩
  have LCl : LF l.prog w K mg base "check_length" 1 ["numbers", "wanted"] (spCl K) := ⟨fCl_, g aCl_, CCl⟩
  have CCk : Cal l.prog w K mg base 1 fCk_ ["kind"] spCk := ⟨⟨_, ok_Ck FnCk_ (g aKi) sK, BnCk_⟩, kCk_⟩
  have LCk : LF l.prog w K mg base "check_kind" 1 ["kind"] spCk := ⟨fCk_, g aCk_, CCk⟩
  have CCg : Cal l.prog w K mg base 5 fCg_ ["strength"] (spCg A) := ⟨⟨_, ok_Cg FnCg_ F_, BnCg_⟩, kCg_⟩
  have LCg : LF l.prog w K mg base "check_strength" 5 ["strength"] (spCg A) := ⟨fCg_, g aCg_, CCg⟩
  have CCr : Cal l.prog w K mg base 1 fCr_ ["length"] spCr := ⟨⟨_, ok_Cr FnCr_ ⟨_, g amL⟩, BnCr_⟩, kCr_⟩
  have LCr : LF l.prog w K mg base "check_rod_length" 1 ["length"] spCr := ⟨fCr_, g aCr_, CCr⟩
  have CCt : Cal l.prog w K mg base 1 fCt_ ["twist"] spCt := ⟨⟨_, ok_Ct FnCt_, BnCt_⟩, kCt_⟩
  have LCt : LF l.prog w K mg base "check_twist" 1 ["twist"] spCt := ⟨fCt_, g aCt_, CCt⟩
  have CCj : Cal l.prog w K mg base 1 fCj_ ["joint", "count"] spCj := ⟨⟨_, ok_Cj FnCj_, BnCj_⟩, kCj_⟩
  have LCj : LF l.prog w K mg base "check_joint" 1 ["joint", "count"] spCj := ⟨fCj_, g aCj_, CCj⟩
  have CCo : Cal l.prog w K mg base 1 fCo_ ["rod", "count"] spCo := ⟨⟨_, ok_Co FnCo_, BnCo_⟩, kCo_⟩
  have LCo : LF l.prog w K mg base "check_rod" 1 ["rod", "count"] spCo := ⟨fCo_, g aCo_, CCo⟩
  have CFo : Cal l.prog w K mg base 4 fFo_ ["numbers"] (spFo K A) := ⟨⟨_, ok_Fo FnFo_ F_, BnFo_⟩, kFo_⟩
  have LFo : LF l.prog w K mg base "fracs_of" 4 ["numbers"] (spFo K A) := ⟨fFo_, g aFo_, CFo⟩
  have CSh : Cal l.prog w K mg base 1 fSh_ ["numbers"] (spSh K A) := ⟨⟨_, ok_Sh FnSh_ F_ (g alcm), BnSh_⟩, kSh_⟩
  have LSh : LF l.prog w K mg base "shared" 1 ["numbers"] (spSh K A) := ⟨fSh_, g aSh_, CSh⟩
  have CDo : Cal l.prog w K mg base 3 fDo_ ["first", "second"] (spDo K A) := ⟨⟨_, ok_Do FnDo_ F_ LSh (gn n_zip) (gn n_sum), BnDo_⟩, kDo_⟩
  have LDo : LF l.prog w K mg base "dot" 3 ["first", "second"] (spDo K A) := ⟨fDo_, g aDo_, CDo⟩
  have CTo : Cal l.prog w K mg base 5 fTo_ ["numbers"] (spTo K A) := ⟨⟨_, ok_To FnTo_ F_ NT (gn n_sum), BnTo_⟩, kTo_⟩
  have LTo : LF l.prog w K mg base "_total" 5 ["numbers"] (spTo K A) := ⟨fTo_, g aTo_, CTo⟩
  have CCa : Cal l.prog w K mg base 6 fCa_ ["kind", "strengths", "arriving"] (spCa K A) := ⟨⟨_, ok_Ca FnCa_ LCk LCg LCl (gn n_len), BnCa_⟩, kCa_⟩
  have LCa : LF l.prog w K mg base "_check_joint_arms" 6 ["kind", "strengths", "arriving"] (spCa K A) := ⟨fCa_, g aCa_, CCa⟩
  have CCn : Cal l.prog w K mg base 6 fCn_ ["kind", "strengths", "arriving"] (spCn K A) := ⟨⟨_, ok_Cn FnCn_ F_ LDo LTo, BnCn_⟩, kCn_⟩
  have LCn : LF l.prog w K mg base "_common_number" 6 ["kind", "strengths", "arriving"] (spCn K A) := ⟨fCn_, g aCn_, CCn⟩
  have CSc : Cal l.prog w K mg base 7 fSc_ ["kind", "strengths", "arriving"] (spSc K A) := ⟨⟨_, ok_Sc FnSc_ F_ LCa LFo LCn (gn n_zip), BnSc_⟩, kSc_⟩
  have LSc : LF l.prog w K mg base "scatter" 7 ["kind", "strengths", "arriving"] (spSc K A) := ⟨fSc_, g aSc_, CSc⟩
  have CRt : Cal l.prog w K mg base 1 fRt_ ["rod"] (spRt K) := ⟨⟨_, ok_Rt FnRt_ (gn n_len) (gn n_tuple), BnRt_⟩, kRt_⟩
  have LRt : LF l.prog w K mg base "rod_with_twist" 1 ["rod"] (spRt K) := ⟨fRt_, g aRt_, CRt⟩
  have CCc2 : Cal l.prog w K mg base 1 fCc2_ ["rods"] (spCo2 K) := ⟨⟨_, ok_Cc2 FnCc2_ (gn n_sum), BnCc2_⟩, kCc2_⟩
  have LCc2 : LF l.prog w K mg base "cell_count" 1 ["rods"] (spCo2 K) := ⟨fCc2_, g aCc2_, CCc2⟩
  have CCce : Cal l.prog w K mg base 2 fCce_ ["count"] spCce := ⟨⟨_, ok_Cce FnCce_ W_ LCs, BnCce_⟩, kCce_⟩
  have LCce : LF l.prog w K mg base "check_cells" 2 ["count"] spCce := ⟨fCce_, g aCce_, CCce⟩
  have CCjs : Cal l.prog w K mg base 2 fCjs_ ["joints"] (spCjs K) := ⟨⟨_, ok_Cjs FnCjs_ W_ (gn n_len) LCc LCk, BnCjs_⟩, kCjs_⟩
  have LCjs : LF l.prog w K mg base "_check_joints" 2 ["joints"] (spCjs K) := ⟨fCjs_, g aCjs_, CCjs⟩
  have CCrs : Cal l.prog w K mg base 6 fCrs_ ["rods", "joint_count"] (spCrs K A) := ⟨⟨_, ok_Crs FnCrs_ W_ (gn n_len) LCc LCj LCr LCg LCt LCce LCc2, BnCrs_⟩, kCrs_⟩
  have LCrs : LF l.prog w K mg base "_check_rods" 6 ["rods", "joint_count"] (spCrs K A) := ⟨fCrs_, g aCrs_, CCrs⟩
  have CCes : Cal l.prog w K mg base 6 fCes_ ["ears", "joint_count"] (spCes K A) := ⟨⟨_, ok_Ces FnCes_ W_ (gn n_len) LCc LCj LCg, BnCes_⟩, kCes_⟩
  have LCes : LF l.prog w K mg base "_check_ears" 6 ["ears", "joint_count"] (spCes K A) := ⟨fCes_, g aCes_, CCes⟩
  have CCsg : Cal l.prog w K mg base 1 fCsg_ ["rods"] (spCsg K A) := ⟨⟨_, ok_Csg FnCsg_ (gn n_tuple), BnCsg_⟩, kCsg_⟩
  have LCsg : LF l.prog w K mg base "_cell_strengths" 1 ["rods"] (spCsg K A) := ⟨fCsg_, g aCsg_, CCsg⟩
  have CAa : Cal l.prog w K mg base 1 fAa_ ["web", "joint"] (spAa A CW) := ⟨⟨_, ok_Aa FnAa_ W_ (gn n_enumerate) (gn n_tuple), BnAa_⟩, kAa_⟩
  have LAa : LF l.prog w K mg base "_arms_at" 1 ["web", "joint"] (spAa A CW) := ⟨fAa_, g aAa_, CAa⟩
  have CAs : Cal l.prog w K mg base 1 fAs_ ["web", "arm"] (spAs A CW) := ⟨⟨_, ok_As FnAs_ W_, BnAs_⟩, kAs_⟩
  have LAs : LF l.prog w K mg base "_arm_strength" 1 ["web", "arm"] (spAs A CW) := ⟨fAs_, g aAs_, CAs⟩
  have CFr : Cal l.prog w K mg base 5 fFr ["self", "state", "rod"] (spFb K A CW fun _ => 0) := ⟨⟨_, ok_Fr FnFr W_ (gn n_len) LCl LCo LFo, BnFr⟩, kFr⟩
  have MFr : Meth K CW "forth" fFr := ⟨aFr, iFr, kFr⟩
  have CBk : Cal l.prog w K mg base 5 fBk ["self", "state", "rod"] (spFb K A CW fun r => r.len) := ⟨⟨_, ok_Bk FnBk W_ (gn n_len) LCl LCo LFo, BnBk⟩, kBk⟩
  have MBk : Meth K CW "backs" fBk := ⟨aBk, iBk, kBk⟩
  have CArr : Cal l.prog w K mg base 6 fArr ["self", "state", "knocks"] (spArr K A CW) := ⟨⟨_, ok_Arr FnArr W_ F_ LCl MFr CFr MBk CBk (gn n_enumerate), BnArr⟩, kArr⟩
  have MArr : Meth K CW "_arriving" fArr := ⟨aArr, iArr, kArr⟩
  have CTk : Cal l.prog w K mg base 8 fTk ["self", "state", "knocks"] (spTk K A CW) := ⟨⟨_, ok_Tk FnTk W_ MFr CFr MBk CBk MArr CArr LSc (gn n_zip) (gn n_len) (gn n_range), BnTk⟩, kTk⟩
  have MTk : Meth K CW "tick" fTk := ⟨aTk, iTk, kTk⟩
  have CPi : Cal l.prog w K mg base 5 pi ["self", "cells", "strengths"] (spPi K A CW) := ⟨⟨_, ok_Pi FnPi W_ neW LFo (gn n_len) (gn n_tuple), BnPi⟩, kPi⟩
  have CWi : Cal l.prog w K mg base 7 wi ["self", "joints", "rods", "ears"] (spWi K A CW) := ⟨⟨_, ok_Wi FnW W_ F_ neW (g mCP) ⟨rdCP, gaCP⟩ ⟨bPi, kPi⟩ CPi LCjs LCrs LCes LRt LCc2 LAa LAs LCsg (gn n_len) (gn n_tuple) (gn n_range), BnW⟩, kWi⟩
  have CRe : Cal l.prog w K mg base 3 fRe ["self"] (spRe A CW) := ⟨⟨_, ok_Re FnRe W_ F_ (gn n_range), BnRe⟩, kRe⟩
  have MRe : Meth K CW "rest" fRe := ⟨aRe, iRe, kRe⟩
  have CHk : Cal l.prog w K mg base 9 fHk_ ["player", "count", "ear"] (spHk A CW) := ⟨⟨_, ok_Hk FnHk_ W_ MTk CTk MRe CRe (gn n_range), BnHk_⟩, kHk_⟩
  have LHk : LF l.prog w K mg base "_heard_of_knock" 9 ["player", "count", "ear"] (spHk A CW) := ⟨fHk_, g aHk_, CHk⟩
  have CCer : Cal l.prog w K mg base 1 fCer_ ["ear", "count"] spCer := ⟨⟨_, ok_Cer FnCer_, BnCer_⟩, kCer_⟩
  have LCer : LF l.prog w K mg base "check_ear" 1 ["ear", "count"] spCer := ⟨fCer_, g aCer_, CCer⟩
  have Eo : EoK l.prog w K mg base A CW := eo_of (g aEo_) kEo_ FnEo_ (ok_Eo FnEo_ W_ LCc LCer LHk ⟨_, g amE⟩)
  have XN : XcF l.prog w K mg base NE "NoEar" "ear" := ⟨oxN, ⟨fIN, iNE, tNE, ⟨⟨_, ok_NeI FnNi oxN xnN, BnNi⟩, kNi⟩⟩, g aNE⟩
  have CCeX : Cal l.prog w K mg base 3 fCer_ ["ear", "count"] (spCeX NE) := ⟨⟨_, ok_CeX FnCer_ XN, BnCer_⟩, kCer_⟩
  have LCeX : LF l.prog w K mg base "check_ear" 3 ["ear", "count"] (spCeX NE) := ⟨fCer_, g aCer_, CCeX⟩
  have XJ : XcF l.prog w K mg base NJ "NoJoint" "joint" := ⟨oxJ, ⟨fIJ, iNJ, tNJ, ⟨⟨_, ok_NjI FnJi oxJ xnJ, BnJi⟩, kJi⟩⟩, g aNJ⟩
  have CCjX : Cal l.prog w K mg base 3 fCj_ ["joint", "count"] (spCjX NJ) := ⟨⟨_, ok_CjX FnCj_ XJ, BnCj_⟩, kCj_⟩
  have LCjX : LF l.prog w K mg base "check_joint" 3 ["joint", "count"] (spCjX NJ) := ⟨fCj_, g aCj_, CCjX⟩
  have CLsr : Cal l.prog w K mg base 1 fLsr_ ["one", "other"] spLsr := ⟨⟨_, ok_Lsr FnLsr_, BnLsr_⟩, kLsr_⟩
  have LLsr : LF l.prog w K mg base "_lesser" 1 ["one", "other"] spLsr := ⟨fLsr_, g aLsr_, CLsr⟩
  have CLs2 : Cal l.prog w K mg base 1 fLsr_ ["one", "other"] spLs2 := ⟨⟨_, ok_Ls2 FnLsr_, BnLsr_⟩, kLsr_⟩
  have LLs2 : LF l.prog w K mg base "_lesser" 1 ["one", "other"] spLs2 := ⟨fLsr_, g aLsr_, CLs2⟩
  have CJo : Cal l.prog w K mg base 1 fJo_ ["web", "ear"] (spJo A CW) := ⟨⟨_, ok_Jo FnJo_ W_, BnJo_⟩, kJo_⟩
  have LJo : LF l.prog w K mg base "_joint_of" 1 ["web", "ear"] (spJo A CW) := ⟨fJo_, g aJo_, CJo⟩
  have CLw2 : Cal l.prog w K mg base 2 fLw2_ ["web", "joint"] (spLw2 A CW) := ⟨⟨_, ok_Lw2 FnLw2_ W_ LLsr (gn n_len) (gn n_range), BnLw2_⟩, kLw2_⟩
  have LLw2 : LF l.prog w K mg base "_least_walks" 2 ["web", "joint"] (spLw2 A CW) := ⟨fLw2_, g aLw2_, CLw2⟩
  have CDi : Cal l.prog w K mg base 4 fDi_ ["web", "joint"] (spDi A CW NJ) := ⟨⟨_, ok_Di FnDi_ W_ LCjX LLs2 LLw2 (gn n_len), BnDi_⟩, kDi_⟩
  have LDi : LF l.prog w K mg base "distances" 4 ["web", "joint"] (spDi A CW NJ) := ⟨fDi_, g aDi_, CDi⟩
  have CEd : Cal l.prog w K mg base 5 fEd_ ["web", "first", "second"] (spEd A CW NE) := ⟨⟨_, ok_Ed FnEd_ W_ LCeX LJo LDi, BnEd_⟩, kEd_⟩
  have LEd : LF l.prog w K mg base "ear_distance" 5 ["web", "first", "second"] (spEd A CW NE) := ⟨fEd_, g aEd_, CEd⟩
  have CLl : Cal l.prog w K mg base 1 fLl_ ["top", "low"] spLl := ⟨⟨_, ok_Ll FnLl_ (gn n_abs) (gn n_int), BnLl_⟩, kLl_⟩
  have LLl : LF l.prog w K mg base "_law_low" 1 ["top", "low"] spLl := ⟨fLl_, g aLl_, CLl⟩
  have CLi : Cal l.prog w K mg base 1 fLi_ ["x"] spLi := ⟨⟨_, ok_Li FnLi_ T (gn n_bool), BnLi_⟩, kLi_⟩
  have LLi : LF l.prog w K mg base "_law_int" 1 ["x"] spLi := ⟨fLi_, g aLi_, CLi⟩
  have CLr : Cal l.prog w K mg base 2 fLr_ ["x"] (spLr A) := ⟨⟨_, ok_Lr FnLr_ T LLl LLi, BnLr_⟩, kLr_⟩
  have LLr : LF l.prog w K mg base "_law_read" 2 ["x"] (spLr A) := ⟨fLr_, g aLr_, CLr⟩
  have CLg : Cal l.prog w K mg base 3 fLg_ ["pairs", "way"] (spLg K A) := ⟨⟨_, ok_Lg FnLg_ F_ (gn n_len) (gn n_int), BnLg_⟩, kLg_⟩
  have LLg : LF l.prog w K mg base "_law_give" 3 ["pairs", "way"] (spLg K A) := ⟨fLg_, g aLg_, CLg⟩
  have CLd : Cal l.prog w K mg base 1 fLd_ ["pool", "many"] spLd := ⟨⟨_, ok_Ld FnLd_ (gn n_int), BnLd_⟩, kLd_⟩
  have LLd : LF l.prog w K mg base "_law_digit" 1 ["pool", "many"] spLd := ⟨fLd_, g aLd_, CLd⟩
  have CLpo : Cal l.prog w K mg base 1 fLpo_ ["cells"] spLpo := ⟨⟨_, ok_Lpo FnLpo_ (gn n_abs) (gn n_int), BnLpo_⟩, kLpo_⟩
  have LLpo : LF l.prog w K mg base "_law_pool" 1 ["cells"] spLpo := ⟨fLpo_, g aLpo_, CLpo⟩
  have CLpw : Cal l.prog w K mg base 2 fLpw_ ["pool", "k"] spLpw := ⟨⟨_, ok_Lpw FnLpw_ (gn n_int) LLd, BnLpw_⟩, kLpw_⟩
  have LLpw : LF l.prog w K mg base "_law_power" 2 ["pool", "k"] spLpw := ⟨fLpw_, g aLpw_, CLpw⟩
  have CLw : Cal l.prog w K mg base 3 fLw_ ["pool", "most"] spLw := ⟨⟨_, ok_Lw FnLw_ (gn n_int) (gn n_range) LLd LLpw, BnLw_⟩, kLw_⟩
  have LLw : LF l.prog w K mg base "_law_web" 3 ["pool", "most"] spLw := ⟨fLw_, g aLw_, CLw⟩
  have CLma : Cal l.prog w K mg base 9 fLma_ ["web", "way"] (spLma A CW) := ⟨⟨_, ok_Lma FnLma_ W_ MW CWi LLg (gn n_list), BnLma_⟩, kLma_⟩
  have LLma : LF l.prog w K mg base "_law_made" 9 ["web", "way"] (spLma A CW) := ⟨fLma_, g aLma_, CLma⟩
  have CLfr : Cal l.prog w K mg base 1 fLfr_ ["web", "joint"] spLfr := ⟨⟨_, ok_Lfr FnLfr_, BnLfr_⟩, kLfr_⟩
  have LLfr : LF l.prog w K mg base "_law_far" 1 ["web", "joint"] spLfr := ⟨fLfr_, g aLfr_, CLfr⟩
  have CLft : Cal l.prog w K mg base 12 fLft_ ["made", "a", "b", "due"] (spLft A CW) := ⟨⟨_, ok_Lft FnLft_ (gn n_isinstance) LLr Eo (gn n_len) (gn n_range) (gn n_list), BnLft_⟩, kLft_⟩
  have LLft : LF l.prog w K mg base "_law_first" 12 ["made", "a", "b", "due"] (spLft A CW) := ⟨fLft_, g aLft_, CLft⟩
  have ZI : ∃ f, mg "_law_int" = some (.ref f) ∧ CalZ l.prog w K mg base 1 f ["x"] (fun _ _ _ vs H Q _ => ∃ n, vs = [.int n] ∧ Q (.bl true) H) := ⟨fLi_, g aLi_, ⟨⟨_, ok_LiZ FnLi_ (gn n_isinstance) (gn n_int) (gn n_bool), BnLi_⟩, kLi_⟩⟩
  have CLto : Cal l.prog w K mg base 7 fLto_ ["made", "one", "other", "way"] (spLto A CW) := ⟨⟨_, ok_Lto FnLto_ ER_ (gn n_isinstance) LEd LDi ZI, BnLto_⟩, kLto_⟩
  have LLto : LF l.prog w K mg base "_law_told" 7 ["made", "one", "other", "way"] (spLto A CW) := ⟨fLto_, g aLto_, CLto⟩
  have CLsm : Cal l.prog w K mg base 2 fLsm_ ["told", "due"] spLsm := ⟨⟨_, ok_Lsm FnLsm_ LLi, BnLsm_⟩, kLsm_⟩
  have LLsm : LF l.prog w K mg base "_law_same" 2 ["told", "due"] spLsm := ⟨fLsm_, g aLsm_, CLsm⟩
  have CLrf : Cal l.prog w K mg base 8 fLrf_ ["pool", "made", "tips", "many"] (spLrf A CW) := ⟨⟨_, ok_Lrf FnLrf_ LLd LLto, BnLrf_⟩, kLrf_⟩
  have LLrf : LF l.prog w K mg base "_law_refused" 8 ["pool", "made", "tips", "many"] (spLrf A CW) := ⟨fLrf_, g aLrf_, CLrf⟩
  exact ok_La FnLa_ (gn n_isinstance) LLpo LLw LLma LLd LDi LLfr LLsm LEd LLft LLrf (gn n_len) (gn n_range) (gn n_int) (gn n_list)
theorem all_mk {l : PySem.W.OpenLaw} {w : World} {K : PySem.W.Frag} {h : Heap} {mg : Str → Option Value} {fa CW NE NJ Wb CP : Addr} {F_C F_Z F_init F_add F_radd F_sub F_rsub F_mul F_rmul F_flo F_rflo F_mod F_rmod F_pow F_neg F_abs F_bool F_eq F_lt F_le F_gt F_ge F_str F_over F_of_ F_isnum F_wq F_pOf : Addr} (X : K.In h) (G : h.Ns mainGlobals mg) (hfa : mg "law" = some (.ref fa))
    {tkP : Tok} {nmC bsC nsC qC hdC snC sbC abC coC dlC} {oi_add oj_add : Option Value} {oi_sub oj_sub : Option Value} {oi_mul oj_mul : Option Value} {oi_flo oj_flo : Option Value} {oi_mod oj_mod : Option Value} {oi_pow oj_pow : Option Value} {tkL tkE tkS : Tok} {kkA : Addr} {odK : Option Addr} {nK : Nat} {slK : Array (Option Value)} {tkMOST_JOINTS : Tok} {tkMOST_RODS : Tok} {tkMOST_EARS : Tok} {tkMOST_CELLS : Tok} {pi wi fIN fIJ fFr fBk fArr fTk fRe : Addr} {tkME : Tok} {e1 e2 e3 : Addr} {rest_of_ : List Value} {fCc_ : Addr} {fCs_ : Addr} {fCl_ : Addr} {fCk_ : Addr} {fCg_ : Addr} {fCr_ : Addr} {fCt_ : Addr} {fCj_ : Addr} {fCo_ : Addr} {fFo_ : Addr} {fSh_ : Addr} {fDo_ : Addr} {fTo_ : Addr} {fCa_ : Addr} {fCn_ : Addr} {fSc_ : Addr} {fRt_ : Addr} {fCc2_ : Addr} {fCce_ : Addr} {fCjs_ : Addr} {fCrs_ : Addr} {fCes_ : Addr} {fCsg_ : Addr} {fAa_ : Addr} {fAs_ : Addr} {fLl_ : Addr} {fLi_ : Addr} {fLr_ : Addr} {fLg_ : Addr} {fLd_ : Addr} {fLpo_ : Addr} {fLpw_ : Addr} {fLw_ : Addr} {fLma_ : Addr} {fHk_ : Addr} {fCer_ : Addr} {fEo_ : Addr} {fLsr_ : Addr} {fJo_ : Addr} {fLw2_ : Addr} {fLto_ : Addr} {fLfr_ : Addr} {fDi_ : Addr} {fEd_ : Addr} {fLft_ : Addr} {fLsm_ : Addr} {fLrf_ : Addr} {fLa_ : Addr} {fdPi : FuncData} {fdWi : FuncData} {fdNi : FuncData} {fdJi : FuncData} {fdFr : FuncData} {fdBk : FuncData} {fdArr : FuncData} {fdTk : FuncData} {fdRe : FuncData} {fd_init : FuncData} {fd_add : FuncData} {fd_radd : FuncData} {fd_sub : FuncData} {fd_rsub : FuncData} {fd_mul : FuncData} {fd_rmul : FuncData} {fd_flo : FuncData} {fd_rflo : FuncData} {fd_mod : FuncData} {fd_rmod : FuncData} {fd_pow : FuncData} {fd_neg : FuncData} {fd_abs : FuncData} {fd_bool : FuncData} {fd_eq : FuncData} {fd_lt : FuncData} {fd_le : FuncData} {fd_gt : FuncData} {fd_ge : FuncData} {fd_str : FuncData} {fd_over : FuncData} {fd_of_ : FuncData} {fd_isnum : FuncData} {fd_wq : FuncData} {fdCc_ : FuncData} {fdCs_ : FuncData} {fdCl_ : FuncData} {fdCk_ : FuncData} {fdCg_ : FuncData} {fdCr_ : FuncData} {fdCt_ : FuncData} {fdCj_ : FuncData} {fdCo_ : FuncData} {fdFo_ : FuncData} {fdSh_ : FuncData} {fdDo_ : FuncData} {fdTo_ : FuncData} {fdCa_ : FuncData} {fdCn_ : FuncData} {fdSc_ : FuncData} {fdRt_ : FuncData} {fdCc2_ : FuncData} {fdCce_ : FuncData} {fdCjs_ : FuncData} {fdCrs_ : FuncData} {fdCes_ : FuncData} {fdCsg_ : FuncData} {fdAa_ : FuncData} {fdAs_ : FuncData} {fdLl_ : FuncData} {fdLi_ : FuncData} {fdLr_ : FuncData} {fdLg_ : FuncData} {fdLd_ : FuncData} {fdLpo_ : FuncData} {fdLpw_ : FuncData} {fdLw_ : FuncData} {fdLma_ : FuncData} {fdHk_ : FuncData} {fdCer_ : FuncData} {fdEo_ : FuncData} {fdLsr_ : FuncData} {fdJo_ : FuncData} {fdLw2_ : FuncData} {fdLto_ : FuncData} {fdLfr_ : FuncData} {fdDi_ : FuncData} {fdEd_ : FuncData} {fdLft_ : FuncData} {fdLsm_ : FuncData} {fdLrf_ : FuncData} {fdLa_ : FuncData}
    (aC : PySem.W.nsIn K mainGlobals "Frac" = some (some (.ref F_C)))
    (aZ : PySem.W.nsIn K mainGlobals "DivisionByZero" = some (some (.ref F_Z)))
    (agcd : PySem.W.nsIn K mainGlobals "gcd" = some (some (.builtin "math.gcd")))
    (amp : PySem.W.nsIn K mainGlobals "MOST_POWER" = some (some (.int 64 tkP)))
    (n_isinstance : PySem.W.nsIn K mainGlobals "isinstance" = some none)
    (n_int : PySem.W.nsIn K mainGlobals "int" = some none)
    (n_all : PySem.W.nsIn K mainGlobals "all" = some none)
    (n_abs : PySem.W.nsIn K mainGlobals "abs" = some none)
    (n_bool : PySem.W.nsIn K mainGlobals "bool" = some none)
    (n_len : PySem.W.nsIn K mainGlobals "len" = some none)
    (n_str : PySem.W.nsIn K mainGlobals "str" = some none)
    (n_range : PySem.W.nsIn K mainGlobals "range" = some none)
    (pg : PySem.W.plainGet K F_C Str.empty = true)
    (hd : PySem.W.hasDictIn K F_C = true)
    (po : PySem.W.plainOver K F_C = true)
    (sa : PySem.W.findIn K (.ref F_C) "__setattr__" = some (some (.builtin "object.__setattr__")))
    (mk : PySem.W.makesIn K F_C = true)
    (kc : PySem.W.keepIn K (.ref F_C) = true)
    (nN : PySem.W.findIn K (.ref F_C) "num" = some none)
    (nD : PySem.W.findIn K (.ref F_C) "den" = some none)
    (ca : PySem.W.findIn K (.ref F_C) "__class__" = some (some (.builtin "object.__class__")))
    (cg : PySem.W.specialIn K (.builtin "object.__class__") "__get__" = some (some (.builtin "getset_descriptor.__get__")))
    (ct : PySem.W.takesIn K (.builtin "object.__class__") = some true)
    (cm : PySem.W.mroIn K F_C (.type "object") = some true)
    (isC : PySem.W.isClsIn K F_C = true)
    (tC : PySem.W.typeIn K (.ref F_C) = some (.type "type"))
    (su1 : PySem.W.subIn K (.ref F_C) (.type "int") = some false)
    (su2 : PySem.W.subIn K (.type "int") (.ref F_C) = some false)
    (sf : PySem.W.selfFirst K F_C = true)
    (lC : PySem.W.clsIn K F_C = some { name := nmC, bases := bsC, mro := [(.ref F_C), .type "object"], ns := nsC, qualname := qC, hasDict := hdC, slotNames := snC, subclasses := sbC, abstract := abC, collection := coC, hasDel := dlC })
    (ne : PySem.W.findIn K (.ref F_C) "__ne__" = some (some (.builtin "object.__ne__")))
    (rdC : PySem.W.readsIn K F_C (.type "type") = true)
    (gaC : PySem.W.specialIn K (.ref F_C) "__getattribute__" = some (some (.builtin "type.__getattribute__")))
    (iaC : PySem.W.findIn K (.ref F_C) "__iadd__" = some none)
    (iaO : PySem.W.findIn K (.type "object") "__iadd__" = some none)
    (iaI : PySem.W.findIn K (.type "int") "__iadd__" = some none)
    (rpw : PySem.W.findIn K (.ref F_C) "__rpow__" = some none)
    (i1add : PySem.W.findIn K (.type "int") "__add__" = some oi_add)
    (i2add : PySem.W.findIn K (.type "int") "__radd__" = some oj_add)
    (i1sub : PySem.W.findIn K (.type "int") "__sub__" = some oi_sub)
    (i2sub : PySem.W.findIn K (.type "int") "__rsub__" = some oj_sub)
    (i1mul : PySem.W.findIn K (.type "int") "__mul__" = some oi_mul)
    (i2mul : PySem.W.findIn K (.type "int") "__rmul__" = some oj_mul)
    (i1flo : PySem.W.findIn K (.type "int") "__floordiv__" = some oi_flo)
    (i2flo : PySem.W.findIn K (.type "int") "__rfloordiv__" = some oj_flo)
    (i1mod : PySem.W.findIn K (.type "int") "__mod__" = some oi_mod)
    (i2mod : PySem.W.findIn K (.type "int") "__rmod__" = some oj_mod)
    (i1pow : PySem.W.findIn K (.type "int") "__pow__" = some oi_pow)
    (i2pow : PySem.W.findIn K (.type "int") "__rpow__" = some oj_pow)
    (n_tuple : PySem.W.nsIn K mainGlobals "tuple" = some none)
    (n_list : PySem.W.nsIn K mainGlobals "list" = some none)
    (n_zip : PySem.W.nsIn K mainGlobals "zip" = some none)
    (n_enumerate : PySem.W.nsIn K mainGlobals "enumerate" = some none)
    (n_sum : PySem.W.nsIn K mainGlobals "sum" = some none)
    (xsZ : PySem.W.subIn K (.ref F_Z) (.type "BaseException") = some true)
    (xtZ : PySem.W.typeIn K (.ref F_Z) = some (.type "type"))
    (xeZ : PySem.W.keepIn K (.ref F_Z) = true)
    (xZ : PySem.W.excIn K F_Z [.type "ValueError", .type "Exception", .type "BaseException", .type "object"] "ValueError.__new__" = true)
    (alcm : PySem.W.nsIn K mainGlobals "lcm" = some (some (.builtin "math.lcm")))
    (amL : PySem.W.nsIn K mainGlobals "MOST_LENGTH" = some (some (.int 12 tkL)))
    (aKi : PySem.W.nsIn K mainGlobals "KINDS" = some (some (.ref kkA)))
    (lKi : K.lookup kkA = some ⟨.type "tuple", odK, .seq [.str "level" tkE, .str "stream" tkS].toArray nK, slK⟩)
    (nt_str : PySem.W.subIn K (.ref F_C) (.type "str") = some false)
    (nt_bytes : PySem.W.subIn K (.ref F_C) (.type "bytes") = some false)
    (nt_bytearray : PySem.W.subIn K (.ref F_C) (.type "bytearray") = some false)
    (mCW : PySem.W.nsIn K mainGlobals "Web" = some (some (.ref CW)))
    (pgCW : PySem.W.plainGet K CW Str.empty = true)
    (hdCW : PySem.W.hasDictIn K CW = true)
    (poCW : PySem.W.plainOver K CW = true)
    (saCW : PySem.W.findIn K (.ref CW) "__setattr__" = some (some (.builtin "object.__setattr__")))
    (tyCW : PySem.W.typeIn K (.ref CW) = some (.type "type"))
    (rdCW : PySem.W.readsIn K CW (.type "type") = true)
    (gaCW : PySem.W.specialIn K (.ref CW) "__getattribute__" = some (some (.builtin "type.__getattribute__")))
    (vMOST_JOINTS : PySem.W.findCls K (.ref CW) (.type "type") "MOST_JOINTS" = some (.val (.int 8 tkMOST_JOINTS)))
    (vMOST_RODS : PySem.W.findCls K (.ref CW) (.type "type") "MOST_RODS" = some (.val (.int 8 tkMOST_RODS)))
    (vMOST_EARS : PySem.W.findCls K (.ref CW) (.type "type") "MOST_EARS" = some (.val (.int 4 tkMOST_EARS)))
    (vMOST_CELLS : PySem.W.findCls K (.ref CW) (.type "type") "MOST_CELLS" = some (.val (.int 24 tkMOST_CELLS)))
    (noCW0 : PySem.W.findIn K (.ref CW) "joints" = some none)
    (noCW1 : PySem.W.findIn K (.ref CW) "rods" = some none)
    (noCW2 : PySem.W.findIn K (.ref CW) "ear_list" = some none)
    (noCW3 : PySem.W.findIn K (.ref CW) "cells" = some none)
    (noCW4 : PySem.W.findIn K (.ref CW) "strengths" = some none)
    (noCW5 : PySem.W.findIn K (.ref CW) "ears" = some none)
    (noCW6 : PySem.W.findIn K (.ref CW) "first_cells" = some none)
    (noCW7 : PySem.W.findIn K (.ref CW) "arm_lists" = some none)
    (noCW8 : PySem.W.findIn K (.ref CW) "arm_strengths" = some none)
    (noCW9 : PySem.W.findIn K (.ref CW) "cell_strengths" = some none)
    (mkCW : PySem.W.makesIn K CW = true)
    (kcCW : PySem.W.keepIn K (.ref CW) = true)
    (mCP : PySem.W.nsIn K mainGlobals "Player" = some (some (.ref CP)))
    (rdCP : PySem.W.readsIn K CP (.type "type") = true)
    (gaCP : PySem.W.specialIn K (.ref CP) "__getattribute__" = some (some (.builtin "type.__getattribute__")))
    (amE : PySem.W.nsIn K mainGlobals "MOST_ECHOES" = some (some (.int 200 tkME)))
    (bPi : PySem.W.findCls K (.ref CP) (.type "type") "__init__" = some (.val (.ref pi)))
    (FnPi : Fun K "__init__" "Player.__init__" ((inClass (top 60) 0)) pi fdPi)
    (a_wi : PySem.W.findIn K (.ref CW) "__init__" = some (some (.ref wi)))
    (i_wi : PySem.W.isFn K (.ref wi) = true)
    (FnW : FunD K "__init__" "Web.__init__" (defArgs sWi) (defBody sWi) (defScope sWi) [.ref e1, .ref e2, .ref e3] [] wi fdWi)
    (aNE : PySem.W.nsIn K mainGlobals "NoEar" = some (some (.ref NE)))
    (xgN : PySem.W.findIn K (.ref NE) "__getattribute__" = some (some (.builtin "BaseException.__getattribute__")))
    (xkN : PySem.W.findIn K (.ref NE) "__getattr__" = some none)
    (xsN : PySem.W.subIn K (.ref NE) (.type "BaseException") = some true)
    (xhN : PySem.W.hasDictIn K NE = true)
    (xaN : PySem.W.findIn K (.ref NE) "__class__" = some (some (.builtin "object.__class__")))
    (xmN : PySem.W.mroIn K NE (.type "object") = some true)
    (xqN : PySem.W.excInitIn K NE He.veBase "ValueError.__new__" = true)
    (xrN : ((PySem.W.clsIn K NE).any fun cd => PySem.HandSPX.refsVE cd.mro.tail) = true)
    (saN : PySem.W.findIn K (.ref NE) "__setattr__" = some (some (.builtin "object.__setattr__")))
    (xtN : PySem.W.typeIn K (.ref NE) = some (.type "type"))
    (xeN : PySem.W.keepIn K (.ref NE) = true)
    (xnN : PySem.W.findIn K (.ref NE) "ear" = some none)
    (iNE : PySem.W.findIn K (.ref NE) "__init__" = some (some (.ref fIN)))
    (tNE : PySem.W.typeIn K (.ref fIN) = some (.type "function"))
    (aNJ : PySem.W.nsIn K mainGlobals "NoJoint" = some (some (.ref NJ)))
    (xgJ : PySem.W.findIn K (.ref NJ) "__getattribute__" = some (some (.builtin "BaseException.__getattribute__")))
    (xkJ : PySem.W.findIn K (.ref NJ) "__getattr__" = some none)
    (xsJ : PySem.W.subIn K (.ref NJ) (.type "BaseException") = some true)
    (xhJ : PySem.W.hasDictIn K NJ = true)
    (xaJ : PySem.W.findIn K (.ref NJ) "__class__" = some (some (.builtin "object.__class__")))
    (xmJ : PySem.W.mroIn K NJ (.type "object") = some true)
    (xqJ : PySem.W.excInitIn K NJ He.veBase "ValueError.__new__" = true)
    (xrJ : ((PySem.W.clsIn K NJ).any fun cd => PySem.HandSPX.refsVE cd.mro.tail) = true)
    (saJ : PySem.W.findIn K (.ref NJ) "__setattr__" = some (some (.builtin "object.__setattr__")))
    (xtJ : PySem.W.typeIn K (.ref NJ) = some (.type "type"))
    (xeJ : PySem.W.keepIn K (.ref NJ) = true)
    (xnJ : PySem.W.findIn K (.ref NJ) "joint" = some none)
    (iNJ : PySem.W.findIn K (.ref NJ) "__init__" = some (some (.ref fIJ)))
    (tNJ : PySem.W.typeIn K (.ref fIJ) = some (.type "function"))
    (aWb : PySem.W.nsIn K mainGlobals "WebError" = some (some (.ref Wb)))
    (n_VE : PySem.W.nsIn K mainGlobals "ValueError" = some none)
    (fNW : PySem.W.kitOne K (.ref NE) (.ref Wb) = some true)
    (fNJ : PySem.W.kitOne K (.ref NE) (.ref NJ) = some false)
    (fJV : PySem.W.kitOne K (.ref NJ) (.type "ValueError") = some true)
    (fJN : PySem.W.kitOne K (.ref NJ) (.ref NE) = some false)
    (mNN : PySem.W.exmOne K (.ref NE) (.ref NE) = some true)
    (mJN : PySem.W.exmOne K (.ref NJ) (.ref NE) = some false)
    (mJJ : PySem.W.exmOne K (.ref NJ) (.ref NJ) = some true)
    (FnNi : Fun K "__init__" "NoEar.__init__" ((inClass (top 17) 0)) fIN fdNi)
    (FnJi : Fun K "__init__" "NoJoint.__init__" ((inClass (top 15) 0)) fIJ fdJi)
    (aFr : PySem.W.findIn K (.ref CW) "forth" = some (some (.ref fFr)))
    (iFr : PySem.W.isFn K (.ref fFr) = true)
    (FnFr : Fun K "forth" "Web.forth" ((inClass (top 62) 14)) fFr fdFr)
    (aBk : PySem.W.findIn K (.ref CW) "backs" = some (some (.ref fBk)))
    (iBk : PySem.W.isFn K (.ref fBk) = true)
    (FnBk : Fun K "backs" "Web.backs" ((inClass (top 62) 15)) fBk fdBk)
    (aArr : PySem.W.findIn K (.ref CW) "_arriving" = some (some (.ref fArr)))
    (iArr : PySem.W.isFn K (.ref fArr) = true)
    (FnArr : Fun K "_arriving" "Web._arriving" ((inClass (top 62) 17)) fArr fdArr)
    (aTk : PySem.W.findIn K (.ref CW) "tick" = some (some (.ref fTk)))
    (iTk : PySem.W.isFn K (.ref fTk) = true)
    (FnTk : Fun K "tick" "Web.tick" ((inClass (top 62) 9)) fTk fdTk)
    (aRe : PySem.W.findIn K (.ref CW) "rest" = some (some (.ref fRe)))
    (iRe : PySem.W.isFn K (.ref fRe) = true)
    (FnRe : Fun K "rest" "Player.rest" ((inClass (top 60) 1)) fRe fdRe)
    (neW : CW ≠ F_C)
    (a_init : PySem.W.findIn K (.ref F_C) "__init__" = some (some (.ref F_init)))
    (i_init : PySem.W.isFn K (.ref F_init) = true)
    (FnI : FunD K "__init__" "Frac.__init__" (defArgs sInit) (defBody sInit) (defScope sInit) [.int 0, .int 1] [] F_init fd_init)
    (a_add : PySem.W.findIn K (.ref F_C) "__add__" = some (some (.ref F_add)))
    (i_add : PySem.W.isFn K (.ref F_add) = true)
    (Fn_add : Fun K "__add__" "Frac.__add__" (sAdd) F_add fd_add)
    (a_radd : PySem.W.findIn K (.ref F_C) "__radd__" = some (some (.ref F_radd)))
    (i_radd : PySem.W.isFn K (.ref F_radd) = true)
    (Fn_radd : Fun K "__radd__" "Frac.__radd__" (sRadd) F_radd fd_radd)
    (a_sub : PySem.W.findIn K (.ref F_C) "__sub__" = some (some (.ref F_sub)))
    (i_sub : PySem.W.isFn K (.ref F_sub) = true)
    (Fn_sub : Fun K "__sub__" "Frac.__sub__" (sSub) F_sub fd_sub)
    (a_rsub : PySem.W.findIn K (.ref F_C) "__rsub__" = some (some (.ref F_rsub)))
    (i_rsub : PySem.W.isFn K (.ref F_rsub) = true)
    (Fn_rsub : Fun K "__rsub__" "Frac.__rsub__" (sRsub) F_rsub fd_rsub)
    (a_mul : PySem.W.findIn K (.ref F_C) "__mul__" = some (some (.ref F_mul)))
    (i_mul : PySem.W.isFn K (.ref F_mul) = true)
    (Fn_mul : Fun K "__mul__" "Frac.__mul__" (sMul) F_mul fd_mul)
    (a_rmul : PySem.W.findIn K (.ref F_C) "__rmul__" = some (some (.ref F_rmul)))
    (i_rmul : PySem.W.isFn K (.ref F_rmul) = true)
    (Fn_rmul : Fun K "__rmul__" "Frac.__rmul__" (sRmul) F_rmul fd_rmul)
    (a_flo : PySem.W.findIn K (.ref F_C) "__floordiv__" = some (some (.ref F_flo)))
    (i_flo : PySem.W.isFn K (.ref F_flo) = true)
    (Fn_flo : Fun K "__floordiv__" "Frac.__floordiv__" (sFlo) F_flo fd_flo)
    (a_rflo : PySem.W.findIn K (.ref F_C) "__rfloordiv__" = some (some (.ref F_rflo)))
    (i_rflo : PySem.W.isFn K (.ref F_rflo) = true)
    (Fn_rflo : Fun K "__rfloordiv__" "Frac.__rfloordiv__" (sRflo) F_rflo fd_rflo)
    (a_mod : PySem.W.findIn K (.ref F_C) "__mod__" = some (some (.ref F_mod)))
    (i_mod : PySem.W.isFn K (.ref F_mod) = true)
    (Fn_mod : Fun K "__mod__" "Frac.__mod__" (sMod) F_mod fd_mod)
    (a_rmod : PySem.W.findIn K (.ref F_C) "__rmod__" = some (some (.ref F_rmod)))
    (i_rmod : PySem.W.isFn K (.ref F_rmod) = true)
    (Fn_rmod : Fun K "__rmod__" "Frac.__rmod__" (sRmod) F_rmod fd_rmod)
    (a_pow : PySem.W.findIn K (.ref F_C) "__pow__" = some (some (.ref F_pow)))
    (i_pow : PySem.W.isFn K (.ref F_pow) = true)
    (Fn_pow : Fun K "__pow__" "Frac.__pow__" (sPow) F_pow fd_pow)
    (a_neg : PySem.W.findIn K (.ref F_C) "__neg__" = some (some (.ref F_neg)))
    (i_neg : PySem.W.isFn K (.ref F_neg) = true)
    (Fn_neg : Fun K "__neg__" "Frac.__neg__" (sNeg) F_neg fd_neg)
    (a_abs : PySem.W.findIn K (.ref F_C) "__abs__" = some (some (.ref F_abs)))
    (i_abs : PySem.W.isFn K (.ref F_abs) = true)
    (Fn_abs : Fun K "__abs__" "Frac.__abs__" (sAbs) F_abs fd_abs)
    (a_bool : PySem.W.findIn K (.ref F_C) "__bool__" = some (some (.ref F_bool)))
    (i_bool : PySem.W.isFn K (.ref F_bool) = true)
    (Fn_bool : Fun K "__bool__" "Frac.__bool__" (sBool) F_bool fd_bool)
    (a_eq : PySem.W.findIn K (.ref F_C) "__eq__" = some (some (.ref F_eq)))
    (i_eq : PySem.W.isFn K (.ref F_eq) = true)
    (Fn_eq : Fun K "__eq__" "Frac.__eq__" (sEq) F_eq fd_eq)
    (a_lt : PySem.W.findIn K (.ref F_C) "__lt__" = some (some (.ref F_lt)))
    (i_lt : PySem.W.isFn K (.ref F_lt) = true)
    (Fn_lt : Fun K "__lt__" "Frac.__lt__" (sLt) F_lt fd_lt)
    (a_le : PySem.W.findIn K (.ref F_C) "__le__" = some (some (.ref F_le)))
    (i_le : PySem.W.isFn K (.ref F_le) = true)
    (Fn_le : Fun K "__le__" "Frac.__le__" (sLe) F_le fd_le)
    (a_gt : PySem.W.findIn K (.ref F_C) "__gt__" = some (some (.ref F_gt)))
    (i_gt : PySem.W.isFn K (.ref F_gt) = true)
    (Fn_gt : Fun K "__gt__" "Frac.__gt__" (sGt) F_gt fd_gt)
    (a_ge : PySem.W.findIn K (.ref F_C) "__ge__" = some (some (.ref F_ge)))
    (i_ge : PySem.W.isFn K (.ref F_ge) = true)
    (Fn_ge : Fun K "__ge__" "Frac.__ge__" (sGe) F_ge fd_ge)
    (a_str : PySem.W.findIn K (.ref F_C) "__str__" = some (some (.ref F_str)))
    (i_str : PySem.W.isFn K (.ref F_str) = true)
    (Fn_str : Fun K "__str__" "Frac.__str__" (sStr) F_str fd_str)
    (a_over : PySem.W.findIn K (.ref F_C) "over" = some (some (.ref F_over)))
    (i_over : PySem.W.isFn K (.ref F_over) = true)
    (Fn_over : Fun K "over" "Frac.over" (sOver) F_over fd_over)
    (a_of_ : PySem.W.findCls K (.ref F_C) (.type "type") "of" = some (.get (.builtin "staticmethod.__get__") (.ref F_pOf) .none (.ref F_C)))
    (r_of_ : PySem.W.recIn K F_pOf "staticmethod" = some (.ref F_of_ :: rest_of_))
    (Fn_of_ : Fun K "of" "Frac.of" (sOf) F_of_ fd_of_)
    (a_isnum : PySem.W.nsIn K mainGlobals "is_number" = some (some (.ref F_isnum)))
    (Fn_isnum : Fun K "is_number" "is_number" (sIsNum) F_isnum fd_isnum)
    (a_wq : PySem.W.nsIn K mainGlobals "_whole_quotient" = some (some (.ref F_wq)))
    (Fn_wq : Fun K "_whole_quotient" "_whole_quotient" (sWq) F_wq fd_wq)
    (aCc_ : PySem.W.nsIn K mainGlobals "check_count" = some (some (.ref fCc_)))
    (FnCc_ : Fun K "check_count" "check_count" ((top 21)) fCc_ fdCc_)
    (aCs_ : PySem.W.nsIn K mainGlobals "check_size" = some (some (.ref fCs_)))
    (FnCs_ : Fun K "check_size" "check_size" ((top 22)) fCs_ fdCs_)
    (aCl_ : PySem.W.nsIn K mainGlobals "check_length" = some (some (.ref fCl_)))
    (FnCl_ : Fun K "check_length" "check_length" ((top 23)) fCl_ fdCl_)
    (aCk_ : PySem.W.nsIn K mainGlobals "check_kind" = some (some (.ref fCk_)))
    (FnCk_ : Fun K "check_kind" "check_kind" ((top 24)) fCk_ fdCk_)
    (aCg_ : PySem.W.nsIn K mainGlobals "check_strength" = some (some (.ref fCg_)))
    (FnCg_ : Fun K "check_strength" "check_strength" ((top 25)) fCg_ fdCg_)
    (aCr_ : PySem.W.nsIn K mainGlobals "check_rod_length" = some (some (.ref fCr_)))
    (FnCr_ : Fun K "check_rod_length" "check_rod_length" ((top 26)) fCr_ fdCr_)
    (aCt_ : PySem.W.nsIn K mainGlobals "check_twist" = some (some (.ref fCt_)))
    (FnCt_ : Fun K "check_twist" "check_twist" ((top 27)) fCt_ fdCt_)
    (aCj_ : PySem.W.nsIn K mainGlobals "check_joint" = some (some (.ref fCj_)))
    (FnCj_ : Fun K "check_joint" "check_joint" ((top 28)) fCj_ fdCj_)
    (aCo_ : PySem.W.nsIn K mainGlobals "check_rod" = some (some (.ref fCo_)))
    (FnCo_ : Fun K "check_rod" "check_rod" ((top 29)) fCo_ fdCo_)
    (aFo_ : PySem.W.nsIn K mainGlobals "fracs_of" = some (some (.ref fFo_)))
    (FnFo_ : Fun K "fracs_of" "fracs_of" ((top 41)) fFo_ fdFo_)
    (aSh_ : PySem.W.nsIn K mainGlobals "shared" = some (some (.ref fSh_)))
    (FnSh_ : Fun K "shared" "shared" ((top 42)) fSh_ fdSh_)
    (aDo_ : PySem.W.nsIn K mainGlobals "dot" = some (some (.ref fDo_)))
    (FnDo_ : Fun K "dot" "dot" ((top 43)) fDo_ fdDo_)
    (aTo_ : PySem.W.nsIn K mainGlobals "_total" = some (some (.ref fTo_)))
    (FnTo_ : Fun K "_total" "_total" ((top 58)) fTo_ fdTo_)
    (aCa_ : PySem.W.nsIn K mainGlobals "_check_joint_arms" = some (some (.ref fCa_)))
    (FnCa_ : Fun K "_check_joint_arms" "_check_joint_arms" ((top 56)) fCa_ fdCa_)
    (aCn_ : PySem.W.nsIn K mainGlobals "_common_number" = some (some (.ref fCn_)))
    (FnCn_ : Fun K "_common_number" "_common_number" ((top 57)) fCn_ fdCn_)
    (aSc_ : PySem.W.nsIn K mainGlobals "scatter" = some (some (.ref fSc_)))
    (FnSc_ : Fun K "scatter" "scatter" ((top 55)) fSc_ fdSc_)
    (aRt_ : PySem.W.nsIn K mainGlobals "rod_with_twist" = some (some (.ref fRt_)))
    (FnRt_ : Fun K "rod_with_twist" "rod_with_twist" ((top 63)) fRt_ fdRt_)
    (aCc2_ : PySem.W.nsIn K mainGlobals "cell_count" = some (some (.ref fCc2_)))
    (FnCc2_ : Fun K "cell_count" "cell_count" ((top 64)) fCc2_ fdCc2_)
    (aCce_ : PySem.W.nsIn K mainGlobals "check_cells" = some (some (.ref fCce_)))
    (FnCce_ : Fun K "check_cells" "check_cells" ((top 65)) fCce_ fdCce_)
    (aCjs_ : PySem.W.nsIn K mainGlobals "_check_joints" = some (some (.ref fCjs_)))
    (FnCjs_ : Fun K "_check_joints" "_check_joints" ((top 66)) fCjs_ fdCjs_)
    (aCrs_ : PySem.W.nsIn K mainGlobals "_check_rods" = some (some (.ref fCrs_)))
    (FnCrs_ : Fun K "_check_rods" "_check_rods" ((top 67)) fCrs_ fdCrs_)
    (aCes_ : PySem.W.nsIn K mainGlobals "_check_ears" = some (some (.ref fCes_)))
    (FnCes_ : Fun K "_check_ears" "_check_ears" ((top 68)) fCes_ fdCes_)
    (aCsg_ : PySem.W.nsIn K mainGlobals "_cell_strengths" = some (some (.ref fCsg_)))
    (FnCsg_ : Fun K "_cell_strengths" "_cell_strengths" ((top 69)) fCsg_ fdCsg_)
    (aAa_ : PySem.W.nsIn K mainGlobals "_arms_at" = some (some (.ref fAa_)))
    (FnAa_ : Fun K "_arms_at" "_arms_at" ((top 70)) fAa_ fdAa_)
    (aAs_ : PySem.W.nsIn K mainGlobals "_arm_strength" = some (some (.ref fAs_)))
    (FnAs_ : Fun K "_arm_strength" "_arm_strength" ((top 71)) fAs_ fdAs_)
    (aLl_ : PySem.W.nsIn K mainGlobals "_law_low" = some (some (.ref fLl_)))
    (FnLl_ : Fun K "_law_low" "_law_low" ((top 79)) fLl_ fdLl_)
    (aLi_ : PySem.W.nsIn K mainGlobals "_law_int" = some (some (.ref fLi_)))
    (FnLi_ : Fun K "_law_int" "_law_int" ((top 84)) fLi_ fdLi_)
    (aLr_ : PySem.W.nsIn K mainGlobals "_law_read" = some (some (.ref fLr_)))
    (FnLr_ : Fun K "_law_read" "_law_read" ((top 85)) fLr_ fdLr_)
    (aLg_ : PySem.W.nsIn K mainGlobals "_law_give" = some (some (.ref fLg_)))
    (FnLg_ : Fun K "_law_give" "_law_give" ((top 87)) fLg_ fdLg_)
    (aLd_ : PySem.W.nsIn K mainGlobals "_law_digit" = some (some (.ref fLd_)))
    (FnLd_ : Fun K "_law_digit" "_law_digit" ((top 78)) fLd_ fdLd_)
    (aLpo_ : PySem.W.nsIn K mainGlobals "_law_pool" = some (some (.ref fLpo_)))
    (FnLpo_ : Fun K "_law_pool" "_law_pool" ((top 77)) fLpo_ fdLpo_)
    (aLpw_ : PySem.W.nsIn K mainGlobals "_law_power" = some (some (.ref fLpw_)))
    (FnLpw_ : Fun K "_law_power" "_law_power" ((top 88)) fLpw_ fdLpw_)
    (aLw_ : PySem.W.nsIn K mainGlobals "_law_web" = some (some (.ref fLw_)))
    (FnLw_ : Fun K "_law_web" "_law_web" ((top 89)) fLw_ fdLw_)
    (aLma_ : PySem.W.nsIn K mainGlobals "_law_made" = some (some (.ref fLma_)))
    (FnLma_ : Fun K "_law_made" "_law_made" ((top 90)) fLma_ fdLma_)
    (aHk_ : PySem.W.nsIn K mainGlobals "_heard_of_knock" = some (some (.ref fHk_)))
    (FnHk_ : Fun K "_heard_of_knock" "_heard_of_knock" ((top 75)) fHk_ fdHk_)
    (aCer_ : PySem.W.nsIn K mainGlobals "check_ear" = some (some (.ref fCer_)))
    (FnCer_ : Fun K "check_ear" "check_ear" ((top 30)) fCer_ fdCer_)
    (aEo_ : PySem.W.nsIn K mainGlobals "echo" = some (some (.ref fEo_)))
    (FnEo_ : FunD K "echo" "echo" (defArgs (top 74)) (defBody (top 74)) (defScope (top 74)) [] [("heard", V.int 0), ("knocked", V.int 0)] fEo_ fdEo_)
    (aLsr_ : PySem.W.nsIn K mainGlobals "_lesser" = some (some (.ref fLsr_)))
    (FnLsr_ : Fun K "_lesser" "_lesser" ((top 36)) fLsr_ fdLsr_)
    (aJo_ : PySem.W.nsIn K mainGlobals "_joint_of" = some (some (.ref fJo_)))
    (FnJo_ : Fun K "_joint_of" "_joint_of" ((top 34)) fJo_ fdJo_)
    (aLw2_ : PySem.W.nsIn K mainGlobals "_least_walks" = some (some (.ref fLw2_)))
    (FnLw2_ : Fun K "_least_walks" "_least_walks" ((top 35)) fLw2_ fdLw2_)
    (aLto_ : PySem.W.nsIn K mainGlobals "_law_told" = some (some (.ref fLto_)))
    (FnLto_ : Fun K "_law_told" "_law_told" ((top 93)) fLto_ fdLto_)
    (aLfr_ : PySem.W.nsIn K mainGlobals "_law_far" = some (some (.ref fLfr_)))
    (FnLfr_ : Fun K "_law_far" "_law_far" ((top 91)) fLfr_ fdLfr_)
    (aDi_ : PySem.W.nsIn K mainGlobals "distances" = some (some (.ref fDi_)))
    (FnDi_ : Fun K "distances" "distances" ((top 32)) fDi_ fdDi_)
    (aEd_ : PySem.W.nsIn K mainGlobals "ear_distance" = some (some (.ref fEd_)))
    (FnEd_ : Fun K "ear_distance" "ear_distance" ((top 33)) fEd_ fdEd_)
    (aLft_ : PySem.W.nsIn K mainGlobals "_law_first" = some (some (.ref fLft_)))
    (FnLft_ : Fun K "_law_first" "_law_first" ((top 95)) fLft_ fdLft_)
    (aLsm_ : PySem.W.nsIn K mainGlobals "_law_same" = some (some (.ref fLsm_)))
    (FnLsm_ : Fun K "_law_same" "_law_same" ((top 92)) fLsm_ fdLsm_)
    (aLrf_ : PySem.W.nsIn K mainGlobals "_law_refused" = some (some (.ref fLrf_)))
    (FnLrf_ : Fun K "_law_refused" "_law_refused" ((top 94)) fLrf_ fdLrf_)
    (aLa_ : PySem.W.nsIn K mainGlobals "law" = some (some (.ref fLa_)))
    (FnLa_ : Fun K "law" "law" ((top 96)) fLa_ fdLa_) :
    ∃ fd : FuncData, (∀ (s : Shared) (v : Value), BindsTo s fd ⟨[v], []⟩ [("script", v)]) ∧ ∀ base : Heap, K.In base → base.Ns mainGlobals mg → FnOk l.prog w K mg base (L2.CX l.prog w) 13 fa fd ["script"] (spLa K) :=
  all_core (A := { C := F_C, Z := F_Z, T := 0, B := 0, W := 0, init := F_init, add := F_add, radd := F_radd, sub := F_sub, rsub := F_rsub, mul := F_mul, rmul := F_rmul, flo := F_flo, rflo := F_rflo, mod := F_mod, rmod := F_rmod, pow := F_pow, neg := F_neg, abs := F_abs, bool := F_bool, eq := F_eq, lt := F_lt, le := F_le, gt := F_gt, ge := F_ge, str := F_str, over := F_over, of_ := F_of_, read := 0, isnum := F_isnum, wq := F_wq, rdb := 0, pOf := F_pOf, pRead := 0 }) X G hfa aC aZ agcd amp n_isinstance n_int n_all n_abs n_bool n_len n_str n_range pg hd po sa mk kc nN nD ca cg ct cm isC tC su1 su2 sf lC ne rdC gaC iaC iaO iaI rpw i1add i2add i1sub i2sub i1mul i2mul i1flo i2flo i1mod i2mod i1pow i2pow n_tuple n_list n_zip n_enumerate n_sum xsZ xtZ xeZ xZ alcm amL aKi lKi nt_str nt_bytes nt_bytearray mCW pgCW hdCW poCW saCW tyCW rdCW gaCW vMOST_JOINTS vMOST_RODS vMOST_EARS vMOST_CELLS noCW0 noCW1 noCW2 noCW3 noCW4 noCW5 noCW6 noCW7 noCW8 noCW9 mkCW kcCW mCP rdCP gaCP amE bPi FnPi a_wi i_wi FnW aNE xgN xkN xsN xhN xaN xmN xqN xrN saN xtN xeN xnN iNE tNE aNJ xgJ xkJ xsJ xhJ xaJ xmJ xqJ xrJ saJ xtJ xeJ xnJ iNJ tNJ aWb n_VE fNW fNJ fJV fJN mNN mJN mJJ FnNi FnJi aFr iFr FnFr aBk iBk FnBk aArr iArr FnArr aTk iTk FnTk aRe iRe FnRe neW a_init i_init FnI a_add i_add Fn_add a_radd i_radd Fn_radd a_sub i_sub Fn_sub a_rsub i_rsub Fn_rsub a_mul i_mul Fn_mul a_rmul i_rmul Fn_rmul a_flo i_flo Fn_flo a_rflo i_rflo Fn_rflo a_mod i_mod Fn_mod a_rmod i_rmod Fn_rmod a_pow i_pow Fn_pow a_neg i_neg Fn_neg a_abs i_abs Fn_abs a_bool i_bool Fn_bool a_eq i_eq Fn_eq a_lt i_lt Fn_lt a_le i_le Fn_le a_gt i_gt Fn_gt a_ge i_ge Fn_ge a_str i_str Fn_str a_over i_over Fn_over a_of_ r_of_ Fn_of_ a_isnum Fn_isnum a_wq Fn_wq aCc_ FnCc_ aCs_ FnCs_ aCl_ FnCl_ aCk_ FnCk_ aCg_ FnCg_ aCr_ FnCr_ aCt_ FnCt_ aCj_ FnCj_ aCo_ FnCo_ aFo_ FnFo_ aSh_ FnSh_ aDo_ FnDo_ aTo_ FnTo_ aCa_ FnCa_ aCn_ FnCn_ aSc_ FnSc_ aRt_ FnRt_ aCc2_ FnCc2_ aCce_ FnCce_ aCjs_ FnCjs_ aCrs_ FnCrs_ aCes_ FnCes_ aCsg_ FnCsg_ aAa_ FnAa_ aAs_ FnAs_ aLl_ FnLl_ aLi_ FnLi_ aLr_ FnLr_ aLg_ FnLg_ aLd_ FnLd_ aLpo_ FnLpo_ aLpw_ FnLpw_ aLw_ FnLw_ aLma_ FnLma_ aHk_ FnHk_ aCer_ FnCer_ aEo_ FnEo_ aLsr_ FnLsr_ aJo_ FnJo_ aLw2_ FnLw2_ aLto_ FnLto_ aLfr_ FnLfr_ aDi_ FnDi_ aEd_ FnEd_ aLft_ FnLft_ aLsm_ FnLsm_ aLrf_ FnLrf_ aLa_ FnLa_
theorem walk {l : PySem.W.OpenLaw} {q : Program} {loose : List Str} {XP : (Str → Option Value) → Heap → Prop} {YP : World → Heap → Prop} {d : DefRec} {K : Params → PySem.W.Frag} (hn : l.most = some 63) (hdf : d.params.defaults = [])
    (hY : ∀ (w : World) (h : Heap), YP w h → (K w.params).In h)
    (F : ∀ (w : World) (mg : Str → Option Value) (fa : Addr) (h : Heap), (K w.params).In h → h.Ns mainGlobals mg → mg d.name = some (.ref fa) →
      ∃ fd : FuncData, (∀ (s : Shared) (u : Value), BindsTo s fd ⟨[u], []⟩ [("script", u)]) ∧ ∀ base : Heap, (K w.params).In base → base.Ns mainGlobals mg → FnOk l.prog w (K w.params) mg base (L2.CX l.prog w) 13 fa fd ["script"] (spLa (K w.params))) :
    PySem.W.WalkO q loose XP YP l.row.toRowW d [] (fun f vs => PySem.call f vs) :=
  L2.walk_of (n := 63) (k := 13) (x := "script") (CX := fun w => L2.CX l.prog w) (sp := fun w => spLa (K w.params)) hn (by decide) hdf ⟨rfl, by decide, by decide⟩ hY F (fun _ _ a ns hl _ hS => ⟨a, ns, rfl, hS, hl, fun _ => rfl⟩) fun _ _ _ _ _ z => by
    obtain ⟨_, _, _, _, _, _, _, _, _, _, _, _, z⟩ := z
    exact z
end Fx

set_option Elab.async false
set_option linter.all false
set_option maxRecDepth 100000
set_option maxHeartbeats 8000000
namespace Fx
open PySem PySem.Spec PyProof.Rows L2
theorem facts {l : PySem.W.OpenLaw} {w : World} {K : PySem.W.Frag} {h : Heap} {mg : Str → Option Value} {fa : Addr} (X : K.In h) (G : h.Ns mainGlobals mg) (hfa : mg "law" = some (.ref fa)) (c : Told K) :
    ∃ fd : FuncData, (∀ (s : Shared) (v : Value), BindsTo s fd ⟨[v], []⟩ [("script", v)]) ∧ ∀ base : Heap, K.In base → base.Ns mainGlobals mg → FnOk l.prog w K mg base (L2.CX l.prog w) 13 fa fd ["script"] (spLa K) := by
  obtain ⟨_, Fn_FnPi⟩ := c.def_ 0 rfl
  obtain ⟨_, Fn_FnW⟩ := c.def_ 1 rfl
  obtain ⟨_, Fn_FnNi⟩ := c.def_ 2 rfl
  obtain ⟨_, Fn_FnJi⟩ := c.def_ 3 rfl
  obtain ⟨_, Fn_FnFr⟩ := c.def_ 4 rfl
  obtain ⟨_, Fn_FnBk⟩ := c.def_ 5 rfl
  obtain ⟨_, Fn_FnArr⟩ := c.def_ 6 rfl
  obtain ⟨_, Fn_FnTk⟩ := c.def_ 7 rfl
  obtain ⟨_, Fn_FnRe⟩ := c.def_ 8 rfl
  obtain ⟨_, Fn_FnI⟩ := c.def_ 9 rfl
  obtain ⟨_, Fn_Fn_add⟩ := c.def_ 10 rfl
  obtain ⟨_, Fn_Fn_radd⟩ := c.def_ 11 rfl
  obtain ⟨_, Fn_Fn_sub⟩ := c.def_ 12 rfl
  obtain ⟨_, Fn_Fn_rsub⟩ := c.def_ 13 rfl
  obtain ⟨_, Fn_Fn_mul⟩ := c.def_ 14 rfl
  obtain ⟨_, Fn_Fn_rmul⟩ := c.def_ 15 rfl
  obtain ⟨_, Fn_Fn_flo⟩ := c.def_ 16 rfl
  obtain ⟨_, Fn_Fn_rflo⟩ := c.def_ 17 rfl
  obtain ⟨_, Fn_Fn_mod⟩ := c.def_ 18 rfl
  obtain ⟨_, Fn_Fn_rmod⟩ := c.def_ 19 rfl
  obtain ⟨_, Fn_Fn_pow⟩ := c.def_ 20 rfl
  obtain ⟨_, Fn_Fn_neg⟩ := c.def_ 21 rfl
  obtain ⟨_, Fn_Fn_abs⟩ := c.def_ 22 rfl
  obtain ⟨_, Fn_Fn_bool⟩ := c.def_ 23 rfl
  obtain ⟨_, Fn_Fn_eq⟩ := c.def_ 24 rfl
  obtain ⟨_, Fn_Fn_lt⟩ := c.def_ 25 rfl
  obtain ⟨_, Fn_Fn_le⟩ := c.def_ 26 rfl
  obtain ⟨_, Fn_Fn_gt⟩ := c.def_ 27 rfl
  obtain ⟨_, Fn_Fn_ge⟩ := c.def_ 28 rfl
  obtain ⟨_, Fn_Fn_str⟩ := c.def_ 29 rfl
  obtain ⟨_, Fn_Fn_over⟩ := c.def_ 30 rfl
  obtain ⟨_, Fn_Fn_of_⟩ := c.def_ 31 rfl
  obtain ⟨_, Fn_Fn_isnum⟩ := c.def_ 32 rfl
  obtain ⟨_, Fn_Fn_wq⟩ := c.def_ 33 rfl
  obtain ⟨_, Fn_FnCc_⟩ := c.def_ 34 rfl
  obtain ⟨_, Fn_FnCs_⟩ := c.def_ 35 rfl
  obtain ⟨_, Fn_FnCl_⟩ := c.def_ 36 rfl
  obtain ⟨_, Fn_FnCk_⟩ := c.def_ 37 rfl
  obtain ⟨_, Fn_FnCg_⟩ := c.def_ 38 rfl
  obtain ⟨_, Fn_FnCr_⟩ := c.def_ 39 rfl
  obtain ⟨_, Fn_FnCt_⟩ := c.def_ 40 rfl
  obtain ⟨_, Fn_FnCj_⟩ := c.def_ 41 rfl
  obtain ⟨_, Fn_FnCo_⟩ := c.def_ 42 rfl
  obtain ⟨_, Fn_FnFo_⟩ := c.def_ 43 rfl
  obtain ⟨_, Fn_FnSh_⟩ := c.def_ 44 rfl
  obtain ⟨_, Fn_FnDo_⟩ := c.def_ 45 rfl
  obtain ⟨_, Fn_FnTo_⟩ := c.def_ 46 rfl
  obtain ⟨_, Fn_FnCa_⟩ := c.def_ 47 rfl
  obtain ⟨_, Fn_FnCn_⟩ := c.def_ 48 rfl
  obtain ⟨_, Fn_FnSc_⟩ := c.def_ 49 rfl
  obtain ⟨_, Fn_FnRt_⟩ := c.def_ 50 rfl
  obtain ⟨_, Fn_FnCc2_⟩ := c.def_ 51 rfl
  obtain ⟨_, Fn_FnCce_⟩ := c.def_ 52 rfl
  obtain ⟨_, Fn_FnCjs_⟩ := c.def_ 53 rfl
  obtain ⟨_, Fn_FnCrs_⟩ := c.def_ 54 rfl
  obtain ⟨_, Fn_FnCes_⟩ := c.def_ 55 rfl
  obtain ⟨_, Fn_FnCsg_⟩ := c.def_ 56 rfl
  obtain ⟨_, Fn_FnAa_⟩ := c.def_ 57 rfl
  obtain ⟨_, Fn_FnAs_⟩ := c.def_ 58 rfl
  obtain ⟨_, Fn_FnLl_⟩ := c.def_ 59 rfl
  obtain ⟨_, Fn_FnLi_⟩ := c.def_ 60 rfl
  obtain ⟨_, Fn_FnLr_⟩ := c.def_ 61 rfl
  obtain ⟨_, Fn_FnLg_⟩ := c.def_ 62 rfl
  obtain ⟨_, Fn_FnLd_⟩ := c.def_ 63 rfl
  obtain ⟨_, Fn_FnLpo_⟩ := c.def_ 64 rfl
  obtain ⟨_, Fn_FnLpw_⟩ := c.def_ 65 rfl
  obtain ⟨_, Fn_FnLw_⟩ := c.def_ 66 rfl
  obtain ⟨_, Fn_FnLma_⟩ := c.def_ 67 rfl
  obtain ⟨_, Fn_FnHk_⟩ := c.def_ 68 rfl
  obtain ⟨_, Fn_FnCer_⟩ := c.def_ 69 rfl
  obtain ⟨_, Fn_FnEo_⟩ := c.def_ 70 rfl
  obtain ⟨_, Fn_FnLsr_⟩ := c.def_ 71 rfl
  obtain ⟨_, Fn_FnJo_⟩ := c.def_ 72 rfl
  obtain ⟨_, Fn_FnLw2_⟩ := c.def_ 73 rfl
  obtain ⟨_, Fn_FnLto_⟩ := c.def_ 74 rfl
  obtain ⟨_, Fn_FnLfr_⟩ := c.def_ 75 rfl
  obtain ⟨_, Fn_FnDi_⟩ := c.def_ 76 rfl
  obtain ⟨_, Fn_FnEd_⟩ := c.def_ 77 rfl
  obtain ⟨_, Fn_FnLft_⟩ := c.def_ 78 rfl
  obtain ⟨_, Fn_FnLsm_⟩ := c.def_ 79 rfl
  obtain ⟨_, Fn_FnLrf_⟩ := c.def_ 80 rfl
  obtain ⟨_, Fn_FnLa_⟩ := c.def_ 81 rfl
  obtain ⟨_, _, _, lKi_⟩ := lookT_ok (of_decide_eq_true (c.get 61 rfl))
  obtain ⟨cd, lC0, lC1⟩ := Option.map_eq_some_iff.mp (of_decide_eq_true (c.get 29 rfl))
  obtain ⟨c1, c2, c3, c4, c5, c6, c7, c8, c9, ca, cb⟩ := cd
  dsimp only at lC1
  subst lC1
  have lC_ := lC0
  exact all_core (A := { C := 601, Z := 72, T := 0, B := 0, W := 0, init := 431, add := 438, radd := 445, sub := 452, rsub := 459, mul := 466, rmul := 473, flo := 480, rflo := 487, mod := 494, rmod := 501, pow := 508, neg := 515, abs := 522, bool := 529, eq := 536, lt := 543, le := 550, gt := 557, ge := 564, str := 571, over := 578, of_ := 585, read := 0, isnum := 612, wq := 634, rdb := 0, pOf := 587, pRead := 0 }) X G hfa (of_decide_eq_true (c.get 0 rfl)) (of_decide_eq_true (c.get 1 rfl)) (of_decide_eq_true (c.get 2 rfl)) (of_decide_eq_true (c.get 3 rfl)) (of_decide_eq_true (c.get 4 rfl)) (of_decide_eq_true (c.get 5 rfl)) (of_decide_eq_true (c.get 6 rfl)) (of_decide_eq_true (c.get 7 rfl)) (of_decide_eq_true (c.get 8 rfl)) (of_decide_eq_true (c.get 9 rfl)) (of_decide_eq_true (c.get 10 rfl)) (of_decide_eq_true (c.get 11 rfl)) (c.get 12 rfl) (c.get 13 rfl) (c.get 14 rfl) (of_decide_eq_true (c.get 15 rfl)) (c.get 16 rfl) (c.get 17 rfl) (of_decide_eq_true (c.get 18 rfl)) (of_decide_eq_true (c.get 19 rfl)) (of_decide_eq_true (c.get 20 rfl)) (of_decide_eq_true (c.get 21 rfl)) (of_decide_eq_true (c.get 22 rfl)) (of_decide_eq_true (c.get 23 rfl)) (c.get 24 rfl) (of_decide_eq_true (c.get 25 rfl)) (of_decide_eq_true (c.get 26 rfl)) (of_decide_eq_true (c.get 27 rfl)) (c.get 28 rfl) (lC_) (of_decide_eq_true (c.get 30 rfl)) (c.get 31 rfl) (of_decide_eq_true (c.get 32 rfl)) (of_decide_eq_true (c.get 33 rfl)) (of_decide_eq_true (c.get 34 rfl)) (of_decide_eq_true (c.get 35 rfl)) (of_decide_eq_true (c.get 36 rfl)) (of_decide_eq_true (c.get 37 rfl)) (of_decide_eq_true (c.get 38 rfl)) (of_decide_eq_true (c.get 39 rfl)) (of_decide_eq_true (c.get 40 rfl)) (of_decide_eq_true (c.get 41 rfl)) (of_decide_eq_true (c.get 42 rfl)) (of_decide_eq_true (c.get 43 rfl)) (of_decide_eq_true (c.get 44 rfl)) (of_decide_eq_true (c.get 45 rfl)) (of_decide_eq_true (c.get 46 rfl)) (of_decide_eq_true (c.get 47 rfl)) (of_decide_eq_true (c.get 48 rfl)) (of_decide_eq_true (c.get 49 rfl)) (of_decide_eq_true (c.get 50 rfl)) (of_decide_eq_true (c.get 51 rfl)) (of_decide_eq_true (c.get 52 rfl)) (of_decide_eq_true (c.get 53 rfl)) (of_decide_eq_true (c.get 54 rfl)) (of_decide_eq_true (c.get 55 rfl)) (c.get 56 rfl) (c.get 57 rfl) (of_decide_eq_true (c.get 58 rfl)) (of_decide_eq_true (c.get 59 rfl)) (of_decide_eq_true (c.get 60 rfl)) (lKi_) (of_decide_eq_true (c.get 62 rfl)) (of_decide_eq_true (c.get 63 rfl)) (of_decide_eq_true (c.get 64 rfl)) (of_decide_eq_true (c.get 65 rfl)) (c.get 66 rfl) (c.get 67 rfl) (c.get 68 rfl) (of_decide_eq_true (c.get 69 rfl)) (of_decide_eq_true (c.get 70 rfl)) (c.get 71 rfl) (of_decide_eq_true (c.get 72 rfl)) (of_decide_eq_true (c.get 73 rfl)) (of_decide_eq_true (c.get 74 rfl)) (of_decide_eq_true (c.get 75 rfl)) (of_decide_eq_true (c.get 76 rfl)) (of_decide_eq_true (c.get 77 rfl)) (of_decide_eq_true (c.get 78 rfl)) (of_decide_eq_true (c.get 79 rfl)) (of_decide_eq_true (c.get 80 rfl)) (of_decide_eq_true (c.get 81 rfl)) (of_decide_eq_true (c.get 82 rfl)) (of_decide_eq_true (c.get 83 rfl)) (of_decide_eq_true (c.get 84 rfl)) (of_decide_eq_true (c.get 85 rfl)) (of_decide_eq_true (c.get 86 rfl)) (c.get 87 rfl) (c.get 88 rfl) (of_decide_eq_true (c.get 89 rfl)) (c.get 90 rfl) (of_decide_eq_true (c.get 91 rfl)) (of_decide_eq_true (c.get 92 rfl)) (of_decide_eq_true (c.get 93 rfl)) (fun_of Fn_FnPi) (of_decide_eq_true (c.get 94 rfl)) (c.get 95 rfl) Fn_FnW (of_decide_eq_true (c.get 96 rfl)) (of_decide_eq_true (c.get 97 rfl)) (of_decide_eq_true (c.get 98 rfl)) (of_decide_eq_true (c.get 99 rfl)) (c.get 100 rfl) (of_decide_eq_true (c.get 101 rfl)) (of_decide_eq_true (c.get 102 rfl)) (c.get 103 rfl) (c.get 104 rfl) (of_decide_eq_true (c.get 105 rfl)) (of_decide_eq_true (c.get 106 rfl)) (c.get 107 rfl) (of_decide_eq_true (c.get 108 rfl)) (of_decide_eq_true (c.get 109 rfl)) (of_decide_eq_true (c.get 110 rfl)) (of_decide_eq_true (c.get 111 rfl)) (of_decide_eq_true (c.get 112 rfl)) (of_decide_eq_true (c.get 113 rfl)) (of_decide_eq_true (c.get 114 rfl)) (c.get 115 rfl) (of_decide_eq_true (c.get 116 rfl)) (of_decide_eq_true (c.get 117 rfl)) (c.get 118 rfl) (c.get 119 rfl) (of_decide_eq_true (c.get 120 rfl)) (of_decide_eq_true (c.get 121 rfl)) (c.get 122 rfl) (of_decide_eq_true (c.get 123 rfl)) (of_decide_eq_true (c.get 124 rfl)) (of_decide_eq_true (c.get 125 rfl)) (of_decide_eq_true (c.get 126 rfl)) (of_decide_eq_true (c.get 127 rfl)) (of_decide_eq_true (c.get 128 rfl)) (of_decide_eq_true (c.get 129 rfl)) (of_decide_eq_true (c.get 130 rfl)) (of_decide_eq_true (c.get 131 rfl)) (of_decide_eq_true (c.get 132 rfl)) (of_decide_eq_true (c.get 133 rfl)) (of_decide_eq_true (c.get 134 rfl)) (fun_of Fn_FnNi) (fun_of Fn_FnJi) (of_decide_eq_true (c.get 135 rfl)) (c.get 136 rfl) (fun_of Fn_FnFr) (of_decide_eq_true (c.get 137 rfl)) (c.get 138 rfl) (fun_of Fn_FnBk) (of_decide_eq_true (c.get 139 rfl)) (c.get 140 rfl) (fun_of Fn_FnArr) (of_decide_eq_true (c.get 141 rfl)) (c.get 142 rfl) (fun_of Fn_FnTk) (of_decide_eq_true (c.get 143 rfl)) (c.get 144 rfl) (fun_of Fn_FnRe) (by decide) (of_decide_eq_true (c.get 145 rfl)) (c.get 146 rfl) Fn_FnI (of_decide_eq_true (c.get 147 rfl)) (c.get 148 rfl) (fun_of Fn_Fn_add) (of_decide_eq_true (c.get 149 rfl)) (c.get 150 rfl) (fun_of Fn_Fn_radd) (of_decide_eq_true (c.get 151 rfl)) (c.get 152 rfl) (fun_of Fn_Fn_sub) (of_decide_eq_true (c.get 153 rfl)) (c.get 154 rfl) (fun_of Fn_Fn_rsub) (of_decide_eq_true (c.get 155 rfl)) (c.get 156 rfl) (fun_of Fn_Fn_mul) (of_decide_eq_true (c.get 157 rfl)) (c.get 158 rfl) (fun_of Fn_Fn_rmul) (of_decide_eq_true (c.get 159 rfl)) (c.get 160 rfl) (fun_of Fn_Fn_flo) (of_decide_eq_true (c.get 161 rfl)) (c.get 162 rfl) (fun_of Fn_Fn_rflo) (of_decide_eq_true (c.get 163 rfl)) (c.get 164 rfl) (fun_of Fn_Fn_mod) (of_decide_eq_true (c.get 165 rfl)) (c.get 166 rfl) (fun_of Fn_Fn_rmod) (of_decide_eq_true (c.get 167 rfl)) (c.get 168 rfl) (fun_of Fn_Fn_pow) (of_decide_eq_true (c.get 169 rfl)) (c.get 170 rfl) (fun_of Fn_Fn_neg) (of_decide_eq_true (c.get 171 rfl)) (c.get 172 rfl) (fun_of Fn_Fn_abs) (of_decide_eq_true (c.get 173 rfl)) (c.get 174 rfl) (fun_of Fn_Fn_bool) (of_decide_eq_true (c.get 175 rfl)) (c.get 176 rfl) (fun_of Fn_Fn_eq) (of_decide_eq_true (c.get 177 rfl)) (c.get 178 rfl) (fun_of Fn_Fn_lt) (of_decide_eq_true (c.get 179 rfl)) (c.get 180 rfl) (fun_of Fn_Fn_le) (of_decide_eq_true (c.get 181 rfl)) (c.get 182 rfl) (fun_of Fn_Fn_gt) (of_decide_eq_true (c.get 183 rfl)) (c.get 184 rfl) (fun_of Fn_Fn_ge) (of_decide_eq_true (c.get 185 rfl)) (c.get 186 rfl) (fun_of Fn_Fn_str) (of_decide_eq_true (c.get 187 rfl)) (c.get 188 rfl) (fun_of Fn_Fn_over) (of_decide_eq_true (c.get 189 rfl)) (of_decide_eq_true (c.get 190 rfl)) (fun_of Fn_Fn_of_) (of_decide_eq_true (c.get 191 rfl)) (fun_of Fn_Fn_isnum) (of_decide_eq_true (c.get 192 rfl)) (fun_of Fn_Fn_wq) (of_decide_eq_true (c.get 193 rfl)) (fun_of Fn_FnCc_) (of_decide_eq_true (c.get 194 rfl)) (fun_of Fn_FnCs_) (of_decide_eq_true (c.get 195 rfl)) (fun_of Fn_FnCl_) (of_decide_eq_true (c.get 196 rfl)) (fun_of Fn_FnCk_) (of_decide_eq_true (c.get 197 rfl)) (fun_of Fn_FnCg_) (of_decide_eq_true (c.get 198 rfl)) (fun_of Fn_FnCr_) (of_decide_eq_true (c.get 199 rfl)) (fun_of Fn_FnCt_) (of_decide_eq_true (c.get 200 rfl)) (fun_of Fn_FnCj_) (of_decide_eq_true (c.get 201 rfl)) (fun_of Fn_FnCo_) (of_decide_eq_true (c.get 202 rfl)) (fun_of Fn_FnFo_) (of_decide_eq_true (c.get 203 rfl)) (fun_of Fn_FnSh_) (of_decide_eq_true (c.get 204 rfl)) (fun_of Fn_FnDo_) (of_decide_eq_true (c.get 205 rfl)) (fun_of Fn_FnTo_) (of_decide_eq_true (c.get 206 rfl)) (fun_of Fn_FnCa_) (of_decide_eq_true (c.get 207 rfl)) (fun_of Fn_FnCn_) (of_decide_eq_true (c.get 208 rfl)) (fun_of Fn_FnSc_) (of_decide_eq_true (c.get 209 rfl)) (fun_of Fn_FnRt_) (of_decide_eq_true (c.get 210 rfl)) (fun_of Fn_FnCc2_) (of_decide_eq_true (c.get 211 rfl)) (fun_of Fn_FnCce_) (of_decide_eq_true (c.get 212 rfl)) (fun_of Fn_FnCjs_) (of_decide_eq_true (c.get 213 rfl)) (fun_of Fn_FnCrs_) (of_decide_eq_true (c.get 214 rfl)) (fun_of Fn_FnCes_) (of_decide_eq_true (c.get 215 rfl)) (fun_of Fn_FnCsg_) (of_decide_eq_true (c.get 216 rfl)) (fun_of Fn_FnAa_) (of_decide_eq_true (c.get 217 rfl)) (fun_of Fn_FnAs_) (of_decide_eq_true (c.get 218 rfl)) (fun_of Fn_FnLl_) (of_decide_eq_true (c.get 219 rfl)) (fun_of Fn_FnLi_) (of_decide_eq_true (c.get 220 rfl)) (fun_of Fn_FnLr_) (of_decide_eq_true (c.get 221 rfl)) (fun_of Fn_FnLg_) (of_decide_eq_true (c.get 222 rfl)) (fun_of Fn_FnLd_) (of_decide_eq_true (c.get 223 rfl)) (fun_of Fn_FnLpo_) (of_decide_eq_true (c.get 224 rfl)) (fun_of Fn_FnLpw_) (of_decide_eq_true (c.get 225 rfl)) (fun_of Fn_FnLw_) (of_decide_eq_true (c.get 226 rfl)) (fun_of Fn_FnLma_) (of_decide_eq_true (c.get 227 rfl)) (fun_of Fn_FnHk_) (of_decide_eq_true (c.get 228 rfl)) (fun_of Fn_FnCer_) (of_decide_eq_true (c.get 229 rfl)) Fn_FnEo_ (of_decide_eq_true (c.get 230 rfl)) (fun_of Fn_FnLsr_) (of_decide_eq_true (c.get 231 rfl)) (fun_of Fn_FnJo_) (of_decide_eq_true (c.get 232 rfl)) (fun_of Fn_FnLw2_) (of_decide_eq_true (c.get 233 rfl)) (fun_of Fn_FnLto_) (of_decide_eq_true (c.get 234 rfl)) (fun_of Fn_FnLfr_) (of_decide_eq_true (c.get 235 rfl)) (fun_of Fn_FnDi_) (of_decide_eq_true (c.get 236 rfl)) (fun_of Fn_FnEd_) (of_decide_eq_true (c.get 237 rfl)) (fun_of Fn_FnLft_) (of_decide_eq_true (c.get 238 rfl)) (fun_of Fn_FnLsm_) (of_decide_eq_true (c.get 239 rfl)) (fun_of Fn_FnLrf_) (of_decide_eq_true (c.get 240 rfl)) (fun_of Fn_FnLa_)
end Fx

set_option Elab.async false
set_option linter.all false
set_option maxRecDepth 100000
set_option maxHeartbeats 0
namespace Fx
open PySem PySem.W PySem.Calls PyProof.Rows
theorem run (w : World) : HandSHeadRun.RunEqI Rr qv hk ob 20000 names w := by
  obtain ⟨x, hx, ea⟩ := Option.map_eq_some_iff.mp (runA w)
  obtain ⟨y, hy, eb⟩ := Option.map_eq_some_iff.mp (runB w)
  have exy : x = y := Option.some.inj (hx.symm.trans hy)
  subst exy
  unfold HandSHeadRun.RunEqI
  refine Option.map_eq_some_iff.mpr ⟨x, hx, ?_⟩
  obtain ⟨e1, e2⟩ := Prod.mk.inj ea
  exact Prod.ext e1 (Prod.ext e2 eb)
/-- the law's walk, from what the head tells -/
theorem lawWalk {q : Program} {loose : List PySem.Str} {XP : (PySem.Str → Option Value) → Heap → Prop} {d : DefRec} (hd : d.params.defaults = []) (hnm : d.name = ("law" : PySem.Str)) :
    PySem.W.WalkO q loose XP hk.says (PySem.Challenge.rw_rodwebs_k20_first_arrival).row.toRowW d [] (fun f vs => PySem.call f vs) := by
  refine Att.attach_call (n := 63) (l := PySem.Challenge.rw_rodwebs_k20_first_arrival) rfl hd ?_
  intro w _ s1 mg _ fa _ _ _ _ a _ ns G Y _ _ _ gfa o1 o2 o3 o4
  obtain ⟨K, inK, told⟩ := Y
  obtain ⟨fd, bnd, ok⟩ := facts (l := PySem.Challenge.rw_rodwebs_k20_first_arrival) (w := w) inK G.T.g (by rw [← hnm]; exact gfa) told
  have room : L2.Room 13 callerA := ⟨rfl, by decide, by decide⟩
  refine L2.law_call inK G.T.g G.T.b G.T.builtins G.T.nolimit o4 o1 o2 (Nat.le_trans o3 (by decide)) room ok bnd (fun H _ hS => ⟨a, ns, rfl, hS, o3, fun _ => rfl⟩) fun H e s2 z => ?_
  obtain ⟨_, _, _, _, _, _, _, _, _, _, _, _, z⟩ := z
  exact z
end Fx
open PySem PySem.W PySem.Calls PyProof.Rows
theorem PySem.Challenge.cw_rodwebs_k20_first_arrival_holds : PySem.Challenge.rw_rodwebs_k20_first_arrival.Holds := by
  w_on; o_law
  refine HandSHeadRun.head_imp (r := Fx.Rr) (q := Fx.qv) (H := Fx.hk) (ob := Fx.ob) (M := 20000) (loose := Fx.names) (d := HandSHeadRun.topDef Fx.Rr.prog 96) (kwd := []) Fx.ob_eq Fx.run
    (by kernel_rfl) (by kernel_rfl) (by kernel_rfl) (by rfl) (by first | assumption | decide +kernel) (by decide +kernel) ⟨rfl, rfl, rfl, rfl, rfl, by decide +kernel⟩ ?hw ?hc
  case hw => w_witness2
  case hc =>
    exact Fx.lawWalk (q := Fx.qv) (loose := Fx.names) (d := HandSHeadRun.topDef Fx.Rr.prog 96) (by kernel_rfl) (by kernel_rfl)
