import PyProof.Rows.All
import Wide.All
import OpenK.AllK
import Wide.FinOn
import HandS.Words
import HandS.Head2
import HandS.HeadHook2
import HandS.Codes
import HandS.Property
import KE.KExcInit
import HandS.ExcField
import HandS.ExcIs
import HandS.ForMost
import HandS.Evl
import HandS.Style
import HandS.IsInst
import HandS.StrMore
import HandS.Flow
import HandS.Wide
import HandS.Zip
import PyProof.ReprRoads
import HandS.Set
import HandS.SetFor
import PyProof.Rows.SortShellAny
import HandS.ExcInit
import HandS.Text
import HandS.Walk
import HandS.Strs
import HandS.WordsDict
import HandS.TupLen
import KE.GoesEnum
import KE.GoesZip
import KE.GoesMore
import HandS.Comp
import HandS.NoneIn
import HandS.Star
import HandS.FStr
import KE.KSortTupG
import HandS.Conv
import HandS.Sort
import HandS.SortInts
import PyProof.Rows.StrMeet
import KE.KMinBuiltin
import HandS.SortKw
import HandS.DictComp
import HandS.TupLe
import KE.KeyNested
import HandS.More
import PyProof.InstNe
import KE.KDictDisplayH
import HandS.TupMul
import PyProof.StrBlock2
import HandS.DictEq
import KE.KDictPairs
import HandS.ListItems
import KE.KDictZip
import KE.KDictList
import KE.KCallOwn
import HandS.DictTup
import KE.KDictCopyH
import HandS.TryMany
import KE.KItemsList
import HandS.TupAny
import HandS.Translate
import HandS.IntHex
import PyProof.FString3
import PyProof.Rows.ZipGen
import PyProof.ListStr
import HandS.Rev
import PyProof.ExcBaseAll.LookupError
import PyProof.ExcBaseAll.RuntimeError
import PyProof.ExcBaseAll.ArithmeticError
import HandS.Deep
import PyProof.ExcBaseAll.IndexError
import PyProof.ExcBaseAll.OverflowError
import PyProof.ExcBaseAll.ValueError
import HandS.MakeKwOnly
import HandS.ClsMeth
import OpenK.KMeth
import KE.KExcIs
import HandS.HotCalls
import PyProof.Rows.RegFStrParts
import PyProof.Rows.ReprOcc
import KE.KIntText
import PyProof.Rows.RegStrFacts
import PySem.Challenge.RW_lastprices_k02_errors_kept_and_caught
set_option Elab.async false
set_option linter.all false
set_option maxRecDepth 100000
set_option maxHeartbeats 4000000
/-! Mh: checks by names, the hook. -/
namespace Mh
open PySem PySem.Spec PyProof.Rows L2 He
abbrev Ck := PySem.W.Frag → Bool
def kGlo (x : Str) : Ck := fun K => eqO (PySem.W.nsIn K mainGlobals x) (some (some (.ref (ga K x))))
def kFree (x : Str) : Ck := (Fa.free x).ok
/-- the getter of a property -/
def pg (K : PySem.W.Frag) (C : Addr) (m : Str) : Addr := match PySem.W.recIn K (ma K C m) "property" with
  | some (.ref g :: _) => g
  | _ => 0
inductive Pl where
  | g (x : Str)
  | m (x f : Str)
  | p (x f : Str)
  | c (x f : Str)
/-- the def of a classmethod -/
def cg (K : PySem.W.Frag) (C : Addr) (m : Str) : Addr := match PySem.W.recIn K (ma K C m) "classmethod" with
  | some (.ref g :: _) => g
  | _ => 0
def Pl.ad (K : PySem.W.Frag) : Pl → Addr
  | .g x => ga K x
  | .m x f => ma K (ga K x) f
  | .p x f => pg K (ga K x) f
  | .c x f => cg K (ga K x) f
structure Df where
  pl : Pl
  name : Str
  qual : Str
  st : Stmt
abbrev Vf : Type := Option (Str × Str × Arguments × FuncBody × Scope × Addr × List (Str × Addr) × Value × Addr)
def fdOf (K : PySem.W.Frag) (a : Addr) : FuncData := match K.lookup a with
  | some ⟨_, _, .func fd, _⟩ => fd
  | _ => PySem.W.fnOf "" "" ⟨[], [], none, [], [], none, []⟩ [] ⟨.function, [], false, false, []⟩ .none .none .none .none none .none .none
def seeF (K : PySem.W.Frag) (a : Addr) : Vf := match K.lookup a with
  | some ⟨_, _, .func fd, _⟩ => some (fd.name, fd.qualname, fd.params, fd.body, fd.scope, fd.globals, fd.closure, fd.defaults, fd.builtins)
  | _ => none
def Df.val (d : Df) : Vf := some (d.name, d.qual, defArgs d.st, .stmts (defBody d.st), defScope d.st, mainGlobals, [], .none, builtinsNs)
def Df.good (d : Df) : Ck := fun K => PySem.W.codeIn K (fdOf K (d.pl.ad K)).code d.qual && PySem.W.keepIn K (.ref (d.pl.ad K))
abbrev Ah : Type := Bool × List Vf
def seeH (cs : List Ck) (ds : List Df) (K : PySem.W.Frag) : Ah := ((cs.all fun c => c K) && ds.all fun d => d.good K, ds.map fun d => seeF K (d.pl.ad K))
def valH (ds : List Df) : Ah := (true, ds.map Df.val)
def SaysH (cs : List Ck) (ds : List Df) (K : PySem.W.Frag) : Prop := seeH cs ds K = valH ds
/-! .. over told addresses -/
def obA (as : List Addr) (cs : List Ck) (ds : List Df) (g : Addr → Option Obj) : Ah := seeH cs ds (frG g as)
def hookA (as : List Addr) (cs : List Ck) (ds : List Df) : PySem.W.Hook where
  α := Ah
  obs := fun s => obA as cs ds s.heap.get?
  val := fun _ => valH ds
  says := fun _ h => ∃ K : PySem.W.Frag, K.In h ∧ SaysH cs ds K
  of := fun _ _ e => ⟨_, frG_in, e⟩
  keeps := fun _ _ _ ⟨K, hK, c⟩ k => ⟨K, PySem.W.Frag.In.keeps hK k, c⟩
def obS (as : List Addr) (cs : List Ck) (ds : List Df) (s : PySem.W.SharedT) : Ah := obA as cs ds (HandSHeadRun.getT s)
theorem obS_eq {as : List Addr} {cs : List Ck} {ds : List Df} (s : PySem.W.SharedT) : obS as cs ds s = (hookA as cs ds).obs s.abs := by
  have e : HandSHeadRun.getT s = s.abs.heap.get? := funext (HandSHeadRun.getT_eq s)
  unfold obS
  rw [e] <;> rfl
/-- the run's two looks, each a run of its own -/
theorem runEq {r : PySem.W.OpenRow} {q : Program} {H : PySem.W.Hook} {ob : PySem.W.SharedT → H.α} {M : Nat} {loose : List PySem.Str} {w : World}
    (h1 : ∀ os : OsState, (HandSHeadRun.endF (HandSHeadRun.stepQ (HandSHeadRun.denQ HandSHeadRun.tabQ) r.prog w) M r.prog w os).map (fun s => (HandSHeadRun.looksF r.prog (PySem.W.boot_heap w.params) s.abs, HandSHeadRun.seenQ q loose (importedModules r.prog.main.body) (fun s => PySem.W.xlAt q [] s && PySem.W.recOk r.toRowW.records s) s.abs)) = some (true, PySem.W.openGood q loose))
    (h2 : ∀ os : OsState, (HandSHeadRun.endF (HandSHeadRun.stepQ (HandSHeadRun.denQ HandSHeadRun.tabQ) r.prog w) M r.prog w os).map ob = some (H.val w)) : HandSHeadRun.RunEq r q H ob M loose w := fun os => by
  obtain ⟨s, e, a⟩ := Option.map_eq_some_iff.mp (h1 os)
  have b := h2 os
  rw [e] at b ⊢
  have b := Option.some.inj b
  obtain ⟨a1, a2⟩ := Prod.mk.injEq .. ▸ a
  show some _ = some _
  rw [← b, ← a2, ← a1]
end Mh
set_option Elab.async false
set_option linter.all false
set_option maxRecDepth 100000
set_option maxHeartbeats 4000000
/-! Mh: checks of the text's own errors. -/
namespace Mh
open PySem PySem.Spec PyProof.Rows L2 He
def kExc (e : Str) : Ck := fun K => kGlo e K && (PySem.W.keepIn K (.ref (ga K e)) && (PySem.W.excIn K (ga K e) veBase "ValueError.__new__" &&
  (decide (PySem.W.subIn K (.ref (ga K e)) (.type "BaseException") = some true) && decide (PySem.W.typeIn K (.ref (ga K e)) = some (.type "type")))))
def kExm (n y : Str) (b : Bool) : Ck := fun K => decide (PySem.W.exmOne K (.ref (ga K n)) (.ref (ga K y)) = some b)
end Mh
set_option Elab.async false
set_option linter.all false
set_option maxRecDepth 100000
set_option maxHeartbeats 4000000
/-! Mh: checks of the text's own errors that keep a field. -/
namespace Mh
open PySem PySem.Spec PyProof.Rows L2 He
def kOex (n : Str) (newId : String) (bmB : List Value) : Ck := fun K => kGlo n K && (PySem.W.excInitIn K (ga K n) bmB newId && (PySem.W.excOver K (ga K n) bmB && (PySem.W.hasDictIn K (ga K n) && (decide (PySem.W.findIn K (.ref (ga K n)) "__setattr__" = some (some (.builtin "object.__setattr__"))) && (decide (PySem.W.subIn K (.ref (ga K n)) (.type "BaseException") = some true) && (decide (PySem.W.typeIn K (.ref (ga K n)) = some (.type "type")) && PySem.W.keepIn K (.ref (ga K n))))))))
def kTak (n f : Str) : Ck := fun K => decide (PySem.W.takerIn K (ga K n) f = some none)
def kIni (n : Str) : Ck := fun K => decide (PySem.W.findIn K (.ref (ga K n)) "__init__" = some (some (.ref (ma K (ga K n) "__init__")))) && decide (PySem.W.typeIn K (.ref (ma K (ga K n) "__init__")) = some (.type "function"))
def kXf (n f : Str) : Ck := fun K => xfB K (ga K n) && decide (PySem.W.findIn K (.ref (ga K n)) f = some none)
end Mh
set_option Elab.async false
set_option linter.all false
set_option maxRecDepth 100000
set_option maxHeartbeats 4000000
/-! Mh: checks of classmethods, subscripts, == and isinstance with anything. -/
namespace Mh
open PySem PySem.Spec PyProof.Rows L2 He
end Mh
set_option Elab.async false
set_option linter.all false
set_option maxRecDepth 100000
set_option maxHeartbeats 4000000
/-! Mh: the check of an own `**`. -/
namespace Mh
open PySem PySem.Spec PyProof.Rows L2 He
end Mh
set_option Elab.async false
set_option linter.all false
set_option maxRecDepth 100000
set_option maxHeartbeats 4000000
/-! Mh: checks of errors as values: isinstance of them, their classes apart. -/
namespace Mh
open PySem PySem.Spec PyProof.Rows L2 He
def excCB (K : PySem.W.Frag) (D : Addr) : Bool :=
  decide (PySem.W.findIn K (.ref D) "__getattribute__" = some (some (.builtin "BaseException.__getattribute__"))) && (decide (PySem.W.findIn K (.ref D) "__getattr__" = some none) && (decide (PySem.W.subIn K (.ref D) (.type "BaseException") = some true) && (PySem.W.hasDictIn K D &&
    (decide (PySem.W.findIn K (.ref D) "__class__" = some (some (.builtin "object.__class__"))) && (decide (PySem.W.specialIn K (.builtin "object.__class__") "__get__" = some (some (.builtin "getset_descriptor.__get__"))) && (decide (PySem.W.takesIn K (.builtin "object.__class__") = some true) && decide (PySem.W.mroIn K D (.type "object") = some true)))))))
def kEcl (ns : List Str) : Ck := fun K => ns.all fun n => excCB K (ga K n)
def kIvR (ns subs : List Str) (y : Str) : Ck := fun K => ns.all fun n => decide (PySem.W.kitOne K (.ref (ga K n)) (.ref (ga K y)) = some (decide (ga K n ∈ subs.map (ga K))))
def kIvT (ns subs : List Str) (t : String) : Ck := fun K => ns.all fun n => decide (PySem.W.kitOne K (.ref (ga K n)) (.type t) = some (decide (ga K n ∈ subs.map (ga K))))
def kNdp (ns : List Str) : Ck := fun K => decide ((ns.map (ga K)).Nodup)
def kSys : Ck := fun K => match K.lookup sysModules with
  | some o => decide (o.cls = .type "dict")
  | none => false
end Mh
set_option Elab.async false
set_option linter.all false
set_option maxRecDepth 100000
set_option maxHeartbeats 0
namespace K402
open PySem PySem.Spec L2 Mh He PyProof.Rows
def tS (i : Nat) : Stmt := PySem.Challenge.pw_lastprices_k02_errors_kept_and_caught.main.body.getD i (.Pass ⟨0, 0, 0, 0⟩)
def hCs0 : List Ck := [kFree "ArithmeticError",
  kFree "IndexError",
  kFree "KeyError",
  kFree "LookupError",
  kFree "OverflowError",
  kFree "RuntimeError",
  kFree "ValueError",
  kFree "abs",
  kFree "int",
  kFree "isinstance",
  kFree "len",
  kFree "max",
  kFree "min",
  kFree "range",
  kFree "repr",
  kExc "InvalidCosts",
  kExc "InvalidMachine",
  kExc "InvalidOperation",
  kExc "InvalidPaper",
  kExc "InvalidPattern",
  kExc "InvalidRow",
  kExc "InvalidSquare",
  kExc "InvalidText",
  kExc "PriceError",
  kOex "InvalidNumber" "IndexError.__new__" [.type "IndexError", .type "LookupError", .type "Exception", .type "BaseException", .type "object"],
  kTak "InvalidNumber" "value",
  kIni "InvalidNumber",
  kXf "InvalidNumber" "value",
  kOex "NotTaken" "LookupError.__new__" [.type "LookupError", .type "Exception", .type "BaseException", .type "object"],
  kTak "NotTaken" "untaken",
  kIni "NotTaken",
  kXf "NotTaken" "untaken",
  kOex "NothingToUndo" "RuntimeError.__new__" [.type "RuntimeError", .type "Exception", .type "BaseException", .type "object"],
  kTak "NothingToUndo" "many",
  kIni "NothingToUndo",
  kXf "NothingToUndo" "many",
  kOex "ParseError" "ValueError.__new__" [.type "ValueError", .type "Exception", .type "BaseException", .type "object"],
  kTak "ParseError" "number",
  kIni "ParseError",
  kXf "ParseError" "number"]
def hCs1 : List Ck := [kOex "Refused" "ArithmeticError.__new__" [.type "ArithmeticError", .type "Exception", .type "BaseException", .type "object"],
  kTak "Refused" "pledge",
  kIni "Refused",
  kXf "Refused" "pledge",
  kOex "TooMany" "OverflowError.__new__" [.type "OverflowError", .type "ArithmeticError", .type "Exception", .type "BaseException", .type "object"],
  kTak "TooMany" "limit",
  kIni "TooMany",
  kXf "TooMany" "limit",
  kOex "UnknownName" "LookupError.__new__" [.type "KeyError", .type "LookupError", .type "Exception", .type "BaseException", .type "object"],
  kTak "UnknownName" "word",
  kIni "UnknownName",
  kXf "UnknownName" "word",
  kOex "Unstable" "ArithmeticError.__new__" [.type "ArithmeticError", .type "Exception", .type "BaseException", .type "object"],
  kTak "Unstable" "part",
  kIni "Unstable",
  kXf "Unstable" "part",
  kExm "InvalidCosts" "NotTaken" false,
  kExm "InvalidCosts" "ParseError" false,
  kExm "InvalidCosts" "PriceError" true,
  kExm "InvalidCosts" "Refused" false,
  kExm "InvalidCosts" "Unstable" false,
  kExm "NotTaken" "NotTaken" true,
  kExm "NotTaken" "ParseError" false,
  kExm "NotTaken" "PriceError" false,
  kExm "NotTaken" "Refused" false,
  kExm "NotTaken" "Unstable" false,
  kExm "ParseError" "NotTaken" false,
  kExm "ParseError" "ParseError" true,
  kExm "ParseError" "PriceError" true,
  kExm "ParseError" "Refused" false,
  kExm "ParseError" "Unstable" false,
  kExm "Unstable" "NotTaken" false,
  kExm "Unstable" "ParseError" false,
  kExm "Unstable" "PriceError" false,
  kExm "Unstable" "Refused" false,
  kExm "Unstable" "Unstable" true,
  kEcl ["PriceError", "InvalidMachine", "InvalidText", "InvalidPattern", "InvalidSquare", "InvalidCosts", "InvalidRow", "InvalidPaper", "InvalidOperation", "ParseError", "UnknownName", "NotTaken", "InvalidNumber", "NothingToUndo", "TooMany", "Unstable", "Refused"],
  kIvT ["PriceError", "InvalidMachine", "InvalidText", "InvalidPattern", "InvalidSquare", "InvalidCosts", "InvalidRow", "InvalidPaper", "InvalidOperation", "ParseError", "UnknownName", "NotTaken", "InvalidNumber", "NothingToUndo", "TooMany", "Unstable", "Refused"] ["TooMany", "Unstable", "Refused"] "ArithmeticError",
  kIvT ["PriceError", "InvalidMachine", "InvalidText", "InvalidPattern", "InvalidSquare", "InvalidCosts", "InvalidRow", "InvalidPaper", "InvalidOperation", "ParseError", "UnknownName", "NotTaken", "InvalidNumber", "NothingToUndo", "TooMany", "Unstable", "Refused"] ["InvalidNumber"] "IndexError",
  kIvR ["PriceError", "InvalidMachine", "InvalidText", "InvalidPattern", "InvalidSquare", "InvalidCosts", "InvalidRow", "InvalidPaper", "InvalidOperation", "ParseError", "UnknownName", "NotTaken", "InvalidNumber", "NothingToUndo", "TooMany", "Unstable", "Refused"] ["InvalidCosts"] "InvalidCosts"]
def hCs2 : List Ck := [kIvR ["PriceError", "InvalidMachine", "InvalidText", "InvalidPattern", "InvalidSquare", "InvalidCosts", "InvalidRow", "InvalidPaper", "InvalidOperation", "ParseError", "UnknownName", "NotTaken", "InvalidNumber", "NothingToUndo", "TooMany", "Unstable", "Refused"] ["InvalidMachine"] "InvalidMachine",
  kIvR ["PriceError", "InvalidMachine", "InvalidText", "InvalidPattern", "InvalidSquare", "InvalidCosts", "InvalidRow", "InvalidPaper", "InvalidOperation", "ParseError", "UnknownName", "NotTaken", "InvalidNumber", "NothingToUndo", "TooMany", "Unstable", "Refused"] ["InvalidNumber"] "InvalidNumber",
  kIvR ["PriceError", "InvalidMachine", "InvalidText", "InvalidPattern", "InvalidSquare", "InvalidCosts", "InvalidRow", "InvalidPaper", "InvalidOperation", "ParseError", "UnknownName", "NotTaken", "InvalidNumber", "NothingToUndo", "TooMany", "Unstable", "Refused"] ["InvalidOperation"] "InvalidOperation",
  kIvR ["PriceError", "InvalidMachine", "InvalidText", "InvalidPattern", "InvalidSquare", "InvalidCosts", "InvalidRow", "InvalidPaper", "InvalidOperation", "ParseError", "UnknownName", "NotTaken", "InvalidNumber", "NothingToUndo", "TooMany", "Unstable", "Refused"] ["InvalidPaper"] "InvalidPaper",
  kIvR ["PriceError", "InvalidMachine", "InvalidText", "InvalidPattern", "InvalidSquare", "InvalidCosts", "InvalidRow", "InvalidPaper", "InvalidOperation", "ParseError", "UnknownName", "NotTaken", "InvalidNumber", "NothingToUndo", "TooMany", "Unstable", "Refused"] ["InvalidPattern"] "InvalidPattern",
  kIvR ["PriceError", "InvalidMachine", "InvalidText", "InvalidPattern", "InvalidSquare", "InvalidCosts", "InvalidRow", "InvalidPaper", "InvalidOperation", "ParseError", "UnknownName", "NotTaken", "InvalidNumber", "NothingToUndo", "TooMany", "Unstable", "Refused"] ["InvalidRow"] "InvalidRow",
  kIvR ["PriceError", "InvalidMachine", "InvalidText", "InvalidPattern", "InvalidSquare", "InvalidCosts", "InvalidRow", "InvalidPaper", "InvalidOperation", "ParseError", "UnknownName", "NotTaken", "InvalidNumber", "NothingToUndo", "TooMany", "Unstable", "Refused"] ["InvalidSquare"] "InvalidSquare",
  kIvR ["PriceError", "InvalidMachine", "InvalidText", "InvalidPattern", "InvalidSquare", "InvalidCosts", "InvalidRow", "InvalidPaper", "InvalidOperation", "ParseError", "UnknownName", "NotTaken", "InvalidNumber", "NothingToUndo", "TooMany", "Unstable", "Refused"] ["InvalidText"] "InvalidText",
  kIvT ["PriceError", "InvalidMachine", "InvalidText", "InvalidPattern", "InvalidSquare", "InvalidCosts", "InvalidRow", "InvalidPaper", "InvalidOperation", "ParseError", "UnknownName", "NotTaken", "InvalidNumber", "NothingToUndo", "TooMany", "Unstable", "Refused"] ["UnknownName"] "KeyError",
  kIvT ["PriceError", "InvalidMachine", "InvalidText", "InvalidPattern", "InvalidSquare", "InvalidCosts", "InvalidRow", "InvalidPaper", "InvalidOperation", "ParseError", "UnknownName", "NotTaken", "InvalidNumber", "NothingToUndo", "TooMany", "Unstable", "Refused"] ["UnknownName", "NotTaken", "InvalidNumber"] "LookupError",
  kIvR ["PriceError", "InvalidMachine", "InvalidText", "InvalidPattern", "InvalidSquare", "InvalidCosts", "InvalidRow", "InvalidPaper", "InvalidOperation", "ParseError", "UnknownName", "NotTaken", "InvalidNumber", "NothingToUndo", "TooMany", "Unstable", "Refused"] ["NotTaken"] "NotTaken",
  kIvR ["PriceError", "InvalidMachine", "InvalidText", "InvalidPattern", "InvalidSquare", "InvalidCosts", "InvalidRow", "InvalidPaper", "InvalidOperation", "ParseError", "UnknownName", "NotTaken", "InvalidNumber", "NothingToUndo", "TooMany", "Unstable", "Refused"] ["NothingToUndo"] "NothingToUndo",
  kIvT ["PriceError", "InvalidMachine", "InvalidText", "InvalidPattern", "InvalidSquare", "InvalidCosts", "InvalidRow", "InvalidPaper", "InvalidOperation", "ParseError", "UnknownName", "NotTaken", "InvalidNumber", "NothingToUndo", "TooMany", "Unstable", "Refused"] ["TooMany"] "OverflowError",
  kIvR ["PriceError", "InvalidMachine", "InvalidText", "InvalidPattern", "InvalidSquare", "InvalidCosts", "InvalidRow", "InvalidPaper", "InvalidOperation", "ParseError", "UnknownName", "NotTaken", "InvalidNumber", "NothingToUndo", "TooMany", "Unstable", "Refused"] ["ParseError"] "ParseError",
  kIvR ["PriceError", "InvalidMachine", "InvalidText", "InvalidPattern", "InvalidSquare", "InvalidCosts", "InvalidRow", "InvalidPaper", "InvalidOperation", "ParseError", "UnknownName", "NotTaken", "InvalidNumber", "NothingToUndo", "TooMany", "Unstable", "Refused"] ["PriceError", "InvalidMachine", "InvalidText", "InvalidPattern", "InvalidSquare", "InvalidCosts", "InvalidRow", "InvalidPaper", "InvalidOperation", "ParseError"] "PriceError",
  kIvR ["PriceError", "InvalidMachine", "InvalidText", "InvalidPattern", "InvalidSquare", "InvalidCosts", "InvalidRow", "InvalidPaper", "InvalidOperation", "ParseError", "UnknownName", "NotTaken", "InvalidNumber", "NothingToUndo", "TooMany", "Unstable", "Refused"] ["Refused"] "Refused",
  kIvT ["PriceError", "InvalidMachine", "InvalidText", "InvalidPattern", "InvalidSquare", "InvalidCosts", "InvalidRow", "InvalidPaper", "InvalidOperation", "ParseError", "UnknownName", "NotTaken", "InvalidNumber", "NothingToUndo", "TooMany", "Unstable", "Refused"] ["NothingToUndo"] "RuntimeError",
  kIvR ["PriceError", "InvalidMachine", "InvalidText", "InvalidPattern", "InvalidSquare", "InvalidCosts", "InvalidRow", "InvalidPaper", "InvalidOperation", "ParseError", "UnknownName", "NotTaken", "InvalidNumber", "NothingToUndo", "TooMany", "Unstable", "Refused"] ["TooMany"] "TooMany",
  kIvR ["PriceError", "InvalidMachine", "InvalidText", "InvalidPattern", "InvalidSquare", "InvalidCosts", "InvalidRow", "InvalidPaper", "InvalidOperation", "ParseError", "UnknownName", "NotTaken", "InvalidNumber", "NothingToUndo", "TooMany", "Unstable", "Refused"] ["UnknownName"] "UnknownName",
  kIvR ["PriceError", "InvalidMachine", "InvalidText", "InvalidPattern", "InvalidSquare", "InvalidCosts", "InvalidRow", "InvalidPaper", "InvalidOperation", "ParseError", "UnknownName", "NotTaken", "InvalidNumber", "NothingToUndo", "TooMany", "Unstable", "Refused"] ["Unstable"] "Unstable",
  kIvT ["PriceError", "InvalidMachine", "InvalidText", "InvalidPattern", "InvalidSquare", "InvalidCosts", "InvalidRow", "InvalidPaper", "InvalidOperation", "ParseError", "UnknownName", "NotTaken", "InvalidNumber", "NothingToUndo", "TooMany", "Unstable", "Refused"] ["PriceError", "InvalidMachine", "InvalidText", "InvalidPattern", "InvalidSquare", "InvalidCosts", "InvalidRow", "InvalidPaper", "InvalidOperation", "ParseError"] "ValueError",
  kNdp ["PriceError", "InvalidMachine", "InvalidText", "InvalidPattern", "InvalidSquare", "InvalidCosts", "InvalidRow", "InvalidPaper", "InvalidOperation", "ParseError", "UnknownName", "NotTaken", "InvalidNumber", "NothingToUndo", "TooMany", "Unstable", "Refused"],
  kSys,
  kGlo "_law_dice",
  kGlo "_law_roll",
  kGlo "_law_pick",
  kGlo "_law_own",
  kGlo "_law_whole",
  kGlo "_law_messages",
  kGlo "_law_kept",
  kGlo "_law_caught",
  kGlo "_law_right",
  kGlo "law"]
def hCs : List Ck := hCs0 ++ (hCs1 ++ (hCs2))
def hDs0 : List Df := [⟨.m "InvalidNumber" "__init__", "__init__", "InvalidNumber.__init__", (inClass (tS 13) 0)⟩,
  ⟨.m "NotTaken" "__init__", "__init__", "NotTaken.__init__", (inClass (tS 12) 0)⟩,
  ⟨.m "NothingToUndo" "__init__", "__init__", "NothingToUndo.__init__", (inClass (tS 14) 0)⟩,
  ⟨.m "ParseError" "__init__", "__init__", "ParseError.__init__", (inClass (tS 10) 0)⟩,
  ⟨.m "Refused" "__init__", "__init__", "Refused.__init__", (inClass (tS 17) 0)⟩,
  ⟨.m "TooMany" "__init__", "__init__", "TooMany.__init__", (inClass (tS 15) 0)⟩,
  ⟨.m "UnknownName" "__init__", "__init__", "UnknownName.__init__", (inClass (tS 11) 0)⟩,
  ⟨.m "Unstable" "__init__", "__init__", "Unstable.__init__", (inClass (tS 16) 0)⟩,
  ⟨.g "_law_dice", "_law_dice", "_law_dice", (tS 19)⟩,
  ⟨.g "_law_roll", "_law_roll", "_law_roll", (tS 20)⟩,
  ⟨.g "_law_pick", "_law_pick", "_law_pick", (tS 21)⟩,
  ⟨.g "_law_own", "_law_own", "_law_own", (tS 22)⟩,
  ⟨.g "_law_whole", "_law_whole", "_law_whole", (tS 23)⟩,
  ⟨.g "_law_messages", "_law_messages", "_law_messages", (tS 24)⟩,
  ⟨.g "_law_kept", "_law_kept", "_law_kept", (tS 25)⟩,
  ⟨.g "_law_caught", "_law_caught", "_law_caught", (tS 26)⟩,
  ⟨.g "_law_right", "_law_right", "_law_right", (tS 27)⟩,
  ⟨.g "law", "law", "law", (tS 28)⟩]
def hDs : List Df := hDs0
def hNs0 : List Str := [("PriceError" : Str),
  ("InvalidMachine" : Str),
  ("InvalidText" : Str),
  ("InvalidPattern" : Str),
  ("InvalidSquare" : Str),
  ("InvalidCosts" : Str),
  ("InvalidRow" : Str),
  ("InvalidPaper" : Str),
  ("InvalidOperation" : Str),
  ("ParseError" : Str),
  ("UnknownName" : Str),
  ("NotTaken" : Str),
  ("InvalidNumber" : Str),
  ("NothingToUndo" : Str),
  ("TooMany" : Str),
  ("Unstable" : Str),
  ("Refused" : Str),
  ("_law_dice" : Str),
  ("_law_roll" : Str),
  ("_law_pick" : Str),
  ("_law_own" : Str),
  ("_law_whole" : Str),
  ("_law_messages" : Str),
  ("_law_kept" : Str),
  ("_law_caught" : Str),
  ("_law_right" : Str)]
def hNs : List Str := hNs0
def hAs0 : List Addr := [3,
  24,
  37,
  49,
  61,
  73,
  85,
  97,
  109,
  121,
  140,
  159,
  179,
  199,
  219,
  239,
  259,
  279,
  289,
  296,
  303,
  310,
  317,
  324,
  331,
  338,
  343,
  350,
  23,
  36,
  48,
  60,
  72,
  84,
  96,
  108,
  120,
  139,
  158,
  178]
def hAs1 : List Addr := [198,
  218,
  238,
  258,
  278,
  288,
  295,
  302,
  309,
  316,
  323,
  330,
  337,
  342,
  349,
  137,
  156,
  176,
  196,
  216,
  236,
  256,
  276,
  136,
  155,
  175,
  195,
  215,
  235,
  255,
  275,
  1]
def hAs : List Addr := hAs0 ++ (hAs1)
abbrev hR : PySem.W.OpenRow := (PySem.W.OpenLaw.row PySem.Challenge.rw_lastprices_k02_errors_kept_and_caught)
theorem hRun1 (w : World) (os : OsState) : (HandSHeadRun.endF (HandSHeadRun.stepQ (HandSHeadRun.denQ HandSHeadRun.tabQ) hR.prog w) 60000 hR.prog w os).map (fun s => (HandSHeadRun.looksF hR.prog (PySem.W.boot_heap w.params) s.abs, HandSHeadRun.seenQ (PySem.W.view hR.prog [28]) hNs (importedModules hR.prog.main.body) (fun s => PySem.W.xlAt (PySem.W.view hR.prog [28]) [] s && PySem.W.recOk hR.toRowW.records s) s.abs)) = some (true, PySem.W.openGood (PySem.W.view hR.prog [28]) hNs) := by kernel_rfl
theorem hRun2 (w : World) (os : OsState) : (HandSHeadRun.endF (HandSHeadRun.stepQ (HandSHeadRun.denQ HandSHeadRun.tabQ) hR.prog w) 60000 hR.prog w os).map (fun s => obS hAs hCs hDs s) = some ((hookA hAs hCs hDs).val w) := by kernel_rfl
theorem hRun (w : World) : HandSHeadRun.RunEq (PySem.W.OpenLaw.row PySem.Challenge.rw_lastprices_k02_errors_kept_and_caught) (PySem.W.view (PySem.W.OpenLaw.row PySem.Challenge.rw_lastprices_k02_errors_kept_and_caught).prog [28]) (hookA hAs hCs hDs) (obS hAs hCs hDs) 60000 hNs w := runEq (hRun1 w) (hRun2 w)
end K402
set_option Elab.async false
set_option linter.all false
set_option maxRecDepth 100000
set_option maxHeartbeats 4000000
/-! Lp, part one: a promise that is kept where no repr is under way (A.guards = some []), and the law's end over such promises. -/
namespace Lp
open PySem PySem.Spec PyProof.Rows L2
/-- a def's promise, asked only where no repr is under way -/
structure FnG (P : Program) (w : World) (K : PySem.W.Frag) (mg : Str → Option Value) (base : Heap) (CX : CXT) (k : Nat) (f : Addr) (fd : FuncData) (ps : List Str) (sp : Sp) : Prop where
  len : ∀ vs H Q E, sp vs H Q E → vs.length = ps.length
  go : ∀ (B : Around) (fr : List Env) (st : Shared) (J : Hp) (ar : Args) (ws : List Value) (xs : List V) (R : VK) (Z : XK),
    Room k B → B.guards = some [] → Env0 P w K mg base B fr st J → BindsTo st fd ar (ps.zip ws) → Vals xs ws → sp xs J R Z →
    codeAny (model P w) B (.call (.ref f) ar) (CR CX fr P w J st R Z) st
section
variable {P : Program} {w : World} {K : PySem.W.Frag} {mg : Str → Option Value} {base : Heap} {CX : CXT}
theorem FnG.mono {j k : Nat} {f : Addr} {fd : FuncData} {ps : List Str} {sp : Sp} (F : FnG P w K mg base CX j f fd ps sp) (h : j ≤ k) : FnG P w K mg base CX k f fd ps sp :=
  ⟨F.len, fun B fr st J ar ws xs R Z r => F.go B fr st J ar ws xs R Z (r.mono h)⟩
theorem FnG.of {k : Nat} {f : Addr} {fd : FuncData} {ps : List Str} {sp : Sp} (F : FnOk P w K mg base CX k f fd ps sp) : FnG P w K mg base CX k f fd ps sp :=
  ⟨F.len, fun B fr st J ar ws xs R Z r _ => F.run B fr st J ar ws xs R Z r⟩
/-- the rule for a def, its body walked where no repr is under way -/
theorem okG {x qual : Str} {st : Stmt} {f : Addr} {fd : FuncData} {N ps : List Str} {k : Nat} {sp : Sp} (F : Fun K x qual st f fd) (S : FnScope N ps (defScope st)) (len : ∀ vs H Q E, sp vs H Q E → vs.length = ps.length)
    (body : ∀ (cdv : Value) (B : Around) (fr : List Env) (s : Shared) (J : Hp) (xs : List V) (R : VK) (Z : XK),
      Room k (B.deeper (envOfC qual (defScope st) s.heap.objs.size f cdv)) → (B.deeper (envOfC qual (defScope st) s.heap.objs.size f cdv)).guards = some [] → sp xs J R Z →
      ∃ t, PSs (cxOf CX P w K mg base N qual (defScope st) f cdv B fr s J Z) (defBody st) t ∧ t { nx := fun _ H' => R .non H', rt := R } (start N xs) J) :
    FnG P w K mg base CX (k + 1) f fd ps sp := by
  obtain ⟨oc, od, kV, doc, pm, an, cdv, ct, osl, rfl, lk, hcd⟩ := F.ex
  refine ⟨len, fun B fr s J ar ws xs R Z hr hg e0 hb r hsp => ?_⟩
  have hl := len _ _ _ _ hsp
  have inH : ∀ b o, base.get? b = some o → s.heap.get? b = some o := fun b o e => (e0.bs b o e).1
  have KX : K.In s.heap := e0.mod.kin.keeps inH
  have par : ∀ y ∈ ps.zip ws, (defScope st).names.lookup y.1 = some .local ∨ ((defScope st).names.lookup y.1 = some .cell ∧ ((cellsFrom (s.heap.objs.size + 1) (defScope st).names []).lookup y.1).isSome = true) := fun y hy =>
    (S.par y.1 (List.of_mem_zip (show (y.1, y.2) ∈ ps.zip ws from hy)).1).elim .inl fun q => .inr ⟨q, PySem.W.cellsFrom_some _ _ _ (.inl q)⟩
  refine codeAny_call_function hr.depth (KX _ _ lk) rfl S.co S.gen rfl (PySem.W.codeRec_of KX hcd) (hb _ _ _ _ ?_)
  refine wpAny_newFunctionEnv_cells S.kind par fun en hen s1 c1 => ?_
  subst hen
  refine ⟨(e0.mod.nolimit.keeps inH).keeps c1.toInCall.keep, codeAny_func ?_⟩
  obtain ⟨t, ht, hq⟩ := body cdv B fr s J xs R Z (hr.deeper _) hg hsp
  have I := inv_start (CX := CX) (cd := cdv) (qual := qual) (f := f) (E := Z) S hr.hd e0 hl r c1
  refine wpAny_mono (ht.run [] s1 (start N xs) J _ I hq) (fun fl s2 hs => ?_) fun _ _ z => z
  match fl, hs with
  | .ret u, ⟨v, _, H2, I2, rv, q⟩ => exact ⟨v, H2, I2.os, I2.bare, I2.base, I2.hok, rv, q⟩
  | .next, ⟨_, H2, I2, q⟩ => exact ⟨V.non, H2, I2.os, I2.bare, I2.base, I2.hok, rfl, q⟩
  | .brk, ⟨_, _, _, q⟩ => exact q.elim
  | .cont, ⟨_, _, _, q⟩ => exact q.elim
/-- the same for a def that lets no exception out -/
theorem okN {x qual : Str} {st : Stmt} {f : Addr} {fd : FuncData} {N ps : List Str} {k : Nat} {sp : Sp} (F : Fun K x qual st f fd) (S : FnScope N ps (defScope st)) (len : ∀ vs H Q E, sp vs H Q E → vs.length = ps.length)
    (body : ∀ (cdv : Value) (B : Around) (fr : List Env) (s : Shared) (J : Hp) (xs : List V) (R : VK) (Z : XK),
      Room k (B.deeper (envOfC qual (defScope st) s.heap.objs.size f cdv)) → (B.deeper (envOfC qual (defScope st) s.heap.objs.size f cdv)).guards = some [] → sp xs J R Z →
      ∃ t, PSs (cxOf CX P w K mg base N qual (defScope st) f cdv B fr s J Z).nox (defBody st) t ∧ t { nx := fun _ H' => R .non H', rt := R } (start N xs) J) :
    FnG P w K mg base CX (k + 1) f fd ps sp :=
  okG F S len fun cdv B fr s J xs R Z h1 h2 h3 => by
    obtain ⟨t, a, b⟩ := body cdv B fr s J xs R Z h1 h2 h3
    exact ⟨t, a.nox, b⟩
/-- a call of such a def by its global name -/
theorem callG {X : Cx} {k : Nat} {f : Addr} {fd : FuncData} {ps : List Str} {sp : Sp} {x : Str} {p pos : Pos} {e : Expr} {es : List Expr} {t : TA} {Z : XK} (F : FnG X.prog X.w X.K X.mg X.base CX k f fd ps sp) (hr : Room k X.A) (hgd : X.A.guards = some [])
    (hg : Gl X x) (hm : X.mg x = some (.ref f)) (hk : PySem.W.keepIn X.K (.ref f) = true) (hb : Binds X.K fd ps []) (hx : Passes CX X Z)
    (ha : PA X (e :: es) t) (hdb : (x == ("__debug__" : Str)) = false := by decide) (he : starEach (e :: es) X.env = (false, eval e X.env) :: starEach es X.env := by rfl) (hpl : (backTo pos (starEach es X.env)).any (·.1) = false := by rfl) :
    PE X (.Call (.Name x p) (e :: es) [] pos) (tCall sp [] Z t) := by
  constructor
  intro pins s σ J R I h
  apply wpAny_Call_Name_kw
  refine ld_glob I hg hm ?_ hdb
  refine PySem.W.callWith_K (h₀ := X.base) I.ok.mod.kin hk (thn (ha.run pos pins s σ J _ I h) fun ws s1 z => ?_) he hpl
  obtain ⟨xs, J1, I1, r, q⟩ := z
  refine ⟨I1.kIn, ?_⟩
  have q' : sp xs J1 R Z := by
    have q2 : sp (xs ++ []) J1 R Z := q
    rwa [List.append_nil] at q2
  have bt := hb s1 ws I1.kIn (by rw [List.append_nil, ← r.length]; exact F.len _ _ _ _ q')
  rw [List.append_nil] at bt
  refine wpAny_call (codeAny_mono (F.go X.A X.stack s1 J1 ⟨ws, []⟩ ws xs R Z hr hgd I1.env0 bt r q') fun o s2 w2 => ?_)
  match o, w2 with
  | .error e, w2 => exact hx pins σ J1 s1 e s2 I1 w2
  | .ok (.ret u), w2 => exact I1.after w2
/-- the law's own call -/
theorem law_callG {mb : Str → Option Value} {k : Nat} {fa a : Addr} {fd : FuncData} {x : Str} {sp : Sp} {st : Shared} {vs : List Value} {ns : List Int}
    (KX : K.In st.heap) (hns : st.heap.Ns mainGlobals mg) (hb : st.heap.Ns builtinsNs mb) (hbb : ∀ y : Str, y ≠ "__name__" → mb y = bootBuiltins y) (hlim : st.heap.NoLimit) (hgen : st.gens = #[])
    (ha : st.heap.get? a = some { cls := .type "list", data := .seq vs.toArray }) (hi : IntsAre vs ns) (hl : ns.length ≤ sizeLine) (hr : Room k callerA)
    (F : ∀ b0 : Heap, K.In b0 → b0.Ns mainGlobals mg → FnG P w K mg b0 CX k fa fd [x] sp) (hbind : ∀ (s : Shared) (u : Value), BindsTo s fd ⟨[u], []⟩ [(x, u)])
    (hsp : ∀ J : Hp, Only J → SqL K J a (ns.map V.int) → sp [.ref a] J (fun v _ => v = .bl true) fun _ _ _ => False)
    (hCX : ∀ J e s', CX [] J st (fun _ _ _ => False) e s' → False) :
    codeAny (model P w) callerA (.call (.ref fa) ⟨[.ref a], []⟩) (fun r s' => r = .ok (.ret (.bool true)) ∧ OldK st.heap s'.heap ∧ s'.os = st.os ∧ AllBare s'.gens) st := by
  have rv := vals_ints hi
  have lv := hi.length
  -- J tracks the script at most
  have main : ∀ J : Hp, Only J → SqL K J a (ns.map V.int) → HOk P w J st.heap → (∀ b, J b ≠ none → b = a) → (J a ≠ none → K.lookup a = none) →
      codeAny (model P w) callerA (.call (.ref fa) ⟨[.ref a], []⟩) (fun r s' => r = .ok (.ret (.bool true)) ∧ OldK st.heap s'.heap ∧ s'.os = st.os ∧ AllBare s'.gens) st := by
    intro J hO hS hok hA hK
    have seen : ∀ b, J b = none ∨ b = a := fun b => by
      cases q : J b with
      | none => exact .inl rfl
      | some u => exact .inr (hA b (by rw [q]; exact Option.some_ne_none u))
    have dn : ∀ {b : Addr} {o : Obj} {es : Array DictEntry} {ep : Nat}, st.heap.get? b = some o → o.data = .dict es ep → J b = none := fun {b o es ep} e d => (seen b).elim id fun z => by
      subst z
      rw [ha] at e
      cases e
      exact nomatch (show Data.seq vs.toArray _ = Data.dict es ep from d)
    have nsT : ∀ {b : Addr} {m : Str → Option Value}, st.heap.Ns b m → (hidT st.heap J).Ns b m := fun ⟨o, es, ep, e, d, r⟩ => ⟨o, es, ep, hidT_get e (dn e d), d, r⟩
    have kT : K.In (hidT st.heap J) := fun b o e => hidT_get (KX b o e) ((seen b).elim id fun z => by
      subst z
      cases q : J b with
      | none => rfl
      | some u =>
        have := hK (by rw [q]; exact Option.some_ne_none u)
        rw [e] at this
        cases this)
    obtain ⟨mc, l1, l2⟩ := hlim
    have env : Env0 P w K mg (hidT st.heap J) callerA [] st J :=
      ⟨rfl, ⟨kT, nsT hns, ⟨mb, nsT hb, hbb⟩, ⟨mc, nsT l1, l2⟩⟩, fun b o e => of_hidT e, Nat.le_of_eq (hidT_size _ _), trivial, fun b z => (List.not_mem_nil z).elim, hok, .of_eq hgen⟩
    refine codeAny_mono ((F _ kT (nsT hns)).go callerA [] st J ⟨[.ref a], []⟩ [.ref a] [.ref a] _ _ hr rfl env (hbind st (.ref a)) (.cons rfl .nil) (hsp J hO hS)) fun r s' h => ?_
    match r, h with
    | .error e, h => exact (hCX J e s' h).elim
    | .ok (.ret u), ⟨v, J2, os, bare, un, hok2, r2, q⟩ =>
      have q2 : v = .bl true := q
      subst q2
      have r3 : u = Value.bool true := r2
      subst r3
      refine ⟨rfl, OldK.of_keep fun b o e => ?_, os, bare⟩
      rcases hO b with z | ⟨ob, xs, z⟩
      · exact un.keep b o e z (fun y => (List.not_mem_nil y).elim) (fun y => (List.not_mem_nil y).elim)
      · have f1 := (hok b _ z).1
        have f2 := (hok2 b _ (un.frzs b ob _ z)).1
        rw [e] at f1
        cases f1
        exact f2
  cases hk : K.lookup a with
  | some o =>
    have e := KX a o hk
    rw [ha] at e
    cases e
    refine main (fun _ => none) (fun _ => .inl rfl) (.inr ⟨_, vs.toArray, _, hk, rfl, rfl, rfl, by rw [List.size_toArray, lv]; exact hl, by simpa using rv⟩) (fun b u z => ?_) (fun b z => (z rfl).elim) (fun z => (z rfl).elim)
    cases (show (none : Option HO) = some u from z)
  | none =>
    have on : ∀ {b : Addr} {u : HO}, (if b = a then some (HO.frz { cls := .type "list", data := .seq vs.toArray } (.lst (ns.map V.int))) else none) = some u → b = a ∧ u = HO.frz { cls := .type "list", data := .seq vs.toArray } (.lst (ns.map V.int)) := fun {b u} z => by
      by_cases hb : b = a
      · rw [if_pos hb] at z
        exact ⟨hb, (Option.some.inj z).symm⟩
      · rw [if_neg hb] at z
        cases z
    refine main (fun b => if b = a then some (.frz { cls := .type "list", data := .seq vs.toArray } (.lst (ns.map V.int))) else none) (fun b => ?_) (.inl (.inr ⟨_, if_pos rfl⟩)) (fun b u z => ?_) (fun b z => ?_) fun _ => hk
    · by_cases hb : b = a
      · exact .inr ⟨_, _, if_pos hb⟩
      · exact .inl (if_neg hb)
    · obtain ⟨rfl, rfl⟩ := on z
      exact ⟨ha, by rw [List.length_map]; exact hl, vs, _, rv, ha⟩
    · by_cases hb : b = a
      · exact hb
      · exact (z (if_neg hb)).elim
end
end Lp
set_option Elab.async false
set_option linter.all false
set_option maxRecDepth 100000
set_option maxHeartbeats 4000000
/-! Lp, part two: what an expression gives, as plain data; the list of dice may change, all else stays. -/
namespace Lp
open PySem PySem.Spec L2
/-! ### the heap without the dice and without what is being filled -/
structure Mt where
  d : Option Addr
  o : List Addr
abbrev OA := Mt
abbrev no : Mt := ⟨none, []⟩
abbrev Mt.add (p : Mt) (q : Addr) : Mt := ⟨p.d, q :: p.o⟩
def Hid (p : Mt) (b : Addr) : Prop := p.d = some b ∨ b ∈ p.o
instance {p : Mt} {b : Addr} : Decidable (Hid p b) := inferInstanceAs (Decidable (p.d = some b ∨ b ∈ p.o))
def del (p : Mt) (H : Hp) : Hp := fun b => if Hid p b then none else H b
theorem del_of {p : Mt} {H : Hp} {b : Addr} {o : HO} (h : del p H b = some o) : H b = some o := by
  unfold del at h
  split at h
  · cases h
  · exact h
theorem del_no {p : Mt} {H : Hp} {b : Addr} {o : HO} (h : del p H b = some o) : ¬ Hid p b := fun z => by
  unfold del at h
  rw [if_pos z] at h
  cases h
theorem del_at {p : Mt} {H : Hp} {b : Addr} (h : ¬ Hid p b) : del p H b = H b := if_neg h
/-- what is not there need not be hidden -/
theorem del_add {p : Mt} {H : Hp} {q : Addr} (h : H q = none) : del (p.add q) H = del p H := by
  funext b
  unfold del
  by_cases e : b = q
  · subst e
    rw [if_pos (show Hid (p.add b) b from Or.inr List.mem_cons_self), h]
    split <;> rfl
  · by_cases f : Hid p b
    · rw [if_pos f, if_pos (show Hid (p.add q) b from f.imp id (List.mem_cons_of_mem _))]
    · rw [if_neg f, if_neg (show ¬ Hid (p.add q) b from fun z => f (z.imp id fun y => (List.mem_cons.mp y).resolve_left e))]
def Dice (H : Hp) (a : Addr) : Prop := ∃ l s c : Int, H a = some (.lst [.int l, .int s, .int c])
structure DOk (p : Mt) (H : Hp) : Prop where
  di : ∀ a, p.d = some a → Dice H a
  lv : ∀ a ∈ p.o, H a ≠ none
theorem DOk.ne {p : Mt} {H : Hp} {q : Addr} (d : DOk p H) (h : H q = none) : ¬ Hid p q := fun e => by
  rcases e with e | e
  · obtain ⟨l, s, c, z⟩ := d.di q e
    rw [h] at z
    cases z
  · exact d.lv q e h
structure Go (p : Mt) (H H' : Hp) : Prop where
  ex : ∀ a o, p.d ≠ some a → H a = some o → H' a = some o
  dk : DOk p H'
theorem Go.exd {p : Mt} {H H' : Hp} (g : Go p H H') : ∀ a o, del p H a = some o → del p H' a = some o := fun a o e => by
  have n := del_no e
  rw [del_at n] at e ⊢
  exact g.ex a o (fun z => n (.inl z)) e
theorem Go.refl {p : Mt} {H : Hp} (d : DOk p H) : Go p H H := ⟨fun _ _ _ h => h, d⟩
theorem Go.trans {p : Mt} {H H1 H2 : Hp} (a : Go p H H1) (b : Go p H1 H2) : Go p H H2 := ⟨fun x o n h => b.ex x o n (a.ex x o n h), b.dk⟩
theorem Go.free {p : Mt} {H H' : Hp} {q : Addr} (g : Go p H H') (h : H' q = none) : H q = none := by
  have n := g.dk.ne h
  cases e : H q with
  | none => rfl
  | some o =>
    have z := g.ex q o (fun y => n (.inl y)) e
    rw [h] at z
    cases z
/-- an object that H does not know is written -/
theorem Go.put {p : Mt} {H H' : Hp} {q : Addr} {o : HO} (d : DOk p H) (g : Go p H H') (h : H q = none) : Go p H (upd H' q o) := by
  have n := d.ne h
  refine ⟨fun a u na e => ?_, fun a e => ?_, fun a m => ?_⟩
  · rw [upd_ne (ne_of_none e h)]
    exact g.ex a u na e
  · obtain ⟨l, s, c, z⟩ := g.dk.di a e
    have na : a ≠ q := fun y => n (.inl (by rw [e, y]))
    exact ⟨l, s, c, by rw [upd_ne na]; exact z⟩
  · by_cases na : a = q
    · rw [na, upd_same]
      exact Option.some_ne_none o
    · rw [upd_ne na]
      exact g.dk.lv a m
theorem Go.new {p : Mt} {H : Hp} {q : Addr} {o : HO} (d : DOk p H) (h : H q = none) : Go p H (upd H q o) := Go.put d (.refl d) h
/-- from a wider context to a narrower one, and back where q was not there -/
theorem Go.sub {p : Mt} {H H' : Hp} {q : Addr} (g : Go (p.add q) H H') : Go p H H' := ⟨g.ex, g.dk.di, fun a m => g.dk.lv a (List.mem_cons_of_mem _ m)⟩
theorem Go.sup {p : Mt} {H H' : Hp} {q : Addr} (g : Go p H H') (h : H' q ≠ none) : Go (p.add q) H H' := ⟨g.ex, g.dk.di, fun a m => (List.mem_cons.mp m).elim (fun e => e ▸ h) (g.dk.lv a)⟩
theorem tu_ex {K : PySem.W.Frag} {H H' : Hp} {a : Addr} {xs : List V} (e : ∀ a o, H a = some o → H' a = some o) (h : SqT K H a xs) : SqT K H' a xs := by
  rcases h with (h | ⟨o, h⟩) | h
  · exact .inl (.inl (e _ _ h))
  · exact .inl (.inr ⟨o, e _ _ h⟩)
  · exact .inr h
theorem ls_q {K : PySem.W.Frag} {p : OA} {H : Hp} {a : Addr} {xs : List V} (h : del p H a = some (.lst xs)) : SqL K H a xs := .inl (.inl (del_of h))
/-! ### plain data -/
def kD : Key → PyData
  | .inl i => .int i
  | .inr x => .str x
mutual
inductive Rep (K : PySem.W.Frag) (H : Hp) : V → PyData → Prop
  | non : Rep K H .non .none
  | bl (b : Bool) : Rep K H (.bl b) (.bool b)
  | int (i : Int) : Rep K H (.int i) (.int i)
  | str (x : Str) : Rep K H (.str x) (.str x)
  | lst {a : Addr} {xs : List V} {ds : List PyData} : H a = some (.lst xs) → Reps K H xs ds → Rep K H (.ref a) (.list ds)
  | tup {a : Addr} {xs : List V} {ds : List PyData} : SqT K H a xs → Reps K H xs ds → Rep K H (.ref a) (.tuple ds)
  | dic {a : Addr} {kvs : List (Key × V)} {es : List (PyData × PyData)} : H a = some (.dK kvs) → RepKv K H kvs es → Rep K H (.ref a) (.dict es)
inductive Reps (K : PySem.W.Frag) (H : Hp) : List V → List PyData → Prop
  | nil : Reps K H [] []
  | cons {v : V} {vs : List V} {d : PyData} {ds : List PyData} : Rep K H v d → Reps K H vs ds → Reps K H (v :: vs) (d :: ds)
inductive RepKv (K : PySem.W.Frag) (H : Hp) : List (Key × V) → List (PyData × PyData) → Prop
  | nil : RepKv K H [] []
  | cons {k : Key} {v : V} {d : PyData} {kvs : List (Key × V)} {es : List (PyData × PyData)} : Rep K H v d → RepKv K H kvs es → RepKv K H ((k, v) :: kvs) ((kD k, d) :: es)
end
section
variable {K : PySem.W.Frag} {H H' : Hp}
mutual
theorem Rep.mono (e : ∀ a o, H a = some o → H' a = some o) : ∀ {v : V} {d : PyData}, Rep K H v d → Rep K H' v d
  | _, _, .non => .non
  | _, _, .bl b => .bl b
  | _, _, .int i => .int i
  | _, _, .str x => .str x
  | _, _, .lst h r => .lst (e _ _ h) (Reps.mono e r)
  | _, _, .tup h r => .tup (tu_ex e h) (Reps.mono e r)
  | _, _, .dic h r => .dic (e _ _ h) (RepKv.mono e r)
theorem Reps.mono (e : ∀ a o, H a = some o → H' a = some o) : ∀ {vs : List V} {ds : List PyData}, Reps K H vs ds → Reps K H' vs ds
  | _, _, .nil => .nil
  | _, _, .cons h r => .cons (Rep.mono e h) (Reps.mono e r)
theorem RepKv.mono (e : ∀ a o, H a = some o → H' a = some o) : ∀ {vs : List (Key × V)} {ds : List (PyData × PyData)}, RepKv K H vs ds → RepKv K H' vs ds
  | _, _, .nil => .nil
  | _, _, .cons h r => .cons (Rep.mono e h) (RepKv.mono e r)
end
theorem Rep.go {p : OA} {v : V} {d : PyData} (g : Go p H H') (h : Rep K (del p H) v d) : Rep K (del p H') v d := h.mono g.exd
theorem Reps.go {p : OA} {v : List V} {d : List PyData} (g : Go p H H') (h : Reps K (del p H) v d) : Reps K (del p H') v d := h.mono g.exd
theorem del_le {p : OA} {q : Addr} : ∀ a o, del (p.add q) H a = some o → del p H a = some o := fun a o e => by
  have n := del_no e
  rw [del_at n] at e
  rw [del_at (show ¬ Hid p a from fun z => n (Or.imp id (List.mem_cons_of_mem _) z))]
  exact e
theorem del_put {p : OA} {q : Addr} {o : HO} : ∀ a u, del (p.add q) H a = some u → del (p.add q) (upd H q o) a = some u := fun a u e => by
  have n := del_no e
  have na : a ≠ q := fun z => n (.inr (z ▸ List.mem_cons_self))
  rw [del_at n] at e ⊢
  rw [upd_ne na]
  exact e
theorem Rep.add {p : OA} {v : V} {d : PyData} {q : Addr} (h : Rep K (del p H) v d) (hq : H q = none) : Rep K (del (p.add q) H) v d := by rw [del_add hq]; exact h
theorem Reps.add {p : OA} {v : List V} {d : List PyData} {q : Addr} (h : Reps K (del p H) v d) (hq : H q = none) : Reps K (del (p.add q) H) v d := by rw [del_add hq]; exact h
theorem Rep.sub {p : OA} {v : V} {d : PyData} {q : Addr} (h : Rep K (del (p.add q) H) v d) : Rep K (del p H) v d := h.mono del_le
theorem Reps.sub {p : OA} {v : List V} {d : List PyData} {q : Addr} (h : Reps K (del (p.add q) H) v d) : Reps K (del p H) v d := h.mono del_le
theorem Reps.len {vs : List V} {ds : List PyData} (h : Reps K H vs ds) : vs.length = ds.length := by
  induction vs generalizing ds with
  | nil =>
    cases h
    rfl
  | cons v r ih =>
    cases h with
    | cons a b => exact congrArg (· + 1) (ih b)
theorem Reps.get {vs : List V} {ds : List PyData} (h : Reps K H vs ds) : ∀ {i : Nat} {v : V}, vs[i]? = some v → ∃ d, ds[i]? = some d ∧ Rep K H v d := by
  induction vs generalizing ds with
  | nil => exact fun e => by simp at e
  | cons u r ih =>
    cases h with
    | cons a b =>
      intro i v e
      cases i with
      | zero => exact ⟨_, rfl, by cases e; exact a⟩
      | succ j => exact ih b e
theorem Reps.app {vs us : List V} {ds es : List PyData} (h : Reps K H vs ds) (h2 : Reps K H us es) : Reps K H (vs ++ us) (ds ++ es) := by
  induction vs generalizing ds with
  | nil =>
    cases h
    exact h2
  | cons u r ih =>
    cases h with
    | cons a b => exact .cons a (ih b)
end
class Enc (α : Type) where
  toD : α → PyData
abbrev enc {α : Type} [Enc α] (a : α) : PyData := Enc.toD a
instance : Enc PyData := ⟨fun d => d⟩
instance : Enc Int := ⟨.int⟩
instance : Enc Bool := ⟨.bool⟩
instance : Enc Str := ⟨.str⟩
instance : Enc Unit := ⟨fun _ => .none⟩
instance {α : Type} [Enc α] : Enc (List α) := ⟨fun l => .list (l.map enc)⟩
/-! ### readings by the text itself -/
structure SemE (X : Cx) (e : Expr) (σ : St) (H : Hp) (Q : VK) : Prop where
  run : ∀ (pins : List (Addr × Obj)) (s : Shared), Inv X pins σ H s → wpAny (model X.prog X.w) X.A (eval e X.env) (EP X pins σ Q) X.xe s
structure SemT (X : Cx) (e : Expr) (σ : St) (H : Hp) (Q : Bool → Hp → Prop) : Prop where
  run : ∀ (pins : List (Addr × Obj)) (s : Shared), Inv X pins σ H s → wpAny (model X.prog X.w) X.A (isTrue e X.env (eval e X.env)) (TP X pins σ Q) X.xe s
structure SemA (X : Cx) (es : List Expr) (σ : St) (H : Hp) (Q : List V → Hp → Prop) : Prop where
  run : ∀ (pos : Pos) (pins : List (Addr × Obj)) (s : Shared), Inv X pins σ H s → wpAny (model X.prog X.w) X.A (spliced (backTo pos (starEach es X.env))) (AP X pins σ Q) X.xe s
structure SemS (X : Cx) (st : Stmt) (D : Ends) (σ : St) (H : Hp) : Prop where
  run : ∀ (pins : List (Addr × Obj)) (s : Shared), Inv X pins σ H s → wpAny (model X.prog X.w) X.A (exec st X.env) (SP X pins D) X.xe s
structure SemSs (X : Cx) (st : List Stmt) (D : Ends) (σ : St) (H : Hp) : Prop where
  run : ∀ (pins : List (Addr × Obj)) (s : Shared), Inv X pins σ H s → wpAny (model X.prog X.w) X.A (execs st X.env) (SP X pins D) X.xe s
section
variable {X : Cx}
theorem semE {e : Expr} : PE X e (SemE X e) := ⟨fun pins s _ _ _ I h => h.run pins s I⟩
theorem semT {e : Expr} : PT X e (SemT X e) := ⟨fun pins s _ _ _ I h => h.run pins s I⟩
theorem semA {es : List Expr} : PA X es (SemA X es) := ⟨fun pos pins s _ _ _ I h => h.run pos pins s I⟩
theorem semS {st : Stmt} : PS X st (SemS X st) := ⟨fun pins s _ _ _ I h => h.run pins s I⟩
theorem semSs {st : List Stmt} : PSs X st (SemSs X st) := ⟨fun pins s _ _ _ I h => h.run pins s I⟩
theorem of_pe {e : Expr} {t : TE} {σ : St} {H : Hp} {Q : VK} (h : PE X e t) (q : t σ H Q) : SemE X e σ H Q := ⟨fun pins s I => h.run pins s σ H Q I q⟩
theorem of_pt {e : Expr} {t : TT} {σ : St} {H : Hp} {Q : Bool → Hp → Prop} (h : PT X e t) (q : t σ H Q) : SemT X e σ H Q := ⟨fun pins s I => h.run pins s σ H Q I q⟩
theorem of_pa {es : List Expr} {t : TA} {σ : St} {H : Hp} {Q : List V → Hp → Prop} (h : PA X es t) (q : t σ H Q) : SemA X es σ H Q := ⟨fun pos pins s I => h.run pos pins s σ H Q I q⟩
theorem of_ps {st : Stmt} {t : TS} {σ : St} {H : Hp} {D : Ends} (h : PS X st t) (q : t D σ H) : SemS X st D σ H := ⟨fun pins s I => h.run pins s σ H D I q⟩
theorem of_pss {st : List Stmt} {t : TS} {σ : St} {H : Hp} {D : Ends} (h : PSs X st t) (q : t D σ H) : SemSs X st D σ H := ⟨fun pins s I => h.run pins s σ H D I q⟩
end
end Lp
set_option Elab.async false
set_option linter.all false
set_option maxRecDepth 100000
set_option maxHeartbeats 4000000
/-! Lp, part three: judgements on the text itself. JE: an expression gives data of which P holds. -/
namespace Lp
open PySem PySem.Spec L2
def JE {α : Type} [Enc α] (X : Cx) (p : OA) (e : Expr) (σ : St) (H : Hp) (P : α → Prop) : Prop :=
  ∀ H1, Go p H H1 → ∀ Q : VK, (∀ v H2 a, Go p H1 H2 → P a → Rep X.K (del p H2) v (enc a) → Q v H2) → SemE X e σ H1 Q
abbrev JV {α : Type} [Enc α] (X : Cx) (p : OA) (e : Expr) (σ : St) (H : Hp) (a : α) : Prop := JE X p e σ H (fun b : α => b = a)
def JT (X : Cx) (p : OA) (e : Expr) (σ : St) (H : Hp) (P : Bool → Prop) : Prop :=
  ∀ H1, Go p H H1 → ∀ Q : Bool → Hp → Prop, (∀ b H2, Go p H1 H2 → P b → Q b H2) → SemT X e σ H1 Q
abbrev JTV (X : Cx) (p : OA) (e : Expr) (σ : St) (H : Hp) (b : Bool) : Prop := JT X p e σ H (fun c => c = b)
def JA (X : Cx) (p : OA) (es : List Expr) (σ : St) (H : Hp) (P : List PyData → Prop) : Prop :=
  ∀ H1, Go p H H1 → ∀ Q : List V → Hp → Prop, (∀ vs H2 ds, Go p H1 H2 → P ds → Reps X.K (del p H2) vs ds → Q vs H2) → SemA X es σ H1 Q
section
variable {X : Cx} {p : OA} {σ : St} {H H' : Hp} {e a b c : Expr} {es : List Expr} {pos ps : Pos} {α β γ : Type} [Enc α] [Enc β] [Enc γ]
theorem JE.imp {P P' : α → Prop} (h : JE X p e σ H P) (i : ∀ a, P a → P' a) : JE X p e σ H P' := fun H1 g Q q => h H1 g Q fun v H2 a g2 pa r => q v H2 a g2 (i a pa) r
theorem JE.mono {P : α → Prop} (h : JE X p e σ H P) (g : Go p H H') : JE X p e σ H' P := fun H1 g1 Q q => h H1 (g.trans g1) Q q
theorem JT.imp {P P' : Bool → Prop} (h : JT X p e σ H P) (i : ∀ a, P a → P' a) : JT X p e σ H P' := fun H1 g Q q => h H1 g Q fun b H2 g2 pb => q b H2 g2 (i b pb)
theorem JT.mono {P : Bool → Prop} (h : JT X p e σ H P) (g : Go p H H') : JT X p e σ H' P := fun H1 g1 Q q => h H1 (g.trans g1) Q q
theorem JA.mono {P : List PyData → Prop} (h : JA X p es σ H P) (g : Go p H H') : JA X p es σ H' P := fun H1 g1 Q q => h H1 (g.trans g1) Q q
/-! ### names and constants -/
/-! ### ints -/
theorem rep_int {K : PySem.W.Frag} {J : Hp} {v : V} {i : Int} (h : Rep K J v (enc i)) : v = .int i := by cases h; rfl
theorem rep_bool {K : PySem.W.Frag} {J : Hp} {v : V} {i : Bool} (h : Rep K J v (enc i)) : v = .bl i := by cases h; rfl
theorem rep_str {K : PySem.W.Frag} {J : Hp} {v : V} {i : Str} (h : Rep K J v (enc i)) : v = .str i := by cases h; rfl
mutual
theorem Rep.dp {K : PySem.W.Frag} {J : Hp} : ∀ {d : PyData} {v : V}, Rep K J v d → d.canLay0 = true → Dp K J v d
  | .none, _, h, _ => by cases h; exact .non
  | .bool _, _, h, _ => by cases h; exact .bl _
  | .int _, _, h, _ => by cases h; exact .int _
  | .str _, _, h, _ => by cases h; exact .str _
  | .list ds, _, h, c => by
    cases h with
    | lst s r => exact .lst (.inl (.inl s)) (Reps.dp r (by simpa only [PyData.canLay0] using c))
  | .tuple ds, _, h, c => by
    cases h with
    | tup s r => exact .tup s (Reps.dp r (by simpa only [PyData.canLay0] using c))
  | .dict _, _, _, c => by simp only [PyData.canLay0] at c; cases c
theorem Reps.dp {K : PySem.W.Frag} {J : Hp} : ∀ {ds : List PyData} {vs : List V}, Reps K J vs ds → PyData.canLayAll0 ds = true → DpAll K J vs ds
  | [], _, h, _ => by cases h; exact .nil
  | d :: ds, _, h, c => by
    cases h with
    | cons a b =>
      simp only [PyData.canLayAll0, Bool.and_eq_true] at c
      exact .cons (Rep.dp a c.1) (Reps.dp b c.2)
end
theorem Rep.all {K : PySem.W.Frag} {J : Hp} {v : V} {d : PyData} (h : Rep K (del p J) v d) : Rep K J v d := h.mono fun _ _ e => del_of e
theorem Reps.all {K : PySem.W.Frag} {J : Hp} {v : List V} {d : List PyData} (h : Reps K (del p J) v d) : Reps K J v d := h.mono fun _ _ e => del_of e
/-! ### and, or, not; tests -/
theorem t_not {x : Bool} (h : JTV X p a σ H x) : JTV X p (.UnaryOp .Not a pos) σ H (!x) := fun H1 g Q q =>
  of_pt (pt_not semT) (h H1 g _ fun c H2 g2 e => by
    subst e
    exact q _ H2 g2 rfl)
/-! ### argument lists, displays -/
theorem a_nil : JA X p [] σ H (fun ds => ds = []) := fun H1 g Q q => of_pa pa_nil (q [] H1 [] (.refl g.dk) rfl .nil)
theorem a_cons {A : α → Prop} {B : List PyData → Prop} (ha : JE X p e σ H A) (hr : JA X p es σ H B) (hs : starEach (e :: es) X.env = (false, eval e X.env) :: starEach es X.env := by rfl) :
    JA X p (e :: es) σ H (fun ds => ∃ x r, A x ∧ B r ∧ ds = enc x :: r) := fun H1 g Q q =>
  of_pa (pa_cons semE semA hs) (ha H1 g _ fun v H2 x g2 px rx => hr H2 (g.trans g2) _ fun vs H3 r g3 pr rr => q _ H3 _ (g2.trans g3) ⟨x, r, px, pr, rfl⟩ (.cons (rx.go g3) rr))
theorem JA.imp {P P' : List PyData → Prop} (h : JA X p es σ H P) (i : ∀ ds, P ds → P' ds) : JA X p es σ H P' := fun H1 g Q q => h H1 g Q fun v H2 a g2 pa r => q v H2 a g2 (i a pa) r
/-! ### calls of built-ins -/
end
end Lp
set_option Elab.async false
set_option linter.all false
set_option maxRecDepth 100000
set_option maxHeartbeats 4000000
/-! Lp, part four: operators by data, repr, calls of one's own defs, statements, loops. -/
namespace Lp
open PySem PySem.Spec L2
section
variable {X : Cx} {p : OA} {σ : St} {H H' : Hp} {e a b c : Expr} {es : List Expr} {pos ps : Pos} {α β γ : Type} [Enc α] [Enc β] [Enc γ]
/-! ### operators -/
def OpD (X : Cx) (r : R2) (p : OA) (x : α) (y : β) (z : γ) : Prop := ∀ J v w, DOk p J → Rep X.K (del p J) v (enc x) → Rep X.K (del p J) w (enc y) → ∀ Q : VK, (∀ u J2, Go p J J2 → Rep X.K (del p J2) u (enc z) → Q u J2) → r v w J Q
theorem t_cmp {op : CmpOp} {r : R2} {x : α} {y : β} {z : Bool} (ho : OpR X (compareOp op) r) (ha : JV X p a σ H x) (hb : JV X p b σ H y) (d : OpD X r p x y z) (hm : behindInMarks op b = false := by first | exact nomark _ | rfl) : JTV X p (.Compare a [op] [b] pos) σ H z := fun H1 g Q q =>
  of_pt (pt_cmpR ho semE semE hm) (ha H1 g _ fun v H2 i g2 pi rx => hb H2 (g.trans g2) _ fun w H3 j g3 pj ry => by
    subst pi pj
    exact d H3 v w g3.dk (rx.go g3) ry _ fun u J2 g4 ru => ⟨z, rep_bool ru, q z J2 ((g2.trans g3).trans g4) rfl⟩)
/-! ### repr -/
/-! ### more built-ins of ints and texts -/
/-! ### subscripts -/
end
end Lp
set_option Elab.async false
set_option linter.all false
set_option maxRecDepth 100000
set_option maxHeartbeats 4000000
/-! Lp, part five: one's own defs, statements, loops. -/
namespace Lp
open PySem PySem.Spec L2
/-! ### promises of one's own defs -/
section
variable {P : Program} {w : World} {K : PySem.W.Frag} {mg : Str → Option Value} {base : Heap} {β : Type} [Enc β] {Pre : List PyData → Prop} {R : List PyData → β → Prop}
abbrev XX (P : Program) (w : World) (K : PySem.W.Frag) (mg : Str → Option Value) (base : Heap) (N : List Str) (qual : Str) (st : Stmt) (f : Addr) (cdv : Value) (B : Around) (fr : List Env) (s : Shared) (J : Hp) (Z : XK) : Cx :=
  (cxOf CX0 P w K mg base N qual (defScope st) f cdv B fr s J Z).nox
end
section
variable {X : Cx} {p : OA} {σ : St} {H H' : Hp} {e a b c : Expr} {es : List Expr} {pos ps : Pos} {α β γ : Type} [Enc α] [Enc β] [Enc γ] {D : Ends}
/-! ### statements -/
theorem s_set {P : α → Prop} {x : Str} {px : Pos} (i : Nat) (dk : DOk p H) (h : JE X p e σ H P) (nd : X.N.Nodup) (k : ∀ v H1 u, Go p H H1 → P u → Rep X.K (del p H1) v (enc u) → D.nx (σ.set i (some v)) H1) (hi : X.N[i]? = some x := by rfl)
    (hx : Loc X.env.scope x := by exact Or.inl rfl) (hs : swapsWith e (some (.Name x px)) pos.line X.env = pure false := by rfl) (hf : X.fn x = true ∨ X.env.scope.names.lookup x = some .local := by first | exact .inl rfl | exact .inr rfl) : SemS X (.Assign [.Name x px] e pos) D σ H :=
  of_ps (ps_set (i := i) nd hi hx semE hs hf) (h H (.refl dk) _ fun v H1 u g pu r => k v H1 u g pu r)
theorem s_ret {P : α → Prop} (dk : DOk p H) (h : JE X p e σ H P) (k : ∀ v H1 u, Go p H H1 → P u → Rep X.K (del p H1) v (enc u) → D.rt v H1) : SemS X (.Return (some e) pos) D σ H := of_ps (ps_ret semE) (h H (.refl dk) _ k)
theorem s_if {P : Bool → Prop} {th el : List Stmt} (dk : DOk p H) (h : JT X p c σ H P) (h1 : ∀ H1, Go p H H1 → P true → SemSs X th D σ H1) (h2 : ∀ H1, Go p H H1 → P false → SemSs X el D σ H1) : SemS X (.If c th el pos) D σ H :=
  of_ps (ps_if semT semSs semSs) (h H (.refl dk) _ fun u H1 g pu => by
    cases u with
    | true => exact iteT (h1 H1 g pu)
    | false => exact iteF (h2 H1 g pu))
end
end Lp
set_option Elab.async false
set_option linter.all false
set_option maxRecDepth 100000
set_option maxHeartbeats 4000000
/-! Lp, part six: where only bounds are known; the dice's cells. -/
namespace Lp
open PySem PySem.Spec L2
end Lp
set_option Elab.async false
set_option linter.all false
set_option maxRecDepth 100000
set_option maxHeartbeats 4000000
/-! Lp, part seven: comprehensions, zip, isinstance, more of texts. -/
namespace Lp
open PySem PySem.Spec L2
section
variable {X : Cx} {p : OA} {σ : St} {H H' : Hp} {e a b c : Expr} {es : List Expr} {pos ps : Pos} {α β γ : Type} [Enc α] [Enc β] [Enc γ] {D : Ends}
/-! ### tests joined by and, or -/
theorem t_or {x y : Bool} (ha : JTV X p a σ H x) (hb : x = false → JTV X p b σ H y) : JTV X p (.BoolOp .Or [a, b] pos) σ H (x || y) := fun H1 g Q q =>
  of_pt (PW.pt (pw_or semT (pw_or1 semT))) (ha H1 g _ fun u H2 g2 e => by
    subst e
    cases u with
    | false => exact iteF (hb rfl H2 (g.trans g2) Q fun v H3 g3 e => q v H3 (g2.trans g3) e)
    | true => exact iteT (q _ H2 g2 rfl))
/-! ### isinstance -/
def tyN : PyData → String
  | .none => "NoneType"
  | .bool _ => "bool"
  | .int _ => "int"
  | .str _ => "str"
  | .list _ => "list"
  | .tuple _ => "tuple"
  | .dict _ => "dict"
/-! ### texts -/
/-! ### xs[::-1], zip -/
end
/-! ### comprehensions -/
def SemEB (X : Cx) (sc : Scope) (e : Expr) : TE := fun σ H Q => ∀ (s : Shared) (J : Hp) (C : Addr) (cl : List (Str × Addr)) (fp : List Addr), SemE (X.blk s J sc (compEnvC sc cl C X.env) fp) e σ H Q
def SemTB (X : Cx) (sc : Scope) (e : Expr) : TT := fun σ H Q => ∀ (s : Shared) (J : Hp) (C : Addr) (cl : List (Str × Addr)) (fp : List Addr), SemT (X.blk s J sc (compEnvC sc cl C X.env) fp) e σ H Q
def JEB {α : Type} [Enc α] (X : Cx) (sc : Scope) (p : OA) (e : Expr) (σ : St) (H : Hp) (P : α → Prop) : Prop := ∀ (s : Shared) (J : Hp) (C : Addr) (cl : List (Str × Addr)) (fp : List Addr), JE (X.blk s J sc (compEnvC sc cl C X.env) fp) p e σ H P
def JTB (X : Cx) (sc : Scope) (p : OA) (e : Expr) (σ : St) (H : Hp) (P : Bool → Prop) : Prop := ∀ (s : Shared) (J : Hp) (C : Addr) (cl : List (Str × Addr)) (fp : List Addr), JT (X.blk s J sc (compEnvC sc cl C X.env) fp) p e σ H P
section
variable {X : Cx} {p : OA} {σ : St} {H H' : Hp} {it elt c : Expr} {pos : Pos} {D : Ends}
theorem wipe1 {σ : St} {i : Nat} {v : Option V} : wipe (σ.set i v) [i] = wipe σ [i] := by
  show (wipe (σ.set i v) []).set i none = (wipe σ []).set i none
  show (σ.set i v).set i none = σ.set i none
  exact List.set_set ..
/-- from H, where q is not, to J, where it is -/
structure Gq (p : OA) (q : Addr) (H J : Hp) : Prop where
  no : H q = none
  go : Go p H J
  yes : J q ≠ none
theorem Gq.dk {q : Addr} {H J : Hp} (g : Gq p q H J) : DOk (p.add q) J := (g.go.sup g.yes).dk
theorem Rep.gq {K : PySem.W.Frag} {q : Addr} {H J : Hp} {v : V} {d : PyData} (h : Rep K (del p H) v d) (g : Gq p q H J) : Rep K (del (p.add q) J) v d := (h.add g.no).mono (Go.exd (p := p.add q) (g.go.sup g.yes))
theorem Reps.gq {K : PySem.W.Frag} {q : Addr} {H J : Hp} {v : List V} {d : List PyData} (h : Reps K (del p H) v d) (g : Gq p q H J) : Reps K (del (p.add q) J) v d := (h.add g.no).mono (Go.exd (p := p.add q) (g.go.sup g.yes))
/-- the reading of a comprehension over a list, with one test; f, g: the test's and the element's function -/
theorem lc_read {σ : St} {H : Hp} {i : Nat} {tt : TT} {te : TE} {P : List PyData → Prop} {f : PyData → Bool} {g : PyData → PyData} {K : PySem.W.Frag} {tl : TE}
    (hl : ∀ H1, Go p H H1 → ∀ Q : VK, (∀ v H2 d, Go p H1 H2 → (∃ ds, P ds ∧ d = PyData.list ds) → Rep K (del p H2) v d → Q v H2) → tl σ H1 Q) (hz : ∀ ds, P ds → ds.length ≤ sizeLine)
    (ht : ∀ ds d v J q, P ds → d ∈ ds → Gq p q H J → Rep K (del (p.add q) J) v d → ∀ Q : Bool → Hp → Prop, (∀ H2, Go (p.add q) J H2 → Q (f d) H2) → tt (σ.set i (some v)) J Q)
    (he : ∀ ds d v J q, P ds → d ∈ ds → f d = true → Gq p q H J → Rep K (del (p.add q) J) v d → ∀ Q : VK, (∀ v H2, Go (p.add q) J H2 → Rep K (del (p.add q) H2) v (g d) → Q v H2) → te (σ.set i (some v)) J Q) :
    ∀ H1, Go p H H1 → ∀ Q : VK, (∀ v H2 d, Go p H1 H2 → (∃ ds, P ds ∧ d = PyData.list ((ds.filter f).map g)) → Rep K (del p H2) v d → Q v H2) → tLc (iList K tl) (gName i) tt te [i] σ H1 Q := by
  intro H1 g1 Q q
  refine hl H1 g1 _ fun v H2 d g2 ⟨ds, pd, ed⟩ r => ?_
  subst ed
  cases r with
  | lst s rr =>
    have len := rr.len
    refine ⟨_, rfl, ⟨_, ls_q s⟩, fun Dn hD => ?_⟩
    have nD := g2.dk.ne hD
    have nDd : p.d ≠ some Dn := fun z => nD (.inl z)
    have fH : H Dn = none := (g1.trans g2).free hD
    have rr' := rr.add hD
    refine lc_list (fun k J => ∃ acc, J Dn = some (.lst acc) ∧ Reps K (del (p.add Dn) J) acc (((ds.take k).filter f).map g) ∧ Go p H2 J) ⟨[], upd_same, .nil, .new g2.dk hD⟩ (fun k J _ ⟨acc, e1, e2, e3⟩ => ls_q (e3.exd _ _ s)) (fun k x J ex ⟨acc, e1, e2, e3⟩ => ?_) fun J ⟨acc, e1, e2, e3⟩ => ?_
    · have gs : Gq p Dn H J := ⟨fH, (g1.trans g2).trans e3, by rw [e1]; exact Option.some_ne_none _⟩
      obtain ⟨d, ed, rd⟩ := (rr.gq ⟨hD, e3, gs.yes⟩).get ex
      have md : d ∈ ds := List.mem_of_getElem? ed
      have tk : ds.take (k + 1) = ds.take k ++ [d] := by rw [List.take_add_one, ed]; rfl
      show wipe ((wipe σ [i]).set i (some x)) [i] = wipe σ [i] ∧ _
      have es : (wipe σ [i]).set i (some x) = σ.set i (some x) := by
        show ((wipe σ []).set i none).set i (some x) = σ.set i (some x)
        exact List.set_set ..
      rw [es]
      refine ⟨wipe1, ht ds d x J Dn pd md gs rd _ fun J1 gt => ?_⟩
      have gs1 : Gq p Dn H J1 := ⟨fH, gs.go.trans gt.sub, fun z => gt.dk.lv Dn List.mem_cons_self z⟩
      cases hf : f d with
      | true =>
        refine iteT (he ds d x J1 Dn pd md hf gs1 (rd.go gt) _ fun y J2 ge ry => ?_)
        have gg := gt.trans ge
        have eD : J2 Dn = some (.lst acc) := gg.ex Dn _ nDd e1
        have gu : Go p H2 (upd J2 Dn (.lst (acc ++ [y]))) := Go.put g2.dk (e3.trans gg.sub) hD
        refine ⟨acc, eD, ?_, acc ++ [y], upd_same, ?_, gu⟩
        · have h1 := e2.len
          rw [List.length_map] at h1
          have h2 := List.length_filter_le f (ds.take k)
          have h4 : k < ds.length := (List.getElem?_eq_some_iff.mp ed).1
          have h5 := hz ds pd
          have h6 : (ds.take k).length ≤ k := List.length_take_le ..
          omega
        · rw [tk, List.filter_append, List.map_append]
          have : List.filter f [d] = [d] := by rw [List.filter_cons, hf]; rfl
          rw [this]
          exact Reps.mono del_put ((e2.go gg).app (.cons ry .nil))
      | false =>
        refine iteF ⟨acc, gt.ex Dn _ nDd e1, ?_, e3.trans gt.sub⟩
        rw [tk, List.filter_append]
        have : List.filter f [d] = [] := by rw [List.filter_cons, hf]; rfl
        rw [this, List.append_nil]
        exact e2.go gt
    · rw [len, List.take_length] at e2
      exact q _ J _ (g2.trans e3) ⟨ds, pd, rfl⟩ (.lst (by rw [del_at nD]; exact e1) e2.sub)
/-- name = [elt for x in it if c] -/
theorem s_setLc {x y : Str} {px py spos : Pos} {sc : Scope} {P : List PyData → Prop} {f : PyData → Bool} {g : PyData → PyData} (i j : Nat) (dk : DOk p H) (hc : X.calm = true) (nd : X.N.Nodup) (hl : JE X p it σ H (fun d : PyData => ∃ ds, P ds ∧ d = .list ds)) (hz : ∀ ds, P ds → ds.length ≤ sizeLine)
    (ok : BlkOk X.N X.env.scope sc [(x, i)])
    (ht : ∀ ds d v J q, P ds → d ∈ ds → Gq p q H J → Rep X.K (del (p.add q) J) v d → JTB X sc (p.add q) c (σ.set i (some v)) J (fun r => r = f d))
    (he : ∀ ds d v J q, P ds → d ∈ ds → f d = true → Gq p q H J → Rep X.K (del (p.add q) J) v d → JEB X sc (p.add q) elt (σ.set i (some v)) J (fun r : PyData => r = g d))
    (k : ∀ v H1 ds, Go p H H1 → P ds → Rep X.K (del p H1) v (.list ((ds.filter f).map g)) → D.nx (σ.set j (some v)) H1)
    (hsw : swapsWith (.ListComp elt [⟨.Name x px, it, [c], 0⟩] sc pos) (some (.Name y py)) spos.line X.env = pure true)
    (hi : X.N[i]? = some x := by rfl) (hj : X.N[j]? = some y := by rfl) (hyl : X.env.scope.names.lookup y = some .local := by rfl) (hx : sc.names.lookup x = some .local := by rfl)
    (hs : ∀ y, foldedSetIterable it X.env y = pure y := by intro _; rfl) :
    SemS X (.Assign [.Name y py] (.ListComp elt [⟨.Name x px, it, [c], 0⟩] sc pos) spos) D σ H :=
  of_ps (ps_setLc (i := j) (own := [(x, i)]) (g := gName i) (tt := SemTB X sc c) (te := SemEB X sc elt) hc nd hj hyl hsw (pi_list semE) ok
      (fun s J C cl fp => pg_name nd hi (show L2.Loc (compEnvC sc cl C X.env).scope x from .inl (lookup_relabel_local hx)) (.inr (show (compEnvC sc cl C X.env).scope.names.lookup x = some .local from lookup_relabel_local hx)))
      (fun s J C cl fp => pts_one ⟨fun pins st _ _ _ I h => (h s J C cl fp).run pins st I⟩) (fun s J C cl fp => ⟨fun pins st _ _ _ I h => (h s J C cl fp).run pins st I⟩) hs)
    (lc_read (K := X.K) (f := f) (g := g) hl hz (fun ds d v J q pd md gs r Q k s J' C cl fp => ht ds d v J q pd md gs r s J' C cl fp J (.refl gs.dk) Q fun b H2 g2 eb => by subst eb; exact k H2 g2)
      (fun ds d v J q pd md hf gs r Q k s J' C cl fp => he ds d v J q pd md hf gs r s J' C cl fp J (.refl gs.dk) Q fun v H2 a g2 ea rv => by subst ea; exact k v H2 g2 rv) H (.refl dk) _
      fun v H2 d g2 ⟨ds, pd, ed⟩ r => by
        subst ed
        exact k v H2 ds g2 pd r)
end
end Lp
set_option Elab.async false
set_option linter.all false
set_option maxRecDepth 100000
set_option maxHeartbeats 1000000
/-! Lp, part eight: set(a list of texts), sorted of it. -/
namespace Lp
open PySem PySem.Spec PySem.Calls PyProof.Rows L2
/-! ### what a set of texts is -/
def txOf (e : Int × Value) : Str := match e.2 with
  | .str x _ => x
  | _ => Str.empty
def TxE (w : World) (e : Int × Value) : Prop := ∃ x u, e.2 = Value.str x u ∧ e.1 = hashStr w x
/-- at a: the set of the texts of zs, which are different -/
structure TxSet (w : World) (h : Heap) (a : Addr) (zs : List Str) (o : Obj) (es : Array (Int × Value)) (ep : Nat) (t : SetTable) : Prop where
  at_ : h.get? a = some o
  ex : o.ExactSet
  da : o.data = .set es ep t
  el : ∀ e ∈ es.toList, TxE w e
  pm : (es.toList.map txOf).Perm zs
  nd : zs.Nodup
  sm : es.size < scanBound
  fi : t.fits es.size = true
  ri : Ris t.place.toList
  le : w.params.followText "set-order" = true ∨ t.led = true
def TxAt (w : World) (h : Heap) (a : Addr) (zs : List Str) : Prop := ∃ o es ep t, TxSet w h a zs o es ep t
section
variable {P : Program} {w : World} {A : Around} {E : Value → Shared → Prop} {s : Shared} {a : Addr} {zs : List Str}
theorem TxAt.keep {h h1 : Heap} (T : TxAt w h a zs) (k : ∀ o, h.get? a = some o → h1.get? a = some o) : TxAt w h1 a zs := by
  obtain ⟨o, es, ep, t, T⟩ := T
  exact ⟨o, es, ep, t, { T with at_ := k o T.at_ }⟩
theorem tx_elems {l : List (Int × Value)} (g : ∀ e ∈ l, TxE w e) : ElemsOf (strKind P w) l := fun e m => by
  obtain ⟨x, u, e1, e2⟩ := g e m
  refine ⟨⟨x, ?_, e2⟩, by rw [e1] <;> rfl⟩
  rw [e1]
  exact (show Value.isStrOf x (.str x u) = true by simp [Value.isStrOf])
theorem tx_is {e : Int × Value} (g : TxE w e) (k : Str) : (strKind P w).is k e.2 = true ↔ txOf e = k := by
  obtain ⟨x, u, e1, _⟩ := g
  unfold txOf
  rw [e1]
  show Value.isStrOf k (.str x u) = true ↔ x = k
  simp [Value.isStrOf]
theorem TxSet.size {o : Obj} {es : Array (Int × Value)} {ep : Nat} {t : SetTable} (T : TxSet w s.heap a zs o es ep t) : es.size = zs.length := by
  have := T.pm.length_eq
  rw [List.length_map, Array.length_toList] at this
  exact this
/-- the set's table is laid, and laid anew where it is too full -/
theorem tx_tail {gv : Bool → Sem Unit} (hgv : ∀ (b : Bool) (s1 : Shared) (R : Unit → Shared → Prop), R () s1 → wpAny (model P w) A (gv b) R E s1) {o : Obj} {es es1 : Array (Int × Value)} {ep : Nat} {t t1 : SetTable}
    (ho : s.heap.get? a = some o) (hx : o.ExactSet) (hd : o.data = .set es ep t) (g : ∀ e ∈ es1.toList, TxE w e) (pm : (es1.toList.map txOf).Perm zs) (nd : zs.Nodup) (sm : es1.size < scanBound)
    (fi : t1.fits es1.size = true) (ri : Ris t1.place.toList) (le : w.params.followText "set-order" = true ∨ t1.led = true) {dum : Bool} {R : Option Bool → Shared → Prop}
    (q : ∀ h1, Heap.SameBut a s.heap h1 → TxAt w h1 a zs → R (some true) { s with heap := h1 }) :
    wpAny (model P w) A (do
      storeSet a es1 t1
      if (!dum && t1.tooFull) = true then do
        gv (relayAll t1 es1 (SetTable.grown es1.size)).2.2
        storeSet a (relayAll t1 es1 (SetTable.grown es1.size)).1 (relayAll t1 es1 (SetTable.grown es1.size)).2.1
        pure (some true)
      else pure (some true)) R E s := by
  apply wpAny_bind
  refine wpAny_storeSet_of (hz := fits_of_scanBound sm) ho hd ?_
  have at1 := store_at (es' := es1) (t' := t1) ho hd
  have but1 := Heap.SameBut.update s.heap a (Obj.putSet es1 t1)
  by_cases c : (!dum && t1.tooFull) = true
  · rw [if_pos c]
    have p2 := relayAll_perm t1 es1 (SetTable.grown es1.size)
    have f2 := relayAll_fits t1 es1 (SetTable.grown es1.size)
    have r2 := relayAll_ris t1 es1 (SetTable.grown es1.size)
    have l2 := relayAll_led t1 es1 (SetTable.grown es1.size)
    generalize relayAll t1 es1 (SetTable.grown es1.size) = N at p2 f2 r2 l2 ⊢
    have z2 : N.1.size = es1.size := by rw [← Array.length_toList, p2.length_eq, Array.length_toList]
    have sm2 : N.1.size < scanBound := by omega
    apply wpAny_bind
    apply hgv
    apply wpAny_bind
    refine wpAny_storeSet_of (hz := fits_of_scanBound sm2) at1 rfl ?_
    have at2 := store_at (es' := N.1) (t' := N.2.1) at1 rfl
    apply wpAny_pure
    refine q _ (but1.trans (Heap.SameBut.update _ a _)) ⟨_, N.1, _, N.2.1, at2, hx, rfl, fun e m => g e (p2.mem_iff.mp m), (p2.map txOf).trans pm, nd, sm2, f2, r2, ?_⟩
    rcases le with le | le
    · exact .inl le
    · exact .inr (by rw [l2]; exact le)
  · rw [if_neg c]
    exact wpAny_pure (q _ but1 ⟨_, es1, _, t1, at1, hx, rfl, g, pm, nd, sm, fi, ri, le⟩)
/-- one more text -/
theorem tx_add {k : Str} {u : Tok} {Q : Bool → Shared → Prop} (T : TxAt w s.heap a zs) (room : zs.length + 1 < scanBound)
    (q : ∀ b h1 ys, Heap.SameBut a s.heap h1 → TxAt w h1 a ys → (∀ x, x ∈ ys ↔ x ∈ zs ∨ x = k) → ys.length ≤ zs.length + 1 → Q b { s with heap := h1 }) :
    wpAny (model P w) A (setAddHashed a (.str k u) ((strKind P w).hash k)) Q E s := by
  obtain ⟨o, es, ep, t, T⟩ := T
  have zsz := T.size
  have key : (strKind P w).is k (.str k u) = true := (show Value.isStrOf k (.str k u) = true by simp [Value.isStrOf])
  have elm : ElemsOf (strKind P w) es.toList := tx_elems T.el
  have inz : ∀ x, x ∈ zs ↔ ∃ e ∈ es.toList, (strKind P w).is x e.2 = true := fun x => by
    rw [← T.pm.mem_iff, List.mem_map]
    exact ⟨fun ⟨e, m, z⟩ => ⟨e, m, (tx_is (T.el e m) x).mpr z⟩, fun ⟨e, m, z⟩ => ⟨e, m, (tx_is (T.el e m) x).mp z⟩⟩
  unfold setAddHashed setAddHashedIn
  apply wpAny_holding
  apply wpAny_bind
  apply wpAny_setState_of T.at_ T.da T.fi
  dsimp only
  rw [byScan_of (x := Value.str k u) rfl T.sm elm]
  simp only [↓reduceIte]
  unfold setAddByScan
  apply wpAny_bind
  apply wpAny_bind
  apply wpAny_rule
  apply wpAny_bind
  refine wpAny_setScan_of key T.at_ T.da T.fi elm ?_
  cases found : List.findIdx? (fun e => (strKind P w).is k e.2) es.toList with
  | some j =>
    obtain ⟨hj, pj, _⟩ := List.findIdx?_eq_some_iff_getElem.mp found
    have kz : k ∈ zs := (inz k).mpr ⟨es.toList[j], List.getElem_mem hj, pj⟩
    dsimp only
    apply wpAny_pure
    apply wpAny_pure
    exact q _ s.heap zs (Heap.SameBut.refl a s.heap) ⟨o, es, ep, t, T⟩ (fun x => ⟨.inl, fun z => z.elim id fun e => e ▸ kz⟩) (Nat.le_succ _)
  | none =>
    have kz : k ∉ zs := fun m => by
      obtain ⟨e, he, z⟩ := (inz k).mp m
      have := List.findIdx?_eq_none_iff.mp found e he
      rw [z] at this
      cases this
    have way : ∀ (b : Bool) {s1 : Shared} {R : Unit → Shared → Prop}, R () s1 → wpAny (model P w) A (match b with
        | true => rule "set.scan.the-table-gave-way"
        | false => pure ()) R E s1 := fun b _ _ z => by
      cases b
      · exact wpAny_pure z
      · exact wpAny_rule z
    dsimp only
    have p1 := layNew_perm t es ((strKind P w).hash k) (.str k u)
    have f1 := layNew_fits t es ((strKind P w).hash k) (.str k u)
    have r1 := layNew_ris t es ((strKind P w).hash k) (.str k u) T.ri
    have l1 := layNew_led t es ((strKind P w).hash k) (.str k u)
    generalize layNew t es ((strKind P w).hash k) (.str k u) = N at p1 f1 r1 l1 ⊢
    obtain ⟨es1, t1, dum, gave⟩ := N
    dsimp only at p1 f1 r1 l1 ⊢
    rw [Array.toList_push] at p1
    have p2 : es1.toList.Perm (((strKind P w).hash k, Value.str k u) :: es.toList) := p1.trans (List.perm_append_singleton _ _)
    have pm : (es1.toList.map txOf).Perm (k :: zs) := (p2.map txOf).trans (T.pm.cons k)
    have nd : (k :: zs).Nodup := List.nodup_cons.mpr ⟨kz, T.nd⟩
    have g : ∀ e ∈ es1.toList, TxE w e := fun e m => (List.mem_cons.mp (p2.mem_iff.mp m)).elim (fun z => by rw [z]; exact ⟨k, u, rfl, rfl⟩) (T.el e)
    have z1 : es1.size = zs.length + 1 := by rw [← Array.length_toList, p2.length_eq, List.length_cons, Array.length_toList, zsz]
    have sm : es1.size < scanBound := by omega
    have le : w.params.followText "set-order" = true ∨ t1.led = true := T.le.elim .inl fun z => .inr (by rw [l1]; exact z)
    have fin : ∀ b h1, Heap.SameBut a s.heap h1 → TxAt w h1 a (k :: zs) → Q b { s with heap := h1 } := fun b h1 sb T1 =>
      q b h1 (k :: zs) sb T1 (fun x => List.mem_cons.trans Or.comm) (Nat.le_refl _)
    apply wpAny_bind
    apply way
    by_cases c : t1.plain = true
    · rw [if_pos c]
      apply wpAny_bind
      rw [hashByValue_scannable 8 (x := Value.str k u) rfl]
      apply wpAny_pure
      have fi : (if t1.plain = true then { t1 with plain := false } else t1).fits es1.size = true := by
        rw [if_pos c]
        exact SetTable.fits_plain_off f1
      have ri : Ris (if t1.plain = true then { t1 with plain := false } else t1).place.toList := by
        rw [if_pos c]
        exact r1
      have le2 : w.params.followText "set-order" = true ∨ (if t1.plain = true then { t1 with plain := false } else t1).led = true := by
        rw [if_pos c]
        exact le
      rw [if_pos c] at fi ri le2
      refine tx_tail (fun b s1 R z => ?_) T.at_ T.ex T.da g pm nd sm fi ri le2 fun h1 sb T1 => ?_
      · cases b
        · exact wpAny_pure z
        · exact wpAny_rule z
      · dsimp only
        exact wpAny_pure (fin _ h1 sb T1)
    · rw [if_neg c]
      apply wpAny_bind
      apply wpAny_pure
      simp only [↓reduceIte]
      refine tx_tail (fun b s1 R z => ?_) T.at_ T.ex T.da g pm nd sm f1 r1 le fun h1 sb T1 => ?_
      · cases b
        · exact wpAny_pure z
        · exact wpAny_rule z
      · dsimp only
        exact wpAny_pure (fin _ h1 sb T1)
/-- the loop of set(..) over any walk that gives texts -/
theorem tx_loop {I : Addr} {fp wr : List Addr} {G : Array GenState → Array GenState → Prop} {n : Nat} {Pv : Nat → Value → Prop} {St : Nat → Shared → Prop} {R : Result → Shared → Prop}
    (W : WalksS P w A.in1 I fp wr G n Pv St) (S : Addr) (out : S ∉ fp) (xs : List Str) (len : n = xs.length) (sm : xs.length + 1 < scanBound) (val : ∀ i v, Pv i v → ∃ x u, xs[i]? = some x ∧ v = .str x u) :
    ∀ (k i : Nat) (s : Shared), n - i = k → i ≤ n → St i s → (∃ ys, TxAt w s.heap S ys ∧ (∀ x, x ∈ ys ↔ x ∈ xs.take i) ∧ ys.length ≤ i) →
      (∀ s2 ys, Moved (S :: wr) G s s2 → TxAt w s2.heap S ys → (∀ x, x ∈ ys ↔ x ∈ xs) → R (.ok (.ret .none)) s2) →
      codeAny (model P w) A (.builtin "set.update.loop" ⟨[.ref S, .ref I], []⟩) R s := by
  have outw : S ∉ wr := fun z => out (W.sub _ z)
  have wide : ∀ b ∈ wr, b ∈ S :: wr := fun _ => List.mem_cons_of_mem _
  intro k
  induction k with
  | zero =>
    rintro i s hk hi st ⟨ys, T, mem, _⟩ q
    obtain rfl : i = n := by omega
    refine codeAny_builtin F.entry_set_update_loop ?_
    rw [Around.under_plainId F.plain_set_update_loop _]
    apply wpAny_bind
    refine W.done s _ _ st fun s2 mv => ?_
    apply wpAny_pure
    refine q s2 ys (mv.mono wide) (T.keep fun o e => mv.heap S o outw e) fun x => ?_
    rw [mem x, List.take_of_length_le (by omega)]
  | succ k ih =>
    rintro i s hk hi st ⟨ys, T, mem, le⟩ q
    have lt : i < n := by omega
    refine codeAny_builtin F.entry_set_update_loop ?_
    rw [Around.under_plainId F.plain_set_update_loop _]
    apply wpAny_bind
    refine W.item i s _ _ lt st fun v s2 pv st2 mv => ?_
    obtain ⟨x, u, ex, rfl⟩ := val i v pv
    have T2 : TxAt w s2.heap S ys := T.keep fun o e => mv.heap S o outw e
    dsimp only
    apply wpAny_bind
    apply wpAny_holding
    unfold setAdd
    apply wpAny_holding
    apply wpAny_bind
    refine (strKind P w).pyHash (k := x) (show Value.isStrOf x (.str x u) = true by simp [Value.isStrOf]) ?_
    refine tx_add (s := { s2 with toks := s2.toks + 1 }) T2 (by omega) fun b h1 zs sb T3 mem3 le3 => ?_
    have mem4 : ∀ y, y ∈ zs ↔ y ∈ xs.take (i + 1) := fun y => by
      rw [mem3 y, mem y, List.take_add_one, ex]
      simp [List.mem_append]
    apply wpAny_pure
    refine ⟨plainId_quiet F.plain_set_update_loop _, ih (i + 1) _ (by omega) lt (W.frame _ s2 _ _ st2 (Nat.le_succ _) fun c hc o e => ?_) ⟨zs, T3, mem4, by omega⟩ fun s3 ys3 mv3 T4 mem5 => ?_⟩
    · have nc : c ≠ S := fun z => out (z ▸ hc)
      rw [sb.2 c nc]
      exact e
    · refine q s3 ys3 (Moved.trans W.gtrans ((mv.mono wide).then_heap (Nat.le_succ _) fun c o hc e => ?_) mv3) T4 mem5
      have nc : c ≠ S := fun z => hc (z ▸ List.mem_cons_self)
      rw [sb.2 c nc]
      exact e
/-- a set as it is made -/
abbrev newSet (w : World) : Obj := { cls := .type "set", dict := none, data := .set #[] 0 (.fresh 0 0 (!w.params.followText "set-order")) }
theorem tx_new {h : Heap} (e : h.get? a = some (newSet w)) : TxAt w h a [] := by
  refine ⟨_, #[], 0, .fresh 0 0 (!w.params.followText "set-order"), e, ⟨rfl, rfl, rfl⟩, rfl, fun e m => ?_, List.Perm.refl _, List.nodup_nil, by decide, by rfl, List.Pairwise.nil, ?_⟩
  · simp at m
  · show w.params.followText "set-order" = true ∨ (!w.params.followText "set-order") = true
    cases w.params.followText "set-order"
    · exact .inr rfl
    · exact .inl rfl
theorem sa_at : ∀ {us : List Value} {xs : List Str} {i : Nat} {v : Value}, StrsAre us xs → us[i]? = some v → ∃ x u, xs[i]? = some x ∧ v = .str x u
  | _, _, _, _, .nil, h => by simp at h
  | _, _, 0, _, .cons y t r, h => ⟨y, t, rfl, (Option.some.inj h).symm⟩
  | _, _, i + 1, _, .cons y t r, h => sa_at (i := i) r h
set_option maxHeartbeats 4000000 in
/-- set(xs), xs a list of texts -/
theorem call_set_tx {l : Addr} {items : Array Value} {xs : List Str} {Q : Value → Shared → Prop} (hh : A.handled = none) (hl : s.heap.IsList l items) (hi : StrsAre items.toList xs) (sm : xs.length + 1 < scanBound)
    (q : ∀ h1 tk ys, TxAt w h1 s.heap.objs.size ys → (∀ x, x ∈ ys ↔ x ∈ xs) → (∀ b o, s.heap.get? b = some o → h1.get? b = some o) → Q (.ref s.heap.objs.size) { s with heap := h1, toks := tk }) :
    wpAny (model P w) A (call (.type "set") [.ref l]) Q E s := by
  have isz : items.size = xs.length := by
    have := hi.length
    rw [Array.length_toList] at this
    exact this
  have hmade := F.called_set.made
  have hsub := F.called_set.sub
  have h1 := F.called_set.notType
  have h2 := F.called_set.canCreate
  have hct := F.typeCall_set_1 (.ref l)
  obtain ⟨c, tl, hmro⟩ := F.called_set.mro
  apply wpAny_call
  apply codeAny_of_tree
  show wpAny _ _ (callAny (.type "set") _) _ _ _
  apply wpAny_pure
  refine ⟨Code.quiet_builtin _ (by decide +kernel), codeAny_builtin F.entry_type_call ?_⟩
  rw [Around.under_plain (weight_type_call_type "set" [.ref l] []) rfl]
  repeat (any_goals (first | assumption | wp_step))
  refine codeAny_mono (code_set_led1 (.ref l) (E := E) (Q₁ := fun ob s1 => ob = .ref s.heap.objs.size ∧ s1 = { s with heap := s.heap.push (newSet w) }) ⟨rfl, rfl⟩) fun r s1 hr => ?_
  match r, hr with
  | .error e, hr => exact hr
  | .ok (.ret ob), ⟨e1, e2⟩ =>
    subst e1 e2
    have gS : (s.heap.push (newSet w)).get? s.heap.objs.size = some (newSet w) := Heap.get?_push_size _ rfl
    have hT : Shared.TypeIs { s with heap := s.heap.push (newSet w) } (.ref s.heap.objs.size) "set" := ⟨_, gS, rfl⟩
    have hli := F.called_set.init.lookup
    have hbi := F.called_set.init.bind (.ref s.heap.objs.size)
    repeat (any_goals (first | assumption | wp_step))
    refine codeAny_mono (codeAny_call_builtin (R := wants (fun r s2 => r = .none ∧ ∃ h1 tk ys, s2 = { s with heap := h1, toks := tk } ∧ TxAt w h1 s.heap.objs.size ys ∧ (∀ x, x ∈ ys ↔ x ∈ xs) ∧ ∀ b o, s.heap.get? b = some o → h1.get? b = some o) E)
      F.called_set.init.plain F.entry_set_init (check_set_init_1 hT ?_)) fun r2 s2 hr2 => ?_
    · obtain ⟨⟨lc, ldd, lda, lsl⟩, hol, hcl, nl, hdl⟩ := hl
      simp only at hcl hdl
      subst hcl hdl
      have gL : (s.heap.push (newSet w)).get? l = some { cls := .type "list", dict := ldd, data := .seq items nl, slots := lsl } := Heap.get?_push_of_some _ hol
      have i1 := F.sub_list_set
      have i2 := F.sub_list_frozenset
      have i3 : (Value.type "list" == Value.type "dict") = false := by decide
      have isL : (s.heap.push (newSet w)).IsList l items := ⟨_, gL, rfl, nl, rfl⟩
      have ltl : l < s.heap.objs.size := Heap.lt_size hol
      have zS : (s.heap.push (newSet w)).objs.size = s.heap.objs.size + 1 := Heap.size_push ..
      have hand : A.in1.in1.in1.handled = none := by simp [hh]
      unfold Builtin.«set.__init__» noKeywords Builtin.Frozenset.updateFrom
      generalize hPI : pyIter = PI
      wp_walk
      subst hPI
      refine wpAny_pyIter_list isL ?_
      apply wpAny_bind
      apply wpAny_runValue
      have neI : l ≠ (s.heap.push (newSet w)).objs.size := fun m => Nat.ne_of_lt (Nat.lt_succ_of_lt ltl) (m.trans zS)
      have outS : s.heap.objs.size ∉ [(s.heap.push (newSet w)).objs.size, l] := fun m => by
        rcases List.mem_cons.mp m with m | m
        · exact Nat.ne_of_lt (Nat.lt_succ_self _) (m.trans zS)
        · exact Nat.ne_of_gt ltl (List.mem_singleton.mp m)
      refine tx_loop ((Walks.list hand _ l neI items).toS) s.heap.objs.size outS xs isz sm (fun i v hv => ?_) (items.size - 0) 0 _ (by omega) (Nat.zero_le _)
        ⟨⟨_, Heap.get?_push_size _ rfl, rfl, rfl⟩, (isL.push _)⟩ ⟨[], tx_new (Heap.get?_push_of_some _ gS), fun x => by simp, Nat.zero_le _⟩ fun s3 ys mv T mem => ?_
      · have hv' : items.toList[i]? = some v := by rw [Array.getElem?_toList]; exact hv
        exact sa_at hi hv'
      · obtain ⟨h3, g3, d3, tk3, os3⟩ := s3
        obtain rfl : g3 = s.gens := mv.gens
        obtain rfl : d3 = s.drawn := mv.drawn
        obtain rfl : os3 = s.os := mv.os
        apply wpAny_pure
        apply wpAny_pure
        refine ⟨rfl, h3, tk3, ys, rfl, T, mem, fun b o e => ?_⟩
        have lb : b < s.heap.objs.size := Heap.lt_size e
        refine mv.heap b o (fun m => ?_) (Heap.get?_push_of_some _ (Heap.get?_push_of_some _ e))
        rcases List.mem_cons.mp m with m | m
        · exact Nat.ne_of_lt lb m
        · exact Nat.ne_of_lt (Nat.lt_succ_of_lt lb) ((List.mem_singleton.mp m).trans zS)
    · match r2, hr2 with
      | .error e, hr2 => exact hr2
      | .ok (.ret v), ⟨e1, h3, tk, ys, e2, T, mem, kp⟩ =>
        subst e1 e2
        repeat (any_goals (first | assumption | wp_step))
        exact q _ _ _ T mem kp
set_option maxHeartbeats 4000000 in
/-- sorted(such a set) -/
theorem call_sorted_tx {Q : Value → Shared → Prop} (T : TxAt w s.heap a zs) (hh : A.handled = none)
    (q : ∀ s1 p (out : Array Value) c ys, (∀ b o, s.heap.get? b = some o → s1.heap.get? b = some o) → s1.gens = s.gens → s1.os = s.os → s.heap.objs.size ≤ p → s1.heap.get? p = some (seqObj "list" out c) → StrsAre out.toList ys →
      ys.Perm zs → sortedS ys = true → Q (.ref p) s1) : wpAny (model P w) A (call (.builtin "sorted") [.ref a]) Q E s := by
  obtain ⟨o, es, ep, t, T⟩ := T
  have zsz := T.size
  refine Calls.call_function_entry kind_sorted plain_sorted entry_sorted (args_sorted1 _) ?_
  unfold Builtin.«sorted»
  refine wpAny_bind (m := checkCount "sorted" 1 1 _) ?_
  apply wpAny_pure
  apply wpAny_bind
  refine collect_set (A := A.in1) hh ⟨o, T.at_, T.ex.1, T.da⟩ T.fi T.sm T.ri T.le fun s1 vs k1 hz g1 o1 pm => ?_
  have vl : vs.length = zs.length := by rw [pm.length_eq, List.length_map, Array.length_toList, zsz]
  have small : vs.length ≤ sizeLine := by
    rw [vl, ← zsz]
    exact fits_of_scanBound T.sm
  have allTx : ∀ us : List Value, (∀ v ∈ us, ∃ x u, v = Value.str x u) → ∃ xs, StrsAre us xs ∧ xs = us.map fun v => match v with
      | .str x _ => x
      | _ => Str.empty := fun us => by
    induction us with
    | nil => exact fun _ => ⟨[], .nil, rfl⟩
    | cons v r ih =>
      intro h
      obtain ⟨x, u, rfl⟩ := h v List.mem_cons_self
      obtain ⟨xs, i1, i2⟩ := ih fun v m => h v (List.mem_cons_of_mem _ m)
      exact ⟨x :: xs, .cons x u i1, by rw [List.map_cons, ← i2]⟩
  obtain ⟨xs, hS, exs⟩ := allTx vs fun v m => by
    obtain ⟨e, he, z⟩ := List.mem_map.mp (pm.mem_iff.mp m)
    obtain ⟨x, u, e1, _⟩ := T.el e he
    exact ⟨x, u, z.symm.trans e1⟩
  have pz : xs.Perm zs := by
    have p1 := pm.map fun v => match v with
      | Value.str x _ => x
      | _ => Str.empty
    rw [← exs, List.map_map] at p1
    exact p1.trans T.pm
  apply wpAny_bind
  refine wpAny_newList ?_ small
  have gL : (s1.heap.push (seqObj "list" vs.toArray 0)).get? s1.heap.objs.size = some (seqObj "list" vs.toArray 0) := Heap.get?_push_size _ rfl
  apply wpAny_bind
  apply wpAny_holding
  refine wpAny_call_entry slot_list_sort ⟨_, gL, rfl⟩ entry_list_sort (list_sort_treeKAny strKind_oneLt gL hS.keysOf (fun v1 v2 rest e => keyKind_strs (by rw [← e]; exact hS)) small fun st hp hs => ?_) (args_list_sort _)
  obtain ⟨ys, y1, y2, y3⟩ := sorted_out_str hS hp hs
  obtain ⟨c, hc⟩ := sortedHeap_at (vs := vs) (out := (arrOf st).map (·.2)) gL
  refine ⟨_, rfl, ?_⟩
  apply wpAny_pure
  refine ⟨_, rfl, q _ s1.heap.objs.size _ c ys (fun b u e => ?_) g1 o1 hz hc y1 (y2.trans pz) y3⟩
  have e1 := k1 b u e
  have lb := Heap.lt_size e1
  have e2 := Heap.get?_push_of_some (seqObj "list" vs.toArray 0) e1
  refine (sortedHeap_old (Nat.ne_of_lt lb) ?_).trans e2
  rw [Heap.size_push]
  exact Nat.lt_succ_of_lt lb
end
/-! ### as rules of the layer -/
def SetX (w : World) (a : Addr) (zs : List Str) : HO := .ext fun h => TxAt w h a zs
theorem setX_new {P : Program} {w : World} {H : Hp} {h : Heap} {a : Addr} {zs : List Str} (T : TxAt w h a zs) : ObjOk P w H h a (SetX w a zs) :=
  ⟨T, let ⟨o, _, _, _, t⟩ := T; ⟨o, t.at_⟩, fun h1 h2 t k => t.keep k⟩
section
variable {X : Cx}
def rSetX (w : World) : List V → Hp → VK → Prop := fun vs H Q => ∃ (l : Addr) (xs : List Str), vs = [.ref l] ∧ H l = some (.lst (xs.map V.str)) ∧ xs.length ≤ 4000 ∧
  ∀ p ys, H p = none → (∀ x, x ∈ ys ↔ x ∈ xs) → Q (.ref p) (upd H p (SetX w p ys))
theorem cr_setX (hc : X.calm = true) : CallR X (.type "set") (rSetX X.w) := by
  intro pins s σ H vs us Q I r h
  obtain ⟨l, xs, rfl, hl, hz, q⟩ := h
  obtain ⟨its, rv, pl, _⟩ := I.list (.inl (.inl hl))
  rw [Vals.ref1 r]
  refine call_set_tx (P := X.prog) (w := X.w) (I.ok.hd hc) pl.isList rv.strs (by unfold scanBound; omega) fun h1 tk ys T mem k => ?_
  exact ⟨.ref s.heap.objs.size, _, I.laid (t' := tk) k (Nat.le_refl _) (setX_new T), rfl, q _ ys (I.hok.fresh (Nat.le_refl _)) mem⟩
def rSortX (w : World) : List V → Hp → VK → Prop := fun vs H Q => ∃ (a : Addr) (zs : List Str), vs = [.ref a] ∧ H a = some (SetX w a zs) ∧
  ∀ p ys, H p = none → ys.Perm zs → sortedS ys = true → ys.Nodup → Q (.ref p) (upd H p (.lst (ys.map V.str)))
theorem cr_sortX (hc : X.calm = true) : CallR X (.builtin "sorted") (rSortX X.w) := by
  intro pins s σ H vs us Q I r h
  obtain ⟨a, zs, rfl, ha, q⟩ := h
  have T : TxAt X.w s.heap a zs := (I.hok a _ ha).1
  have nd : zs.Nodup := let ⟨_, _, _, _, t⟩ := T; t.nd
  have lz : zs.length ≤ sizeLine := let ⟨_, _, _, _, t⟩ := T; by rw [← t.size]; exact fits_of_scanBound t.sm
  rw [Vals.ref1 r]
  refine call_sorted_tx (P := X.prog) (w := X.w) T (I.ok.hd hc) fun s1 p out c ys k hg ho hp gp hS pm srt => ?_
  have hn : H p = none := I.hok.fresh hp
  obtain ⟨h1, g1, d1, t1, os1⟩ := s1
  obtain rfl : g1 = s.gens := hg
  obtain rfl : os1 = s.os := ho
  have hlen : (ys.map V.str).length ≤ sizeLine := by rw [List.length_map, pm.length_eq]; exact lz
  have J : Inv X pins σ (upd H p (.lst (ys.map V.str))) { heap := h1, gens := s.gens, drawn := d1, toks := t1, os := s.os } :=
    I.call (h' := h1) (g' := s.gens) (d' := d1) (t' := t1) (ch := []) (Un.laid k hp hn) (I.hok.laid k hp ⟨hlen, out.toList, c, vals_of_strs hS, gp⟩) I.bare (fun _ z => nomatch z)
  exact ⟨.ref p, _, J, rfl, q p ys hn pm srt (pm.nodup_iff.mpr nd)⟩
end
end Lp
set_option Elab.async false
set_option linter.all false
set_option maxRecDepth 100000
set_option maxHeartbeats 4000000
/-! Mo, part one: data, how the heap stands for it, the state of a def's body. -/
namespace Mo
open PySem PySem.Spec L2
/-! ### data -/
/-- at a: a dict of texts that others may fill, each of its entries one of m -/
def VagD (w : World) (a : Addr) (m : List (Str × Str)) : HO := .ext fun h => (a == sysModules) = false ∧ ∃ kvs : List (Str × Str), (kvs.map (·.1)).Nodup ∧ (∀ x ∈ kvs, x ∈ m) ∧ ∃ vs, KV (kvs.map fun x => ((Sum.inr x.1 : Key), V.str x.2)) vs ∧ ∀ P : Program, h.DictOf (mixKind P w) a vs
inductive D where
  | non | bl (b : Bool) | int (i : Int) | str (x : Str)
  | lst (xs : List D) | tup (xs : List D)
  | dk (kvs : List (Key × D)) | dt (kvs : List (List Key × D))
  | ins (C : Addr) (fs : List (Str × D))
  | sx (w : World) (xs : List Str)
  | cl (C : Addr)
  | vd (w : World) (m : List (Str × Str))
  | any
  | exv (C : Addr) (fs : List (Str × D))
instance : Inhabited D := ⟨.non⟩
/-- a thing that is still the def's own -/
inductive O where
  | l (xs : List D) | k (kvs : List (Key × D)) | t (kvs : List (List Key × D)) | n (C : Addr) (fs : List (Str × D))
def O.d : O → D
  | .l xs => .lst xs
  | .k kvs => .dk kvs
  | .t kvs => .dt kvs
  | .n C fs => .ins C fs
/-! ### what is hidden -/
structure Mt where
  d : Option Addr
  o : List Addr
abbrev Mt.add (p : Mt) (q : Addr) : Mt := ⟨p.d, q :: p.o⟩
abbrev Mt.rem (p : Mt) (q : Addr) : Mt := ⟨p.d, p.o.filter fun a => decide (a ≠ q)⟩
def Hid (p : Mt) (b : Addr) : Prop := p.d = some b ∨ b ∈ p.o
instance {p : Mt} {b : Addr} : Decidable (Hid p b) := inferInstanceAs (Decidable (p.d = some b ∨ b ∈ p.o))
def del (p : Mt) (H : Hp) : Hp := fun b => if Hid p b then none else H b
section
variable {p p' : Mt} {H H' : Hp} {b q : Addr} {o u : HO}
theorem del_of (h : del p H b = some o) : H b = some o := by
  unfold del at h
  split at h
  · cases h
  · exact h
theorem del_no (h : del p H b = some o) : ¬ Hid p b := fun z => by
  unfold del at h
  rw [if_pos z] at h
  cases h
theorem del_at (h : ¬ Hid p b) : del p H b = H b := if_neg h
theorem del_hid (h : Hid p b) : del p H b = none := if_pos h
end
def isD : HO → Bool
  | .dK _ => true
  | .dT _ => true
  | _ => false
/-- what is read as u: u itself; a dict while it is walked, too -/
def Vw (H : Hp) (a : Addr) (u : HO) : Prop := H a = some u ∨ (isD u = true ∧ ∃ o, H a = some (.frz o u))
section
variable {p p' : Mt} {H H' : Hp} {b q : Addr} {o u : HO}
theorem vw_of (h : Vw (del p H) b o) : Vw H b o := h.elim (fun z => .inl (del_of z)) fun ⟨i, u, z⟩ => .inr ⟨i, u, del_of z⟩
theorem vw_no (h : Vw (del p H) b o) : ¬ Hid p b := h.elim del_no fun ⟨_, _, z⟩ => del_no z
theorem vw_at (h : ¬ Hid p b) (r : Vw H b o) : Vw (del p H) b o := r.elim (fun z => .inl (by rw [del_at h]; exact z)) fun ⟨i, u, z⟩ => .inr ⟨i, u, by rw [del_at h]; exact z⟩
theorem Vw.rd (h : Vw H b o) : Rd H b o := h.elim .inl fun ⟨_, z⟩ => .inr z
theorem Vw.ex (h : Vw H b o) (n : isD o = false) : H b = some o := h.elim id fun ⟨i, _⟩ => by rw [n] at i; cases i
end
theorem sl_of {K : PySem.W.Frag} {p : Mt} {H : Hp} {a : Addr} {xs : List V} (h : SqL K (del p H) a xs) : SqL K H a xs := h.elim (fun z => .inl (z.elim (fun y => .inl (del_of y)) fun ⟨o, y⟩ => .inr ⟨o, del_of y⟩)) .inr
/-- a dict that is walked -/
def isFD : HO → Bool
  | .frz _ u => isD u
  | _ => false
/-- what can be read in H can be read in H' -/
def Le (H H' : Hp) : Prop := ∀ a u, isFD u = false → Vw H a u → Vw H' a u
theorem Le.refl (H : Hp) : Le H H := fun _ _ _ h => h
theorem Le.trans {H H1 H2 : Hp} (a : Le H H1) (b : Le H1 H2) : Le H H2 := fun x u n h => b x u n (a x u n h)
theorem Le.of {H H' : Hp} (h : ∀ a o, H a = some o → H' a = some o) : Le H H' := fun a u _ r => r.elim (fun z => .inl (h a u z)) fun ⟨i, o, z⟩ => .inr ⟨i, o, h a _ z⟩
section
variable {K : PySem.W.Frag} {H H' : Hp} {a : Addr} {xs : List V}
theorem Le.ex {o : HO} (e : Le H H') (h : H a = some o) (n : isD o = false) (f : isFD o = false := by rfl) : H' a = some o := (e a o f (.inl h)).ex n
theorem sl_le (e : Le H H') (h : SqL K H a xs) : SqL K H' a xs := h.elim (fun z => .inl (z.elim (fun y => .inl (e.ex y rfl)) fun ⟨o, y⟩ => .inr ⟨o, e.ex y rfl⟩)) .inr
/-! ### the heap stands for data -/
mutual
inductive Rep (K : PySem.W.Frag) (H : Hp) : V → D → Prop
  | non : Rep K H .non .non
  | bl (b : Bool) : Rep K H (.bl b) (.bl b)
  | int (i : Int) : Rep K H (.int i) (.int i)
  | str (x : Str) : Rep K H (.str x) (.str x)
  | lst {a : Addr} {xs : List V} {ds : List D} : SqL K H a xs → Reps K H xs ds → Rep K H (.ref a) (.lst ds)
  | tup {a : Addr} {xs : List V} {ds : List D} : H a = some (.tup xs) → Reps K H xs ds → Rep K H (.ref a) (.tup ds)
  | dk {a : Addr} {kvs : List (Key × V)} {es : List (Key × D)} : Vw H a (.dK kvs) → RepK K H kvs es → Rep K H (.ref a) (.dk es)
  | dt {a : Addr} {kvs : List (List Key × V)} {es : List (List Key × D)} : Vw H a (.dT kvs) → RepT K H kvs es → Rep K H (.ref a) (.dt es)
  | ins {a C dx : Addr} {fs : List (Str × V)} {es : List (Str × D)} : H a = some (.ins C dx fs) → RepF K H fs es → Rep K H (.ref a) (.ins C es)
  | sx {a : Addr} {w : World} {zs xs : List Str} : H a = some (Lp.SetX w a zs) → (∀ y, y ∈ zs ↔ y ∈ xs) → Rep K H (.ref a) (.sx w xs)
  | cl (C : Addr) : Rep K H (.ref C) (.cl C)
  | vd {a : Addr} {w : World} {m : List (Str × Str)} : H a = some (VagD w a m) → Rep K H (.ref a) (.vd w m)
  | any (a : Addr) : Rep K H (.ref a) .any
  | exn {a C : Addr} : H a = some (L2.exo a C none) → Rep K H (.ref a) (.exv C [])
  | exf {a C dx : Addr} {f : Str} {v : V} {d : D} : H a = some (L2.exo a C (some dx)) → H dx = some (L2.exd dx [(f, v)]) → Rep K H v d → Rep K H (.ref a) (.exv C [(f, d)])
inductive Reps (K : PySem.W.Frag) (H : Hp) : List V → List D → Prop
  | nil : Reps K H [] []
  | cons {v : V} {vs : List V} {d : D} {ds : List D} : Rep K H v d → Reps K H vs ds → Reps K H (v :: vs) (d :: ds)
inductive RepK (K : PySem.W.Frag) (H : Hp) : List (Key × V) → List (Key × D) → Prop
  | nil : RepK K H [] []
  | cons {k : Key} {v : V} {d : D} {kvs : List (Key × V)} {es : List (Key × D)} : Rep K H v d → RepK K H kvs es → RepK K H ((k, v) :: kvs) ((k, d) :: es)
inductive RepT (K : PySem.W.Frag) (H : Hp) : List (List Key × V) → List (List Key × D) → Prop
  | nil : RepT K H [] []
  | cons {k : List Key} {v : V} {d : D} {kvs : List (List Key × V)} {es : List (List Key × D)} : Rep K H v d → RepT K H kvs es → RepT K H ((k, v) :: kvs) ((k, d) :: es)
inductive RepF (K : PySem.W.Frag) (H : Hp) : List (Str × V) → List (Str × D) → Prop
  | nil : RepF K H [] []
  | cons {k : Str} {v : V} {d : D} {kvs : List (Str × V)} {es : List (Str × D)} : Rep K H v d → RepF K H kvs es → RepF K H ((k, v) :: kvs) ((k, d) :: es)
end
mutual
theorem Rep.le (e : Le H H') : ∀ {v : V} {d : D}, Rep K H v d → Rep K H' v d
  | _, _, .non => .non
  | _, _, .bl b => .bl b
  | _, _, .int i => .int i
  | _, _, .str x => .str x
  | _, _, .lst h r => .lst (sl_le e h) (Reps.le e r)
  | _, _, .tup h r => .tup (e.ex h rfl) (Reps.le e r)
  | _, _, .dk h r => .dk (e _ _ rfl h) (RepK.le e r)
  | _, _, .dt h r => .dt (e _ _ rfl h) (RepT.le e r)
  | _, _, .ins h r => .ins (e.ex h rfl) (RepF.le e r)
  | _, _, .sx h r => .sx (e.ex h rfl) r
  | _, _, .cl C => .cl C
  | _, _, .vd h => .vd (e.ex h rfl)
  | _, _, .any a => .any a
  | _, _, .exn h => .exn (e.ex h rfl)
  | _, _, .exf h h2 r => .exf (e.ex h rfl) (e.ex h2 rfl) (Rep.le e r)
theorem Reps.le (e : Le H H') : ∀ {vs : List V} {ds : List D}, Reps K H vs ds → Reps K H' vs ds
  | _, _, .nil => .nil
  | _, _, .cons h r => .cons (Rep.le e h) (Reps.le e r)
theorem RepK.le (e : Le H H') : ∀ {vs : List (Key × V)} {ds : List (Key × D)}, RepK K H vs ds → RepK K H' vs ds
  | _, _, .nil => .nil
  | _, _, .cons h r => .cons (Rep.le e h) (RepK.le e r)
theorem RepT.le (e : Le H H') : ∀ {vs : List (List Key × V)} {ds : List (List Key × D)}, RepT K H vs ds → RepT K H' vs ds
  | _, _, .nil => .nil
  | _, _, .cons h r => .cons (Rep.le e h) (RepT.le e r)
theorem RepF.le (e : Le H H') : ∀ {vs : List (Str × V)} {ds : List (Str × D)}, RepF K H vs ds → RepF K H' vs ds
  | _, _, .nil => .nil
  | _, _, .cons h r => .cons (Rep.le e h) (RepF.le e r)
end
theorem Reps.len {vs : List V} {ds : List D} (h : Reps K H vs ds) : vs.length = ds.length := by
  induction vs generalizing ds with
  | nil =>
    cases h
    rfl
  | cons v r ih =>
    cases h with
    | cons a b => exact congrArg (· + 1) (ih b)
theorem Reps.get {vs : List V} {ds : List D} (h : Reps K H vs ds) : ∀ {i : Nat} {v : V}, vs[i]? = some v → ∃ d, ds[i]? = some d ∧ Rep K H v d := by
  induction vs generalizing ds with
  | nil => exact fun e => by simp at e
  | cons u r ih =>
    cases h with
    | cons a b =>
      intro i v e
      cases i with
      | zero => exact ⟨_, rfl, by cases e; exact a⟩
      | succ j => exact ih b e
theorem Reps.getD {vs : List V} {ds : List D} (h : Reps K H vs ds) : ∀ {i : Nat} {d : D}, ds[i]? = some d → ∃ v, vs[i]? = some v ∧ Rep K H v d := by
  induction vs generalizing ds with
  | nil =>
    cases h
    exact fun e => by simp at e
  | cons u r ih =>
    cases h with
    | cons a b =>
      intro i v e
      cases i with
      | zero => exact ⟨_, rfl, by cases e; exact a⟩
      | succ j => exact ih b e
theorem Reps.app {vs us : List V} {ds es : List D} (h : Reps K H vs ds) (h2 : Reps K H us es) : Reps K H (vs ++ us) (ds ++ es) := by
  induction vs generalizing ds with
  | nil =>
    cases h
    exact h2
  | cons u r ih =>
    cases h with
    | cons a b => exact .cons a (ih b)
end
theorem rep_int {K : PySem.W.Frag} {J : Hp} {v : V} {i : Int} (h : Rep K J v (.int i)) : v = .int i := by cases h; rfl
theorem rep_bl {K : PySem.W.Frag} {J : Hp} {v : V} {i : Bool} (h : Rep K J v (.bl i)) : v = .bl i := by cases h; rfl
theorem rep_str {K : PySem.W.Frag} {J : Hp} {v : V} {i : Str} (h : Rep K J v (.str i)) : v = .str i := by cases h; rfl
/-! ### what an own thing holds -/
def OwnAt (K : PySem.W.Frag) (F H : Hp) (q : Addr) : O → Prop
  | .l xs => ∃ vs, H q = some (.lst vs) ∧ Reps K F vs xs
  | .k kvs => ∃ vs, H q = some (.dK vs) ∧ RepK K F vs kvs
  | .t kvs => ∃ vs, H q = some (.dT vs) ∧ RepT K F vs kvs
  | .n C fs => ∃ dx vs, H q = some (.ins C dx vs) ∧ RepF K F vs fs
theorem OwnAt.le {K : PySem.W.Frag} {F F' H H' : Hp} {q : Addr} {o : O} (h : OwnAt K F H q o) (e : Le F F') (eq : H' q = H q) : OwnAt K F' H' q o := by
  cases o with
  | l xs =>
    obtain ⟨vs, h1, h2⟩ := h
    exact ⟨vs, by rw [eq]; exact h1, h2.le e⟩
  | k xs =>
    obtain ⟨vs, h1, h2⟩ := h
    exact ⟨vs, by rw [eq]; exact h1, h2.le e⟩
  | t xs =>
    obtain ⟨vs, h1, h2⟩ := h
    exact ⟨vs, by rw [eq]; exact h1, h2.le e⟩
  | n C fs =>
    obtain ⟨dx, vs, h1, h2⟩ := h
    exact ⟨dx, vs, by rw [eq]; exact h1, h2.le e⟩
theorem OwnAt.there {K : PySem.W.Frag} {F H : Hp} {q : Addr} {o : O} (h : OwnAt K F H q o) : H q ≠ none := by
  cases o with
  | l xs =>
    obtain ⟨vs, h1, h2⟩ := h
    rw [h1]
    exact Option.some_ne_none _
  | k xs =>
    obtain ⟨vs, h1, h2⟩ := h
    rw [h1]
    exact Option.some_ne_none _
  | t xs =>
    obtain ⟨vs, h1, h2⟩ := h
    rw [h1]
    exact Option.some_ne_none _
  | n C fs =>
    obtain ⟨dx, vs, h1, h2⟩ := h
    rw [h1]
    exact Option.some_ne_none _
/-- an own thing that is shown -/
theorem OwnAt.rep {K : PySem.W.Frag} {F H : Hp} {q : Addr} {o : O} (h : OwnAt K F H q o) (e : F q = H q) : Rep K F (.ref q) o.d := by
  cases o with
  | l xs =>
    obtain ⟨vs, h1, h2⟩ := h
    exact .lst (.inl (.inl (by rw [e]; exact h1))) h2
  | k xs =>
    obtain ⟨vs, h1, h2⟩ := h
    exact .dk (.inl (by rw [e]; exact h1)) h2
  | t xs =>
    obtain ⟨vs, h1, h2⟩ := h
    exact .dt (.inl (by rw [e]; exact h1)) h2
  | n C fs =>
    obtain ⟨dx, vs, h1, h2⟩ := h
    exact .ins (by rw [e]; exact h1) h2
theorem mut_ne {o : Option HO} (h : Mut o) : o ≠ none := fun z => by rw [z] at h; exact h
theorem mut_tup {o : Option HO} {xs : List V} (h : Mut o) : o ≠ some (.tup xs) := fun z => by rw [z] at h; exact h
theorem mut_frz {o : Option HO} {x : Obj} {u : HO} (h : Mut o) : o ≠ some (.frz x u) := fun z => by rw [z] at h; exact h
theorem mut_nf {o : HO} (h : Mut (some o)) : isFD o ≠ true := fun z => by
  cases o <;> first | (cases z; done) | exact h
theorem OwnAt.mut {K : PySem.W.Frag} {F H : Hp} {q : Addr} {o : O} (h : OwnAt K F H q o) : Mut (H q) := by
  cases o with
  | l xs =>
    obtain ⟨vs, h1, h2⟩ := h
    rw [h1]
    trivial
  | k xs =>
    obtain ⟨vs, h1, h2⟩ := h
    rw [h1]
    trivial
  | t xs =>
    obtain ⟨vs, h1, h2⟩ := h
    rw [h1]
    trivial
  | n C fs =>
    obtain ⟨dx, vs, h1, h2⟩ := h
    rw [h1]
    trivial
/-! ### the state -/
/-- what the parameter holds that may be changed (the dice, an object) -/
abbrev C3 := O
inductive Sl where
  | un | v (d : D) | o (o : O) | di
structure G where
  s : List Sl
  c : C3
def G.set (g : G) (i : Nat) (x : Sl) : G := ⟨g.s.set i x, g.c⟩
structure Rl (K : PySem.W.Frag) (J : Hp) (p : Mt) (g : G) (σ : St) (H : Hp) : Prop where
  len : g.s.length = σ.length
  old : ∀ a o, p.d ≠ some a → J a = some o → H a = some o
  dice : ∀ a, p.d = some a → OwnAt K (del p H) H a g.c
  dno : ∀ a, p.d = some a → a ∉ p.o
  lv : ∀ a ∈ p.o, Mut (H a)
  fz : ∀ a o, isFD o = true → H a = some o → J a = some o
  sv : ∀ (i : Nat) d, g.s[i]? = some (.v d) → ∃ v, σ[i]? = some (some v) ∧ Rep K (del p H) v d
  so : ∀ (i : Nat) o, g.s[i]? = some (.o o) → ∃ q, σ[i]? = some (some (.ref q)) ∧ q ∈ p.o ∧ J q = none ∧ OwnAt K (del p H) H q o
  sd : ∀ i : Nat, g.s[i]? = some .di → ∃ a, σ[i]? = some (some (.ref a)) ∧ p.d = some a
  inj : ∀ (i j : Nat) o o' q, g.s[i]? = some (.o o) → g.s[j]? = some (.o o') → σ[i]? = some (some (.ref q)) → σ[j]? = some (some (.ref q)) → i = j
/-- q belongs to no slot -/
def NoSl (g : G) (σ : St) (q : Addr) : Prop := ∀ (i : Nat) o, g.s[i]? = some (.o o) → σ[i]? ≠ some (some (.ref q))
/-- from one state to the next, the slots' values as they are -/
structure Ad (g : G) (σ : St) (p : Mt) (H : Hp) (g' : G) (p' : Mt) (H' : Hp) : Prop where
  dd : p'.d = p.d
  le : Le (del p H) (del p' H')
  ex : ∀ a ∈ p.o, NoSl g σ a → a ∈ p'.o ∧ H' a = H a
  sl : ∀ a, NoSl g σ a → NoSl g' σ a
  th : ∀ a, H a ≠ none → H' a ≠ none
theorem Ad.refl {g : G} {σ : St} {p : Mt} {H : Hp} : Ad g σ p H g p H := ⟨rfl, .refl _, fun _ h _ => ⟨h, rfl⟩, fun _ h => h, fun _ h => h⟩
theorem Ad.gone {g g' : G} {σ : St} {p p' : Mt} {H H' : Hp} {q : Addr} (a : Ad g σ p H g' p' H') (h : H' q = none) : H q = none := by
  cases e : H q with
  | none => rfl
  | some o => exact absurd h (a.th q (by rw [e]; exact Option.some_ne_none _))
theorem upd_th {H : Hp} {q : Addr} {o : HO} : ∀ a, H a ≠ none → upd H q o a ≠ none := fun a h => by
  by_cases e : a = q
  · rw [e, upd_same]
    exact Option.some_ne_none _
  · rw [upd_ne e]
    exact h
theorem Ad.trans {g g1 g2 : G} {σ : St} {p p1 p2 : Mt} {H H1 H2 : Hp} (a : Ad g σ p H g1 p1 H1) (b : Ad g1 σ p1 H1 g2 p2 H2) : Ad g σ p H g2 p2 H2 :=
  ⟨b.dd.trans a.dd, a.le.trans b.le, fun x hx n => by
    obtain ⟨h1, h2⟩ := a.ex x hx n
    obtain ⟨h3, h4⟩ := b.ex x h1 (a.sl x n)
    exact ⟨h3, h4.trans h2⟩, fun x n => b.sl x (a.sl x n), fun x n => b.th x (a.th x n)⟩
section
variable {K : PySem.W.Frag} {J : Hp} {p : Mt} {g : G} {σ : St} {H : Hp} {q : Addr} {o : HO}
theorem Rl.ne (R : Rl K J p g σ H) (h : H q = none) : ¬ Hid p q := fun e => by
  rcases e with e | e
  · exact mut_ne (R.dice q e).mut h
  · exact mut_ne (R.lv q e) h
theorem Rl.jn (R : Rl K J p g σ H) (h : H q = none) : J q = none := by
  cases e : J q with
  | none => rfl
  | some o =>
    have := R.old q o (fun z => R.ne h (.inl z)) e
    rw [h] at this
    cases this
/-- a new object that all may see -/
theorem Rl.new (R : Rl K J p g σ H) (h : H q = none) (nf : isFD o = false := by rfl) : Rl K J p g σ (upd H q o) ∧ Ad g σ p H g p (upd H q o) ∧ del p (upd H q o) q = some o := by
  have n := R.ne h
  have e1 : ∀ a u, H a = some u → upd H q o a = some u := fun a u e => by rw [upd_ne (ne_of_none e h)]; exact e
  have e2 : Le (del p H) (del p (upd H q o)) := .of fun a u e => by
    rw [del_at (del_no e)]
    exact e1 a u (del_of e)
  have e3 : ∀ a, a ∈ p.o → upd H q o a = H a := fun a m => upd_ne fun z => n (.inr (z ▸ m))
  refine ⟨⟨R.len, fun a u na e => e1 a u (R.old a u na e), fun a e => (R.dice a e).le e2 (upd_ne fun z => n (.inl (z ▸ e))), R.dno, fun a m => ?_, fun a o f e => ?_, fun i d e => ?_, fun i d e => ?_, R.sd, R.inj⟩, ⟨rfl, e2, fun a m _ => ⟨m, e3 a m⟩, fun _ h => h, upd_th⟩, by rw [del_at n, upd_same]⟩
  · rw [e3 a m]
    exact R.lv a m
  · by_cases z : a = q
    · rw [z, upd_same] at e
      cases e
      rw [nf] at f
      cases f
    · rw [upd_ne z] at e
      exact R.fz a o f e
  · obtain ⟨v, h1, h2⟩ := R.sv i d e
    exact ⟨v, h1, h2.le e2⟩
  · obtain ⟨x, h1, h2, h3, h4⟩ := R.so i d e
    exact ⟨x, h1, h2, h3, h4.le e2 (e3 x h2)⟩
/-- a new object that is kept hidden -/
theorem Rl.hide (R : Rl K J p g σ H) (h : H q = none) (mu : Mut (some o) := by trivial) : Rl K J (p.add q) g σ (upd H q o) ∧ Ad g σ p H g (p.add q) (upd H q o) ∧ q ∈ (p.add q).o ∧ J q = none ∧ NoSl g σ q ∧ Le (del p H) (del (p.add q) (upd H q o)) := by
  have n := R.ne h
  have e1 : ∀ a u, H a = some u → upd H q o a = some u := fun a u e => by rw [upd_ne (ne_of_none e h)]; exact e
  have e2 : Le (del p H) (del (p.add q) (upd H q o)) := .of fun a u e => by
    have na : a ≠ q := ne_of_none (del_of e) h
    rw [del_at (fun z : Hid (p.add q) a => del_no e (Or.imp id (fun y => (List.mem_cons.mp y).resolve_left na) z))]
    exact e1 a u (del_of e)
  have e3 : ∀ a, a ∈ p.o → upd H q o a = H a := fun a m => upd_ne fun z => n (.inr (z ▸ m))
  have ns : NoSl g σ q := fun i o e z => by
    obtain ⟨x, h1, h2, _⟩ := R.so i o e
    rw [h1] at z
    cases z
    exact n (.inr h2)
  refine ⟨⟨R.len, fun a u na e => e1 a u (R.old a u na e), fun a e => (R.dice a e).le e2 (upd_ne fun z => n (.inl (z ▸ e))), fun a e m => ?_, fun a m => ?_, fun a o f e => ?_, fun i d e => ?_, fun i d e => ?_, R.sd, R.inj⟩, ⟨rfl, e2, fun a m _ => ⟨List.mem_cons_of_mem _ m, e3 a m⟩, fun _ h => h, upd_th⟩, List.mem_cons_self, R.jn h, ns, e2⟩
  · rcases List.mem_cons.mp m with z | m
    · exact n (.inl (by rw [← z]; exact e))
    · exact R.dno a e m
  · rcases List.mem_cons.mp m with z | m
    · rw [z, upd_same]
      exact mu
    · rw [e3 a m]
      exact R.lv a m
  · by_cases z : a = q
    · rw [z, upd_same] at e
      cases e
      exact absurd f (mut_nf mu)
    · rw [upd_ne z] at e
      exact R.fz a o f e
  · obtain ⟨v, h1, h2⟩ := R.sv i d e
    exact ⟨v, h1, h2.le e2⟩
  · obtain ⟨x, h1, h2, h3, h4⟩ := R.so i d e
    exact ⟨x, h1, List.mem_cons_of_mem _ h2, h3, h4.le e2 (e3 x h2)⟩
theorem del_rem {p : Mt} {q : Addr} {H : Hp} : Le (del p H) (del (p.rem q) H) := .of fun a u e => by
  rw [del_at fun z : Hid (p.rem q) a => del_no e (Or.imp id (fun y => (List.mem_filter.mp y).1) z)]
  exact del_of e
/-- what is hidden and no slot's is shown -/
theorem Rl.show_ (R : Rl K J p g σ H) (n : NoSl g σ q) (m : q ∈ p.o) : Rl K J (p.rem q) g σ H ∧ del (p.rem q) H q = H q := by
  refine ⟨⟨R.len, R.old, fun a e => (R.dice a e).le del_rem rfl, fun a e m => R.dno a e (List.mem_filter.mp m).1, fun a m => R.lv a (List.mem_filter.mp m).1, R.fz, fun i d e => ?_, fun i d e => ?_, R.sd, R.inj⟩, del_at fun z => ?_⟩
  · obtain ⟨v, h1, h2⟩ := R.sv i d e
    exact ⟨v, h1, h2.le del_rem⟩
  · obtain ⟨x, h1, h2, h3, h4⟩ := R.so i d e
    refine ⟨x, h1, List.mem_filter.mpr ⟨h2, decide_eq_true fun z => n i d e (by rw [h1, z])⟩, h3, h4.le del_rem rfl⟩
  · rcases z with z | z
    · exact R.dno q z m
    · have := (List.mem_filter.mp z).2
      rw [decide_eq_true_eq] at this
      exact this rfl
end
end Mo
set_option Elab.async false
set_option linter.all false
set_option maxRecDepth 100000
set_option maxHeartbeats 4000000
/-! Mo, part two: what an expression computes, as a function of the state. -/
namespace Mo
open PySem PySem.Spec L2
structure Exn where
  C : Addr
  fs : List (Str × D)
inductive R (α : Type) where
  | ok (a : α) (g : G) | ex (E : Exn) (g : G)
abbrev M (α : Type) := G → Option (R α)
def M.bind {α β : Type} (m : M α) (k : α → M β) : M β := fun g => match m g with
  | some (.ok a g') => k a g'
  | some (.ex E g') => some (.ex E g')
  | none => none
def ret {α : Type} (a : α) : M α := fun g => some (.ok a g)
def bad {α : Type} : M α := fun _ => none
def lift {α : Type} (o : Option α) : M α := fun g => match o with
  | some a => some (.ok a g)
  | none => none
abbrev WW := Exn → G → Mt → St → Hp → Prop
def Post {α : Type} (K : PySem.W.Frag) (W : WW) (J : Hp) (p : Mt) (g : G) (σ : St) (H : Hp) (r : R α) (q : α → G → Mt → Hp → Prop) : Prop := match r with
  | .ok a g' => ∀ p' H', Ad g σ p H g' p' H' → Rl K J p' g' σ H' → q a g' p' H'
  | .ex E g' => ∀ p' H', Ad g σ p H g' p' H' → Rl K J p' g' σ H' → W E g' p' σ H'
theorem Post.adv {α : Type} {K : PySem.W.Frag} {W : WW} {J : Hp} {p p1 : Mt} {g g1 : G} {σ : St} {H H1 : Hp} {r : R α} {q : α → G → Mt → Hp → Prop} (h : Post K W J p g σ H r q) (a : Ad g σ p H g1 p1 H1) : Post K W J p1 g1 σ H1 r q := by
  cases r with
  | ok x g' => exact fun p' H' b R => h p' H' (a.trans b) R
  | ex E g' => exact fun p' H' b R => h p' H' (a.trans b) R
/-! ### readings by the text itself -/
structure SemE (X : Cx) (e : Expr) (σ : St) (H : Hp) (Q : VK) : Prop where
  run : ∀ (pins : List (Addr × Obj)) (s : Shared), Inv X pins σ H s → wpAny (model X.prog X.w) X.A (eval e X.env) (EP X pins σ Q) X.xe s
structure SemT (X : Cx) (e : Expr) (σ : St) (H : Hp) (Q : Bool → Hp → Prop) : Prop where
  run : ∀ (pins : List (Addr × Obj)) (s : Shared), Inv X pins σ H s → wpAny (model X.prog X.w) X.A (isTrue e X.env (eval e X.env)) (TP X pins σ Q) X.xe s
structure SemA (X : Cx) (es : List Expr) (σ : St) (H : Hp) (Q : List V → Hp → Prop) : Prop where
  run : ∀ (pos : Pos) (pins : List (Addr × Obj)) (s : Shared), Inv X pins σ H s → wpAny (model X.prog X.w) X.A (spliced (backTo pos (starEach es X.env))) (AP X pins σ Q) X.xe s
structure SemS (X : Cx) (st : Stmt) (D : Ends) (σ : St) (H : Hp) : Prop where
  run : ∀ (pins : List (Addr × Obj)) (s : Shared), Inv X pins σ H s → wpAny (model X.prog X.w) X.A (exec st X.env) (SP X pins D) X.xe s
structure SemSs (X : Cx) (st : List Stmt) (D : Ends) (σ : St) (H : Hp) : Prop where
  run : ∀ (pins : List (Addr × Obj)) (s : Shared), Inv X pins σ H s → wpAny (model X.prog X.w) X.A (execs st X.env) (SP X pins D) X.xe s
section
variable {X : Cx}
theorem semE {e : Expr} : PE X e (SemE X e) := ⟨fun pins s _ _ _ I h => h.run pins s I⟩
theorem semT {e : Expr} : PT X e (SemT X e) := ⟨fun pins s _ _ _ I h => h.run pins s I⟩
theorem semA {es : List Expr} : PA X es (SemA X es) := ⟨fun pos pins s _ _ _ I h => h.run pos pins s I⟩
theorem semS {st : Stmt} : PS X st (SemS X st) := ⟨fun pins s _ _ _ I h => h.run pins s I⟩
theorem semSs {st : List Stmt} : PSs X st (SemSs X st) := ⟨fun pins s _ _ _ I h => h.run pins s I⟩
theorem of_pe {e : Expr} {t : TE} {σ : St} {H : Hp} {Q : VK} (h : PE X e t) (q : t σ H Q) : SemE X e σ H Q := ⟨fun pins s I => h.run pins s σ H Q I q⟩
theorem of_pt {e : Expr} {t : TT} {σ : St} {H : Hp} {Q : Bool → Hp → Prop} (h : PT X e t) (q : t σ H Q) : SemT X e σ H Q := ⟨fun pins s I => h.run pins s σ H Q I q⟩
theorem of_pa {es : List Expr} {t : TA} {σ : St} {H : Hp} {Q : List V → Hp → Prop} (h : PA X es t) (q : t σ H Q) : SemA X es σ H Q := ⟨fun pos pins s I => h.run pos pins s σ H Q I q⟩
theorem of_ps {st : Stmt} {t : TS} {σ : St} {H : Hp} {D : Ends} (h : PS X st t) (q : t D σ H) : SemS X st D σ H := ⟨fun pins s I => h.run pins s σ H D I q⟩
theorem of_pss {st : List Stmt} {t : TS} {σ : St} {H : Hp} {D : Ends} (h : PSs X st t) (q : t D σ H) : SemSs X st D σ H := ⟨fun pins s I => h.run pins s σ H D I q⟩
end
/-! ### judgements -/
def qF (K : PySem.W.Frag) (Q : VK) : D → G → Mt → Hp → Prop := fun d _ p' H' => ∀ v, Rep K (del p' H') v d → Q v H'
def qO (K : PySem.W.Frag) (H : Hp) (σ : St) (Q : VK) : O → G → Mt → Hp → Prop := fun o g' p' H' => ∀ q, q ∈ p'.o → H q = none → NoSl g' σ q → OwnAt K (del p' H') H' q o → Q (.ref q) H'
def qA (K : PySem.W.Frag) (Q : List V → Hp → Prop) : List D → G → Mt → Hp → Prop := fun ds _ p' H' => ∀ vs, Reps K (del p' H') vs ds → Q vs H'
def qT (Q : Bool → Hp → Prop) : Bool → G → Mt → Hp → Prop := fun b _ _ H' => Q b H'
def EF (X : Cx) (W : WW) (e : Expr) (m : M D) : Prop := ∀ J p g σ H, Rl X.K J p g σ H → ∀ r, m g = some r → ∀ Q : VK, Post X.K W J p g σ H r (qF X.K Q) → SemE X e σ H Q
def EO (X : Cx) (W : WW) (e : Expr) (m : M O) : Prop := ∀ J p g σ H, Rl X.K J p g σ H → ∀ r, m g = some r → ∀ Q : VK, Post X.K W J p g σ H r (qO X.K H σ Q) → SemE X e σ H Q
def EA (X : Cx) (W : WW) (es : List Expr) (m : M (List D)) : Prop := ∀ J p g σ H, Rl X.K J p g σ H → ∀ r, m g = some r → ∀ Q : List V → Hp → Prop, Post X.K W J p g σ H r (qA X.K Q) → SemA X es σ H Q
def ET (X : Cx) (W : WW) (e : Expr) (m : M Bool) : Prop := ∀ J p g σ H, Rl X.K J p g σ H → ∀ r, m g = some r → ∀ Q : Bool → Hp → Prop, Post X.K W J p g σ H r (qT Q) → SemT X e σ H Q
section
variable {X : Cx} {W : WW} {e a b c : Expr} {es : List Expr} {pos ps : Pos} {α β : Type}
section
variable {J : Hp} {p : Mt} {g : G} {σ : St} {H : Hp} {q : β → G → Mt → Hp → Prop} {r : R β}
/-- the first step of a chain -/
theorem EF.then {m : M D} {k : D → M β} (h : EF X W e m) (R0 : Rl X.K J p g σ H) (hm : m.bind k g = some r) (hp : Post X.K W J p g σ H r q) {Q : VK}
    (hk : ∀ d g1 p1 H1 v, Ad g σ p H g1 p1 H1 → Rl X.K J p1 g1 σ H1 → Rep X.K (del p1 H1) v d → k d g1 = some r → Post X.K W J p1 g1 σ H1 r q → Q v H1) : SemE X e σ H Q := by
  unfold M.bind at hm
  cases e1 : m g with
  | none => rw [e1] at hm; cases hm
  | some r1 =>
    cases r1 with
    | ok d g1 =>
      rw [e1] at hm
      exact h J p g σ H R0 _ e1 Q fun p1 H1 ad R1 v rv => hk d g1 p1 H1 v ad R1 rv hm (hp.adv ad)
    | ex E g1 =>
      rw [e1] at hm
      cases hm
      exact h J p g σ H R0 _ e1 Q hp
theorem EO.then {m : M O} {k : O → M β} (h : EO X W e m) (R0 : Rl X.K J p g σ H) (hm : m.bind k g = some r) (hp : Post X.K W J p g σ H r q) {Q : VK}
    (hk : ∀ o g1 p1 H1 x, Ad g σ p H g1 p1 H1 → Rl X.K J p1 g1 σ H1 → x ∈ p1.o → H x = none → NoSl g1 σ x → OwnAt X.K (del p1 H1) H1 x o → k o g1 = some r → Post X.K W J p1 g1 σ H1 r q → Q (.ref x) H1) : SemE X e σ H Q := by
  unfold M.bind at hm
  cases e1 : m g with
  | none => rw [e1] at hm; cases hm
  | some r1 =>
    cases r1 with
    | ok d g1 =>
      rw [e1] at hm
      exact h J p g σ H R0 _ e1 Q fun p1 H1 ad R1 v h1 h2 h3 h4 => hk d g1 p1 H1 v ad R1 h1 h2 h3 h4 hm (hp.adv ad)
    | ex E g1 =>
      rw [e1] at hm
      cases hm
      exact h J p g σ H R0 _ e1 Q hp
theorem EA.then {m : M (List D)} {k : List D → M β} (h : EA X W es m) (R0 : Rl X.K J p g σ H) (hm : m.bind k g = some r) (hp : Post X.K W J p g σ H r q) {Q : List V → Hp → Prop}
    (hk : ∀ ds g1 p1 H1 vs, Ad g σ p H g1 p1 H1 → Rl X.K J p1 g1 σ H1 → Reps X.K (del p1 H1) vs ds → k ds g1 = some r → Post X.K W J p1 g1 σ H1 r q → Q vs H1) : SemA X es σ H Q := by
  unfold M.bind at hm
  cases e1 : m g with
  | none => rw [e1] at hm; cases hm
  | some r1 =>
    cases r1 with
    | ok d g1 =>
      rw [e1] at hm
      exact h J p g σ H R0 _ e1 Q fun p1 H1 ad R1 v rv => hk d g1 p1 H1 v ad R1 rv hm (hp.adv ad)
    | ex E g1 =>
      rw [e1] at hm
      cases hm
      exact h J p g σ H R0 _ e1 Q hp
theorem ET.then {m : M Bool} {k : Bool → M β} (h : ET X W e m) (R0 : Rl X.K J p g σ H) (hm : m.bind k g = some r) (hp : Post X.K W J p g σ H r q) {Q : Bool → Hp → Prop}
    (hk : ∀ b g1 p1 H1, Ad g σ p H g1 p1 H1 → Rl X.K J p1 g1 σ H1 → k b g1 = some r → Post X.K W J p1 g1 σ H1 r q → Q b H1) : SemT X e σ H Q := by
  unfold M.bind at hm
  cases e1 : m g with
  | none => rw [e1] at hm; cases hm
  | some r1 =>
    cases r1 with
    | ok d g1 =>
      rw [e1] at hm
      exact h J p g σ H R0 _ e1 Q fun p1 H1 ad R1 => hk d g1 p1 H1 ad R1 hm (hp.adv ad)
    | ex E g1 =>
      rw [e1] at hm
      cases hm
      exact h J p g σ H R0 _ e1 Q hp
/-- the end of a chain: the value is known, nothing is new -/
theorem post_lift {o : Option D} {r : R D} (hm : lift o g = some r) {Q : VK} (hp : Post X.K W J p g σ H r (qF X.K Q)) (R0 : Rl X.K J p g σ H) : ∃ d, o = some d ∧ (∀ p' H', Ad g σ p H g p' H' → Rl X.K J p' g σ H' → ∀ v, Rep X.K (del p' H') v d → Q v H') := by
  cases o with
  | none => cases hm
  | some d =>
    cases hm
    exact ⟨d, rfl, hp⟩
end
/-! ### own things shown -/
theorem Ad.shown {K : PySem.W.Frag} {J : Hp} {p p1 : Mt} {g g1 : G} {σ : St} {H H1 : Hp} {x : Addr} (ad : Ad g σ p H g1 p1 H1) (h : H x = none) (R0 : Rl K J p g σ H) : Ad g σ p H g1 (p1.rem x) H1 :=
  ⟨ad.dd, ad.le.trans del_rem, fun a ha n => by
    obtain ⟨h1, h2⟩ := ad.ex a ha n
    exact ⟨List.mem_filter.mpr ⟨h1, decide_eq_true fun z => mut_ne (R0.lv a ha) (z ▸ h)⟩, h2⟩, ad.sl, ad.th⟩
theorem EO.f {m : M O} (h : EO X W e m) : EF X W e (m.bind fun o => ret o.d) := fun J p g σ H R0 r hm Q hp =>
  h.then R0 hm hp fun o g1 p1 H1 x ad R1 h1 h2 h3 h4 hk hq => by
    cases hk
    obtain ⟨R2, e2⟩ := R1.show_ h3 h1
    exact hp (p1.rem x) H1 (ad.shown h2 R0) R2 _ ((h4.le del_rem rfl).rep e2)
/-! ### names, constants -/
def mName (i : Nat) : M D := fun g => match g.s[i]? with
  | some (.v d) => some (.ok d g)
  | some (.o o) => some (.ok o.d (g.set i (.v o.d)))
  | _ => none
end
end Mo
set_option Elab.async false
set_option linter.all false
set_option maxRecDepth 100000
set_option maxHeartbeats 4000000
/-! Mo, part three: names, constants, operators, tests. -/
namespace Mo
open PySem PySem.Spec L2
section
variable {X : Cx} {W : WW} {e a b c : Expr} {es : List Expr} {pos ps : Pos} {α β : Type}
/-! ### names, constants -/
theorem getE_set {l : List Sl} {i j : Nat} {x y : Sl} (h : (l.set i x)[j]? = some y) : (j = i ∧ y = x ∧ i < l.length) ∨ (j ≠ i ∧ l[j]? = some y) := by
  by_cases e : j = i
  · subst e
    by_cases hl : j < l.length
    · rw [List.getElem?_set_self hl] at h
      exact .inl ⟨rfl, (Option.some.inj h).symm, hl⟩
    · rw [List.getElem?_eq_none (by rw [List.length_set]; omega)] at h
      cases h
  · rw [List.getElem?_set_ne (Ne.symm e)] at h
    exact .inr ⟨e, h⟩
/-- an own thing is shown from now on -/
theorem Rl.thaw {K : PySem.W.Frag} {J : Hp} {p : Mt} {g : G} {σ : St} {H : Hp} {i : Nat} {o : O} (R : Rl K J p g σ H) (h : g.s[i]? = some (.o o)) : ∃ q, σ[i]? = some (some (.ref q)) ∧ Rl K J (p.rem q) (g.set i (.v o.d)) σ H ∧ Ad g σ p H (g.set i (.v o.d)) (p.rem q) H ∧ Rep K (del (p.rem q) H) (.ref q) o.d := by
  obtain ⟨q, h1, h2, h3, h4⟩ := R.so i o h
  have hq : del (p.rem q) H q = H q := del_at fun z : Hid (p.rem q) q => by
    rcases z with z | z
    · exact R.dno q z h2
    · have := (List.mem_filter.mp z).2
      rw [decide_eq_true_eq] at this
      exact this rfl
  have rp : Rep K (del (p.rem q) H) (.ref q) o.d := (h4.le del_rem rfl).rep hq
  refine ⟨q, h1, ⟨(List.length_set ..).trans R.len, R.old, fun a e => (R.dice a e).le del_rem rfl, fun a e m => R.dno a e (List.mem_filter.mp m).1, fun a m => R.lv a (List.mem_filter.mp m).1, R.fz, fun j d e => ?_, fun j d e => ?_, fun j e => ?_, fun j k o1 o2 x e1 e2 e3 e4 => ?_⟩, ⟨rfl, del_rem, fun a m n => ⟨List.mem_filter.mpr ⟨m, decide_eq_true fun z => n i o h (by rw [h1, z])⟩, rfl⟩, fun a n j o' e => ?_, fun _ h => h⟩, rp⟩
  · rcases getE_set e with ⟨rfl, e2, _⟩ | ⟨ne, e⟩
    · cases e2
      exact ⟨_, h1, rp⟩
    · obtain ⟨v, x1, x2⟩ := R.sv j d e
      exact ⟨v, x1, x2.le del_rem⟩
  · rcases getE_set e with ⟨rfl, e2, _⟩ | ⟨ne, e⟩
    · cases e2
    · obtain ⟨x, x1, x2, x3, x4⟩ := R.so j d e
      exact ⟨x, x1, List.mem_filter.mpr ⟨x2, decide_eq_true fun z => ne (R.inj j i d o x e h x1 (by rw [h1, z]))⟩, x3, x4.le del_rem rfl⟩
  · rcases getE_set e with ⟨rfl, e2, _⟩ | ⟨ne, e⟩
    · cases e2
    · exact R.sd j e
  · rcases getE_set e1 with ⟨_, z, _⟩ | ⟨_, e1⟩
    · cases z
    · rcases getE_set e2 with ⟨_, z, _⟩ | ⟨_, e2⟩
      · cases z
      · exact R.inj j k o1 o2 x e1 e2 e3 e4
  · rcases getE_set e with ⟨_, z, _⟩ | ⟨_, e⟩
    · cases z
    · exact n j o' e
theorem e_name {x : Str} (i : Nat) (hN : X.N[i]? = some x := by rfl) (hv : Vis X.env.scope x := by first | exact Or.inl rfl | exact Or.inr (Or.inl rfl) | exact Or.inr (Or.inr rfl))
    (hd : (x == ("__debug__" : Str)) = false := by decide) (hcd : (x == ("__classdict__" : Str)) = false := by decide) : EF X W (.Name x pos) (mName i) := fun J p g σ H R0 r hm Q hp => by
  unfold mName at hm
  split at hm
  · rename_i d e
    cases hm
    obtain ⟨v, h1, h2⟩ := R0.sv i d e
    exact of_pe (pv i hN hv hd hcd) ⟨v, h1, hp p H .refl R0 v h2⟩
  · rename_i o e
    cases hm
    obtain ⟨q, h1, R1, ad, rp⟩ := R0.thaw e
    exact of_pe (pv i hN hv hd hcd) ⟨_, h1, hp _ H ad R1 _ rp⟩
  · cases hm
theorem e_const {d : D} {v : V} {t : TE} (h : PE X e t) (ht : ∀ σ H Q, Q v H → t σ H Q) (hr : ∀ H, Rep X.K H v d) : EF X W e (ret d) := fun J p g σ H R0 r hm Q hp => by
  cases hm
  exact of_pe h (ht _ _ _ (hp p H .refl R0 v (hr _)))
theorem e_int {i : Int} {k} : EF X W (.Constant (.int i) k pos) (ret (.int i)) := e_const pe_int (fun _ _ _ h => h) fun _ => .int i
theorem e_str {i : Str} {k} : EF X W (.Constant (.str i) k pos) (ret (.str i)) := e_const pe_str (fun _ _ _ h => h) fun _ => .str i
theorem e_bool {i : Bool} {k} : EF X W (.Constant (.bool i) k pos) (ret (.bl i)) := e_const pe_bl (fun _ _ _ h => h) fun _ => .bl i
theorem e_none {k} : EF X W (.Constant .none k pos) (ret .non) := e_const pe_non (fun _ _ _ h => h) fun _ => .non
/-! ### operators by values -/
/-- what an operator's rule does on data -/
def OpS (K : PySem.W.Frag) (r2 : R2) (f : D → D → Option D) : Prop := ∀ J p g σ H v w x y z (Q : VK), Rl K J p g σ H → Rep K (del p H) v x → Rep K (del p H) w y → f x y = some z →
  (∀ p' H', Ad g σ p H g p' H' → Rl K J p' g σ H' → ∀ u, Rep K (del p' H') u z → Q u H') → r2 v w H Q
def mBin (f : D → D → Option D) (ma mb : M D) : M D := ma.bind fun x => mb.bind fun y => lift (f x y)
theorem e_bin {op : Operator} {r2 : R2} {f : D → D → Option D} {ma mb : M D} (ho : OpR X (binaryOp op) r2) (hs : OpS X.K r2 f) (ha : EF X W a ma) (hb : EF X W b mb) : EF X W (.BinOp a op b pos) (mBin f ma mb) := fun J p g σ H R0 r hm Q hp =>
  of_pe (pe_op ho semE semE) (ha.then R0 hm hp fun x g1 p1 H1 v ad1 R1 rv hm1 hp1 => hb.then R1 hm1 hp1 fun y g2 p2 H2 w ad2 R2 rw' hm2 hp2 => by
    obtain ⟨z, hz, hq⟩ := post_lift hm2 hp2 R2
    exact hs J p2 g2 σ H2 v w x y z Q R2 (rv.le ad2.le) rw' hz hq)
theorem e_cmp {op : CmpOp} {r2 : R2} {f : D → D → Option D} {ma mb : M D} (ho : OpR X (compareOp op) r2) (hs : OpS X.K r2 f) (ha : EF X W a ma) (hb : EF X W b mb) (hm : behindInMarks op b = false := by first | exact nomark _ | rfl) : EF X W (.Compare a [op] [b] pos) (mBin f ma mb) := fun J p g σ H R0 r hm' Q hp =>
  of_pe (pe_cmpR ho semE semE hm) (ha.then R0 hm' hp fun x g1 p1 H1 v ad1 R1 rv hm1 hp1 => hb.then R1 hm1 hp1 fun y g2 p2 H2 w ad2 R2 rw' hm2 hp2 => by
    obtain ⟨z, hz, hq⟩ := post_lift hm2 hp2 R2
    exact hs J p2 g2 σ H2 v w x y z Q R2 (rv.le ad2.le) rw' hz hq)
def asB : D → Option Bool
  | .bl b => some b
  | _ => none
/-- the outcome of a test that was told as data -/
def mTst (m : M D) : M Bool := m.bind fun d => lift (asB d)
theorem t_cmp {op : CmpOp} {r2 : R2} {f : D → D → Option D} {ma mb : M D} (ho : OpR X (compareOp op) r2) (hs : OpS X.K r2 f) (ha : EF X W a ma) (hb : EF X W b mb) (hm : behindInMarks op b = false := by first | exact nomark _ | rfl) : ET X W (.Compare a [op] [b] pos) (ma.bind fun x => mb.bind fun y => lift ((f x y).bind asB)) := fun J p g σ H R0 r hm' Q hp =>
  of_pt (pt_cmpR ho semE semE hm) (ha.then R0 hm' hp fun x g1 p1 H1 v ad1 R1 rv hm1 hp1 => hb.then R1 hm1 hp1 fun y g2 p2 H2 w ad2 R2 rw' hm2 hp2 => by
    cases e : f x y with
    | none =>
      rw [e] at hm2
      cases hm2
    | some z =>
      rw [e] at hm2
      cases z <;> first | (cases hm2; done) | skip
      rename_i b0
      obtain rfl : R.ok b0 g2 = r := Option.some.inj hm2
      exact hs J p2 g2 σ H2 v w x y _ _ R2 (rv.le ad2.le) rw' e fun p' H' ad R3 u ru => ⟨_, rep_bl ru, hp2 p' H' ad R3⟩)
theorem OpS.or {K : PySem.W.Frag} {r r' : R2} {f f' : D → D → Option D} (h : OpS K r f) (h' : OpS K r' f') : OpS K (fun x y H Q => r x y H Q ∨ r' x y H Q) (fun x y => (f x y).or (f' x y)) := fun J p g σ H v w x y z Q R0 rv rw' e q => by
  dsimp only at e
  cases e1 : f x y with
  | some z' =>
    rw [e1] at e
    cases e
    exact .inl (h J p g σ H v w x y _ Q R0 rv rw' e1 q)
  | none =>
    rw [e1] at e
    exact .inr (h' J p g σ H v w x y z Q R0 rv rw' e q)
section
variable {K : PySem.W.Frag}
def fI (C : Int → Int → Bool) (f : Int → Int → D) : D → D → Option D
  | .int i, .int j => if C i j then some (f i j) else none
  | _, _ => none
def fI0 (f : Int → Int → D) : D → D → Option D
  | .int i, .int j => some (f i j)
  | _, _ => none
theorem os_I {C : Int → Int → Prop} {c : Int → Int → Bool} {f : Int → Int → Int} (hc : ∀ i j, c i j = true → C i j) : OpS K (rI C fun i j => .int (f i j)) (fI c fun i j => .int (f i j)) := fun J p g σ H v w x y z Q R0 rv rw' e q => by
  cases x <;> first | (cases e; done) | skip
  cases y <;> first | (cases e; done) | skip
  cases rep_int rv
  cases rep_int rw'
  simp only [fI] at e
  split at e
  · rename_i h
    cases e
    exact ⟨_, _, rfl, rfl, hc _ _ h, q p H .refl R0 _ (.int _)⟩
  · cases e
theorem os_I0 {f : Int → Int → Int} : OpS K (rI0 fun i j => .int (f i j)) (fI0 fun i j => .int (f i j)) := fun J p g σ H v w x y z Q R0 rv rw' e q => by
  cases x <;> first | (cases e; done) | skip
  cases y <;> first | (cases e; done) | skip
  cases rep_int rv
  cases rep_int rw'
  cases e
  exact ⟨_, _, rfl, rfl, q p H .refl R0 _ (.int _)⟩
theorem os_IB {f : Int → Int → Bool} : OpS K (rI0 fun i j => .bl (f i j)) (fI0 fun i j => .bl (f i j)) := fun J p g σ H v w x y z Q R0 rv rw' e q => by
  cases x <;> first | (cases e; done) | skip
  cases y <;> first | (cases e; done) | skip
  cases rep_int rv
  cases rep_int rw'
  cases e
  exact ⟨_, _, rfl, rfl, q p H .refl R0 _ (.bl _)⟩
def fCat : D → D → Option D
  | .str i, .str j => if i.length + j.length ≤ sizeLine then some (.str (i ++ j)) else none
  | _, _ => none
theorem os_cat : OpS K (fun x y H Q => ∃ i j, x = .str i ∧ y = .str j ∧ i.length + j.length ≤ sizeLine ∧ Q (.str (i ++ j)) H) fCat := fun J p g σ H v w x y z Q R0 rv rw' e q => by
  cases x <;> first | (cases e; done) | skip
  cases y <;> first | (cases e; done) | skip
  cases rep_str rv
  cases rep_str rw'
  simp only [fCat] at e
  split at e
  · rename_i h
    cases e
    exact ⟨_, _, rfl, rfl, h, q p H .refl R0 _ (.str _)⟩
  · cases e
def fCatT : D → D → Option D
  | .tup xs, .tup ys => if xs ≠ [] ∧ xs.length + ys.length ≤ sizeLine then some (.tup (xs ++ ys)) else none
  | _, _ => none
theorem rep_tup {J : Hp} {v : V} {ds : List D} (h : Rep K J v (.tup ds)) : ∃ a vs, v = .ref a ∧ J a = some (.tup vs) ∧ Reps K J vs ds := by
  cases h with
  | tup s r => exact ⟨_, _, rfl, s, r⟩
theorem rep_lst {J : Hp} {v : V} {ds : List D} (h : Rep K J v (.lst ds)) : ∃ a vs, v = .ref a ∧ SqL K J a vs ∧ Reps K J vs ds := by
  cases h with
  | lst s r => exact ⟨_, _, rfl, s, r⟩
theorem st_del {p : Mt} {H : Hp} {a : Addr} {xs : List V} (h : del p H a = some (.tup xs)) : SqT K H a xs := .inl (.inl (del_of h))
theorem os_catT : OpS K (rCatT K) fCatT := fun J p g σ H v w x y z Q R0 rv rw' e q => by
  cases x <;> first | (cases e; done) | skip
  cases y <;> first | (cases e; done) | skip
  rename_i xs ys
  obtain ⟨a, vs, rfl, sa, ra⟩ := rep_tup rv
  obtain ⟨b, ws, rfl, sb, rb⟩ := rep_tup rw'
  simp only [fCatT] at e
  split at e
  · rename_i h
    cases e
    have la := ra.len
    have lb := rb.len
    refine ⟨a, b, vs, ws, rfl, rfl, st_del sa, st_del sb, fun z => ?_, by rw [la, lb]; exact h.2, fun z => ?_, fun z x hx => ?_⟩
    · rw [z] at la
      exact h.1 (List.eq_nil_of_length_eq_zero la.symm)
    · rw [z] at lb
      rw [List.eq_nil_of_length_eq_zero lb.symm, List.append_nil] at q
      exact q p H .refl R0 _ rv
    · obtain ⟨R1, ad, e1⟩ := R0.new (o := .tup (vs ++ ws)) hx
      exact q p _ ad R1 _ (.tup e1 ((ra.app rb).le ad.le))
  · cases e
/-! the data of plain kinds as the library tells them -/
mutual
def D.py : D → Option PyData
  | .non => some .none
  | .bl b => some (.bool b)
  | .int i => some (.int i)
  | .str x => some (.str x)
  | .lst xs => (D.pys xs).map .list
  | .tup xs => (D.pys xs).map .tuple
  | _ => none
def D.pys : List D → Option (List PyData)
  | [] => some []
  | d :: ds => match D.py d, D.pys ds with
    | some x, some r => some (x :: r)
    | _, _ => none
end
mutual
theorem Rep.dp {H : Hp} {p : Mt} : ∀ {d : D} {v : V} {x : PyData}, Rep K (del p H) v d → d.py = some x → Dp K H v x
  | .non, _, _, h, e => by cases h; simp only [D.py] at e; cases e; exact .non
  | .bl b, _, _, h, e => by cases h; simp only [D.py] at e; cases e; exact .bl b
  | .int b, _, _, h, e => by cases h; simp only [D.py] at e; cases e; exact .int b
  | .str b, _, _, h, e => by cases h; simp only [D.py] at e; cases e; exact .str b
  | .lst ds, _, _, h, e => by
    simp only [D.py] at e
    cases q : D.pys ds with
    | none => rw [q] at e; cases e
    | some r =>
      rw [q] at e
      cases e
      cases h with
      | lst s h => exact .lst (sl_of s) (Reps.dp h q)
  | .tup ds, _, _, h, e => by
    simp only [D.py] at e
    cases q : D.pys ds with
    | none => rw [q] at e; cases e
    | some r =>
      rw [q] at e
      cases e
      cases h with
      | tup s h => exact .tup (st_del s) (Reps.dp h q)
  | .dk _, _, _, _, e => by simp only [D.py] at e; cases e
  | .dt _, _, _, _, e => by simp only [D.py] at e; cases e
  | .ins _ _, _, _, _, e => by simp only [D.py] at e; cases e
  | .sx _ _, _, _, _, e => by simp only [D.py] at e; cases e
  | .vd _ _, _, _, _, e => by simp only [D.py] at e; cases e
  | .any, _, _, _, e => by simp only [D.py] at e; cases e
  | .cl _, _, _, _, e => by simp only [D.py] at e; cases e
theorem Reps.dp {H : Hp} {p : Mt} : ∀ {ds : List D} {vs : List V} {xs : List PyData}, Reps K (del p H) vs ds → D.pys ds = some xs → DpAll K H vs xs
  | [], _, _, h, e => by cases h; simp only [D.pys] at e; cases e; exact .nil
  | d :: ds, _, _, h, e => by
    cases h with
    | cons h1 h2 =>
      simp only [D.pys] at e
      cases q1 : d.py with
      | none => rw [q1] at e; cases e
      | some x =>
        cases q2 : D.pys ds with
        | none => rw [q1, q2] at e; cases e
        | some r =>
          rw [q1, q2] at e
          cases e
          exact .cons (Rep.dp h1 q1) (Reps.dp h2 q2)
end
def fEq (neg : Bool) (x y : D) : Option D := match x.py, y.py with
  | some d, some e => if SeqAt.shaped d && SeqAt.shaped e then some (.bl (if neg then !PyData.eqv d e else PyData.eqv d e)) else none
  | _, _ => none
theorem os_eq : OpS K (rEqD K) (fEq false) := fun J p g σ H v w x y z Q R0 rv rw' e q => by
  simp only [fEq] at e
  split at e
  · rename_i d1 d2 e1 e2
    split at e
    · rename_i h
      rw [Bool.and_eq_true] at h
      cases e
      exact ⟨_, _, rv.dp e1, rw'.dp e2, h.1, h.2, q p H .refl R0 _ (.bl _)⟩
    · cases e
  · cases e
theorem os_ne : OpS K (rNeD K) (fEq true) := fun J p g σ H v w x y z Q R0 rv rw' e q => by
  simp only [fEq] at e
  split at e
  · rename_i d1 d2 e1 e2
    split at e
    · rename_i h
      rw [Bool.and_eq_true] at h
      cases e
      exact ⟨_, _, rv.dp e1, rw'.dp e2, h.1, h.2, q p H .refl R0 _ (.bl _)⟩
    · cases e
  · cases e
end
end
end Mo
set_option Elab.async false
set_option linter.all false
set_option maxRecDepth 100000
set_option maxHeartbeats 4000000
/-! Mo, part four: and, or, not; tests; argument lists; displays; calls of built-ins; subscripts. -/
namespace Mo
open PySem PySem.Spec L2
section
variable {X : Cx} {W : WW} {e a b c : Expr} {es : List Expr} {pos ps : Pos} {α β : Type}
/-! ### and, or, not -/
def mAnd (ma mb : M D) : M D := ma.bind fun x => match x with
  | .bl true => mb
  | .bl false => ret (.bl false)
  | _ => bad
def mOr (ma mb : M D) : M D := ma.bind fun x => match x with
  | .bl false => mb
  | .bl true => ret (.bl true)
  | _ => bad
def fNot : D → Option D
  | .bl b => some (.bl (!b))
  | _ => none
def mNot (ma : M D) : M D := ma.bind fun x => lift (fNot x)
/-! ### tests -/
def truD : D → Option Bool
  | .non => some false
  | .bl b => some b
  | .int i => some (i != 0)
  | .str y => if y.length ≤ sizeLine then some ((y.length : Int) != 0) else none
  | .lst xs => some (!xs.isEmpty)
  | .tup xs => some (!xs.isEmpty)
  | _ => none
theorem truV {K : PySem.W.Frag} {p : Mt} {H : Hp} {v : V} {d : D} {k : Bool} (h : Rep K (del p H) v d) (e : truD d = some k) : TruV K v H k := by
  have lem : ∀ {vs : List V} {ds : List D}, Reps K (del p H) vs ds → (!ds.isEmpty) = !vs.isEmpty := fun r => by cases r <;> rfl
  cases h <;> simp only [truD] at e <;> first | (cases e; done) | skip
  · cases e; rfl
  · cases e; rfl
  · cases e; rfl
  · split at e
    · rename_i h
      cases e
      exact ⟨h, rfl⟩
    · cases e
  · rename_i s r
    cases e
    exact .inl ⟨_, sl_of s, lem r⟩
  · rename_i s r
    cases e
    exact .inr (.inl ⟨_, st_del s, lem r⟩)
def mTru (m : M D) : M Bool := m.bind fun d => lift (truD d)
theorem t_truth {m : M D} (h : EF X W e m) (he : ∀ whole, isTrue e X.env whole = (do let v ← whole; standAt e.pos; holding [v] (truthy v)) := by intro _; rfl) : ET X W e (mTru m) := fun J p g σ H R0 r hm Q hp =>
  of_pt (pt_truth semE he) (h.then R0 hm hp fun x g1 p1 H1 v ad1 R1 rv hm1 hp1 => by
    cases q : truD x with
    | none =>
      rw [q] at hm1
      cases hm1
    | some k =>
      rw [q] at hm1
      cases hm1
      exact ⟨k, truV rv q, hp1 p1 H1 .refl R1⟩)
def mtNot (m : M Bool) : M Bool := m.bind fun b => ret (!b)
theorem t_not {m : M Bool} (h : ET X W a m) : ET X W (.UnaryOp .Not a pos) (mtNot m) := fun J p g σ H R0 r hm Q hp =>
  of_pt (pt_not semT) (h.then R0 hm hp fun x g1 p1 H1 ad1 R1 hm1 hp1 => by
    cases hm1
    exact hp1 p1 H1 .refl R1)
def mtAnd (ma mb : M Bool) : M Bool := ma.bind fun x => match x with
  | true => mb
  | false => ret false
def mtOr (ma mb : M Bool) : M Bool := ma.bind fun x => match x with
  | false => mb
  | true => ret true
def mIf {γ : Type} (mc : M Bool) (ma mb : M γ) : M γ := mc.bind fun x => match x with
  | true => ma
  | false => mb
theorem e_if {mc : M Bool} {ma mb : M D} (hc : ET X W c mc) (ha : EF X W a ma) (hb : EF X W b mb) : EF X W (.IfExp c a b pos) (mIf mc ma mb) := fun J p g σ H R0 r hm Q hp =>
  of_pe (pe_ifExp semT semE semE) (hc.then R0 hm hp fun x g1 p1 H1 ad1 R1 hm1 hp1 => by
    cases x with
    | true => exact (if_pos rfl).mpr (ha J p1 g1 σ H1 R1 r hm1 Q hp1)
    | false => exact (if_neg Bool.false_ne_true).mpr (hb J p1 g1 σ H1 R1 r hm1 Q hp1))
/-! ### unary operators -/
def fNeg : D → Option D
  | .int i => some (.int (-i))
  | _ => none
def mNeg (m : M D) : M D := m.bind fun x => lift (fNeg x)
theorem e_neg {m : M D} (h : EF X W a m) : EF X W (.UnaryOp .USub a pos) (mNeg m) := fun J p g σ H R0 r hm Q hp =>
  of_pe (pe_un un_neg semE) (h.then R0 hm hp fun x g1 p1 H1 v ad1 R1 rv hm1 hp1 => by
    obtain ⟨z, hz, hq⟩ := post_lift hm1 hp1 R1
    cases x <;> first | (cases hz; done) | skip
    cases hz
    cases rep_int rv
    exact ⟨_, rfl, hq p1 H1 .refl R1 _ (.int _)⟩)
/-! ### argument lists -/
def mCons (m : M D) (ms : M (List D)) : M (List D) := m.bind fun d => ms.bind fun ds => ret (d :: ds)
theorem a_nil : EA X W [] (ret []) := fun J p g σ H R0 r hm Q hp => by
  cases hm
  exact of_pa pa_nil (hp p H .refl R0 [] .nil)
theorem a_cons {m : M D} {ms : M (List D)} (h : EF X W e m) (hr : EA X W es ms) (hs : starEach (e :: es) X.env = (false, eval e X.env) :: starEach es X.env := by rfl) : EA X W (e :: es) (mCons m ms) := fun J p g σ H R0 r hm Q hp =>
  of_pa (pa_cons semE semA hs) (h.then R0 hm hp fun x g1 p1 H1 v ad1 R1 rv hm1 hp1 => hr.then R1 hm1 hp1 fun ds g2 p2 H2 vs ad2 R2 rs hm2 hp2 => by
    cases hm2
    exact hp2 p2 H2 .refl R2 _ (.cons (rv.le ad2.le) rs))
/-! ### displays -/
def mTup (ms : M (List D)) : M D := ms.bind fun ds => if ds.length ≤ sizeLine then ret (.tup ds) else bad
theorem e_tup {ms : M (List D)} {k : Nat} (h : EA X W es ms) : EF X W (.Tuple es k pos) (mTup ms) := fun J p g σ H R0 r hm Q hp =>
  of_pe (pe_tup semA) (h.then R0 hm hp fun ds g1 p1 H1 vs ad1 R1 rs hm1 hp1 => by
    split at hm1
    · rename_i hz
      cases hm1
      refine ⟨by rw [rs.len]; exact hz, fun l hl => ?_⟩
      obtain ⟨R2, ad2, e2⟩ := R1.new (o := .tup vs) hl
      exact hp1 p1 _ ad2 R2 _ (.tup e2 (rs.le ad2.le))
    · cases hm1)
def mLst (ms : M (List D)) : M O := ms.bind fun ds => if ds.length ≤ sizeLine then ret (.l ds) else bad
theorem eo_lst {ms : M (List D)} (h : EA X W es ms) : EO X W (.List es pos) (mLst ms) := fun J p g σ H R0 r hm Q hp =>
  of_pe (pe_lst semA) (h.then R0 hm hp fun ds g1 p1 H1 vs ad1 R1 rs hm1 hp1 => by
    split at hm1
    · rename_i hz
      cases hm1
      refine ⟨by rw [rs.len]; exact hz, fun l hl => ?_⟩
      obtain ⟨R2, ad2, m2, j2, n2, le2⟩ := R1.hide (o := .lst vs) hl
      exact hp1 (p1.add l) _ ad2 R2 l m2 (ad1.gone hl) n2 ⟨vs, upd_same, rs.le le2⟩
    · cases hm1)
/-! ### calls of built-ins -/
/-- what a call's rule does on data -/
def CS (K : PySem.W.Frag) (rr : List V → Hp → VK → Prop) (f : List D → Option D) : Prop := ∀ J p g σ H vs ds z (Q : VK), Rl K J p g σ H → Reps K (del p H) vs ds → f ds = some z →
  (∀ p' H', Ad g σ p H g p' H' → Rl K J p' g σ H' → ∀ u, Rep K (del p' H') u z → Q u H') → rr vs H Q
def CO (K : PySem.W.Frag) (rr : List V → Hp → VK → Prop) (f : List D → Option O) : Prop := ∀ J p g σ H vs ds z (Q : VK), Rl K J p g σ H → Reps K (del p H) vs ds → f ds = some z →
  (∀ p' H', Ad g σ p H g p' H' → Rl K J p' g σ H' → ∀ q, q ∈ p'.o → H q = none → NoSl g σ q → OwnAt K (del p' H') H' q z → Q (.ref q) H') → rr vs H Q
theorem CS.or {K : PySem.W.Frag} {r r' : List V → Hp → VK → Prop} {f f' : List D → Option D} (h : CS K r f) (h' : CS K r' f') : CS K (fun xs H Q => r xs H Q ∨ r' xs H Q) (fun xs => (f xs).or (f' xs)) := fun J p g σ H vs ds z Q R0 rs e q => by
  dsimp only at e
  cases e1 : f ds with
  | some z' =>
    rw [e1] at e
    cases e
    exact .inl (h J p g σ H vs ds _ Q R0 rs e1 q)
  | none =>
    rw [e1] at e
    exact .inr (h' J p g σ H vs ds z Q R0 rs e q)
def mCall (f : List D → Option D) (ms : M (List D)) : M D := ms.bind fun ds => lift (f ds)
def mCallO (f : List D → Option O) (ms : M (List D)) : M O := ms.bind fun ds => lift (f ds)
section
variable {x : Str} {id : String} {rr : List V → Hp → VK → Prop} {f : List D → Option D} {fo : List D → Option O} {ms : M (List D)}
theorem e_blt (hc : CallR X (.builtin id) rr) (hs : CS X.K rr f) (hm : X.mg x = none) (ha : EA X W (e :: es) ms) (hv : bootBuiltins x = some (.builtin id) := by decide +kernel) (hg : Gl X x := by rfl)
    (hn : x ≠ "__name__" := by decide) (hdb : (x == ("__debug__" : Str)) = false := by decide) (he : starEach (e :: es) X.env = (false, eval e X.env) :: starEach es X.env := by rfl) (hpl : (backTo pos (starEach es X.env)).any (·.1) = false := by rfl) :
    EF X W (.Call (.Name x ps) (e :: es) [] pos) (mCall f ms) := fun J p g σ H R0 r hm' Q hp =>
  of_pe (pe_callB hc hg hm hv semA hn hdb he hpl) (ha.then R0 hm' hp fun ds g1 p1 H1 vs ad1 R1 rs hm1 hp1 => by
    obtain ⟨z, hz, hq⟩ := post_lift hm1 hp1 R1
    exact hs J p1 g1 σ H1 vs ds z Q R1 rs hz hq)
theorem post_liftO {J : Hp} {p p0 : Mt} {g g0 : G} {σ : St} {H H0 : Hp} {o : Option O} {r : R O} (hm : lift o g = some r) {Q : VK} (hp : Post X.K W J p g σ H r (qO X.K H0 σ Q)) (ad : Ad g0 σ p0 H0 g p H) :
    ∃ d, o = some d ∧ (∀ p' H', Ad g σ p H g p' H' → Rl X.K J p' g σ H' → ∀ q, q ∈ p'.o → H q = none → NoSl g σ q → OwnAt X.K (del p' H') H' q d → Q (.ref q) H') := by
  cases o with
  | none => cases hm
  | some d =>
    cases hm
    exact ⟨d, rfl, fun p' H' a R q h1 h2 h3 h4 => hp p' H' a R q h1 (ad.gone h2) h3 h4⟩
theorem e_ty (hc : CallR X (.type id) rr) (hs : CS X.K rr f) (hm : X.mg x = none) (ha : EA X W (e :: es) ms) (hv : bootBuiltins x = some (.type id) := by decide +kernel) (hg : Gl X x := by rfl)
    (hn : x ≠ "__name__" := by decide) (hdb : (x == ("__debug__" : Str)) = false := by decide) (he : starEach (e :: es) X.env = (false, eval e X.env) :: starEach es X.env := by rfl) (hpl : (backTo pos (starEach es X.env)).any (·.1) = false := by rfl) :
    EF X W (.Call (.Name x ps) (e :: es) [] pos) (mCall f ms) := fun J p g σ H R0 r hm' Q hp =>
  of_pe (pe_callTy hc hg hm hv semA hn hdb he hpl) (ha.then R0 hm' hp fun ds g1 p1 H1 vs ad1 R1 rs hm1 hp1 => by
    obtain ⟨z, hz, hq⟩ := post_lift hm1 hp1 R1
    exact hs J p1 g1 σ H1 vs ds z Q R1 rs hz hq)
end
end
end Mo
set_option Elab.async false
set_option linter.all false
set_option maxRecDepth 100000
set_option maxHeartbeats 4000000
/-! Mo, part five: statements, loops. -/
namespace Mo
open PySem PySem.Spec L2
inductive Oc where
  | nx | rt (d : D) | rto (o : O) | bk | ct
/-- from one state to a later one -/
structure As (J : Hp) (p : Mt) (H : Hp) (p' : Mt) (H' : Hp) : Prop where
  dd : p'.d = p.d
  le : Le (del p H) (del p' H')
  ex : ∀ a ∈ p.o, J a ≠ none → a ∈ p'.o
  th : ∀ a, H a ≠ none → H' a ≠ none
theorem As.refl {J : Hp} {p : Mt} {H : Hp} : As J p H p H := ⟨rfl, .refl _, fun _ h _ => h, fun _ h => h⟩
theorem As.trans {J : Hp} {p p1 p2 : Mt} {H H1 H2 : Hp} (a : As J p H p1 H1) (b : As J p1 H1 p2 H2) : As J p H p2 H2 :=
  ⟨b.dd.trans a.dd, a.le.trans b.le, fun x h n => b.ex x (a.ex x h n) n, fun x n => b.th x (a.th x n)⟩
theorem Ad.as {K : PySem.W.Frag} {J : Hp} {g g' : G} {σ : St} {p p' : Mt} {H H' : Hp} (a : Ad g σ p H g' p' H') (R : Rl K J p g σ H) : As J p H p' H' :=
  ⟨a.dd, a.le, fun x h n => (a.ex x h fun i o e z => by
    obtain ⟨q, h1, _, h3, _⟩ := R.so i o e
    rw [h1] at z
    cases z
    exact n h3).1, a.th⟩
def PostS (K : PySem.W.Frag) (W : WW) (J : Hp) (p : Mt) (H : Hp) (r : R Oc) (Dd : Ends) : Prop := match r with
  | .ok .nx g' => ∀ σ' p' H', As J p H p' H' → Rl K J p' g' σ' H' → Dd.nx σ' H'
  | .ok .bk g' => ∀ σ' p' H', As J p H p' H' → Rl K J p' g' σ' H' → Dd.bk σ' H'
  | .ok .ct g' => ∀ σ' p' H', As J p H p' H' → Rl K J p' g' σ' H' → Dd.ct σ' H'
  | .ok (.rt d) g' => ∀ σ' p' H' v, As J p H p' H' → Rl K J p' g' σ' H' → Rep K (del p' H') v d → Dd.rt v H'
  | .ok (.rto o) g' => ∀ σ' p' H' q, As J p H p' H' → Rl K J p' g' σ' H' → q ∈ p'.o → J q = none → NoSl g' σ' q → OwnAt K (del p' H') H' q o → Dd.rt (.ref q) H'
  | .ex E g' => ∀ σ' p' H', As J p H p' H' → Rl K J p' g' σ' H' → W E g' p' σ' H'
theorem PostS.adv {K : PySem.W.Frag} {W : WW} {J : Hp} {p p1 : Mt} {H H1 : Hp} {r : R Oc} {Dd : Ends} (h : PostS K W J p H r Dd) (a : As J p H p1 H1) : PostS K W J p1 H1 r Dd := by
  cases r with
  | ex E g => exact fun σ' p' H' b => h σ' p' H' (a.trans b)
  | ok o g =>
    cases o with
    | nx => exact fun σ' p' H' b => h σ' p' H' (a.trans b)
    | bk => exact fun σ' p' H' b => h σ' p' H' (a.trans b)
    | ct => exact fun σ' p' H' b => h σ' p' H' (a.trans b)
    | rt d => exact fun σ' p' H' v b => h σ' p' H' v (a.trans b)
    | rto d => exact fun σ' p' H' v b => h σ' p' H' v (a.trans b)
def SS (X : Cx) (W : WW) (st : Stmt) (m : M Oc) : Prop := ∀ J p g σ H, Rl X.K J p g σ H → ∀ r, m g = some r → ∀ Dd : Ends, PostS X.K W J p H r Dd → SemS X st Dd σ H
def SB (X : Cx) (W : WW) (st : List Stmt) (m : M Oc) : Prop := ∀ J p g σ H, Rl X.K J p g σ H → ∀ r, m g = some r → ∀ Dd : Ends, PostS X.K W J p H r Dd → SemSs X st Dd σ H
/-- one behind the other -/
def seq (m k : M Oc) : M Oc := fun g => match m g with
  | some (.ok .nx g') => k g'
  | r => r
section
variable {X : Cx} {W : WW} {e a b c : Expr} {es : List Expr} {st : Stmt} {sts th el body : List Stmt} {pos ps : Pos}
theorem b_nil : SB X W [] (ret .nx) := fun J p g σ H R0 r hm Dd hp => by
  cases hm
  exact of_pss pss_nil (hp σ p H .refl R0)
theorem b_cons {m k : M Oc} (h : SS X W st m) (hr : SB X W sts k) : SB X W (st :: sts) (seq m k) := fun J p g σ H R0 r hm Dd hp =>
  of_pss (pss_cons semS semSs) (by
    unfold seq at hm
    cases e1 : m g with
    | none => rw [e1] at hm; cases hm
    | some r1 =>
      rw [e1] at hm
      refine h J p g σ H R0 r1 e1 _ ?_
      cases r1 with
      | ex E g1 =>
        cases hm
        exact hp
      | ok o g1 =>
        cases o with
        | nx => exact fun σ' p' H' a1 R1 => hr J p' g1 σ' H' R1 r hm Dd (hp.adv a1)
        | bk =>
          cases hm
          exact hp
        | ct =>
          cases hm
          exact hp
        | rt d =>
          cases hm
          exact hp
        | rto d =>
          cases hm
          exact hp)
/-- what comes of an expression's error in a statement -/
theorem post_s {α : Type} {J : Hp} {p : Mt} {g : G} {σ : St} {H : Hp} {m : M α} {k : α → M Oc} {r : R Oc} {Dd : Ends} (R0 : Rl X.K J p g σ H) (hm : m.bind k g = some r) (hp : PostS X.K W J p H r Dd) : ∃ r1, m g = some r1 ∧ (∀ q : α → G → Mt → Hp → Prop, (∀ a g1 p1 H1, r1 = .ok a g1 → Ad g σ p H g1 p1 H1 → Rl X.K J p1 g1 σ H1 → k a g1 = some r → PostS X.K W J p1 H1 r Dd → q a g1 p1 H1) → Post X.K W J p g σ H r1 q) := by
  unfold M.bind at hm
  cases e1 : m g with
  | none => rw [e1] at hm; cases hm
  | some r1 =>
    refine ⟨r1, rfl, fun q hq => ?_⟩
    cases r1 with
    | ok a1 g1 =>
      rw [e1] at hm
      exact fun p1 H1 ad R1 => hq a1 g1 p1 H1 rfl ad R1 hm (hp.adv (ad.as R0))
    | ex E g1 =>
      rw [e1] at hm
      cases hm
      exact fun p1 H1 ad R1 => hp σ p1 H1 (ad.as R0) R1
section
variable {K : PySem.W.Frag} {J : Hp} {p : Mt} {g : G} {σ : St} {H : Hp} {i : Nat} {v : V} {d : D}
theorem getV_set {l : List (Option V)} {i j : Nat} {x : Option V} : (l.set i x)[j]? = if j = i ∧ i < l.length then some x else l[j]? := by
  by_cases e : j = i
  · subst e
    by_cases hl : j < l.length
    · rw [List.getElem?_set_self hl, if_pos ⟨rfl, hl⟩]
    · rw [if_neg (fun z => hl z.2), List.getElem?_eq_none (by rw [List.length_set]; omega), List.getElem?_eq_none (by omega)]
  · rw [List.getElem?_set_ne (Ne.symm e), if_neg fun z => e z.1]
theorem Rl.setV (R : Rl K J p g σ H) (rv : Rep K (del p H) v d) : Rl K J p (g.set i (.v d)) (σ.set i (some v)) H := by
  have hl : g.s.length = σ.length := R.len
  refine ⟨?_, R.old, R.dice, R.dno, R.lv, R.fz, fun j x e => ?_, fun j x e => ?_, fun j e => ?_, fun j k o1 o2 q e1 e2 e3 e4 => ?_⟩
  · show (g.s.set i _).length = (σ.set i _).length
    rw [List.length_set, List.length_set, hl]
  · rw [getV_set]
    rcases getE_set e with ⟨rfl, e2, e3⟩ | ⟨ne, e⟩
    · cases e2
      rw [if_pos ⟨rfl, hl ▸ e3⟩]
      exact ⟨v, rfl, rv⟩
    · rw [if_neg fun z => ne z.1]
      exact R.sv j x e
  · rw [getV_set]
    rcases getE_set e with ⟨rfl, e2, e3⟩ | ⟨ne, e⟩
    · cases e2
    · rw [if_neg fun z => ne z.1]
      exact R.so j x e
  · rw [getV_set]
    rcases getE_set e with ⟨rfl, e2, e3⟩ | ⟨ne, e⟩
    · cases e2
    · rw [if_neg fun z => ne z.1]
      exact R.sd j e
  · rcases getE_set e1 with ⟨_, z, _⟩ | ⟨n1, e1⟩
    · cases z
    · rcases getE_set e2 with ⟨_, z, _⟩ | ⟨n2, e2⟩
      · cases z
      · rw [getV_set, if_neg fun z => n1 z.1] at e3
        rw [getV_set, if_neg fun z => n2 z.1] at e4
        exact R.inj j k o1 o2 q e1 e2 e3 e4
theorem Rl.setO {q : Addr} {o : O} (R : Rl K J p g σ H) (m : q ∈ p.o) (jn : J q = none) (n : NoSl g σ q) (ow : OwnAt K (del p H) H q o) : Rl K J p (g.set i (.o o)) (σ.set i (some (.ref q))) H := by
  have hl : g.s.length = σ.length := R.len
  refine ⟨?_, R.old, R.dice, R.dno, R.lv, R.fz, fun j x e => ?_, fun j x e => ?_, fun j e => ?_, fun j k o1 o2 q' e1 e2 e3 e4 => ?_⟩
  · show (g.s.set i _).length = (σ.set i _).length
    rw [List.length_set, List.length_set, hl]
  · rw [getV_set]
    rcases getE_set e with ⟨rfl, e2, e3⟩ | ⟨ne, e⟩
    · cases e2
    · rw [if_neg fun z => ne z.1]
      exact R.sv j x e
  · rw [getV_set]
    rcases getE_set e with ⟨rfl, e2, e3⟩ | ⟨ne, e⟩
    · cases e2
      rw [if_pos ⟨rfl, hl ▸ e3⟩]
      exact ⟨q, rfl, m, jn, ow⟩
    · rw [if_neg fun z => ne z.1]
      exact R.so j x e
  · rw [getV_set]
    rcases getE_set e with ⟨rfl, e2, e3⟩ | ⟨ne, e⟩
    · cases e2
    · rw [if_neg fun z => ne z.1]
      exact R.sd j e
  · rcases getE_set e1 with ⟨i1, z1, l1⟩ | ⟨n1, e1⟩
    · rcases getE_set e2 with ⟨i2, z2, l2⟩ | ⟨n2, e2⟩
      · rw [i1, i2]
      · rw [getV_set, if_pos ⟨i1, hl ▸ l1⟩] at e3
        rw [getV_set, if_neg fun z => n2 z.1] at e4
        cases e3
        exact absurd e4 (n k o2 e2)
    · rw [getV_set, if_neg fun z => n1 z.1] at e3
      rcases getE_set e2 with ⟨i2, z2, l2⟩ | ⟨n2, e2⟩
      · rw [getV_set, if_pos ⟨i2, hl ▸ l2⟩] at e4
        cases e4
        exact absurd e3 (n j o1 e1)
      · rw [getV_set, if_neg fun z => n2 z.1] at e4
        exact R.inj j k o1 o2 q' e1 e2 e3 e4
end
/-! ### x = e -/
def mSet (i : Nat) (m : M D) : M Oc := m.bind fun d g => some (.ok .nx (g.set i (.v d)))
def mSetO (i : Nat) (m : M O) : M Oc := m.bind fun d g => some (.ok .nx (g.set i (.o d)))
section
variable {x : Str} {px : Pos}
theorem s_set {m : M D} (i : Nat) (nd : X.N.Nodup) (h : EF X W e m) (hi : X.N[i]? = some x := by rfl) (hx : Loc X.env.scope x := by first | exact Or.inl rfl | exact Or.inr rfl)
    (hs : swapsWith e (some (.Name x px)) pos.line X.env = pure false := by rfl) (hf : X.fn x = true ∨ X.env.scope.names.lookup x = some .local := by first | exact .inl rfl | exact .inr rfl) : SS X W (.Assign [.Name x px] e pos) (mSet i m) := fun J p g σ H R0 r hm Dd hp => by
  obtain ⟨r1, e1, hq⟩ := post_s R0 hm hp
  refine of_ps (ps_set (i := i) nd hi hx semE hs hf) (h J p g σ H R0 r1 e1 _ (hq _ fun d g1 p1 H1 er ad R1 hk hp1 v rv => ?_))
  cases hk
  exact hp1 _ p1 H1 .refl (R1.setV rv)
theorem s_setO {m : M O} (i : Nat) (nd : X.N.Nodup) (h : EO X W e m) (hi : X.N[i]? = some x := by rfl) (hx : Loc X.env.scope x := by first | exact Or.inl rfl | exact Or.inr rfl)
    (hs : swapsWith e (some (.Name x px)) pos.line X.env = pure false := by rfl) (hf : X.fn x = true ∨ X.env.scope.names.lookup x = some .local := by first | exact .inl rfl | exact .inr rfl) : SS X W (.Assign [.Name x px] e pos) (mSetO i m) := fun J p g σ H R0 r hm Dd hp => by
  obtain ⟨r1, e1, hq⟩ := post_s R0 hm hp
  refine of_ps (ps_set (i := i) nd hi hx semE hs hf) (h J p g σ H R0 r1 e1 _ (hq _ fun d g1 p1 H1 er ad R1 hk hp1 q h1 h2 h3 h4 => ?_))
  cases hk
  exact hp1 _ p1 H1 .refl (R1.setO h1 (R0.jn h2) h3 h4)
end
/-! ### return, if, pass, break, continue -/
def mRet (m : M D) : M Oc := m.bind fun d => ret (.rt d)
def mRetO (m : M O) : M Oc := m.bind fun d => ret (.rto d)
theorem s_ret {m : M D} (h : EF X W e m) : SS X W (.Return (some e) pos) (mRet m) := fun J p g σ H R0 r hm Dd hp => by
  obtain ⟨r1, e1, hq⟩ := post_s R0 hm hp
  refine of_ps (ps_ret semE) (h J p g σ H R0 r1 e1 _ (hq _ fun d g1 p1 H1 er ad R1 hk hp1 v rv => ?_))
  cases hk
  exact hp1 _ p1 H1 v .refl R1 rv
theorem s_retO {m : M O} (h : EO X W e m) : SS X W (.Return (some e) pos) (mRetO m) := fun J p g σ H R0 r hm Dd hp => by
  obtain ⟨r1, e1, hq⟩ := post_s R0 hm hp
  refine of_ps (ps_ret semE) (h J p g σ H R0 r1 e1 _ (hq _ fun d g1 p1 H1 er ad R1 hk hp1 q h1 h2 h3 h4 => ?_))
  cases hk
  exact hp1 _ p1 H1 q .refl R1 h1 (R0.jn h2) h3 h4
theorem s_if {mc : M Bool} {mt me : M Oc} (hc : ET X W c mc) (ht : SB X W th mt) (he : SB X W el me) : SS X W (.If c th el pos) (mIf mc mt me) := fun J p g σ H R0 r hm Dd hp => by
  obtain ⟨r1, e1, hq⟩ := post_s R0 hm hp
  refine of_ps (ps_if semT semSs semSs) (hc J p g σ H R0 r1 e1 _ (hq _ fun d g1 p1 H1 er ad R1 hk hp1 => ?_))
  unfold qT
  cases d with
  | true => exact iteT (ht J p1 g1 σ H1 R1 r hk Dd hp1)
  | false => exact iteF (he J p1 g1 σ H1 R1 r hk Dd hp1)
/-! ### loops -/
structure SemI (X : Cx) (tg it : Expr) (σ : St) (H : Hp) (Q : It → Hp → Prop) : Prop where
  run : ∀ (pins : List (Addr × Obj)) (s : Shared), Inv X pins σ H s → wpAny (model X.prog X.w) X.A (eval it X.env) (fun v s1 => wpAny (model X.prog X.w) X.A (pyIter v) (PIE X pins σ tg Q) X.xe s1) X.xe s
theorem semI {tg it : Expr} : PI X tg it (SemI X tg it) := ⟨fun pins s _ _ _ I h => h.run pins s I⟩
theorem of_pi {tg it : Expr} {t : TI} {σ : St} {H : Hp} {Q : It → Hp → Prop} (h : PI X tg it t) (q : t σ H Q) : SemI X tg it σ H Q := ⟨fun pins s I => h.run pins s σ H Q I q⟩
/-- storing into a target -/
structure SemG (X : Cx) (tg : Expr) (v : V) (σ : St) (H : Hp) (Q : St → Hp → Prop) : Prop where
  run : ∀ (pins : List (Addr × Obj)) (s : Shared) (u : Value), Inv X pins σ H s → RelV v u → wpAny (model X.prog X.w) X.A (assign tg X.env u) (fun _ s' => ∃ σ' H', Inv X pins σ' H' s' ∧ Q σ' H') X.xe s
theorem semG {tg : Expr} : PG X tg (SemG X tg) := ⟨fun pins s _ _ _ u _ I r h => h.run pins s u I r⟩
theorem of_pg {tg : Expr} {t : TG} {v : V} {σ : St} {H : Hp} {Q : St → Hp → Prop} (h : PG X tg t) (q : t v σ H Q) : SemG X tg v σ H Q := ⟨fun pins s u I r => h.run pins s σ H v u Q I r q⟩
/-- from slots to slots: but for the places vs nothing is otherwise -/
structure Same (vs : List Nat) (g : G) (σ : St) (g' : G) (σ' : St) : Prop where
  at_ : ∀ i, i ∉ vs → σ'[i]? = σ[i]?
  len : σ'.length = σ.length
  sl : ∀ a, NoSl g σ a → NoSl g' σ' a
theorem Same.refl {vs : List Nat} {g : G} {σ : St} : Same vs g σ g σ := ⟨fun _ _ => rfl, rfl, fun _ h => h⟩
theorem Same.trans {vs : List Nat} {g g1 g2 : G} {σ σ1 σ2 : St} (a : Same vs g σ g1 σ1) (b : Same vs g1 σ1 g2 σ2) : Same vs g σ g2 σ2 := ⟨fun i h => (b.at_ i h).trans (a.at_ i h), b.len.trans a.len, fun x h => b.sl x (a.sl x h)⟩
theorem Same.mono {vs ws : List Nat} {g g1 : G} {σ σ1 : St} (a : Same vs g σ g1 σ1) (h : ∀ i ∈ vs, i ∈ ws) : Same ws g σ g1 σ1 := ⟨fun i n => a.at_ i fun m => n (h i m), a.len, a.sl⟩
def ES (X : Cx) (vs : List Nat) (tg : Expr) (f : D → G → Option G) : Prop := ∀ J p g σ H v d g', Rl X.K J p g σ H → Rep X.K (del p H) v d → f d g = some g' → ∀ Q : St → Hp → Prop, (∀ σ', Same vs g σ g' σ' → Rl X.K J p g' σ' H → Q σ' H) → SemG X tg v σ H Q
def stName (i : Nat) : D → G → Option G := fun d g => some (g.set i (.v d))
theorem g_name {x : Str} {px : Pos} (i : Nat) (nd : X.N.Nodup) (hi : X.N[i]? = some x := by rfl) (hx : Loc X.env.scope x := by first | exact Or.inl rfl | exact Or.inr rfl) (hf : X.fn x = true ∨ X.env.scope.names.lookup x = some .local := by first | exact .inl rfl | exact .inr rfl) : ES X [i] (.Name x px) (stName i) := fun J p g σ H v d g' R0 rv e Q hQ => by
  cases e
  refine of_pg (pg_name nd hi hx hf) (hQ _ ⟨fun j n => ?_, List.length_set .., fun a n j o e1 e2 => ?_⟩ (R0.setV rv))
  · rw [getV_set, if_neg fun z => n (by rw [z.1]; exact List.mem_singleton_self _)]
  · rcases getE_set e1 with ⟨_, z, _⟩ | ⟨n1, e1⟩
    · cases z
    · rw [getV_set, if_neg fun z => n1 z.1] at e2
      exact n j o e1 e2
def stNil : List D → G → Option G := fun ds g => match ds with
  | [] => some g
  | _ => none
def stCons (f : D → G → Option G) (r : List D → G → Option G) : List D → G → Option G := fun ds g => match ds with
  | [] => none
  | d :: ds => (f d g).bind (r ds)
structure SemGs (X : Cx) (ts : List Expr) (vs : List V) (σ : St) (H : Hp) (Q : St → Hp → Prop) : Prop where
  run : ∀ (pins : List (Addr × Obj)) (s : Shared) (us : List Value), Inv X pins σ H s → Vals vs us → wpAny (model X.prog X.w) X.A (assignInOrder ((assignEach ts X.env).map (·.2)) us) (fun _ s' => ∃ σ' H', Inv X pins σ' H' s' ∧ Q σ' H') X.xe s
theorem semGs {ts : List Expr} : PGs X ts (SemGs X ts) := ⟨fun pins s _ _ _ us _ I r h => h.run pins s us I r⟩
theorem of_pgs {ts : List Expr} {t : TGs} {vs : List V} {σ : St} {H : Hp} {Q : St → Hp → Prop} (h : PGs X ts t) (q : t vs σ H Q) : SemGs X ts vs σ H Q := ⟨fun pins s us I r => h.run pins s σ H vs us Q I r q⟩
def ESs (X : Cx) (is : List Nat) (ts : List Expr) (f : List D → G → Option G) : Prop := ∀ J p g σ H vs ds g', Rl X.K J p g σ H → Reps X.K (del p H) vs ds → f ds g = some g' → ∀ Q : St → Hp → Prop, (∀ σ', Same is g σ g' σ' → Rl X.K J p g' σ' H → Q σ' H) → SemGs X ts vs σ H Q
theorem gs_nil : ESs X [] [] stNil := fun J p g σ H vs ds g' R0 rs e Q hQ => by
  cases rs with
  | nil =>
    cases e
    exact of_pgs pgs_nil ⟨rfl, hQ σ .refl R0⟩
  | cons _ _ => cases e
theorem gs_cons {tg : Expr} {ts : List Expr} {is js : List Nat} {f : D → G → Option G} {r : List D → G → Option G} (h : ES X is tg f) (hr : ESs X js ts r) (hs : (assignEach (tg :: ts) X.env).map (·.2) = assign tg X.env :: (assignEach ts X.env).map (·.2) := by rfl) : ESs X (is ++ js) (tg :: ts) (stCons f r) := fun J p g σ H vs ds g' R0 rs e Q hQ => by
  cases rs with
  | nil => cases e
  | cons r1 r2 =>
    rename_i v vs d ds
    have e' : (f d g).bind (r ds) = some g' := e
    cases e1 : f d g with
    | none =>
      rw [e1] at e'
      cases e'
    | some g1 =>
      rw [e1] at e'
      exact of_pgs (pgs_cons semG semGs hs) ⟨v, vs, rfl, h J p g σ H v d g1 R0 r1 e1 _ fun σ1 a1 R1 => hr J p g1 σ1 H vs ds g' R1 r2 e' Q fun σ2 a2 R2 => hQ σ2 ((a1.mono fun _ m => List.mem_append_left _ m).trans (a2.mono fun _ m => List.mem_append_right _ m)) R2⟩
def stTup (n : Nat) (r : List D → G → Option G) : D → G → Option G := fun d g => match d with
  | .tup ds => if ds.length = n then r ds g else none
  | _ => none
theorem g_tup {ts : List Expr} {is : List Nat} {k n : Nat} {r : List D → G → Option G} (hc : X.calm = true) (h : ESs X is ts r) (hn : (assignEach ts X.env).length = n := by rfl) (hst : (assignEach ts X.env).findIdx? (·.1) = none := by rfl) : ES X is (.Tuple ts k pos) (stTup n r) := fun J p g σ H v d g' R0 rv e Q hQ => by
  unfold stTup at e
  cases d <;> first | (cases e; done) | skip
  rename_i ds
  dsimp only at e
  split at e
  · rename_i hl
    obtain ⟨a, vs, rfl, sa, ra⟩ := rep_tup rv
    exact of_pg (pg_tup hc semGs hn hst) ⟨a, vs, rfl, st_del sa, by rw [ra.len]; exact hl, h J p g σ H vs ds g' R0 ra e Q hQ⟩
  · cases e
/-- the turns of a loop over data -/
def mLoop (f : D → G → Option G) (mb : M Oc) : List D → M Oc
  | [] => ret .nx
  | d :: ds => fun g => match f d g with
    | none => none
    | some g1 => match mb g1 with
      | some (.ok .nx g2) => mLoop f mb ds g2
      | some (.ok .ct g2) => mLoop f mb ds g2
      | some (.ok .bk g2) => some (.ok .nx g2)
      | r => r
def mFor (f : D → G → Option G) (mi : M (List D)) (mb : M Oc) : M Oc := mi.bind fun ds => mLoop f mb ds
end
end Mo
set_option Elab.async false
set_option linter.all false
set_option maxRecDepth 100000
set_option maxHeartbeats 4000000
/-! Mo, part six: one's own defs, as functions of data and of the dice. -/
namespace Mo
open PySem PySem.Spec L2
open Lp (FnG okN callG)
abbrev WN : WW := fun _ _ _ _ _ => False
abbrev FD := List D → C3 → Option (D × C3)
abbrev FO := List D → C3 → Option (O × C3)
structure Hd (K : PySem.W.Frag) (p : Mt) (J : Hp) (c : C3) : Prop where
  di : ∀ a, p.d = some a → OwnAt K (del p J) J a c
  no : ∀ a, p.d = some a → a ∉ p.o
  lv : ∀ a ∈ p.o, Mut (J a)
def argsM (dice : Bool) (p : Mt) (vs ws : List V) : Prop := match dice with
  | true => ∃ a, p.d = some a ∧ vs = .ref a :: ws
  | false => vs = ws
/-- behind a call: what stood stands, the dice are as told -/
structure Af (K : PySem.W.Frag) (p ph : Mt) (J J2 : Hp) (c : C3) : Prop where
  old : ∀ a o, p.d ≠ some a → J a = some o → J2 a = some o
  di : ∀ a, p.d = some a → OwnAt K (del ph J2) J2 a c
  fz : ∀ a o, isFD o = true → J2 a = some o → J a = some o
def spM (K : PySem.W.Frag) (dice : Bool) (F : FD) : Sp := fun vs J Q _ => ∃ (p : Mt) (c : C3) (ds : List D) (ws : List V) (d : D) (c' : C3), argsM dice p vs ws ∧ Hd K p J c ∧ Reps K (del p J) ws ds ∧ F ds c = some (d, c') ∧
  ∀ v J2, Af K p p J J2 c' → Rep K (del p J2) v d → Q v J2
def spO (K : PySem.W.Frag) (dice : Bool) (F : FO) : Sp := fun vs J Q _ => ∃ (p : Mt) (c : C3) (ds : List D) (ws : List V) (d : O) (c' : C3), argsM dice p vs ws ∧ Hd K p J c ∧ Reps K (del p J) ws ds ∧ F ds c = some (d, c') ∧
  ∀ q J2, Af K p (p.add q) J J2 c' → J q = none → OwnAt K (del (p.add q) J2) J2 q d → Q (.ref q) J2
def ini (dice : Bool) (n : Nat) (ds : List D) : List Sl := match dice with
  | true => .di :: (ds.map .v ++ List.replicate (n - (ds.length + 1)) .un)
  | false => ds.map .v ++ List.replicate (n - ds.length) .un
def runM (dice : Bool) (n k : Nat) (m : M Oc) : FD := fun ds c => if ds.length + dice.toNat = k then (match m ⟨ini dice n ds, c⟩ with
  | some (.ok .nx g) => some (.non, g.c)
  | some (.ok (.rt d) g) => some (d, g.c)
  | some (.ok (.rto o) g) => some (o.d, g.c)
  | _ => none) else none
def runO (dice : Bool) (n k : Nat) (m : M Oc) : FO := fun ds c => if ds.length + dice.toNat = k then (match m ⟨ini dice n ds, c⟩ with
  | some (.ok (.rto o) g) => some (o, g.c)
  | _ => none) else none
abbrev XX (P : Program) (w : World) (K : PySem.W.Frag) (mg : Str → Option Value) (base : Heap) (N : List Str) (qual : Str) (st : Stmt) (f : Addr) (cdv : Value) (B : Around) (fr : List Env) (s : Shared) (J : Hp) (Z : XK) : Cx :=
  (cxOf CX0 P w K mg base N qual (defScope st) f cdv B fr s J Z).nox
theorem args_len {dice : Bool} {p : Mt} {vs ws : List V} (h : argsM dice p vs ws) : vs.length = ws.length + dice.toNat := by
  cases dice with
  | true =>
    obtain ⟨a, _, rfl⟩ := h
    rfl
  | false =>
    have : vs = ws := h
    rw [this]
    rfl
section
variable {K : PySem.W.Frag} {J : Hp}
theorem rep_some {p : Mt} {vs : List V} {ds : List D} {n : Nat} {c : C3} (hd : Hd K p J c) (r : Reps K (del p J) vs ds) : Rl K J p ⟨ds.map .v ++ List.replicate n .un, c⟩ (vs.map some ++ List.replicate n none) J := by
  have hl := r.len
  have key : ∀ (i : Nat) x, (ds.map Sl.v ++ List.replicate n .un)[i]? = some x → (∃ d, ds[i]? = some d ∧ x = .v d) ∨ x = .un := fun i x e => by
    by_cases h : i < ds.length
    · rw [List.getElem?_append_left (by rw [List.length_map]; exact h), List.getElem?_map, List.getElem?_eq_getElem h] at e
      exact .inl ⟨_, List.getElem?_eq_getElem h, (Option.some.inj e).symm⟩
    · rw [List.getElem?_append_right (by rw [List.length_map]; omega)] at e
      exact .inr (List.eq_of_mem_replicate (List.mem_of_getElem? e))
  refine ⟨by simp [hl], fun _ _ _ e => e, hd.di, hd.no, hd.lv, fun _ _ _ e => e, fun i d e => ?_, fun i o e => ?_, fun i e => ?_, fun i j o o' q e => ?_⟩
  · rcases key i _ e with ⟨d', e', z⟩ | z
    · cases z
      obtain ⟨v, h1, h2⟩ := r.getD e'
      refine ⟨v, ?_, h2⟩
      have hi : i < vs.length := (List.getElem?_eq_some_iff.mp h1).1
      rw [List.getElem?_append_left (by rw [List.length_map]; exact hi), List.getElem?_map, h1]
      rfl
    · cases z
  · rcases key i _ e with ⟨d', e', z⟩ | z <;> cases z
  · rcases key i _ e with ⟨d', e', z⟩ | z <;> cases z
  · rcases key i _ e with ⟨d', e', z⟩ | z <;> cases z
theorem rl_start {dice : Bool} {p : Mt} {vs ws : List V} {ds : List D} {N : List Str} {c : C3} (ha : argsM dice p vs ws) (hd : Hd K p J c) (r : Reps K (del p J) ws ds) : Rl K J p ⟨ini dice N.length ds, c⟩ (L2.start N vs) J := by
  have hl := r.len
  cases dice with
  | false =>
    have e : vs = ws := ha
    subst e
    unfold L2.start ini
    rw [hl]
    exact rep_some hd r
  | true =>
    obtain ⟨a, e, rfl⟩ := ha
    have R := rep_some (n := N.length - (ds.length + 1)) hd r
    unfold L2.start ini
    rw [List.length_cons, hl]
    have shift : ∀ {l : List Sl} {x : Sl} {i : Nat} {y : Sl}, (x :: l)[i]? = some y → (i = 0 ∧ x = y) ∨ ∃ j, i = j + 1 ∧ l[j]? = some y := fun {l x i y} e => by
      cases i with
      | zero => exact .inl ⟨rfl, Option.some.inj e⟩
      | succ j => exact .inr ⟨j, rfl, e⟩
    refine ⟨?_, R.old, R.dice, R.dno, R.lv, R.fz, fun i d e => ?_, fun i o e => ?_, fun i e' => ?_, fun i j o o' q e1 e2 e3 e4 => ?_⟩
    · show (_ :: _ : List Sl).length = (some (V.ref a) :: _ : List (Option V)).length
      rw [List.length_cons, List.length_cons]
      exact congrArg (· + 1) R.len
    · rcases shift e with ⟨_, z⟩ | ⟨j, rfl, e⟩
      · cases z
      · exact R.sv j d e
    · rcases shift e with ⟨_, z⟩ | ⟨j, rfl, e⟩
      · cases z
      · exact R.so j o e
    · rcases shift e' with ⟨i0, z⟩ | ⟨j, rfl, e'⟩
      · subst i0
        exact ⟨a, rfl, e⟩
      · exact R.sd j e'
    · rcases shift e1 with ⟨_, z⟩ | ⟨i', rfl, e1⟩
      · cases z
      · rcases shift e2 with ⟨_, z⟩ | ⟨j', rfl, e2⟩
        · cases z
        · exact congrArg (· + 1) (R.inj i' j' o o' q e1 e2 e3 e4)
theorem le_back {p p' : Mt} {H : Hp} (hd : ∀ a ∈ p.o, J a ≠ none) (e1 : p'.d = p.d) (e2 : ∀ a ∈ p.o, J a ≠ none → a ∈ p'.o) : Le (del p' H) (del p H) := .of fun a u e => by
  rw [del_at fun z : Hid p a => del_no e (z.elim (fun y => .inl (by rw [e1]; exact y)) fun y => .inr (e2 a y (hd a y)))]
  exact del_of e
theorem le_back1 {p p' : Mt} {H : Hp} {q : Addr} (hd : ∀ a ∈ p.o, J a ≠ none) (e1 : p'.d = p.d) (e2 : ∀ a ∈ p.o, J a ≠ none → a ∈ p'.o) (hq : q ∈ p'.o) : Le (del p' H) (del (p.add q) H) := .of fun a u e => by
  rw [del_at fun z : Hid (p.add q) a => del_no e (z.elim (fun y => .inl (by rw [e1]; exact y)) fun y => .inr ((List.mem_cons.mp y).elim (fun w => w ▸ hq) fun w => e2 a w (hd a w)))]
  exact del_of e
end
section
variable {P : Program} {w : World} {K : PySem.W.Frag} {mg : Str → Option Value} {base : Heap} {dice : Bool} {x qual : Str} {st : Stmt} {f : Addr} {fd : FuncData} {N ps : List Str} {k : Nat} {m : M Oc}
theorem okM (F : Fun K x qual st f fd) (S : FnScope N ps (defScope st))
    (body : ∀ (cdv : Value) (B : Around) (fr : List Env) (s : Shared) (J0 : Hp) (Z : XK), Room k (XX P w K mg base N qual st f cdv B fr s J0 Z).A → (XX P w K mg base N qual st f cdv B fr s J0 Z).A.guards = some [] →
      SB (XX P w K mg base N qual st f cdv B fr s J0 Z) WN (defBody st) m) : FnG P w K mg base CX0 (k + 1) f fd ps (spM K dice (runM dice N.length ps.length m)) := by
  refine okN F S (fun vs J Q Z ⟨p, c, ds, ws, d, c', ha, _, r, e, _⟩ => ?_) fun cdv B fr s J vs Q Z hr hg ⟨p, c, ds, ws, d, c', ha, hd, r, e, q⟩ => ⟨_, semSs, ?_⟩
  · unfold runM at e
    split at e
    · rename_i h
      rw [args_len ha, r.len]
      exact h
    · cases e
  · unfold runM at e
    split at e
    · cases e1 : m ⟨ini dice N.length ds, c⟩ with
      | none =>
        rw [e1] at e
        cases e
      | some r1 =>
        rw [e1] at e
        refine body cdv B fr s J Z hr hg J p _ _ J (rl_start ha hd r) r1 e1 _ ?_
        have fin : ∀ {p' : Mt} {H' : Hp} {g' : G} {σ' : St}, As J p J p' H' → Rl K J p' g' σ' H' → Af K p p J H' g'.c := fun a R => ⟨fun b o n e => R.old b o (by rw [a.dd]; exact n) e, fun b e => (R.dice b (by rw [a.dd]; exact e)).le (le_back (fun a m => mut_ne (hd.lv a m)) a.dd a.ex) rfl, R.fz⟩
        cases r1 with
        | ex E g => cases e
        | ok o g =>
          cases o with
          | nx =>
            cases e
            exact fun σ' p' H' a R => q _ H' (fin a R) .non
          | rt d =>
            cases e
            exact fun σ' p' H' v a R rv => q v H' (fin a R) (rv.le (le_back (fun a m => mut_ne (hd.lv a m)) a.dd a.ex))
          | rto o =>
            cases e
            refine fun σ' p' H' y a R h1 h2 h3 h4 => q _ H' (fin a R) ?_
            obtain ⟨R2, e2⟩ := R.show_ h3 h1
            refine ((h4.le del_rem rfl).rep e2).le (le_back (p' := p'.rem y) (fun a m => mut_ne (hd.lv a m)) a.dd fun b hb n => List.mem_filter.mpr ⟨a.ex b hb n, decide_eq_true fun z => n (z ▸ h2)⟩)
          | bk => cases e
          | ct => cases e
    · cases e
theorem okO (F : Fun K x qual st f fd) (S : FnScope N ps (defScope st))
    (body : ∀ (cdv : Value) (B : Around) (fr : List Env) (s : Shared) (J0 : Hp) (Z : XK), Room k (XX P w K mg base N qual st f cdv B fr s J0 Z).A → (XX P w K mg base N qual st f cdv B fr s J0 Z).A.guards = some [] →
      SB (XX P w K mg base N qual st f cdv B fr s J0 Z) WN (defBody st) m) : FnG P w K mg base CX0 (k + 1) f fd ps (spO K dice (runO dice N.length ps.length m)) := by
  refine okN F S (fun vs J Q Z ⟨p, c, ds, ws, d, c', ha, _, r, e, _⟩ => ?_) fun cdv B fr s J vs Q Z hr hg ⟨p, c, ds, ws, d, c', ha, hd, r, e, q⟩ => ⟨_, semSs, ?_⟩
  · unfold runO at e
    split at e
    · rename_i h
      rw [args_len ha, r.len]
      exact h
    · cases e
  · unfold runO at e
    split at e
    · cases e1 : m ⟨ini dice N.length ds, c⟩ with
      | none =>
        rw [e1] at e
        cases e
      | some r1 =>
        rw [e1] at e
        refine body cdv B fr s J Z hr hg J p _ _ J (rl_start ha hd r) r1 e1 _ ?_
        have fin : ∀ {p' : Mt} {H' : Hp} {g' : G} {σ' : St} {y : Addr}, y ∈ p'.o → As J p J p' H' → Rl K J p' g' σ' H' → Af K p (p.add y) J H' g'.c := fun hy a R => ⟨fun b o n e => R.old b o (by rw [a.dd]; exact n) e, fun b e => (R.dice b (by rw [a.dd]; exact e)).le (le_back1 (fun a m => mut_ne (hd.lv a m)) a.dd a.ex hy) rfl, R.fz⟩
        cases r1 with
        | ex E g => cases e
        | ok o g =>
          cases o with
          | rto o =>
            cases e
            exact fun σ' p' H' y a R h1 h2 h3 h4 => q y H' (fin h1 a R) h2 (h4.le (le_back1 (fun a m => mut_ne (hd.lv a m)) a.dd a.ex h1) rfl)
          | nx => cases e
          | rt d => cases e
          | bk => cases e
          | ct => cases e
    · cases e
end
section
variable {X : Cx} {W : WW} {e : Expr} {es : List Expr} {pos ps : Pos} {k : Nat} {f : Addr} {fd : FuncData} {qs : List Str} {x : Str}
theorem Rl.hd {K : PySem.W.Frag} {J : Hp} {p : Mt} {g : G} {σ : St} {H : Hp} (R : Rl K J p g σ H) : Hd K p H g.c := ⟨R.dice, R.dno, R.lv⟩
/-- the state behind a call -/
theorem Rl.after {K : PySem.W.Frag} {J : Hp} {p : Mt} {g : G} {σ : St} {H J2 : Hp} {c : C3} (R : Rl K J p g σ H) (a : Af K p p H J2 c) : Rl K J p ⟨g.s, c⟩ σ J2 ∧ Ad g σ p H ⟨g.s, c⟩ p J2 := by
  have le : Le (del p H) (del p J2) := .of fun b o e => by
    have n := del_no e
    rw [del_at n]
    exact a.old b o (fun z => n (.inl z)) (del_of e)
  have kp : ∀ b ∈ p.o, J2 b = H b := fun b m => by
    cases e : H b with
    | none => exact absurd e (mut_ne (R.lv b m))
    | some o => exact a.old b o (fun z => R.dno b z m) e
  have th : ∀ b, H b ≠ none → J2 b ≠ none := fun b n => by
    by_cases z : p.d = some b
    · exact mut_ne (a.di b z).mut
    · cases e : H b with
      | none => exact absurd e n
      | some o =>
        rw [a.old b o z e]
        exact Option.some_ne_none _
  refine ⟨⟨R.len, fun b o n e => a.old b o n (R.old b o n e), a.di, R.dno, fun b m => by rw [kp b m]; exact R.lv b m, fun b o f e => R.fz b o f (a.fz b o f e), fun i d e => ?_, fun i o e => ?_, R.sd, R.inj⟩, ⟨rfl, le, fun b m _ => ⟨m, kp b m⟩, fun _ h => h, th⟩⟩
  · obtain ⟨v, h1, h2⟩ := R.sv i d e
    exact ⟨v, h1, h2.le le⟩
  · obtain ⟨q, h1, h2, h3, h4⟩ := R.so i o e
    exact ⟨q, h1, h2, h3, h4.le le (kp q h2)⟩
/-- .. with something new that is hidden -/
theorem Rl.afterO {K : PySem.W.Frag} {J : Hp} {p : Mt} {g : G} {σ : St} {H J2 : Hp} {c : C3} {q : Addr} {o : O} (R : Rl K J p g σ H) (a : Af K p (p.add q) H J2 c) (hn : H q = none) (ow : OwnAt K (del (p.add q) J2) J2 q o) :
    Rl K J (p.add q) ⟨g.s, c⟩ σ J2 ∧ Ad g σ p H ⟨g.s, c⟩ (p.add q) J2 ∧ NoSl ⟨g.s, c⟩ σ q := by
  have up : Le (del (p.add q) J2) (del p J2) := .of fun b u e => by
    rw [del_at fun z : Hid p b => del_no e (z.imp id (List.mem_cons_of_mem _))]
    exact del_of e
  obtain ⟨R1, ad⟩ := R.after ⟨a.old, fun b e => (a.di b e).le up rfl, a.fz⟩
  have nq := R.ne hn
  have le : Le (del p H) (del (p.add q) J2) := .of fun b u e => by
    have n := del_no e
    have nb : b ≠ q := ne_of_none (del_of e) hn
    rw [del_at fun z : Hid (p.add q) b => n (Or.imp id (fun y => (List.mem_cons.mp y).resolve_left nb) z)]
    exact a.old b u (fun z => n (.inl z)) (del_of e)
  have kp : ∀ b ∈ p.o, J2 b = H b := fun b m => by
    cases e : H b with
    | none => exact absurd e (mut_ne (R.lv b m))
    | some o => exact a.old b o (fun z => R.dno b z m) e
  have ns : NoSl ⟨g.s, c⟩ σ q := fun i o e z => by
    obtain ⟨x, h1, h2, _⟩ := R.so i o e
    rw [h1] at z
    cases z
    exact nq (.inr h2)
  refine ⟨⟨R.len, R1.old, a.di, fun b e m => ?_, fun b m => ?_, R1.fz, fun i d e => ?_, fun i o e => ?_, R.sd, R.inj⟩, ⟨rfl, le, fun b m _ => ⟨List.mem_cons_of_mem _ m, kp b m⟩, fun _ h => h, ad.th⟩, ns⟩
  · rcases List.mem_cons.mp m with z | m
    · exact nq (.inl (by rw [← z]; exact e))
    · exact R.dno b e m
  · rcases List.mem_cons.mp m with z | m
    · rw [z]
      exact ow.mut
    · exact R1.lv b m
  · obtain ⟨v, h1, h2⟩ := R.sv i d e
    exact ⟨v, h1, h2.le le⟩
  · obtain ⟨y, h1, h2, h3, h4⟩ := R.so i o e
    exact ⟨y, h1, List.mem_cons_of_mem _ h2, h3, h4.le le (kp y h2)⟩
def liftC {α : Type} (o : C3 → Option (α × C3)) : M α := fun g => match o g.c with
  | some (d, c) => some (.ok d ⟨g.s, c⟩)
  | none => none
def mFn (F : FD) (ms : M (List D)) : M D := ms.bind fun ds => liftC (F ds)
def mFnO (F : FO) (ms : M (List D)) : M O := ms.bind fun ds => liftC (F ds)
/-- the dice in slot i -/
def isDi (i : Nat) {α : Type} (m : M α) : M α := fun g => match g.s[i]? with
  | some .di => m g
  | _ => none
theorem liftC_some {α : Type} {o : C3 → Option (α × C3)} {g : G} {r : R α} (h : liftC o g = some r) : ∃ d c, o g.c = some (d, c) ∧ r = .ok d ⟨g.s, c⟩ := by
  unfold liftC at h
  cases e : o g.c with
  | none =>
    rw [e] at h
    cases h
  | some z =>
    rw [e] at h
    exact ⟨z.1, z.2, rfl, (Option.some.inj h).symm⟩
theorem isDi_some {α : Type} {i : Nat} {m : M α} {g : G} {r : R α} (h : isDi i m g = some r) : g.s[i]? = some .di ∧ m g = some r := by
  unfold isDi at h
  split at h
  · rename_i e
    exact ⟨e, h⟩
  · cases h
/-- f(e, ..) -/
theorem e_fn {F : FD} {ms : M (List D)} (hF : FnG X.prog X.w X.K X.mg X.base CX0 k f fd qs (spM X.K false F)) (hr : Room k X.A) (hgd : X.A.guards = some []) (hm : X.mg x = some (.ref f)) (hk : PySem.W.keepIn X.K (.ref f) = true) (hb : Binds X.K fd qs [])
    (ha : EA X W (e :: es) ms) (hg : Gl X x := by rfl) (hdb : (x == ("__debug__" : Str)) = false := by decide) (he : starEach (e :: es) X.env = (false, eval e X.env) :: starEach es X.env := by rfl) (hpl : (backTo pos (starEach es X.env)).any (·.1) = false := by rfl) :
    EF X W (.Call (.Name x ps) (e :: es) [] pos) (mFn F ms) := fun J p g σ H R0 r hm' Q hp =>
  of_pe (callG hF hr hgd hg hm hk hb pass0 semA hdb he hpl) (ha.then R0 hm' hp fun ds g1 p1 H1 vs ad1 R1 rs hm1 hp1 => by
    rw [List.append_nil]
    obtain ⟨d, c, e1, rfl⟩ := liftC_some hm1
    refine ⟨p1, g1.c, ds, vs, d, c, rfl, R1.hd, rs, e1, fun v J2 a rv => ?_⟩
    obtain ⟨R2, ad2⟩ := R1.after a
    exact hp1 p1 J2 ad2 R2 v rv)
theorem eo_fn {F : FO} {ms : M (List D)} (hF : FnG X.prog X.w X.K X.mg X.base CX0 k f fd qs (spO X.K false F)) (hr : Room k X.A) (hgd : X.A.guards = some []) (hm : X.mg x = some (.ref f)) (hk : PySem.W.keepIn X.K (.ref f) = true) (hb : Binds X.K fd qs [])
    (ha : EA X W (e :: es) ms) (hg : Gl X x := by rfl) (hdb : (x == ("__debug__" : Str)) = false := by decide) (he : starEach (e :: es) X.env = (false, eval e X.env) :: starEach es X.env := by rfl) (hpl : (backTo pos (starEach es X.env)).any (·.1) = false := by rfl) :
    EO X W (.Call (.Name x ps) (e :: es) [] pos) (mFnO F ms) := fun J p g σ H R0 r hm' Q hp =>
  of_pe (callG hF hr hgd hg hm hk hb pass0 semA hdb he hpl) (ha.then R0 hm' hp fun ds g1 p1 H1 vs ad1 R1 rs hm1 hp1 => by
    rw [List.append_nil]
    obtain ⟨d, c, e1, rfl⟩ := liftC_some hm1
    refine ⟨p1, g1.c, ds, vs, d, c, rfl, R1.hd, rs, e1, fun q J2 a hn ow => ?_⟩
    obtain ⟨R2, ad2, ns⟩ := R1.afterO a hn ow
    exact hp1 _ J2 ad2 R2 q List.mem_cons_self (ad1.gone hn) ns ow)
/-- f(dice, e, ..) -/
theorem e_fd {F : FD} {ms : M (List D)} {y : Str} {py : Pos} (i : Nat) (hF : FnG X.prog X.w X.K X.mg X.base CX0 k f fd qs (spM X.K true F)) (hr : Room k X.A) (hgd : X.A.guards = some []) (hm : X.mg x = some (.ref f)) (hk : PySem.W.keepIn X.K (.ref f) = true) (hb : Binds X.K fd qs [])
    (ha : EA X W es ms) (hg : Gl X x := by rfl) (hN : X.N[i]? = some y := by rfl) (hv : Vis X.env.scope y := by first | exact Or.inl rfl | exact Or.inr (Or.inl rfl) | exact Or.inr (Or.inr rfl)) (hd : (y == ("__debug__" : Str)) = false := by decide) (hcd : (y == ("__classdict__" : Str)) = false := by decide)
    (hdb : (x == ("__debug__" : Str)) = false := by decide) (he : starEach (.Name y py :: es) X.env = (false, eval (.Name y py) X.env) :: starEach es X.env := by rfl) (hpl : (backTo pos (starEach es X.env)).any (·.1) = false := by rfl) :
    EF X W (.Call (.Name x ps) (.Name y py :: es) [] pos) (isDi i (mFn F ms)) := fun J p g σ H R0 r hm' Q hp => by
  obtain ⟨h1, h2⟩ := isDi_some hm'
  obtain ⟨a, h3, h4⟩ := R0.sd i h1
  exact of_pe (callG hF hr hgd hg hm hk hb pass0 (pa_cons (pv i hN hv hd hcd) semA he) hdb he hpl) ⟨_, h3, ha.then R0 h2 hp fun ds g1 p1 H1 vs ad1 R1 rs hm1 hp1 => by
    dsimp only
    rw [List.append_nil]
    obtain ⟨d, c, e1, rfl⟩ := liftC_some hm1
    refine ⟨p1, g1.c, ds, vs, d, c, ⟨a, by rw [ad1.dd]; exact h4, rfl⟩, R1.hd, rs, e1, fun v J2 a rv => ?_⟩
    obtain ⟨R2, ad2⟩ := R1.after a
    exact hp1 p1 J2 ad2 R2 v rv⟩
end
end Mo
set_option Elab.async false
set_option linter.all false
set_option maxRecDepth 100000
set_option maxHeartbeats 4000000
/-! Mo, part seven: built-ins by values; subscripts; slices. -/
namespace Mo
open PySem PySem.Spec L2
section
variable {K : PySem.W.Frag}
/-- one argument, its value told -/
theorem reps1 {J : Hp} {vs : List V} {d : D} (h : Reps K J vs [d]) : ∃ v, vs = [v] ∧ Rep K J v d := by
  cases h with
  | cons a b =>
    cases b
    exact ⟨_, rfl, a⟩
theorem reps2 {J : Hp} {vs : List V} {d e : D} (h : Reps K J vs [d, e]) : ∃ v w, vs = [v, w] ∧ Rep K J v d ∧ Rep K J w e := by
  cases h with
  | cons a b =>
    cases b with
    | cons b c =>
      cases c
      exact ⟨_, _, rfl, a, b⟩
/-! ### len -/
def fLen : List D → Option D
  | [.str x] => if x.length ≤ sizeLine then some (.int x.length) else none
  | [.lst xs] => some (.int xs.length)
  | [.tup xs] => some (.int xs.length)
  | _ => none
theorem cs_len : CS K (fun xs H Q => ∃ x n, xs = [x] ∧ LenV K x H n ∧ Q (.int n) H) fLen := fun J p g σ H vs ds z Q R rs e q => by
  unfold fLen at e
  split at e
  · rename_i x
    split at e
    · rename_i h
      cases e
      obtain ⟨v, rfl, rv⟩ := reps1 rs
      cases rep_str rv
      exact ⟨_, x.length, rfl, ⟨h, rfl⟩, q p H .refl R _ (.int _)⟩
    · cases e
  · rename_i xs
    cases e
    obtain ⟨v, rfl, rv⟩ := reps1 rs
    obtain ⟨a, ws, rfl, s, r⟩ := rep_lst rv
    exact ⟨_, xs.length, rfl, .inl ⟨ws, sl_of s, r.len.symm⟩, q p H .refl R _ (.int _)⟩
  · rename_i xs
    cases e
    obtain ⟨v, rfl, rv⟩ := reps1 rs
    obtain ⟨a, ws, rfl, s, r⟩ := rep_tup rv
    exact ⟨_, xs.length, rfl, .inr ⟨ws, st_del s, r.len.symm⟩, q p H .refl R _ (.int _)⟩
  · cases e
/-! ### ints -/
def fInt1 : List D → Option D
  | [.int i] => some (.int i)
  | [.bl b] => some (.int (if b then 1 else 0))
  | _ => none
theorem cs_int : CS K (fun xs H Q => (∃ i, xs = [.int i] ∧ Q (.int i) H) ∨ ∃ k, xs = [.bl k] ∧ Q (.int (if k then 1 else 0)) H) fInt1 := fun J p g σ H vs ds z Q R rs e q => by
  unfold fInt1 at e
  split at e
  · cases e
    obtain ⟨v, rfl, rv⟩ := reps1 rs
    cases rep_int rv
    exact .inl ⟨_, rfl, q p H .refl R _ (.int _)⟩
  · cases e
    obtain ⟨v, rfl, rv⟩ := reps1 rs
    cases rep_bl rv
    exact .inr ⟨_, rfl, q p H .refl R _ (.int _)⟩
  · cases e
def fAbs : List D → Option D
  | [.int i] => some (.int (if i < 0 then -i else i))
  | _ => none
theorem cs_abs : CS K (fun xs H Q => ∃ i, xs = [.int i] ∧ Q (.int (if i < 0 then -i else i)) H) fAbs := fun J p g σ H vs ds z Q R rs e q => by
  unfold fAbs at e
  split at e
  · cases e
    obtain ⟨v, rfl, rv⟩ := reps1 rs
    cases rep_int rv
    exact ⟨_, rfl, q p H .refl R _ (.int _)⟩
  · cases e
def fMax2 : List D → Option D
  | [.int i, .int j] => some (.int (if j > i then j else i))
  | _ => none
def fMin2 : List D → Option D
  | [.int i, .int j] => some (.int (if j < i then j else i))
  | _ => none
theorem cs_max2 : CS K (fun xs H Q => ∃ i j, xs = [.int i, .int j] ∧ Q (.int (if j > i then j else i)) H) fMax2 := fun J p g σ H vs ds z Q R rs e q => by
  unfold fMax2 at e
  split at e
  · cases e
    obtain ⟨v, w, rfl, rv, rw'⟩ := reps2 rs
    cases rep_int rv
    cases rep_int rw'
    exact ⟨_, _, rfl, q p H .refl R _ (.int _)⟩
  · cases e
theorem cs_min2 : CS K (fun xs H Q => ∃ i j, xs = [.int i, .int j] ∧ Q (.int (if j < i then j else i)) H) fMin2 := fun J p g σ H vs ds z Q R rs e q => by
  unfold fMin2 at e
  split at e
  · cases e
    obtain ⟨v, w, rfl, rv, rw'⟩ := reps2 rs
    cases rep_int rv
    cases rep_int rw'
    exact ⟨_, _, rfl, q p H .refl R _ (.int _)⟩
  · cases e
/-! ### lists of ints, of bools -/
def asStrs : List D → Option (List Str)
  | [] => some []
  | .str i :: ds => (asStrs ds).map (i :: ·)
  | _ => none
/-! ### tuple(..), list(..) -/
def fTuple : List D → Option D
  | [.lst ds] => some (.tup ds)
  | [.tup ds] => some (.tup ds)
  | _ => none
end
end Mo
set_option Elab.async false
set_option linter.all false
set_option maxRecDepth 100000
set_option maxHeartbeats 4000000
/-! Mo, part eight: subscripts, slices, texts, own lists and dicts that change. -/
/-! ### extend, the other list read as any list -/
namespace L2
open PySem PySem.Spec PyProof.Rows PySem.AutoSeq1
theorem list_add_any (l : Addr) (items : Array Value) (n : Nat) (b : Addr) (items2 : Array Value) (n2 : Nat) (sl sl2 : Array (Option Value)) (hc0 : items.size + items2.size ≤ sizeLine) :
    Meets (Builtin.«list.__add__» ⟨[.ref l, .ref b], []⟩) (fun _ R s => s.heap.get? l = some { cls := .type "list", dict := none, data := .seq items n, slots := sl } ∧ s.heap.get? b = some { cls := .type "list", dict := none, data := .seq items2 n2, slots := sl2 } ∧ R (.ok (.ret (Value.ref s.heap.objs.size))) { s with heap := s.heap.push { cls := Value.type "list", data := Data.seq (items ++ items2) }, toks := s.toks }) :=
  .of_wp fun prog w A R s h => by obtain ⟨hp, g, d, tk, os⟩ := s; obtain ⟨hl, hb, h⟩ := h; have f1 := idx_int; have f2 := AutoSeq1.sub_tuple_tuple; have f3 := AutoSeq1.sub_list_list; have f4 := AutoSeq1.sub_tuple_list; have f5 := AutoSeq1.sub_list_tuple; wp_walk using wpAny_loadPart' hl, wpAny_loadPart' hb; exact ⟨_, rfl, h⟩
def rCatS (K : PySem.W.Frag) : R2 := fun x y H Q => ∃ l b xs zs, x = .ref l ∧ y = .ref b ∧ SqL K H l xs ∧ SqL K H b zs ∧ xs.length + zs.length ≤ sizeLine ∧ ∀ p, H p = none → Q (.ref p) (upd H p (.lst (xs ++ zs)))
theorem op_catS {X : Cx} : OpR X (binaryOp .Add) (rCatS X.K) := by
  intro pins s σ H x y v u Q I rx ry h
  obtain ⟨l, b, xs, zs, rfl, rfl, hH, hB, hz, q⟩ := h
  cases rx
  cases ry
  obtain ⟨its, r, ⟨o1, n1, e1, c1, d1, s1⟩, hz1⟩ := I.list hH
  obtain ⟨its2, r2, ⟨o2, n2, e2, c2, d2, s2⟩, hz2⟩ := I.list hB
  have hl := r.length
  have hl2 := r2.length
  obtain ⟨oc1, od1, oda1, osl1⟩ := o1
  dsimp only at c1 d1 s1
  subst c1 d1 s1
  obtain ⟨oc, od, oda, osl⟩ := o2
  dsimp only at c2 d2 s2
  subst c2 d2 s2
  refine PySem.concat_meets ⟨_, e1, rfl⟩ ⟨_, e2, rfl⟩ noFill_list_add seq_list_add F.slot_list_add F.entry_list_add (F.args_list_add_2 _ _) (list_add_any l its.toArray n1 b its2.toArray n2 osl1 osl (by rw [List.size_toArray, List.size_toArray]; omega)) ⟨e1, e2, ?_⟩
  have ea : its.toArray ++ its2.toArray = (its ++ its2).toArray := by simp
  rw [ea]
  exact ⟨.ref _, _, I.lnew (t' := s.toks) (r.append r2) (by rw [List.length_append]; omega), rfl, q _ I.fresh⟩
end L2
namespace Mo
open PySem PySem.Spec L2
section
variable {X : Cx} {W : WW} {e a b c o : Expr} {es : List Expr} {pos ps : Pos}
/-! ### subscripts by values -/
theorem atI_map {α β : Type} {xs : List α} {ys : List β} {i : Int} {y : β} (hl : xs.length = ys.length) (h : atI ys i = some y) : ∃ (k : Nat) (x : α), ys[k]? = some y ∧ xs[k]? = some x ∧ atI xs i = some x := by
  unfold atI at h
  cases e : ixN ys.length i with
  | none =>
    rw [e] at h
    cases h
  | some k =>
    rw [e] at h
    have h' : ys[k]? = some y := h
    have hk : k < ys.length := (List.getElem?_eq_some_iff.mp h').1
    have hx : xs[k]? = some (xs[k]'(by omega)) := List.getElem?_eq_getElem (by omega)
    refine ⟨k, _, h', hx, ?_⟩
    have e2 : ixN xs.length i = some k := (congrArg (fun n => ixN n i) hl).trans e
    unfold atI
    rw [e2]
    exact hx
def fIx : D → D → Option D
  | .lst ds, .int i => atI ds i
  | .tup ds, .int i => atI ds i
  | .str x, .int i => if x.length ≤ sizeLine then (atI x.cps.toList i).map fun c => .str ⟨#[c]⟩ else none
  | _, _ => none
theorem os_ix {K : PySem.W.Frag} : OpS K (rIx K) fIx := fun J p g σ H v w x y z Q R rv rw' h q => by
  unfold fIx at h
  split at h
  · rename_i ds i
    obtain ⟨a, vs, rfl, s, r⟩ := rep_lst rv
    cases rep_int rw'
    obtain ⟨k, u, h1, h2, h3⟩ := atI_map r.len h
    obtain ⟨d, e1, e2⟩ := r.get h2
    rw [h1] at e1
    cases e1
    exact .inl ⟨a, vs, i, u, rfl, rfl, sl_of s, h3, q p H .refl R _ e2⟩
  · rename_i ds i
    obtain ⟨a, vs, rfl, s, r⟩ := rep_tup rv
    cases rep_int rw'
    obtain ⟨k, u, h1, h2, h3⟩ := atI_map r.len h
    obtain ⟨d, e1, e2⟩ := r.get h2
    rw [h1] at e1
    cases e1
    exact .inr (.inl ⟨a, vs, i, u, rfl, rfl, st_del s, h3, q p H .refl R _ e2⟩)
  · rename_i x i
    split at h
    · rename_i hz
      cases rep_str rv
      cases rep_int rw'
      cases e1 : atI x.cps.toList i with
      | none =>
        rw [e1] at h
        cases h
      | some c =>
        rw [e1] at h
        cases h
        exact .inr (.inr ⟨x, i, c, rfl, rfl, hz, e1, q p H .refl R _ (.str _)⟩)
    · cases h
  · cases h
theorem e_ix {ma mb : M D} (ha : EF X W a ma) (hb : EF X W b mb) (hs : PlainIx b := by exact fun _ _ => rfl) : EF X W (.Subscript a b pos) (mBin fIx ma mb) := fun J p g σ H R0 r hm Q hp =>
  of_pe (pe_ix ix_seq semE semE hs) (ha.then R0 hm hp fun x g1 p1 H1 v ad1 R1 rv hm1 hp1 => hb.then R1 hm1 hp1 fun y g2 p2 H2 w ad2 R2 rw' hm2 hp2 => by
    obtain ⟨z, hz, hq⟩ := post_lift hm2 hp2 R2
    exact os_ix J p2 g2 σ H2 v w x y z Q R2 (rv.le ad2.le) rw' hz hq)
/-! ### slices -/
def cutD (xs : List D) (lo hi : Option Int) : List D := (xs.drop (HT.sIx xs.length 0 lo)).take (HT.sIx xs.length xs.length hi - HT.sIx xs.length 0 lo)
theorem Reps.take {K : PySem.W.Frag} {H : Hp} {vs : List V} {ds : List D} (h : Reps K H vs ds) : ∀ n, Reps K H (vs.take n) (ds.take n) := by
  induction vs generalizing ds with
  | nil =>
    cases h
    exact fun n => by rw [List.take_nil, List.take_nil]; exact .nil
  | cons v r ih =>
    cases h with
    | cons a b =>
      intro n
      cases n with
      | zero => exact .nil
      | succ n => exact .cons a (ih b n)
theorem Reps.drop {K : PySem.W.Frag} {H : Hp} {vs : List V} {ds : List D} (h : Reps K H vs ds) : ∀ n, Reps K H (vs.drop n) (ds.drop n) := by
  induction vs generalizing ds with
  | nil =>
    cases h
    exact fun n => by rw [List.drop_nil, List.drop_nil]; exact .nil
  | cons v r ih =>
    cases h with
    | cons a b =>
      intro n
      cases n with
      | zero => exact .cons a b
      | succ n => exact ih b n
structure SemP (X : Cx) (e : Option Expr) (σ : St) (H : Hp) (Q : Option Int → Hp → Prop) : Prop where
  run : ∀ (pins : List (Addr × Obj)) (s : Shared), Inv X pins σ H s → wpAny (model X.prog X.w) X.A (evalPart e X.env) (fun u s' => ∃ o H', Inv X pins σ H' s' ∧ IsPart u o ∧ Q o H') X.xe s
def EP' (X : Cx) (W : WW) (e : Option Expr) (m : M (Option Int)) : Prop := ∀ J p g σ H, Rl X.K J p g σ H → ∀ r, m g = some r → ∀ Q : Option Int → Hp → Prop, Post X.K W J p g σ H r (fun o _ _ H' => Q o H') → SemP X e σ H Q
def asI : D → Option (Option Int)
  | .int i => some (some i)
  | _ => none
def mPart (m : M D) : M (Option Int) := m.bind fun d => lift (asI d)
theorem EP'.then {β : Type} {lo : Option Expr} {J : Hp} {p : Mt} {g : G} {σ : St} {H : Hp} {q : β → G → Mt → Hp → Prop} {r : R β} {m : M (Option Int)} {k : Option Int → M β} (h : EP' X W lo m) (R0 : Rl X.K J p g σ H) (hm : m.bind k g = some r) (hp : Post X.K W J p g σ H r q) {Q : Option Int → Hp → Prop}
    (hk : ∀ b g1 p1 H1, Ad g σ p H g1 p1 H1 → Rl X.K J p1 g1 σ H1 → k b g1 = some r → Post X.K W J p1 g1 σ H1 r q → Q b H1) : SemP X lo σ H Q := by
  unfold M.bind at hm
  cases e1 : m g with
  | none => rw [e1] at hm; cases hm
  | some r1 =>
    cases r1 with
    | ok d g1 =>
      rw [e1] at hm
      exact h J p g σ H R0 _ e1 Q fun p1 H1 ad R1 => hk d g1 p1 H1 ad R1 hm (hp.adv ad)
    | ex E g1 =>
      rw [e1] at hm
      cases hm
      exact h J p g σ H R0 _ e1 Q hp
def mSl {α : Type} (f : D → Option Int → Option Int → Option α) (ma : M D) (ml mh : M (Option Int)) : M α := ma.bind fun x => ml.bind fun l => mh.bind fun u => lift (f x l u)
def fSlS : D → Option Int → Option Int → Option D
  | .str x, l, u => if x.length ≤ sizeLine then some (.str (cutS x l u)) else none
  | .tup ds, l, u => if HT.sIx ds.length 0 l = 0 ∧ HT.sIx ds.length ds.length u = ds.length then none else some (.tup (cutD ds l u))
  | _, _, _ => none
def fSlL : D → Option Int → Option Int → Option O
  | .lst ds, l, u => some (.l (cutD ds l u))
  | _, _, _ => none
/-! ### own lists that change -/
def onL {α : Type} (i : Nat) (k : List D → M α) : M α := fun g => match g.s[i]? with
  | some (.o (.l xs)) => k xs g
  | _ => none
theorem onL_some {α : Type} {i : Nat} {k : List D → M α} {g : G} {r : R α} (h : onL i k g = some r) : ∃ xs, g.s[i]? = some (.o (.l xs)) ∧ k xs g = some r := by
  unfold onL at h
  split at h
  · rename_i xs e
    exact ⟨xs, e, h⟩
  · cases h
/-- e as a statement -/
def mExpr (m : M D) : M Oc := m.bind fun _ => ret .nx
def toL (i : Nat) (o : Option (List D × D)) : M D := fun g => match o with
  | some (ys, z) => some (.ok z (g.set i (.o (.l ys))))
  | none => none
def mLm1 (i : Nat) (f : List D → D → Option (List D × D)) (m : M D) : M D := onL i fun _ => m.bind fun d => onL i fun xs => toL i (f xs d)
def mLm0 (i : Nat) (f : List D → Option (List D × D)) : M D := onL i fun xs => toL i (f xs)
section
variable {K : PySem.W.Frag}
theorem Reps.erase {H : Hp} {vs : List V} {ds : List D} (h : Reps K H vs ds) : ∀ n, Reps K H (vs.eraseIdx n) (ds.eraseIdx n) := by
  induction vs generalizing ds with
  | nil =>
    cases h
    exact fun n => by rw [List.eraseIdx_nil, List.eraseIdx_nil]; exact .nil
  | cons v r ih =>
    cases h with
    | cons a b =>
      intro n
      cases n with
      | zero => exact b
      | succ n => exact .cons a (ih b n)
end
end
end Mo
set_option Elab.async false
set_option linter.all false
set_option maxRecDepth 100000
set_option maxHeartbeats 4000000
/-! Mo, part nine: dicts, in, sums of lists, isinstance, methods of texts. -/
namespace Mo
open PySem PySem.Spec L2
section
variable {X : Cx} {W : WW} {e a b c o : Expr} {es : List Expr} {pos ps : Pos}
section
variable {K : PySem.W.Frag}
/-! ### keys -/
def asKey : D → Option Key
  | .int i => some (.inl i)
  | .str x => some (.inr x)
  | _ => none
def asKeys : List D → Option (List Key)
  | [] => some []
  | d :: ds => match asKey d, asKeys ds with
    | some k, some r => some (k :: r)
    | _, _ => none
def kD : Key → D
  | .inl i => .int i
  | .inr x => .str x
theorem rep_key {H : Hp} {v : V} {d : D} {k : Key} (h : Rep K H v d) (e : asKey d = some k) : v = kV k := by
  cases d <;> first | (cases e; done) | skip
  · cases e
    exact rep_int h
  · cases e
    exact rep_str h
theorem reps_keys {H : Hp} : ∀ {ds : List D} {vs : List V} {ks : List Key}, Reps K H vs ds → asKeys ds = some ks → vs = ks.map kV
  | [], _, _, h, e => by
    cases h
    cases e
    rfl
  | d :: ds, _, ks, h, e => by
    cases h with
    | cons a b =>
      simp only [asKeys] at e
      cases e1 : asKey d with
      | none => rw [e1] at e; cases e
      | some k =>
        cases e2 : asKeys ds with
        | none => rw [e1, e2] at e; cases e
        | some r =>
          rw [e1, e2] at e
          cases e
          rw [rep_key a e1, reps_keys b e2]
          rfl
theorem key_rep {H : Hp} : ∀ k : Key, Rep K H (kV k) (kD k)
  | .inl i => .int i
  | .inr x => .str x
theorem keys_reps {H : Hp} : ∀ ks : List Key, Reps K H (ks.map kV) (ks.map kD)
  | [] => .nil
  | k :: r => .cons (key_rep k) (keys_reps r)
/-! ### what a dict holds -/
def valD {κ : Type} [DecidableEq κ] (kvs : List (κ × D)) (k : κ) : Option D := (kvs.find? fun kv => decide (kv.1 = k)).map (·.2)
def putD {κ : Type} [DecidableEq κ] (kvs : List (κ × D)) (k : κ) (v : D) : List (κ × D) :=
  if (kvs.any fun kv => decide (kv.1 = k)) = true then kvs.map (fun kv => if kv.1 = k then (kv.1, v) else kv) else kvs ++ [(k, v)]
theorem repK_val {H : Hp} {k : Key} : ∀ {vs : List (Key × V)} {ds : List (Key × D)}, RepK K H vs ds → (∀ d, valD ds k = some d → ∃ v, valV vs k = some v ∧ Rep K H v d) ∧ (valD ds k = none → valV vs k = none)
  | _, _, .nil => ⟨fun d e => (nomatch e), fun _ => rfl⟩
  | _, _, .cons (k := k') (v := v') (d := d') (kvs := vs) (es := ds) h r => by
    obtain ⟨h1, h2⟩ := repK_val (k := k) r
    by_cases e : k' = k
    · refine ⟨fun d q => ?_, fun q => ?_⟩
      · have q' : valD ((k', d') :: ds) k = some d' := by simp [valD, List.find?_cons, e]
        rw [q'] at q
        cases q
        exact ⟨v', valV_pos e, h⟩
      · have q' : valD ((k', d') :: ds) k = some d' := by simp [valD, List.find?_cons, e]
        rw [q'] at q
        cases q
    · have q' : valD ((k', d') :: ds) k = valD ds k := by simp [valD, List.find?_cons, e]
      rw [q', valV_neg e]
      exact ⟨h1, h2⟩
theorem repT_val {H : Hp} {k : List Key} : ∀ {vs : List (List Key × V)} {ds : List (List Key × D)}, RepT K H vs ds → (∀ d, valD ds k = some d → ∃ v, valV vs k = some v ∧ Rep K H v d) ∧ (valD ds k = none → valV vs k = none)
  | _, _, .nil => ⟨fun d e => (nomatch e), fun _ => rfl⟩
  | _, _, .cons (k := k') (v := v') (d := d') (kvs := vs) (es := ds) h r => by
    obtain ⟨h1, h2⟩ := repT_val (k := k) r
    by_cases e : k' = k
    · refine ⟨fun d q => ?_, fun q => ?_⟩
      · have q' : valD ((k', d') :: ds) k = some d' := by simp [valD, List.find?_cons, e]
        rw [q'] at q
        cases q
        exact ⟨v', valV_pos e, h⟩
      · have q' : valD ((k', d') :: ds) k = some d' := by simp [valD, List.find?_cons, e]
        rw [q'] at q
        cases q
    · have q' : valD ((k', d') :: ds) k = valD ds k := by simp [valD, List.find?_cons, e]
      rw [q', valV_neg e]
      exact ⟨h1, h2⟩
theorem repK_any {H : Hp} {k : Key} : ∀ {vs : List (Key × V)} {ds : List (Key × D)}, RepK K H vs ds → (vs.any fun kv => decide (kv.1 = k)) = (ds.any fun kv => decide (kv.1 = k))
  | _, _, .nil => rfl
  | _, _, .cons h r => by
    rw [List.any_cons, List.any_cons, repK_any r]
theorem repK_len {H : Hp} : ∀ {vs : List (Key × V)} {ds : List (Key × D)}, RepK K H vs ds → vs.length = ds.length
  | _, _, .nil => rfl
  | _, _, .cons h r => congrArg (· + 1) (repK_len r)
theorem repT_len {H : Hp} : ∀ {vs : List (List Key × V)} {ds : List (List Key × D)}, RepT K H vs ds → vs.length = ds.length
  | _, _, .nil => rfl
  | _, _, .cons h r => congrArg (· + 1) (repT_len r)
theorem repK_app {H : Hp} {k : Key} {v : V} {d : D} (h : Rep K H v d) : ∀ {vs : List (Key × V)} {ds : List (Key × D)}, RepK K H vs ds → RepK K H (vs ++ [(k, v)]) (ds ++ [(k, d)])
  | _, _, .nil => .cons h .nil
  | _, _, .cons h' r => .cons h' (repK_app h r)
theorem repK_map {H : Hp} {k : Key} {v : V} {d : D} (h : Rep K H v d) : ∀ {vs : List (Key × V)} {ds : List (Key × D)}, RepK K H vs ds → RepK K H (vs.map fun kv => if kv.1 = k then (kv.1, v) else kv) (ds.map fun kv => if kv.1 = k then (kv.1, d) else kv)
  | _, _, .nil => .nil
  | _, _, .cons (k := k') h' r => by
    rw [List.map_cons, List.map_cons]
    by_cases e : k' = k
    · rw [if_pos e, if_pos e]
      exact .cons h (repK_map h r)
    · rw [if_neg e, if_neg e]
      exact .cons h' (repK_map h r)
theorem repK_put {H : Hp} {k : Key} {v : V} {d : D} {vs : List (Key × V)} {ds : List (Key × D)} (r : RepK K H vs ds) (h : Rep K H v d) : RepK K H (putK vs k v) (putD ds k d) := by
  unfold putK putD
  rw [repK_any r]
  split
  · exact repK_map h r
  · exact repK_app h r
/-! ### d[k], k in d, d.get(k, x), by frozen data -/
def getD (d k : D) : Option (Option D) := match d, k with
  | .dk kvs, k => (asKey k).map fun k => valD kvs k
  | .dt kvs, .tup ks => (asKeys ks).map fun k => valD kvs k
  | _, _ => none
theorem dget_of {p : Mt} {H : Hp} {v w : V} {d k : D} {r : Option D} (rv : Rep K (del p H) v d) (rw' : Rep K (del p H) w k) (e : getD d k = some r) :
    ∃ a u, v = .ref a ∧ DGet H a w u ∧ (∀ x, r = some x → ∃ y, u = some y ∧ Rep K (del p H) y x) ∧ (r = none → u = none) := by
  unfold getD at e
  split at e
  · rename_i kvs
    cases q : asKey k with
    | none => rw [q] at e; cases e
    | some kk =>
      rw [q] at e
      cases e
      cases rv with
      | dk s rr =>
        obtain ⟨h1, h2⟩ := repK_val (k := kk) rr
        refine ⟨_, valV _ kk, rfl, .inl ⟨_, kk, (vw_of s).rd, rep_key rw' q, rfl⟩, fun x ex => ?_, h2⟩
        obtain ⟨y, e1, e2⟩ := h1 x ex
        exact ⟨y, e1, e2⟩
  · rename_i kvs ks
    cases q : asKeys ks with
    | none => rw [q] at e; cases e
    | some kk =>
      rw [q] at e
      cases e
      cases rv with
      | dt s rr =>
        obtain ⟨b, ws, rfl, sb, rb⟩ := rep_tup rw'
        have ew := reps_keys rb q
        subst ew
        obtain ⟨h1, h2⟩ := repT_val (k := kk) rr
        refine ⟨_, valV _ kk, rfl, .inr ⟨_, kk, b, (vw_of s).rd, rfl, del_of sb, rfl⟩, fun x ex => ?_, h2⟩
        obtain ⟨y, e1, e2⟩ := h1 x ex
        exact ⟨y, e1, e2⟩
  · cases e
end
def fDGet (d k : D) : Option D := (getD d k).bind id
theorem e_dget {ma mb : M D} (hu : X.A.units + 1 < cLine) (ha : EF X W a ma) (hb : EF X W b mb) (hs : L2.NoSl b := by exact fun _ _ => rfl) : EF X W (.Subscript a b pos) (mBin fDGet ma mb) := fun J p g σ H R0 r hm Q hp =>
  of_pe (pe_dget hu semE semE hs) (ha.then R0 hm hp fun x g1 p1 H1 v ad1 R1 rv hm1 hp1 => hb.then R1 hm1 hp1 fun y g2 p2 H2 w ad2 R2 rw' hm2 hp2 => by
    obtain ⟨z, hz, hq⟩ := post_lift hm2 hp2 R2
    unfold fDGet at hz
    cases e : getD x y with
    | none => rw [e] at hz; cases hz
    | some u =>
      rw [e] at hz
      have hz' : u = some z := hz
      obtain ⟨A, u', ev, g1, g2, _⟩ := dget_of (rv.le ad2.le) rw' e
      obtain ⟨y', e1, e2⟩ := g2 z hz'
      subst e1
      exact ⟨A, y', ev, g1, hq p2 H2 .refl R2 _ e2⟩)
def fDIn (neg : Bool) (k d : D) : Option D := (getD d k).map fun u => .bl (if neg then !u.isSome else u.isSome)
/-! ### in a list, a tuple, a text -/
def flatD : D → Bool
  | .non => true
  | .bl _ => true
  | .int _ => true
  | .str _ => true
  | _ => false
def flV : D → V
  | .non => .non
  | .bl b => .bl b
  | .int i => .int i
  | .str x => .str x
  | _ => .non
def inD (x : D) (ds : List D) : Bool := (ds.map flV).any fun y => eqV y (flV x)
def seqD : D → Option (List D)
  | .lst ds => some ds
  | .tup ds => some ds
  | _ => none
def fIn (neg : Bool) (x y : D) : Option D := match seqD y with
  | some ds => if flatD x && ds.all flatD then some (.bl (if neg then !inD x ds else inD x ds)) else none
  | none => none
def fInS (neg : Bool) : D → D → Option D
  | .str i, .str j => some (.bl (if neg then !(!(Builtin.Str.occurrences j i 0 j.length 1).isEmpty) else !(Builtin.Str.occurrences j i 0 j.length 1).isEmpty))
  | _, _ => none
/-! ### + of lists, * of lists -/
def fCatL : D → D → Option O
  | .lst xs, .lst ys => if xs.length + ys.length ≤ sizeLine then some (.l (xs ++ ys)) else none
  | _, _ => none
def mBinO (f : D → D → Option O) (ma mb : M D) : M O := ma.bind fun x => mb.bind fun y => lift (f x y)
theorem eo_cat {ma mb : M D} (ha : EF X W a ma) (hb : EF X W b mb) : EO X W (.BinOp a .Add b pos) (mBinO fCatL ma mb) := fun J p g σ H R0 r hm Q hp =>
  of_pe (pe_op op_catS semE semE) (ha.then R0 hm hp fun x g1 p1 H1 v ad1 R1 rv hm1 hp1 => hb.then R1 hm1 hp1 fun y g2 p2 H2 w ad2 R2 rw' hm2 hp2 => by
    obtain ⟨z, hz, hq⟩ := post_liftO hm2 hp2 (ad1.trans ad2)
    unfold fCatL at hz
    split at hz
    · split at hz
      · rename_i hl
        cases hz
        obtain ⟨A, vs, rfl, s, r⟩ := rep_lst (rv.le ad2.le)
        obtain ⟨B, ws, rfl, s2, r2⟩ := rep_lst rw'
        refine ⟨A, B, vs, ws, rfl, rfl, sl_of s, sl_of s2, by rw [r.len, r2.len]; exact hl, fun q hq' => ?_⟩
        obtain ⟨R3, ad3, m3, j3, n3, le3⟩ := R2.hide (o := .lst (vs ++ ws)) hq'
        exact hq _ _ ad3 R3 q m3 hq' n3 ⟨_, upd_same, (r.app r2).le le3⟩
      · cases hz
    · cases hz)
/-! ### own dicts -/
def putO (o : O) (k v : D) : Option O := match o, k with
  | .k kvs, k => match asKey k with
    | some k => if kvs.length < sizeLine then some (.k (putD kvs k v)) else none
    | none => none
  | .t kvs, .tup ks => match asKeys ks with
    | some k => if kvs.length < sizeLine then some (.t (putD kvs k v)) else none
    | none => none
  | _, _ => none
def onO {α : Type} (i : Nat) (k : O → M α) : M α := fun g => match g.s[i]? with
  | some (.o o) => k o g
  | _ => none
theorem onO_some {α : Type} {i : Nat} {k : O → M α} {g : G} {r : R α} (h : onO i k g = some r) : ∃ o, g.s[i]? = some (.o o) ∧ k o g = some r := by
  unfold onO at h
  split at h
  · rename_i o e
    exact ⟨o, e, h⟩
  · cases h
/-- d[k] = v -/
def mDPut (i : Nat) (mk mv : M D) : M Oc := mv.bind fun v => onO i fun _ => mk.bind fun k => onO i fun o g => match putO o k v with
  | some o' => some (.ok .nx (g.set i (.o o')))
  | none => none
end
end Mo
set_option Elab.async false
set_option linter.all false
set_option maxRecDepth 100000
set_option maxHeartbeats 4000000
/-! Mo, part ten: own things read in their place; d.get; methods of texts; isinstance. -/
namespace Mo
open PySem PySem.Spec L2
section
variable {X : Cx} {W : WW} {e a b c o : Expr} {es : List Expr} {pos ps : Pos}
section
variable {x : Str} {px : Pos}
/-- d[k], d the def's own -/
def mDGetQ (i : Nat) (mk : M D) : M D := onO i fun _ => mk.bind fun k => onO i fun o => lift (fDGet o.d k)
def mDInQ (neg : Bool) (i : Nat) (mk : M D) : M D := mk.bind fun k => onO i fun o => lift (fDIn neg k o.d)
/-- xs[k], xs the def's own -/
def mIxQ (i : Nat) (mk : M D) : M D := onL i fun _ => mk.bind fun k => onL i fun xs => lift (fIx (.lst xs) k)
/-- len(xs), xs the def's own -/
def mLenQ (i : Nat) : M D := onL i fun xs => ret (.int xs.length)
end
/-! ### d.get(k, x) -/
def fDGet2 (d k x : D) : Option D := (getD d k).map fun u => u.getD x
def isDic : D → Bool
  | .dk _ => true
  | .dt _ => true
  | _ => false
def mGet2 (md mk mx : M D) : M D := md.bind fun d => (if isDic d = true then mk.bind fun k => mx.bind fun x => lift (fDGet2 d k x) else bad)
def mGet2Q (i : Nat) (mk mx : M D) : M D := onO i fun o0 => (if isDic o0.d = true then mk.bind fun k => mx.bind fun x => onO i fun o => lift (fDGet2 o.d k x) else bad)
/-! ### methods of texts -/
/-- s.m(e), s a text -/
def mMs1 {α : Type} (f : D → D → Option α) (ma mb : M D) : M α := ma.bind fun x => (match x with | .str _ => mb.bind fun y => lift (f x y) | _ => bad)
/-! ### isinstance(e, T), T a built-in class -/
def tyN : D → Option String
  | .non => some "NoneType"
  | .bl _ => some "bool"
  | .int _ => some "int"
  | .str _ => some "str"
  | .lst _ => some "list"
  | .tup _ => some "tuple"
  | .dk _ => some "dict"
  | .dt _ => some "dict"
  | _ => none
def fIsi (cls : String) (d : D) : Option D := ((tyN d).bind fun n => kitB n cls).map .bl
def mIsi (cls : String) (m : M D) : M D := m.bind fun d => lift (fIsi cls d)
end
end Mo
set_option Elab.async false
set_option linter.all false
set_option maxRecDepth 100000
set_option maxHeartbeats 4000000
/-! Mo, part ten: what is walked; a dict is locked meanwhile; for. -/
namespace Mo
open PySem PySem.Spec L2
/-! ### a dict that is locked -/
inductive Lk (X : Cx) (p : Mt) (J H : Hp) : Hp → Hp → Prop
  | no : Lk X p J H J H
  | on {d : Addr} {od : Obj} {u : HO} : isD u = true → H d = some u → p.d ≠ some d → d ∉ p.o → (∀ o' u', X.H_0 d ≠ some (.frz o' u')) → Lk X p J H (upd J d (.frz od u)) (upd H d (.frz od u))
section
variable {X : Cx} {J J' H H' : Hp} {p p1 : Mt} {g g1 : G} {σ σ1 : St} {d : Addr} {od : Obj} {u : HO}
theorem vw_frz {o : HO} {x : Obj} (h : Vw H d u) (hd : H d = some (.frz x o)) (f : isFD u = false) (io : isD o = true) : u = o := by
  rcases h with z | ⟨i, y, z⟩
  · rw [hd] at z
    cases z
    have f : isD o = false := f
    rw [io] at f
    cases f
  · rw [hd] at z
    cases z
    rfl
theorem le_lock (h : H d = some u) (i : isD u = true) : Le (del p H) (del p (upd H d (.frz od u))) := fun a x f r => by
  have n := vw_no r
  have r := vw_of r
  refine vw_at n ?_
  by_cases e : a = d
  · subst e
    rcases r with z | ⟨i2, y, z⟩
    · rw [h] at z
      cases z
      exact .inr ⟨i, od, upd_same⟩
    · rw [h] at z
      cases z
      cases i
  · rcases r with z | ⟨i2, y, z⟩
    · exact .inl (by rw [upd_ne e]; exact z)
    · exact .inr ⟨i2, y, by rw [upd_ne e]; exact z⟩
theorem le_unlock (h : H d = some (.frz od u)) (i : isD u = true) : Le (del p H) (del p (upd H d u)) := fun a x f r => by
  have n := vw_no r
  have r := vw_of r
  refine vw_at n ?_
  by_cases e : a = d
  · subst e
    rw [vw_frz r h f i]
    exact .inl upd_same
  · rcases r with z | ⟨i2, y, z⟩
    · exact .inl (by rw [upd_ne e]; exact z)
    · exact .inr ⟨i2, y, by rw [upd_ne e]; exact z⟩
theorem Rl.moved {K : PySem.W.Frag} (R : Rl K J p g σ H) (hd : p.d ≠ some d) (ho : d ∉ p.o) {w w' : HO} (le : Le (del p H) (del p (upd H d w))) (old : ∀ a o, p.d ≠ some a → J' a = some o → upd H d w a = some o) (jn : ∀ a, a ≠ d → J a = none → J' a = none) (fz : ∀ a o, isFD o = true → upd H d w a = some o → J' a = some o) : Rl K J' p g σ (upd H d w) := by
  refine ⟨R.len, old, fun a e => (R.dice a e).le le (upd_ne fun z => hd (by rw [← z]; exact e)), R.dno, fun a m => ?_, fz, fun i x e => ?_, fun i x e => ?_, R.sd, R.inj⟩
  · rw [upd_ne fun z => ho (by rw [← z]; exact m)]
    exact R.lv a m
  · obtain ⟨v, h1, h2⟩ := R.sv i x e
    exact ⟨v, h1, h2.le le⟩
  · obtain ⟨q, h1, h2, h3, h4⟩ := R.so i x e
    have nq : q ≠ d := fun z => ho (by rw [← z]; exact h2)
    exact ⟨q, h1, h2, jn q nq h3, h4.le le (upd_ne nq)⟩
theorem Lk.rl (l : Lk X p J H J' H') (R : Rl X.K J p g σ H) : Rl X.K J' p g σ H' ∧ Ad g σ p H g p H' := by
  cases l with
  | no => exact ⟨R, .refl⟩
  | on i hu hd ho hn =>
    rename_i d od u
    refine ⟨R.moved (w' := u) hd ho (le_lock hu i) (fun a o n e => ?_) (fun a n e => by rw [upd_ne n]; exact e) (fun a o f e => ?_), ⟨rfl, le_lock hu i, fun a m _ => ⟨m, upd_ne fun z => ho (by rw [← z]; exact m)⟩, fun _ h => h, upd_th⟩⟩
    by_cases z : a = d
    · subst z
      rw [upd_same] at e ⊢
      exact e
    · rw [upd_ne z] at e ⊢
      exact R.old a o n e
    · by_cases z : a = d
      · subst z
        rw [upd_same] at e ⊢
        exact e
      · rw [upd_ne z] at e ⊢
        exact R.fz a o f e
/-- behind the walk, the lock let go -/
theorem Lk.off {H5 : Hp} {p5 : Mt} {g5 : G} {σ5 : St} (l : Lk X p1 J H J' H') (R1 : Rl X.K J p1 g1 σ1 H) (dd : p5.d = p1.d) (R : Rl X.K J' p5 g5 σ5 H5) : ∃ H6, (H6 = H5 ∨ ∃ d od u, H5 d = some (.frz od u) ∧ (∀ o' u', X.H_0 d ≠ some (.frz o' u')) ∧ H6 = upd H5 d u) ∧
    Rl X.K J p5 g5 σ5 H6 ∧ Le (del p5 H5) (del p5 H6) ∧ (∀ a, H5 a ≠ none → H6 a ≠ none) ∧ (∀ a ∈ p5.o, H6 a = H5 a) ∧ (∀ a, J a ≠ none → J' a ≠ none) := by
  cases l with
  | no => exact ⟨H5, .inl rfl, R, .refl _, fun _ h => h, fun _ _ => rfl, fun _ h => h⟩
  | on i hu hd ho hn =>
    rename_i d od u
    have h5 : H5 d = some (.frz od u) := R.old d _ (by rw [dd]; exact hd) upd_same
    have hd5 : p5.d ≠ some d := by rw [dd]; exact hd
    have ho5 : d ∉ p5.o := fun m => mut_frz (R.lv d m) h5
    refine ⟨upd H5 d u, .inr ⟨d, od, u, h5, hn, rfl⟩, R.moved (w' := u) hd5 ho5 (le_unlock h5 i) (fun a o n e => ?_) (fun a n e => by rw [upd_ne n] at e; exact e) (fun a o f e => ?_), le_unlock h5 i, upd_th, fun a m => upd_ne fun z => ho5 (by rw [← z]; exact m), fun a n => ?_⟩
    · by_cases z : a = d
      · subst z
        rw [upd_same]
        have := R1.old a o hd e
        rw [hu] at this
        exact this
      · rw [upd_ne z]
        exact R.old a o n (by rw [upd_ne z]; exact e)
    · by_cases z : a = d
      · subst z
        rw [upd_same] at e
        cases e
        cases u <;> first | (cases f; done) | (cases i; done)
      · rw [upd_ne z] at e
        have := R.fz a o f e
        rw [upd_ne z] at this
        exact this
    · by_cases z : a = d
      · rw [z, upd_same]
        exact Option.some_ne_none _
      · rw [upd_ne z]
        exact n
/-! ### .. let go at an end -/
def unlP (X : Cx) (P : St → Hp → Prop) : St → Hp → Prop := fun σ H => P σ H ∨ ∃ d od u, H d = some (.frz od u) ∧ (∀ o' u', X.H_0 d ≠ some (.frz o' u')) ∧ P σ (upd H d u)
def unlV (X : Cx) (P : VK) : VK := fun v H => P v H ∨ ∃ d od u, H d = some (.frz od u) ∧ (∀ o' u', X.H_0 d ≠ some (.frz o' u')) ∧ P v (upd H d u)
def unlD (X : Cx) (Dd : Ends) : Ends := ⟨unlP X Dd.nx, unlV X Dd.rt, unlP X Dd.bk, unlP X Dd.ct⟩
theorem unl_of {P : St → Hp → Prop} {H6 : Hp} (h : H6 = H ∨ ∃ d od u, H d = some (.frz od u) ∧ (∀ o' u', X.H_0 d ≠ some (.frz o' u')) ∧ H6 = upd H d u) (q : P σ H6) : unlP X P σ H := h.elim (fun z => .inl (z ▸ q)) fun ⟨d, od, u, h1, h2, h3⟩ => .inr ⟨d, od, u, h1, h2, h3 ▸ q⟩
theorem unlV_of {P : VK} {H6 : Hp} {v : V} (h : H6 = H ∨ ∃ d od u, H d = some (.frz od u) ∧ (∀ o' u', X.H_0 d ≠ some (.frz o' u')) ∧ H6 = upd H d u) (q : P v H6) : unlV X P v H := h.elim (fun z => .inl (z ▸ q)) fun ⟨d, od, u, h1, h2, h3⟩ => .inr ⟨d, od, u, h1, h2, h3 ▸ q⟩
theorem unlP_ok {P : St → Hp → Prop} {pins : List (Addr × Obj)} {s : Shared} (I : Inv X pins σ H s) (h : unlP X P σ H) : ∃ H6, Inv X pins σ H6 s ∧ P σ H6 := h.elim (fun z => ⟨H, I, z⟩) fun ⟨d, od, u, h1, h2, h3⟩ => ⟨_, I.unlock h1 h2, h3⟩
theorem unlV_ok {P : VK} {v : V} {pins : List (Addr × Obj)} {s : Shared} (I : Inv X pins σ H s) (h : unlV X P v H) : ∃ H6, Inv X pins σ H6 s ∧ P v H6 := h.elim (fun z => ⟨H, I, z⟩) fun ⟨d, od, u, h1, h2, h3⟩ => ⟨_, I.unlock h1 h2, h3⟩
theorem semS_unl {st : Stmt} {Dd : Ends} (h : SemS X st (unlD X Dd) σ H) : SemS X st Dd σ H := ⟨fun pins s I => thn (h.run pins s I) fun f s1 q => by
  cases f with
  | next =>
    obtain ⟨σ', H', I1, q⟩ := q
    obtain ⟨H6, I2, q⟩ := unlP_ok I1 q
    exact ⟨σ', H6, I2, q⟩
  | brk =>
    obtain ⟨σ', H', I1, q⟩ := q
    obtain ⟨H6, I2, q⟩ := unlP_ok I1 q
    exact ⟨σ', H6, I2, q⟩
  | cont =>
    obtain ⟨σ', H', I1, q⟩ := q
    obtain ⟨H6, I2, q⟩ := unlP_ok I1 q
    exact ⟨σ', H6, I2, q⟩
  | ret u =>
    obtain ⟨v, σ', H', I1, r, q⟩ := q
    obtain ⟨H6, I2, q⟩ := unlV_ok I1 q
    exact ⟨v, σ', H6, I2, r, q⟩⟩
theorem semE_unl {e : Expr} {Q : VK} (h : SemE X e σ H (unlV X Q)) : SemE X e σ H Q := ⟨fun pins s I => thn (h.run pins s I) fun v s1 ⟨x, H1, I1, r, q⟩ => by
  obtain ⟨H6, I2, q⟩ := unlV_ok I1 q
  exact ⟨x, H6, I2, r, q⟩⟩
/-- an expression whose dict is locked behind it -/
def tLockA (X : Cx) (td : TE) : TE := fun σ H Q => td σ H fun x H1 => Q x H1 ∨ ∃ d u, H1 d = some u ∧ Mut (some u) ∧ ∀ od, (∀ o' u', X.H_0 d ≠ some (.frz o' u')) → Q x (upd H1 d (.frz od u))
theorem pe_lockA {e : Expr} {td : TE} (he : PE X e td) : PE X e (tLockA X td) := ⟨fun pins s σ H Q I h => thn (he.run pins s σ H _ I h) fun v s1 ⟨x, H1, I1, r1, q⟩ => by
  rcases q with q | ⟨d, u, h1, h2, q⟩
  · exact ⟨x, H1, I1, r1, q⟩
  · obtain ⟨od, I2⟩ := I1.lock h1 h2
    exact ⟨x, _, I2, r1, q od (I1.nofrz h1 h2)⟩⟩
end
/-! ### a walk over data -/
structure Wk (K : PySem.W.Frag) (J : Hp) (p1 : Mt) (H1 : Hp) (Jt : It) (ds : List D) : Prop where
  ex : ∃ (Gg : Hp → Prop) (Y : Nat → Hp → V → Hp → Prop), Walk Jt ds.length Gg Y ∧ (∀ p g σ H, Rl K J p g σ H → p.d = p1.d → Le (del p1 H1) (del p H) → Gg H) ∧
    ∀ p g σ H i x H', Rl K J p g σ H → p.d = p1.d → Le (del p1 H1) (del p H) → i < ds.length → Y i H x H' → ∃ d, ds[i]? = some d ∧ Rl K J p g σ H' ∧ Ad g σ p H g p H' ∧ Rep K (del p H') x d
def EI (X : Cx) (W : WW) (tg it : Expr) (m : M (List D)) : Prop := ∀ J p g σ H, Rl X.K J p g σ H → ∀ r, m g = some r → ∀ Q : It → Hp → Prop, Post X.K W J p g σ H r (fun ds _ p' H1 => ∀ Jt J' H', Lk X p' J H1 J' H' → Wk X.K J' p' H' Jt ds → Q Jt H') → SemI X tg it σ H Q
section
variable {X : Cx} {W : WW} {e a b c : Expr} {es : List Expr} {st : Stmt} {sts th el body : List Stmt} {pos ps : Pos}
theorem s_for {tg it : Expr} {is : List Nat} {mi : M (List D)} {f : D → G → Option G} {mb : M Oc} (hc : X.calm = true) (hpa : PassesOwn (model X.prog X.w) X.A X.env X.xe) (hi : EI X WN tg it mi) (hg : ES X is tg f) (hb : SB X WN body mb) (hfs : ∀ y, foldedSetIterable it X.env y = pure y := by intro _; rfl) :
    SS X WN (.For tg it body [] pos) (mFor f mi mb) := fun J p g σ H R0 r hm Dd hp => semS_unl (by
  obtain ⟨r1, e1, hq⟩ := post_s R0 hm hp
  refine of_ps (ps_for hpa hc semI semG semSs hfs) (hi J p g σ H R0 r1 e1 _ (hq _ fun ds g1 p1 H1 er ad R1 hk hp1 Jt J' H1' lk wk => ?_))
  obtain ⟨R1', ad1⟩ := lk.rl R1
  obtain ⟨Gg, Y, w, hG, hY⟩ := wk.ex
  have fin : ∀ {σ5 : St} {p5 : Mt} {H5 : Hp} {g5 : G}, As J' p1 H1' p5 H5 → Rl X.K J' p5 g5 σ5 H5 → ∃ H6, (H6 = H5 ∨ ∃ d od u, H5 d = some (.frz od u) ∧ (∀ o' u', X.H_0 d ≠ some (.frz o' u')) ∧ H6 = upd H5 d u) ∧
      As J p1 H1 p5 H6 ∧ Rl X.K J p5 g5 σ5 H6 ∧ Le (del p5 H5) (del p5 H6) ∧ (∀ a ∈ p5.o, H6 a = H5 a) ∧ ∀ a, J a ≠ none → J' a ≠ none := fun {σ5 p5 H5 g5} a5 R5 => by
    obtain ⟨H6, h1, h2, h3, h4, h5, h6⟩ := lk.off R1 a5.dd R5
    exact ⟨H6, h1, ⟨a5.dd, ad1.le.trans (a5.le.trans h3), fun x m n => a5.ex x m (h6 x n), fun x n => h4 x (a5.th x (ad1.th x n))⟩, h2, h3, h5, h6⟩
  refine for_it w (fun k σ' H' => ∃ g' p', As J' p1 H1' p' H' ∧ Rl X.K J' p' g' σ' H' ∧ mLoop f mb (ds.drop k) g' = some r) ⟨g1, p1, .refl, R1', hk⟩ (fun k σ' H' _ ⟨g', p', a', R', _⟩ => hG p' g' σ' H' R' a'.dd a'.le) (fun k x σ' H' H2 hlt ⟨g', p', a', R', e'⟩ y => ?_) (fun σ' H' ⟨g', p', a', R', e'⟩ => ?_)
  · obtain ⟨d, ed, R2, ad2, rx⟩ := hY p' g' σ' H' k x H2 R' a'.dd a'.le hlt y
    have a2 : As J' p1 H1' p' H2 := a'.trans (ad2.as R')
    have e2 : ds.drop k = d :: ds.drop (k + 1) := by
      rw [List.drop_eq_getElem_cons hlt]
      rw [List.getElem?_eq_getElem hlt] at ed
      cases ed
      rfl
    rw [e2] at e'
    simp only [mLoop] at e'
    cases q1 : f d g' with
    | none =>
      rw [q1] at e'
      cases e'
    | some g3 =>
      rw [q1] at e'
      simp only at e'
      refine hg J' p' g' σ' H2 x d g3 R2 rx q1 _ fun σ3 sm R3 => ?_
      cases q2 : mb g3 with
      | none =>
        rw [q2] at e'
        cases e'
      | some r2 =>
        rw [q2] at e'
        refine hb J' p' g3 σ3 H2 R3 r2 q2 _ ?_
        cases r2 with
        | ex E g4 =>
          cases e'
          intro σ5 p5 H5 a5 R5
          obtain ⟨H6, h1, h2, h3, _⟩ := fin (a2.trans a5) R5
          exact hp1 σ5 p5 H6 h2 h3
        | ok o g4 =>
          cases o with
          | nx => exact fun σ5 p5 H5 a5 R5 => ⟨g4, p5, a2.trans a5, R5, e'⟩
          | ct => exact fun σ5 p5 H5 a5 R5 => ⟨g4, p5, a2.trans a5, R5, e'⟩
          | bk =>
            cases e'
            intro σ5 p5 H5 a5 R5
            obtain ⟨H6, h1, h2, h3, _⟩ := fin (a2.trans a5) R5
            exact unl_of h1 (hp1 σ5 p5 H6 h2 h3)
          | rt d2 =>
            cases e'
            intro σ5 p5 H5 v a5 R5 rv
            obtain ⟨H6, h1, h2, h3, h4, _⟩ := fin (a2.trans a5) R5
            exact unlV_of h1 (hp1 σ5 p5 H6 v h2 h3 (rv.le h4))
          | rto d2 =>
            cases e'
            intro σ5 p5 H5 q a5 R5 m1 m2 m3 m4
            obtain ⟨H6, h1, h2, h3, h4, h5, h6⟩ := fin (a2.trans a5) R5
            refine unlV_of h1 (hp1 σ5 p5 H6 q h2 h3 m1 ?_ m3 (m4.le h4 (h5 q m1)))
            cases e : J q with
            | none => rfl
            | some o => exact absurd m2 (h6 q (by rw [e]; exact Option.some_ne_none _))
  · rw [List.drop_length] at e'
    cases e'
    obtain ⟨H6, h1, h2, h3, _⟩ := fin a' R'
    exact unl_of h1 (hp1 σ' p' H6 h2 h3))
end
end Mo
set_option Elab.async false
set_option linter.all false
set_option maxRecDepth 100000
set_option maxHeartbeats 4000000
/-! Mo, between: zip and enumerate over lists and tuples, whichever stands where. -/
namespace Mo
open PySem PySem.Spec L2
open PyProof.Rows hiding St
/-- a list | a tuple -/
inductive Kd where
  | l | t
def Ik : Kd → Heap → Addr → Addr → Nat → Prop
  | .l => Heap.IsListIter
  | .t => Heap.IsTupleIter
/-! ### enumerate(e) -/
/-! ### zip(e, e2) -/
end Mo
set_option Elab.async false
set_option linter.all false
set_option maxRecDepth 100000
set_option maxHeartbeats 4000000
/-! Mo, part eleven: walks over data. -/
namespace Mo
open PySem PySem.Spec L2
def chars (x : Str) : List D := x.cps.toList.map fun c => .str ⟨#[c]⟩
/-- what a for goes through -/
def iterD : D → Option (List D)
  | .lst ds => some ds
  | .tup ds => some ds
  | .str x => some (chars x)
  | .dk kvs => some (kvs.map fun kv => kD kv.1)
  | .dt kvs => some (kvs.map fun kv => .tup (kv.1.map kD))
  | _ => none
def mIter (m : M D) : M (List D) := m.bind fun d => lift (iterD d)
section
variable {K : PySem.W.Frag} {J : Hp} {p1 : Mt} {H1 : Hp} {a b : Addr} {vs ws : List V} {ds es : List D}
theorem wk_list (ha : SqL K (del p1 H1) a vs) (ra : Reps K (del p1 H1) vs ds) : Wk K J p1 H1 (Itl K a) ds :=
  ⟨fun H => SqL K H a vs, YAt vs, by rw [← ra.len]; exact walk_list, fun p g σ H R dd le => sl_of (sl_le le ha), fun p g σ H i x H' R dd le hi ⟨e1, e2⟩ => by
    subst e1
    obtain ⟨d, h1, h2⟩ := (ra.le le).get e2
    exact ⟨d, h1, R, .refl, h2⟩⟩
theorem wk_tup (ha : del p1 H1 a = some (.tup vs)) (ra : Reps K (del p1 H1) vs ds) : Wk K J p1 H1 (Itt K a) ds :=
  ⟨fun H => SqT K H a vs, YAt vs, by rw [← ra.len]; exact walk_tup, fun p g σ H R dd le => st_del (le.ex ha rfl), fun p g σ H i x H' R dd le hi ⟨e1, e2⟩ => by
    subst e1
    obtain ⟨d, h1, h2⟩ := (ra.le le).get e2
    exact ⟨d, h1, R, .refl, h2⟩⟩
theorem chars_len (x : Str) : (chars x).length = x.cps.size := by
  unfold chars
  rw [List.length_map, Array.length_toList]
theorem wk_str (x : Str) : Wk K J p1 H1 (Its x) (chars x) :=
  ⟨fun _ => True, _, by rw [chars_len]; exact walk_str, fun _ _ _ _ _ _ _ => trivial, fun p g σ H i v H' R dd le hi y => by
    obtain ⟨e1, c, e2, e3⟩ := y
    subst e1
    subst e3
    refine ⟨.str ⟨#[c]⟩, ?_, R, .refl, .str _⟩
    unfold chars
    rw [List.getElem?_map, Array.getElem?_toList, e2]
    rfl⟩
theorem repK_get {H : Hp} : ∀ {vs : List (Key × V)} {es : List (Key × D)}, RepK K H vs es → ∀ {i : Nat} {k : Key} {v : V}, vs[i]? = some (k, v) → ∃ d, es[i]? = some (k, d) ∧ Rep K H v d
  | _, _, .nil, _, _, _, e => by cases e
  | _, _, .cons h r, 0, _, _, e => by
    cases e
    exact ⟨_, rfl, h⟩
  | _, _, .cons h r, i + 1, _, _, e => repK_get r (i := i) e
theorem repT_get {H : Hp} : ∀ {vs : List (List Key × V)} {es : List (List Key × D)}, RepT K H vs es → ∀ {i : Nat} {k : List Key} {v : V}, vs[i]? = some (k, v) → ∃ d, es[i]? = some (k, d) ∧ Rep K H v d
  | _, _, .nil, _, _, _, e => by cases e
  | _, _, .cons h r, 0, _, _, e => by
    cases e
    exact ⟨_, rfl, h⟩
  | _, _, .cons h r, i + 1, _, _, e => repT_get r (i := i) e
theorem wk_keys {o : Obj} {kvs : List (Key × V)} {eks : List (Key × D)} (hd : p1.d ≠ some a) (hJ : J a = some (.frz o (.dK kvs))) (r : RepK K (del p1 H1) kvs eks) : Wk K J p1 H1 (Itk a o kvs) (eks.map fun kv => kD kv.1) :=
  ⟨_, _, by rw [List.length_map, ← repK_len r]; exact walk_keys, fun p g σ H R dd le => R.old a _ (by rw [dd]; exact hd) hJ, fun p g σ H i x H' R dd le hi y => by
    obtain ⟨e1, k, v, e2, e3⟩ := y
    subst e1
    subst e3
    obtain ⟨d, h1, h2⟩ := repK_get r e2
    refine ⟨kD k, ?_, R, .refl, key_rep k⟩
    rw [List.getElem?_map, h1]
    rfl⟩
theorem Rl.vis_tup {g : G} {σ : St} {p : Mt} {H : Hp} {q : Addr} {xs : List V} (R : Rl K J p g σ H) (h : H q = some (.tup xs)) : del p H q = some (.tup xs) := by
  rw [del_at, h]
  rintro (z | z)
  · exact mut_tup (R.dice q z).mut h
  · exact mut_tup (R.lv q z) h
theorem wk_keysT {o : Obj} {kvs : List (List Key × V)} {eks : List (List Key × D)} (hd : p1.d ≠ some a) (hJ : J a = some (.frz o (.dT kvs))) (r : RepT K (del p1 H1) kvs eks) : Wk K J p1 H1 (Itkt a o kvs) (eks.map fun kv => .tup (kv.1.map kD)) :=
  ⟨_, _, by rw [List.length_map, ← repT_len r]; exact walk_keysT, fun p g σ H R dd le => R.old a _ (by rw [dd]; exact hd) hJ, fun p g σ H i x H' R dd le hi y => by
    obtain ⟨e1, k, v, q, e2, e3, e4⟩ := y
    subst e1
    subst e3
    obtain ⟨d, h1, h2⟩ := repT_get r e2
    refine ⟨.tup (k.map kD), ?_, R, .refl, .tup (R.vis_tup e4) (keys_reps k)⟩
    rw [List.getElem?_map, h1]
    rfl⟩
end
section
variable {X : Cx} {W : WW} {e a b c it tg : Expr} {es : List Expr} {pos ps : Pos}
theorem ei_any {m : M D} (h : EF X W it m) : EI X W tg it (mIter m) := fun J p g σ H R0 r hm Q hp => by
  unfold mIter M.bind at hm
  cases e1 : m g with
  | none =>
    rw [e1] at hm
    cases hm
  | some r1 =>
    rw [e1] at hm
    cases r1 with
    | ex E g1 =>
      cases hm
      exact of_pi (pi_list semE) (h J p g σ H R0 _ e1 _ hp)
    | ok d g1 =>
      cases d with
      | lst ds =>
        cases hm
        refine of_pi (pi_list semE) (h J p g σ H R0 _ e1 _ fun p1 H1 ad R1 v rv => ?_)
        obtain ⟨a, vs, rfl, ha, ra⟩ := rep_lst rv
        exact ⟨a, rfl, ⟨vs, sl_of ha⟩, hp p1 H1 ad R1 _ J H1 .no (wk_list ha ra)⟩
      | tup ds =>
        cases hm
        refine of_pi (pi_tup semE) (h J p g σ H R0 _ e1 _ fun p1 H1 ad R1 v rv => ?_)
        obtain ⟨a, vs, rfl, ha, ra⟩ := rep_tup rv
        exact ⟨a, rfl, ⟨vs, st_del ha⟩, hp p1 H1 ad R1 _ J H1 .no (wk_tup ha ra)⟩
      | str x =>
        cases hm
        refine of_pi (pi_str semE) (h J p g σ H R0 _ e1 _ fun p1 H1 ad R1 v rv => ?_)
        have := rep_str rv
        subst this
        exact ⟨x, rfl, hp p1 H1 ad R1 _ J H1 .no (wk_str x)⟩
      | dk kvs =>
        cases hm
        refine of_pi (pi_keys (pe_lockA semE)) (h J p g σ H R0 _ e1 _ fun p1 H1 ad R1 v rv => ?_)
        cases rv with
        | dk hv rk =>
          rename_i a vs
          have nh := vw_no hv
          have nd : p1.d ≠ some a := fun z => nh (.inl z)
          rcases vw_of hv with h1 | ⟨_, o, h1⟩
          · refine .inr ⟨a, .dK vs, h1, trivial, fun od hn => ⟨a, od, rfl, .inl ⟨vs, upd_same, hp p1 H1 ad R1 _ _ _ (.on rfl h1 nd (fun z => nh (.inr z)) hn) ?_⟩⟩⟩
            exact wk_keys nd upd_same (rk.le (le_lock h1 rfl))
          · refine .inl ⟨a, o, rfl, .inl ⟨vs, h1, hp p1 H1 ad R1 _ J H1 .no (wk_keys nd (R1.fz a _ rfl h1) rk)⟩⟩
      | dt kvs =>
        cases hm
        refine of_pi (pi_keys (pe_lockA semE)) (h J p g σ H R0 _ e1 _ fun p1 H1 ad R1 v rv => ?_)
        cases rv with
        | dt hv rk =>
          rename_i a vs
          have nh := vw_no hv
          have nd : p1.d ≠ some a := fun z => nh (.inl z)
          rcases vw_of hv with h1 | ⟨_, o, h1⟩
          · refine .inr ⟨a, .dT vs, h1, trivial, fun od hn => ⟨a, od, rfl, .inr ⟨vs, upd_same, hp p1 H1 ad R1 _ _ _ (.on rfl h1 nd (fun z => nh (.inr z)) hn) ?_⟩⟩⟩
            exact wk_keysT nd upd_same (rk.le (le_lock h1 rfl))
          · refine .inl ⟨a, o, rfl, .inr ⟨vs, h1, hp p1 H1 ad R1 _ J H1 .no (wk_keysT nd (R1.fz a _ rfl h1) rk)⟩⟩
      | non => cases hm
      | bl b => cases hm
      | int i => cases hm
      | ins C fs => cases hm
      | sx w xs => cases hm
      | cl C => cases hm
      | vd w m => cases hm
      | any => cases hm
      | exv C fs => cases hm
/-! ### range, zip, enumerate -/
def rngD (lo : Int) (n : Nat) : List D := (List.range n).map fun i => .int (lo + (i : Nat))
def fRng1 : List D → Option (List D)
  | [.int j] => if -(2 ^ 62) ≤ j ∧ j < 2 ^ 62 then some (rngD 0 j.toNat) else none
  | _ => none
def mWk (f : List D → Option (List D)) (ms : M (List D)) : M (List D) := ms.bind fun ds => lift (f ds)
theorem wk_rng {K : PySem.W.Frag} {J : Hp} {p1 : Mt} {H1 : Hp} (lo : Int) (n : Nat) : Wk K J p1 H1 (Itr lo n) (rngD lo n) := by
  have hl : (rngD lo n).length = n := by
    unfold rngD
    rw [List.length_map, List.length_range]
  refine ⟨fun _ => True, _, by rw [hl]; exact walk_range, fun _ _ _ _ _ _ _ => trivial, fun p g σ H i v H' R dd le hi y => ?_⟩
  obtain ⟨e1, e2⟩ := y
  subst e1
  subst e2
  refine ⟨.int (lo + (i : Nat)), ?_, R, .refl, .int _⟩
  rw [hl] at hi
  unfold rngD
  rw [List.getElem?_map, List.getElem?_range hi]
  rfl
/-- the end of a walk's making -/
theorem post_liftI {J : Hp} {p : Mt} {g : G} {σ : St} {H : Hp} {o : Option (List D)} {r : R (List D)} (hm : lift o g = some r) {q : List D → G → Mt → Hp → Prop} (hp : Post X.K W J p g σ H r q) (R0 : Rl X.K J p g σ H) : ∃ ds, o = some ds ∧ q ds g p H := by
  cases o with
  | none => cases hm
  | some ds =>
    cases hm
    exact ⟨ds, rfl, hp p H .refl R0⟩
theorem ei_rng1 {ms : M (List D)} (hn : X.mg "range" = none) (h : EA X W [a] ms) (hg : Gl X "range" := by rfl) (hs : starEach [a] X.env = [(false, eval a X.env)] := by rfl) : EI X W tg (.Call (.Name "range" ps) [a] [] pos) (mWk fRng1 ms) := fun J p g σ H R0 r hm Q hp =>
  of_pi (pi_range1 hg hn semA hs) (h.then R0 hm hp fun ds g1 p1 H1 vs ad R1 rs hk hq => by
    obtain ⟨es, h1, h2⟩ := post_liftI hk hq R1
    unfold fRng1 at h1
    split at h1
    · rename_i j
      split at h1
      · rename_i z
        cases h1
        obtain ⟨v, e, rv⟩ := reps1 rs
        rw [e, rep_int rv]
        exact ⟨j, rfl, z.1, z.2, h2 _ J H1 .no (wk_rng 0 j.toNat)⟩
      · cases h1
    · cases h1)
end
end Mo
set_option Elab.async false
set_option linter.all false
set_option maxRecDepth 100000
set_option maxHeartbeats 4000000
/-! Mo, part twelve: list comprehensions. -/
namespace Mo
open PySem PySem.Spec L2
/-! ### slots forgotten and given back -/
def wipeG (g : G) : List Nat → G
  | [] => g
  | v :: vs => (wipeG g vs).set v .un
def backG (g0 g : G) : List Nat → G
  | [] => g
  | v :: vs => match g0.s[v]? with
    | some x => (backG g0 g vs).set v x
    | none => backG g0 g vs
def plainSl : Option Sl → Bool
  | some .un => true
  | some (.v _) => true
  | _ => false
def noOwn (vs : List Nat) (g : G) : Bool := vs.all fun i => plainSl g.s[i]?
section
variable {K : PySem.W.Frag} {J : Hp} {p p1 p2 : Mt} {g g1 g2 : G} {σ : St} {H H1 H2 : Hp} {i : Nat} {vs : List Nat}
theorem wipeG_c (vs : List Nat) : (wipeG g vs).c = g.c := by
  induction vs with
  | nil => rfl
  | cons v vs ih => exact ih
theorem wipeG_len (vs : List Nat) : (wipeG g vs).s.length = g.s.length := by
  induction vs with
  | nil => rfl
  | cons v vs ih => exact (List.length_set ..).trans ih
theorem wipeG_in : ∀ {vs : List Nat} {i : Nat} {x : Sl}, i ∈ vs → (wipeG g vs).s[i]? = some x → x = .un
  | v :: vs, i, x, m, e => by
    rcases getE_set e with ⟨_, e2, _⟩ | ⟨n, e⟩
    · exact e2
    · exact wipeG_in ((List.mem_cons.mp m).resolve_left n) e
theorem wipeG_out : ∀ {vs : List Nat} {i : Nat}, i ∉ vs → (wipeG g vs).s[i]? = g.s[i]?
  | [], _, _ => rfl
  | v :: vs, i, n => by
    have n1 : v ≠ i := fun z => n (by rw [z]; exact List.mem_cons_self)
    show ((wipeG g vs).s.set v .un)[i]? = _
    rw [List.getElem?_set_ne n1]
    exact wipeG_out fun z => n (List.mem_cons_of_mem _ z)
theorem wipe_out' : ∀ {vs : List Nat} {i : Nat}, i ∉ vs → (L2.wipe σ vs)[i]? = σ[i]?
  | [], _, _ => rfl
  | v :: vs, i, n => by
    have n1 : v ≠ i := fun z => n (by rw [z]; exact List.mem_cons_self)
    show ((L2.wipe σ vs).set v none)[i]? = _
    rw [List.getElem?_set_ne n1]
    exact wipe_out' fun z => n (List.mem_cons_of_mem _ z)
theorem wipe_in : ∀ {vs : List Nat} {i : Nat}, i ∈ vs → (L2.wipe σ vs)[i]? = if i < σ.length then some none else none
  | v :: vs, i, m => by
    show ((L2.wipe σ vs).set v none)[i]? = _
    rw [getV_set, wipe_length]
    by_cases e : i = v
    · subst e
      by_cases l : i < σ.length
      · rw [if_pos ⟨rfl, l⟩, if_pos l]
      · rw [if_neg fun z => l z.2, if_neg l, List.getElem?_eq_none (by rw [wipe_length]; omega)]
    · rw [if_neg fun z => e z.1]
      exact wipe_in ((List.mem_cons.mp m).resolve_left e)
theorem wipe_same {σ2 : St} (s : Same vs g (L2.wipe σ vs) g1 σ2) : L2.wipe σ2 vs = L2.wipe σ vs := by
  have hl : σ2.length = σ.length := s.len.trans (wipe_length σ vs)
  refine List.ext_getElem? fun i => ?_
  by_cases m : i ∈ vs
  · rw [wipe_in m, wipe_in m, hl]
  · rw [wipe_out' m, s.at_ i m]
theorem NoSl.wipe {a : Addr} (n : NoSl g σ a) (vs : List Nat) : NoSl (wipeG g vs) (L2.wipe σ vs) a := fun i o e z => by
  by_cases m : i ∈ vs
  · cases wipeG_in m e
  · rw [wipeG_out m] at e
    rw [wipe_out' m] at z
    exact n i o e z
theorem Rl.wipe (R : Rl K J p g σ H) (vs : List Nat) : Rl K J p (wipeG g vs) (L2.wipe σ vs) H := by
  have out : ∀ {i : Nat} {x : Sl}, x ≠ .un → (wipeG g vs).s[i]? = some x → g.s[i]? = some x ∧ (L2.wipe σ vs)[i]? = σ[i]? := fun {i x} nx e => by
    by_cases m : i ∈ vs
    · exact absurd (wipeG_in m e) nx
    · rw [wipeG_out m] at e
      exact ⟨e, wipe_out' m⟩
  refine ⟨(wipeG_len vs).trans (R.len.trans (wipe_length σ vs).symm), R.old, fun a e => by rw [wipeG_c]; exact R.dice a e, R.dno, R.lv, R.fz, fun i d e => ?_, fun i o e => ?_, fun i e => ?_, fun i j o o' q e1 e2 e3 e4 => ?_⟩
  · obtain ⟨e1, e2⟩ := out (x := .v d) (fun z => nomatch z) e
    rw [e2]
    exact R.sv i d e1
  · obtain ⟨e1, e2⟩ := out (x := .o o) (fun z => nomatch z) e
    rw [e2]
    exact R.so i o e1
  · obtain ⟨e1, e2⟩ := out (x := .di) (fun z => nomatch z) e
    rw [e2]
    exact R.sd i e1
  · obtain ⟨h1, h2⟩ := out (x := .o o) (fun z => nomatch z) e1
    obtain ⟨h3, h4⟩ := out (x := .o o') (fun z => nomatch z) e2
    rw [h2] at e3
    rw [h4] at e4
    exact R.inj i j o o' q h1 h3 e3 e4
theorem backG_c : ∀ vs : List Nat, (backG g1 g vs).c = g.c
  | [] => rfl
  | v :: vs => by
    unfold backG
    split
    · exact backG_c vs
    · exact backG_c vs
theorem backG_len : ∀ vs : List Nat, (backG g1 g vs).s.length = g.s.length
  | [] => rfl
  | v :: vs => by
    unfold backG
    split
    · exact (List.length_set ..).trans (backG_len vs)
    · exact backG_len vs
theorem backG_out : ∀ {vs : List Nat} {i : Nat}, i ∉ vs → (backG g1 g vs).s[i]? = g.s[i]?
  | [], _, _ => rfl
  | v :: vs, i, n => by
    have n1 : v ≠ i := fun z => n (by rw [z]; exact List.mem_cons_self)
    have n2 : i ∉ vs := fun z => n (List.mem_cons_of_mem _ z)
    unfold backG
    split
    · show ((backG g1 g vs).s.set v _)[i]? = _
      rw [List.getElem?_set_ne n1]
      exact backG_out n2
    · exact backG_out n2
theorem backG_in (hl : g1.s.length = g.s.length) : ∀ {vs : List Nat} {i : Nat}, i ∈ vs → (backG g1 g vs).s[i]? = g1.s[i]?
  | v :: vs, i, m => by
    unfold backG
    by_cases e : i = v
    · subst e
      cases q : g1.s[i]? with
      | none =>
        dsimp only
        rw [List.getElem?_eq_none_iff] at q ⊢
        rw [backG_len, ← hl]
        exact q
      | some x =>
        show ((backG g1 g vs).s.set i x)[i]? = some x
        rw [List.getElem?_set_self]
        rw [backG_len, ← hl]
        exact (List.getElem?_eq_some_iff.mp q).1
    · have m' := (List.mem_cons.mp m).resolve_left e
      split
      · show ((backG g1 g vs).s.set v _)[i]? = _
        rw [List.getElem?_set_ne (Ne.symm e)]
        exact backG_in hl m'
      · exact backG_in hl m'
theorem noOwn_at (h : noOwn vs g = true) {i : Nat} (m : i ∈ vs) : plainSl g.s[i]? = true := List.all_eq_true.mp h i m
theorem NoSl.back {a : Addr} (h : noOwn vs g1 = true) (hl : g1.s.length = g2.s.length) (n : NoSl g2 (L2.wipe σ vs) a) : NoSl (backG g1 g2 vs) σ a := fun i o e z => by
  by_cases m : i ∈ vs
  · rw [backG_in hl m] at e
    have := noOwn_at h m
    rw [e] at this
    cases this
  · rw [backG_out m] at e
    exact n i o e (by rw [wipe_out' m]; exact z)
theorem Rl.back (R1 : Rl K J p1 g1 σ H1) (h : noOwn vs g1 = true) (R2 : Rl K J p2 g2 (L2.wipe σ vs) H2) (le : Le (del p1 H1) (del p2 H2)) : Rl K J p2 (backG g1 g2 vs) σ H2 := by
  have hl : g1.s.length = g2.s.length := R1.len.trans ((wipe_length σ vs).symm.trans R2.len.symm)
  have own : ∀ {i : Nat} {x : Sl}, plainSl (some x) ≠ true → (backG g1 g2 vs).s[i]? = some x → g2.s[i]? = some x ∧ (L2.wipe σ vs)[i]? = σ[i]? := fun {i x} nx e => by
    by_cases m : i ∈ vs
    · rw [backG_in hl m] at e
      have := noOwn_at h m
      rw [e] at this
      exact absurd this nx
    · rw [backG_out m] at e
      exact ⟨e, wipe_out' m⟩
  refine ⟨(backG_len vs).trans (hl.symm.trans R1.len), R2.old, fun a e => by rw [backG_c]; exact R2.dice a e, R2.dno, R2.lv, R2.fz, fun i d e => ?_, fun i o e => ?_, fun i e => ?_, fun i j o o' q e1 e2 e3 e4 => ?_⟩
  · by_cases m : i ∈ vs
    · rw [backG_in hl m] at e
      obtain ⟨v, x1, x2⟩ := R1.sv i d e
      exact ⟨v, x1, x2.le le⟩
    · rw [backG_out m] at e
      have := R2.sv i d e
      rw [wipe_out' m] at this
      exact this
  · obtain ⟨x1, x2⟩ := own (x := .o o) (fun z => nomatch z) e
    rw [← x2]
    exact R2.so i o x1
  · obtain ⟨x1, x2⟩ := own (x := .di) (fun z => nomatch z) e
    rw [← x2]
    exact R2.sd i x1
  · obtain ⟨x1, x2⟩ := own (x := .o o) (fun z => nomatch z) e1
    obtain ⟨x3, x4⟩ := own (x := .o o') (fun z => nomatch z) e2
    rw [← x2] at e3
    rw [← x4] at e4
    exact R2.inj i j o o' q x1 x3 e3 e4
/-- what is hidden and no slot's is changed -/
theorem Rl.putH {q : Addr} {u : HO} (R : Rl K J p g σ H) (m : q ∈ p.o) (jn : J q = none) (n : NoSl g σ q) (mu : Mut (some u)) : Rl K J p g σ (upd H q u) ∧ Le (del p H) (del p (upd H q u)) := by
  have nd : p.d ≠ some q := fun z => R.dno q z m
  have hid : Hid p q := .inr m
  have le : Le (del p H) (del p (upd H q u)) := .of fun a x e => by
    have na : a ≠ q := fun z => del_no e (z ▸ hid)
    rw [del_at (del_no e), upd_ne na]
    exact del_of e
  refine ⟨⟨R.len, fun a x nx e => ?_, fun a e => ?_, R.dno, fun a ma => ?_, fun a o f e => ?_, fun i d e => ?_, fun i o e => ?_, R.sd, R.inj⟩, le⟩
  · rw [upd_ne (ne_of_none e jn)]
    exact R.old a x nx e
  · exact (R.dice a e).le le (upd_ne fun z => nd (by rw [← z]; exact e))
  · by_cases z : a = q
    · rw [z, upd_same]
      exact mu
    · rw [upd_ne z]
      exact R.lv a ma
  · by_cases z : a = q
    · rw [z, upd_same] at e
      cases e
      exact absurd f (mut_nf mu)
    · rw [upd_ne z] at e
      exact R.fz a o f e
  · obtain ⟨v, x1, x2⟩ := R.sv i d e
    exact ⟨v, x1, x2.le le⟩
  · obtain ⟨y, x1, x2, x3, x4⟩ := R.so i o e
    have ny : y ≠ q := fun z => n i o e (by rw [x1, z])
    exact ⟨y, x1, x2, x3, x4.le le (upd_ne ny)⟩
end
/-! ### tests -/
structure SemTs (X : Cx) (ifs : List Expr) (σ : St) (H : Hp) (Q : Bool → Hp → Prop) : Prop where
  run : ∀ (pins : List (Addr × Obj)) (s : Shared), Inv X pins σ H s →
    wpAny (model X.prog X.w) X.A (forIn ifs true fun c r => if r = true then do let ok ← isTrue c X.env (eval c X.env); pure (ForInStep.yield ok) else pure (ForInStep.yield r)) (TP X pins σ Q) X.xe s
theorem of_pts {X : Cx} {ifs : List Expr} {t : TT} {σ : St} {H : Hp} {Q : Bool → Hp → Prop} (h : PTs X ifs t) (q : t σ H Q) : SemTs X ifs σ H Q := ⟨fun pins s I => h.run pins s σ H Q I q⟩
def ETs (X : Cx) (W : WW) (ifs : List Expr) (m : M Bool) : Prop := ∀ J p g σ H, Rl X.K J p g σ H → ∀ r, m g = some r → ∀ Q : Bool → Hp → Prop, Post X.K W J p g σ H r (qT Q) → SemTs X ifs σ H Q
section
variable {X : Cx} {W : WW} {e a b c it tg : Expr} {es : List Expr} {pos ps : Pos}
theorem ts_nil : ETs X W [] (ret true) := fun J p g σ H R0 r hm Q hp => by
  cases hm
  exact of_pts pts_nil (hp p H .refl R0)
/-! ### [elt for tg in it if ..] -/
def lcGo (vs : List Nat) (f : D → G → Option G) (mt : M Bool) (me : M D) : List D → List D → M (List D)
  | [], acc => ret acc
  | d :: ds, acc => fun g => match f d g with
    | none => none
    | some g1 => match mt g1 with
      | some (.ok true g2) => match me g2 with
        | some (.ok y g3) => if acc.length < sizeLine then lcGo vs f mt me ds (acc ++ [y]) (wipeG g3 vs) else none
        | _ => none
      | some (.ok false g2) => lcGo vs f mt me ds acc (wipeG g2 vs)
      | _ => none
def lcEnd {α β : Type} (vs : List Nat) (g1 : G) (k : α → β) : Option (R α) → Option (R β)
  | some (.ok a g2) => some (.ok (k a) (backG g1 g2 vs))
  | _ => none
def mLc (vs : List Nat) (mi : M (List D)) (f : D → G → Option G) (mt : M Bool) (me : M D) : M O := mi.bind fun ds g1 => if noOwn vs g1 = true then lcEnd vs g1 .l (lcGo vs f mt me ds [] (wipeG g1 vs)) else none
/-- from turn to turn -/
theorem Ad.turn {gw gk g3 g5 : G} {wσ σ2 : St} {p1 pk p5 : Mt} {H1 Hk H' H5 H6 : Hp} {vs : List Nat} {q : Addr} (R1 : ∀ a ∈ p1.o, H1 a ≠ none) (ad : Ad gw wσ p1 H1 gk pk Hk) (ad2 : Ad gk wσ pk Hk gk pk H') (sm : Same vs gk wσ g3 σ2) (ad5 : Ad g3 σ2 pk H' g5 p5 H5)
    (hw : L2.wipe σ2 vs = wσ) (hq : H1 q = none) (le : Le (del p5 H5) (del p5 H6)) (ne : ∀ a, a ≠ q → H6 a = H5 a) (th : H6 q ≠ none) : Ad gw wσ p1 H1 (wipeG g5 vs) p5 H6 :=
  ⟨ad5.dd.trans (ad2.dd.trans ad.dd), ad.le.trans (ad2.le.trans (ad5.le.trans le)), fun a m n => by
    obtain ⟨x1, x2⟩ := ad.ex a m n
    have n1 := ad.sl a n
    obtain ⟨x3, x4⟩ := ad2.ex a x1 n1
    obtain ⟨x5, x6⟩ := ad5.ex a x3 (sm.sl a n1)
    have na : a ≠ q := fun z => R1 a m (z ▸ hq)
    exact ⟨x5, by rw [ne a na, x6, x4, x2]⟩, fun a n => by
    have := (ad5.sl a (sm.sl a (ad.sl a n))).wipe vs
    rw [hw] at this
    exact this, fun a n => by
    by_cases z : a = q
    · rw [z]
      exact th
    · rw [ne a z]
      exact ad5.th a (ad2.th a (ad.th a n))⟩
/-- a block's readings, whatever block -/
abbrev Blk (X : Cx) (scope : Scope) (s : Shared) (H : Hp) (C : Addr) (cl : List (Str × Addr)) (fp : List Addr) : Cx := X.blk s H scope (compEnvC scope cl C X.env) fp
def bG (X : Cx) (scope : Scope) (tg : Expr) : TG := fun v σ H Q => ∀ s H0 C cl fp, SemG (Blk X scope s H0 C cl fp) tg v σ H Q
def bT (X : Cx) (scope : Scope) (ifs : List Expr) : TT := fun σ H Q => ∀ s H0 C cl fp, SemTs (Blk X scope s H0 C cl fp) ifs σ H Q
def bE (X : Cx) (scope : Scope) (e : Expr) : TE := fun σ H Q => ∀ s H0 C cl fp, SemE (Blk X scope s H0 C cl fp) e σ H Q
theorem eo_lc {elt : Expr} {ifs : List Expr} {scope : Scope} {own : List (Str × Nat)} {is : List Nat} {mi : M (List D)} {f : D → G → Option G} {mt : M Bool} {me : M D} (hc : X.calm = true) (hN : X.N.Nodup) (hi : EI X WN tg it mi) (ok : BlkOk X.N X.env.scope scope own)
    (hg : ∀ s H C cl fp, ES (Blk X scope s H C cl fp) is tg f) (ht : ∀ s H C cl fp, ETs (Blk X scope s H C cl fp) WN ifs mt) (he : ∀ s H C cl fp, EF (Blk X scope s H C cl fp) WN elt me) (hin : ∀ i ∈ is, i ∈ own.map (·.2) := by decide)
    (hs : ∀ x, foldedSetIterable it X.env x = pure x := by intro _; rfl) : EO X WN (.ListComp elt [⟨tg, it, ifs, 0⟩] scope pos) (mLc (own.map (·.2)) mi f mt me) := fun J p g σ H R0 r hm Q hp => by
  generalize hvs : own.map (·.2) = vs at hm hin
  refine semE_unl (of_pe (pe_lc (g := bG X scope tg) (tt := bT X scope ifs) (te := bE X scope elt) hc hN semI ok (fun s H0 C cl fp => ⟨fun pins s' σ' H' v u Q' I r' h => (h s H0 C cl fp).run pins s' u I r'⟩) (fun s H0 C cl fp => ⟨fun pins s' σ' H' Q' I h => (h s H0 C cl fp).run pins s' I⟩) (fun s H0 C cl fp => ⟨fun pins s' σ' H' Q' I h => (h s H0 C cl fp).run pins s' I⟩) hs) ?_)
  rw [hvs]
  unfold mLc M.bind at hm
  cases e1 : mi g with
  | none =>
    rw [e1] at hm
    cases hm
  | some r1 =>
    rw [e1] at hm
    cases r1 with
    | ex E g1 =>
      cases hm
      exact hi J p g σ H R0 _ e1 _ hp
    | ok ds g1 =>
      dsimp only at hm
      split at hm
      · rename_i no
        refine hi J p g σ H R0 _ e1 _ fun p1 H1 ad R1 Jt J' H1' lk wk => ?_
        obtain ⟨R1', ad1⟩ := lk.rl R1
        obtain ⟨Gg, Y, w, hG, hY⟩ := wk.ex
        intro q hq
        obtain ⟨R2, ad2, m2, jq, n2, _⟩ := (R1'.wipe vs).hide (o := .lst []) hq
        refine lc_it w (fun k Hk => ∃ gk pk acc, Rl X.K J' pk gk (L2.wipe σ vs) Hk ∧ Ad (wipeG g1 vs) (L2.wipe σ vs) p1 H1' gk pk Hk ∧ q ∈ pk.o ∧ NoSl gk (L2.wipe σ vs) q ∧ OwnAt X.K (del pk Hk) Hk q (.l acc) ∧ lcEnd vs g1 .l (lcGo vs f mt me (ds.drop k) acc gk) = some r)
          ⟨_, _, [], R2, ad2, m2, n2, ⟨[], upd_same, .nil⟩, hm⟩ (fun k Hk _ ⟨gk, pk, acc, Rk, adk, _⟩ => hG pk gk _ Hk Rk adk.dd adk.le) (fun k x Hk H' hlt ⟨gk, pk, acc, Rk, adk, mk, nk, ow, e'⟩ y => ?_) (fun Hk ⟨gk, pk, acc, Rk, adk, mk, nk, ow, e'⟩ => ?_)
        · obtain ⟨d, ed, R3, ad3, rx⟩ := hY pk gk _ Hk k x H' Rk adk.dd adk.le hlt y
          have e2 : ds.drop k = d :: ds.drop (k + 1) := by
            rw [List.drop_eq_getElem_cons hlt]
            rw [List.getElem?_eq_getElem hlt] at ed
            cases ed
            rfl
          rw [e2] at e'
          simp only [lcGo] at e'
          cases q1 : f d gk with
          | none =>
            rw [q1] at e'
            cases e'
          | some g3 =>
            simp only [q1] at e'
            intro s H0 C cl fp
            refine hg s H0 C cl fp J' pk gk _ H' x d g3 R3 rx q1 _ fun σ2 sm0 R4 => ?_
            have sm := sm0.mono hin
            have hw := wipe_same sm
            refine ⟨hw, fun s H0 C cl fp => ?_⟩
            cases q2 : mt g3 with
            | none =>
              rw [q2] at e'
              cases e'
            | some r2 =>
              rw [q2] at e'
              cases r2 with
              | ex E g4 => cases e'
              | ok b g4 =>
                refine ht s H0 C cl fp J' pk g3 σ2 H' R4 _ q2 _ fun p4 H4 ad4 R5 => ?_
                unfold qT
                cases b with
                | false =>
                  refine iteF ?_
                  obtain ⟨x1, x2⟩ := ad4.ex q mk (sm.sl q nk)
                  obtain ⟨x3, x4⟩ := ad3.ex q mk nk
                  have R6 := R5.wipe vs
                  rw [hw] at R6
                  have n6 := (ad4.sl q (sm.sl q nk)).wipe vs
                  rw [hw] at n6
                  exact ⟨_, p4, acc, R6, adk.turn (fun a m => mut_ne (R1'.lv a m)) ad3 sm ad4 hw hq (.refl _) (fun _ _ => rfl) (mut_ne (R5.lv q x1)), x1, n6, ow.le (ad3.le.trans ad4.le) (x2.trans x4), e'⟩
                | true =>
                  refine iteT fun s H0 C cl fp => ?_
                  cases q3 : me g4 with
                  | none =>
                    simp only [q3] at e'
                    cases e'
                  | some r3 =>
                    simp only [q3] at e'
                    cases r3 with
                    | ex E g5 => cases e'
                    | ok y2 g5 =>
                      dsimp only at e'
                      split at e'
                      · rename_i hz
                        refine he s H0 C cl fp J' p4 g4 σ2 H4 R5 _ q3 _ fun p5 H5 ad5 R6 v rv => ?_
                        have ad6 := ad4.trans ad5
                        obtain ⟨x1, x2⟩ := ad6.ex q mk (sm.sl q nk)
                        obtain ⟨x3, x4⟩ := ad3.ex q mk nk
                        have n5 := ad6.sl q (sm.sl q nk)
                        obtain ⟨us, u1, u2⟩ := ow
                        obtain ⟨R7, le7⟩ := R6.putH (u := .lst (us ++ [v])) x1 jq n5 trivial
                        have R8 := R7.wipe vs
                        rw [hw] at R8
                        have n6 := n5.wipe vs
                        rw [hw] at n6
                        refine ⟨us, by rw [x2, x4, u1], by rw [u2.len]; exact hz, _, p5, acc ++ [y2], R8, adk.turn (fun a m => mut_ne (R1'.lv a m)) ad3 sm ad6 hw hq le7 (fun a na => upd_ne na) (by rw [upd_same]; exact Option.some_ne_none _), x1, n6, ⟨us ++ [v], upd_same, ?_⟩, e'⟩
                        exact (u2.le (ad3.le.trans (ad6.le.trans le7))).app (.cons (rv.le le7) .nil)
                      · cases e'
        · rw [List.drop_length] at e'
          cases e'
          have R3 := R1'.back no Rk adk.le
          have hl : g1.s.length = gk.s.length := R1'.len.trans ((wipe_length σ vs).symm.trans Rk.len.symm)
          obtain ⟨H6, h1, h2, h3, h4, h5, h6⟩ := lk.off R1 adk.dd R3
          refine unlV_of h1 (hp pk H6 ⟨adk.dd.trans ad.dd, ad.le.trans (ad1.le.trans (adk.le.trans h3)), fun a m n => ?_, fun a n => ?_, fun a n => h4 a (adk.th a (ad1.th a (ad.th a n)))⟩ h2 q mk (ad.gone (ad1.gone hq)) (nk.back no hl) (ow.le h3 (h5 q mk)))
          · obtain ⟨x1, x2⟩ := ad.ex a m n
            have n1 := ad.sl a n
            obtain ⟨x3, x4⟩ := ad1.ex a x1 n1
            obtain ⟨x5, x6⟩ := adk.ex a x3 (n1.wipe vs)
            exact ⟨x5, by rw [h5 a x5, x6, x4, x2]⟩
          · exact (adk.sl a ((ad.sl a n).wipe vs)).back no hl
      · cases hm
end
end Mo
set_option Elab.async false
set_option linter.all false
set_option maxRecDepth 100000
set_option maxHeartbeats 4000000
/-! Mo, part thirteen: objects. -/
namespace Mo
open PySem PySem.Spec L2
open Lp (FnG okN callG)
/-! ### fields -/
def getF (f : Str) : List (Str × D) → Option D
  | [] => none
  | (g, d) :: r => if f = g then some d else getF f r
def setF (f : Str) (v : D) : List (Str × D) → List (Str × D)
  | [] => [(f, v)]
  | (g, d) :: r => if g = f then (g, v) :: r else (g, d) :: setF f v r
section
variable {X : Cx} {W : WW} {e a b o : Expr} {es : List Expr} {pos ps apos : Pos} {C : Addr} {f : Str}
def fldD (C : Addr) (f : Str) : D → Option D
  | .ins C' fs => if C' = C then getF f fs else none
  | _ => none
def mFld (C : Addr) (f : Str) (m : M D) : M D := m.bind fun d => lift (fldD C f d)
end
/-! ### own methods -/
section
variable {X : Cx} {W : WW} {e o : Expr} {es : List Expr} {pos ps apos : Pos} {C ff : Addr} {m f : Str} {k : Nat} {fd : FuncData} {qs : List Str} {sp : Sp} {Z : XK}
def mMeth (C : Addr) (m : Str) (F : FD) (mo : M D) (ms : M (List D)) : M D := mo.bind fun d => match d with
  | .ins C' fs => if C' = C ∧ getF m fs = none then ms.bind fun ds => liftC (F (.ins C' fs :: ds)) else bad
  | _ => bad
/-! ### properties -/
def mProp (C : Addr) (F : FD) (mo : M D) : M D := mo.bind fun d => match d with
  | .ins C' fs => if C' = C then liftC (F [.ins C' fs]) else bad
  | _ => bad
end
end Mo
set_option Elab.async false
set_option linter.all false
set_option maxRecDepth 100000
set_option maxHeartbeats 4000000
/-! Mo, part fourteen: what a callee may change: own things handed in, objects made. -/
namespace Mo
open PySem PySem.Spec L2
open Lp (FnG okN callG)
theorem guards_make {A : Around} {C : Addr} {us : List Value} {kw : List (Str × Value)} (h : A.guards = some []) : (A.under (.builtin "type.__call__" ⟨.ref C :: us, kw⟩)).guards = some [] := by
  first | exact h | simp [Around.under, Code.isGuard, guardIds, h]
/-! ### an own thing handed in as what may be changed -/
def mtQ (p : Mt) (q : Addr) : Mt := ⟨some q, p.d.toList ++ p.o.filter fun a => decide (a ≠ q)⟩
section
variable {K : PySem.W.Frag} {J : Hp} {p : Mt} {g : G} {σ : St} {H J2 : Hp} {q b : Addr} {i : Nat} {o c : O}
theorem hid_mtQ : Hid (mtQ p q) b ↔ b = q ∨ Hid p b := by
  constructor
  · rintro (z | z)
    · exact .inl (Option.some.inj z).symm
    · rcases List.mem_append.mp z with z | z
      · exact .inr (.inl (Option.mem_toList.mp z))
      · exact .inr (.inr (List.mem_filter.mp z).1)
  · intro z
    by_cases e : b = q
    · exact .inl (congrArg some e.symm)
    · rcases z with z | z | z
      · exact absurd z e
      · exact .inr (List.mem_append_left _ (Option.mem_toList.mpr z))
      · exact .inr (List.mem_append_right _ (List.mem_filter.mpr ⟨z, decide_eq_true e⟩))
theorem del_mtQ (hq : Hid p q) : del (mtQ p q) H = del p H := funext fun b => by
  by_cases h : Hid p b
  · rw [del_hid h, del_hid (hid_mtQ.mpr (.inr h))]
  · rw [del_at h, del_at fun z => (hid_mtQ.mp z).elim (fun e => h (by rw [e]; exact hq)) h]
theorem Rl.hdQ (R : Rl K J p g σ H) (hq : p.d ≠ some q) (ow : OwnAt K (del (mtQ p q) H) H q o) : Hd K (mtQ p q) H o := by
  refine ⟨fun a e => ?_, fun a e m => ?_, fun a m => ?_⟩
  · cases e
    exact ow
  · cases e
    rcases List.mem_append.mp m with z | z
    · exact hq (Option.mem_toList.mp z)
    · exact absurd rfl (of_decide_eq_true (List.mem_filter.mp z).2)
  · rcases List.mem_append.mp m with z | z
    · exact (R.dice a (Option.mem_toList.mp z)).mut
    · exact R.lv a (List.mem_filter.mp z).1
/-- behind the call: the slot's thing is as told -/
theorem Rl.afterQ (R : Rl K J p g σ H) (h : g.s[i]? = some (.o o)) (hq : σ[i]? = some (some (.ref q))) (a : Af K (mtQ p q) (mtQ p q) H J2 c) : Rl K J p (g.set i (.o c)) σ J2 ∧ Ad g σ p H (g.set i (.o c)) p J2 := by
  obtain ⟨q', h1, h2, h3, h4⟩ := R.so i o h
  rw [hq] at h1
  cases h1
  have nd : p.d ≠ some q := fun z => R.dno q z h2
  have hid : Hid p q := .inr h2
  have kp : ∀ b u, b ≠ q → H b = some u → J2 b = some u := fun b u n e => a.old b u (fun z => n (Option.some.inj z).symm) e
  have same : ∀ b, b ≠ q → H b ≠ none → J2 b = H b := fun b n x => by
    cases e : H b with
    | none => exact absurd e x
    | some u => exact kp b u n e
  have le : Le (del p H) (del p J2) := .of fun b u e => by
    have n := del_no e
    rw [del_at n]
    exact kp b u (fun z => n (z ▸ hid)) (del_of e)
  have new : OwnAt K (del p J2) J2 q c := by
    have := a.di q rfl
    rw [del_mtQ hid] at this
    exact this
  refine ⟨⟨(List.length_set ..).trans R.len, fun b u n e => kp b u (fun z => by rw [z, h3] at e; cases e) (R.old b u n e), fun b e => ?_, R.dno, fun b m => ?_, fun b u f e => R.fz b u f (a.fz b u f e), fun j d e => ?_, fun j d e => ?_, fun j e => ?_, fun j l o1 o2 x e1 e2 e3 e4 => ?_⟩,
    ⟨rfl, le, fun b m n => ⟨m, same b (fun z => n i o h (by rw [z]; exact hq)) (mut_ne (R.lv b m))⟩, fun b n j d e => ?_, fun b n => ?_⟩⟩
  · have nb : b ≠ q := fun z => nd (z ▸ e)
    exact (R.dice b e).le le (same b nb (mut_ne (R.dice b e).mut))
  · by_cases z : b = q
    · rw [z]
      exact new.mut
    · rw [same b z (mut_ne (R.lv b m))]
      exact R.lv b m
  · rcases getE_set e with ⟨_, z, _⟩ | ⟨_, e⟩
    · cases z
    · obtain ⟨v, x1, x2⟩ := R.sv j d e
      exact ⟨v, x1, x2.le le⟩
  · rcases getE_set e with ⟨e1, z, _⟩ | ⟨ne, e⟩
    · cases z
      rw [e1]
      exact ⟨q, hq, h2, h3, new⟩
    · obtain ⟨x, x1, x2, x3, x4⟩ := R.so j d e
      have nx : x ≠ q := fun z => ne (R.inj j i d o x e h x1 (by rw [hq, z]))
      exact ⟨x, x1, x2, x3, x4.le le (same x nx (mut_ne (R.lv x x2)))⟩
  · rcases getE_set e with ⟨_, z, _⟩ | ⟨_, e⟩
    · cases z
    · exact R.sd j e
  · have p1 : ∃ o, g.s[j]? = some (.o o) := (getE_set e1).elim (fun z => ⟨o, by rw [z.1]; exact h⟩) fun z => ⟨o1, z.2⟩
    have p2 : ∃ o, g.s[l]? = some (.o o) := (getE_set e2).elim (fun z => ⟨o, by rw [z.1]; exact h⟩) fun z => ⟨o2, z.2⟩
    obtain ⟨_, p1⟩ := p1
    obtain ⟨_, p2⟩ := p2
    exact R.inj j l _ _ x p1 p2 e3 e4
  · rcases getE_set e with ⟨e1, _, _⟩ | ⟨_, e⟩
    · rw [e1]
      exact n i o h
    · exact n j d e
  · by_cases z : b = q
    · rw [z]
      exact mut_ne new.mut
    · rw [same b z n]
      exact n
/-- what the changing parameter holds is changed here -/
theorem Rl.putD {u : HO} (R : Rl K J p g σ H) (hq : p.d = some q) (jn : True) (ow : OwnAt K (del p H) (upd H q u) q c) : Rl K J p ⟨g.s, c⟩ σ (upd H q u) ∧ As J p H p (upd H q u) := by
  have hid : Hid p q := .inl hq
  have no : q ∉ p.o := R.dno q hq
  have le : Le (del p H) (del p (upd H q u)) := .of fun b x e => by
    have nb : b ≠ q := fun z => del_no e (z ▸ hid)
    rw [del_at (del_no e), upd_ne nb]
    exact del_of e
  have mu := ow.mut
  refine ⟨⟨R.len, fun b x n e => ?_, fun b e => ?_, R.dno, fun b m => ?_, fun b x f e => ?_, fun j d e => ?_, fun j d e => ?_, R.sd, R.inj⟩, ⟨rfl, le, fun b m _ => m, upd_th⟩⟩
  · rw [upd_ne fun z => n (by rw [z]; exact hq)]
    exact R.old b x n e
  · rw [hq] at e
    cases e
    exact ow.le le rfl
  · rw [upd_ne fun z => no (by rw [← z]; exact m)]
    exact R.lv b m
  · by_cases z : b = q
    · rw [upd_same] at mu
      rw [z, upd_same] at e
      cases e
      exact absurd f (mut_nf mu)
    · rw [upd_ne z] at e
      exact R.fz b x f e
  · obtain ⟨v, x1, x2⟩ := R.sv j d e
    exact ⟨v, x1, x2.le le⟩
  · obtain ⟨y, x1, x2, x3, x4⟩ := R.so j d e
    exact ⟨y, x1, x2, x3, x4.le le (upd_ne fun z => no (by rw [← z]; exact x2))⟩
end
section
variable {X : Cx} {W : WW} {e a b : Expr} {es : List Expr} {pos ps : Pos} {C ff : Addr} {k : Nat} {fd : FuncData} {qs : List Str} {x f : Str}
/-! ### C(e, ..) -/
def mMake (C : Addr) (F : FD) (ms : M (List D)) : M O := ms.bind fun ds g => match F ds (.n C []) with
  | some (.non, .n C' fs) => if C' = C then some (.ok (.n C' fs) g) else none
  | _ => none
end
end Mo
set_option Elab.async false
set_option linter.all false
set_option maxRecDepth 100000
set_option maxHeartbeats 4000000
/-! Mo, part fifteen: reads and stores in what may be changed; own things handed in by name and by expression. -/
namespace Mo
open PySem PySem.Spec L2
open Lp (FnG okN callG)
section
variable {K : PySem.W.Frag} {H : Hp}
theorem Reps.put {v : V} {d : D} (h : Rep K H v d) : ∀ {vs : List V} {ds : List D}, Reps K H vs ds → ∀ j, Reps K H (vs.set j v) (ds.set j d)
  | _, _, .nil, _ => .nil
  | _, _, .cons h1 r, 0 => .cons h r
  | _, _, .cons h1 r, j + 1 => .cons h1 (Reps.put h r j)
end
section
variable {X : Cx} {W : WW} {e a b : Expr} {es : List Expr} {pos ps pk : Pos} {C ff : Addr} {k : Nat} {fd : FuncData} {qs : List Str} {x f y : Str} {py p' : Pos}
/-- the parameter in slot i, a list -/
def onDL {α : Type} (i : Nat) (k : List D → M α) : M α := isDi i fun g => match g.c with
  | .l xs => k xs g
  | _ => none
theorem onDL_some {α : Type} {i : Nat} {k : List D → M α} {g : G} {r : R α} (h : onDL i k g = some r) : g.s[i]? = some .di ∧ ∃ xs, g.c = .l xs ∧ k xs g = some r := by
  obtain ⟨h1, h2⟩ := isDi_some h
  refine ⟨h1, ?_⟩
  split at h2
  · rename_i xs e
    exact ⟨xs, e, h2⟩
  · cases h2
/-- d[k] -/
def mIxD (i : Nat) (mk : M D) : M D := isDi i (mk.bind fun k => onDL i fun xs => lift (fIx (.lst xs) k))
theorem e_ixD {mk : M D} (i : Nat) (hk : EF X W b mk) (hN : X.N[i]? = some y := by rfl) (hvis : Vis X.env.scope y := by first | exact Or.inl rfl | exact Or.inr (Or.inl rfl) | exact Or.inr (Or.inr rfl)) (hd : (y == ("__debug__" : Str)) = false := by decide) (hcd : (y == ("__classdict__" : Str)) = false := by decide)
    (hs : PlainIx b := by exact fun _ _ => rfl) : EF X W (.Subscript (.Name y py) b pos) (mIxD i mk) := fun J p g σ H R0 r hm Q hp => by
  obtain ⟨h0, hm⟩ := isDi_some hm
  obtain ⟨q, h1, hq0⟩ := R0.sd i h0
  refine of_pe (pe_ix ix_list (pv i hN hvis hd hcd) semE hs) ⟨_, h1, hk.then R0 hm hp fun k g1 p1 H1 w ad1 R1 rw' hm1 hp1 => ?_⟩
  obtain ⟨h2, xs, h3, hm2⟩ := onDL_some hm1
  have hq1 : p1.d = some q := ad1.dd.trans hq0
  have ow := R1.dice q hq1
  rw [h3] at ow
  obtain ⟨vs, h6, h7⟩ := ow
  obtain ⟨z, hz, hq⟩ := post_lift hm2 hp1 R1
  cases k <;> first | (cases hz; done) | skip
  rename_i n
  have hz' : atI xs n = some z := hz
  cases rep_int rw'
  obtain ⟨k', u, e1, e2, e3⟩ := atI_map h7.len hz'
  obtain ⟨d, e4, e5⟩ := h7.get e2
  rw [e1] at e4
  cases e4
  exact ⟨q, vs, n, u, rfl, rfl, .inl (.inl h6), e3, hq p1 H1 .refl R1 _ e5⟩
/-- d[k] = e, k a written number -/
def mIxPutD (i : Nat) (n : Int) (mv : M D) : M Oc := mv.bind fun v => onDL i fun xs g => match ixN xs.length n with
  | some j => some (.ok .nx ⟨g.s, .l (xs.set j v)⟩)
  | none => none
theorem s_ixD {mv : M D} {kk : Nat} {n : Int} (i : Nat) (hv : EF X W e mv) (hN : X.N[i]? = some y := by rfl) (hvis : Vis X.env.scope y := by first | exact Or.inl rfl | exact Or.inr (Or.inl rfl) | exact Or.inr (Or.inr rfl)) (hd : (y == ("__debug__" : Str)) = false := by decide) (hcd : (y == ("__classdict__" : Str)) = false := by decide)
    (h1 : swapsWithSole [.Subscript (.Name y py) (.Constant (.int n) kk pk) ps] e pos.line X.env = pure false := by rfl) (h2 : swappedStores [.Subscript (.Name y py) (.Constant (.int n) kk pk) ps] e X.env = pure none := by rfl)
    (h3 : (assignEach [.Subscript (.Name y py) (.Constant (.int n) kk pk) ps] X.env).map (·.2) = [assign (.Subscript (.Name y py) (.Constant (.int n) kk pk) ps) X.env] := by rfl) :
    SS X W (.Assign [.Subscript (.Name y py) (.Constant (.int n) kk pk) ps] e pos) (mIxPutD i n mv) := fun J p g σ H R0 r hm Dd hp => by
  obtain ⟨r1, e1, hq⟩ := post_s R0 hm hp
  refine of_ps (ps_asg semE (pg_sub (pv i hN hvis hd hcd) pe_int set_list) h1 h2 h3) (hv J p g σ H R0 r1 e1 _ (hq _ fun d g1 p1 H1 er ad R1 hk hp1 v rv => ?_))
  obtain ⟨x1, xs, x2, x3⟩ := onDL_some hk
  obtain ⟨q, h4, hq1⟩ := R1.sd i x1
  have ow := R1.dice q hq1
  rw [x2] at ow
  obtain ⟨vs, h6, h7⟩ := ow
  split at x3
  · rename_i j hj
    cases x3
    obtain ⟨R2, as2⟩ := R1.putD (c := .l (xs.set j d)) (u := .lst (vs.set j v)) hq1 trivial ⟨_, upd_same, Reps.put rv h7 j⟩
    exact ⟨_, h4, q, vs, n, j, rfl, rfl, h6, by rw [h7.len]; exact hj, hp1 σ p1 _ as2 R2⟩
  · cases x3
/-! ### self, whose fields may be changed -/
def onDN {α : Type} (i : Nat) (C : Addr) (k : List (Str × D) → M α) : M α := isDi i fun g => match g.c with
  | .n C' fs => if C' = C then k fs g else none
  | _ => none
theorem onDN_some {α : Type} {i : Nat} {k : List (Str × D) → M α} {g : G} {r : R α} (h : onDN i C k g = some r) : g.s[i]? = some .di ∧ ∃ fs, g.c = .n C fs ∧ k fs g = some r := by
  obtain ⟨h1, h2⟩ := isDi_some h
  refine ⟨h1, ?_⟩
  split at h2
  · split at h2
    · rename_i e hC
      subst hC
      exact ⟨_, e, h2⟩
    · cases h2
  · cases h2
def mFldD (i : Nat) (C : Addr) (f : Str) : M D := onDN i C fun fs => lift (getF f fs)
def mFldPutD (i : Nat) (C : Addr) (f : Str) (mv : M D) : M Oc := mv.bind fun d => onDN i C fun fs g => if fs.length < 1000 then some (.ok .nx ⟨g.s, .n C (setF f d fs)⟩) else none
/-! ### f(x, e, ..), x an own thing that f may change -/
def mFnQ (i : Nat) (F : FD) (ms : M (List D)) : M D := onO i fun _ => ms.bind fun ds => onO i fun o g => match F ds o with
  | some (d, o') => some (.ok d (g.set i (.o o')))
  | none => none
theorem e_fq {F : FD} {ms : M (List D)} (i : Nat) (hF : FnG X.prog X.w X.K X.mg X.base CX0 k ff fd qs (spM X.K true F)) (hr : Room k X.A) (hgd : X.A.guards = some []) (hm : X.mg x = some (.ref ff)) (hk : PySem.W.keepIn X.K (.ref ff) = true) (hb : Binds X.K fd qs [])
    (ha : EA X W es ms) (hg : Gl X x := by rfl) (hN : X.N[i]? = some y := by rfl) (hv : Vis X.env.scope y := by first | exact Or.inl rfl | exact Or.inr (Or.inl rfl) | exact Or.inr (Or.inr rfl)) (hd : (y == ("__debug__" : Str)) = false := by decide) (hcd : (y == ("__classdict__" : Str)) = false := by decide)
    (hdb : (x == ("__debug__" : Str)) = false := by decide) (he : starEach (.Name y py :: es) X.env = (false, eval (.Name y py) X.env) :: starEach es X.env := by rfl) (hpl : (backTo pos (starEach es X.env)).any (·.1) = false := by rfl) :
    EF X W (.Call (.Name x ps) (.Name y py :: es) [] pos) (mFnQ i F ms) := fun J p g σ H R0 r hm' Q hp => by
  obtain ⟨o0, h0, hm1⟩ := onO_some hm'
  obtain ⟨q, h1, _⟩ := R0.so i _ h0
  refine of_pe (callG hF hr hgd hg hm hk hb pass0 (pa_cons (pv i hN hv hd hcd) semA he) hdb he hpl) ⟨_, h1, ha.then R0 hm1 hp fun ds g1 p1 H1 vs ad1 R1 rs hm2 hp1 => ?_⟩
  show spM X.K true F ((V.ref q :: vs) ++ []) H1 Q E0
  rw [List.append_nil]
  obtain ⟨o, h2, h3⟩ := onO_some hm2
  obtain ⟨q', h4, h5, h6, h7⟩ := R1.so i _ h2
  rw [h1] at h4
  cases h4
  have hid : Hid p1 q := .inr h5
  have nd : p1.d ≠ some q := fun z => R1.dno q z h5
  split at h3
  · rename_i d o' e1
    cases h3
    refine ⟨mtQ p1 q, o, ds, vs, d, o', ⟨q, rfl, rfl⟩, R1.hdQ nd (by rw [del_mtQ hid]; exact h7), by rw [del_mtQ hid]; exact rs, e1, fun v J2 af rv => ?_⟩
    obtain ⟨R2, ad2⟩ := R1.afterQ h2 h1 af
    rw [del_mtQ hid] at rv
    exact hp1 p1 J2 ad2 R2 v rv
  · cases h3
/-! ### f(g(..), e, ..), the first argument new -/
def mFnE (F : FD) (mo : M O) (ms : M (List D)) : M D := mo.bind fun o => ms.bind fun ds => lift ((F ds o).map (·.1))
end
end Mo
set_option Elab.async false
set_option linter.all false
set_option maxRecDepth 100000
set_option maxHeartbeats 4000000
set_option exponentiation.threshold 9000
/-! Mo, part sixteen: one rule for each sign of the language, whatever the data. -/
namespace Mo
open PySem PySem.Spec L2
section
variable {X : Cx} {W : WW} {e a b c : Expr} {es : List Expr} {pos ps : Pos}
theorem EF.or {m m' m2 : M D} (h : EF X W e m) (h' : EF X W e m') (hp : ∀ g r, m2 g = some r → m g = some r ∨ m' g = some r) : EF X W e m2 := fun J p g σ H R0 r hm Q q => (hp g r hm).elim (fun z => h J p g σ H R0 r z Q q) fun z => h' J p g σ H R0 r z Q q
theorem ET.or {m m' m2 : M Bool} (h : ET X W e m) (h' : ET X W e m') (hp : ∀ g r, m2 g = some r → m g = some r ∨ m' g = some r) : ET X W e m2 := fun J p g σ H R0 r hm Q q => (hp g r hm).elim (fun z => h J p g σ H R0 r z Q q) fun z => h' J p g σ H R0 r z Q q
def orF {α : Type} (f f' : D → D → Option α) : D → D → Option α := fun x y => (f x y).or (f' x y)
theorem bin_or {α : Type} {f f' : D → D → Option α} {ma mb : M D} {g : G} {r : R α} (h : (ma.bind fun x => mb.bind fun y => lift (orF f f' x y)) g = some r) :
    (ma.bind fun x => mb.bind fun y => lift (f x y)) g = some r ∨ (ma.bind fun x => mb.bind fun y => lift (f' x y)) g = some r := by
  unfold M.bind at h ⊢
  cases e1 : ma g with
  | none =>
    rw [e1] at h
    cases h
  | some r1 =>
    rw [e1] at h
    cases r1 with
    | ex E g1 => exact .inl h
    | ok x g1 =>
      dsimp only at h ⊢
      cases e2 : mb g1 with
      | none =>
        rw [e2] at h
        cases h
      | some r2 =>
        rw [e2] at h
        cases r2 with
        | ex E g2 => exact .inl h
        | ok y g2 =>
          dsimp only at h ⊢
          unfold orF at h
          cases e3 : f x y with
          | none =>
            rw [e3] at h
            exact .inr h
          | some z =>
            rw [e3] at h
            exact .inl h
theorem e_orB {f f' : D → D → Option D} {ma mb : M D} (h : EF X W e (mBin f ma mb)) (h' : EF X W e (mBin f' ma mb)) : EF X W e (mBin (orF f f') ma mb) := h.or h' fun _ _ z => bin_or z
/-- a test of two -/
def mT2 (f : D → D → Option D) (ma mb : M D) : M Bool := ma.bind fun x => mb.bind fun y => lift ((f x y).bind asB)
theorem t_or {f f' : D → D → Option D} {ma mb : M D} (h : ET X W e (mT2 f ma mb)) (h' : ET X W e (mT2 f' ma mb)) : ET X W e (mT2 (orF f f') ma mb) := h.or h' fun g r z => by
  unfold mT2 M.bind at z ⊢
  cases e1 : ma g with
  | none =>
    rw [e1] at z
    cases z
  | some r1 =>
    rw [e1] at z
    cases r1 with
    | ex E g1 => exact .inl z
    | ok x g1 =>
      dsimp only at z ⊢
      cases e2 : mb g1 with
      | none =>
        rw [e2] at z
        cases z
      | some r2 =>
        rw [e2] at z
        cases r2 with
        | ex E g2 => exact .inl z
        | ok y g2 =>
          dsimp only at z ⊢
          unfold orF at z
          cases e3 : f x y with
          | none =>
            rw [e3] at z
            exact .inr z
          | some u =>
            rw [e3] at z
            exact .inl z
/-! ### signs between numbers, texts, tuples -/
/-- () + u is u itself -/
def rCatT0 (K : PySem.W.Frag) : R2 := fun x y H Q => ∃ a b ys, x = .ref a ∧ y = .ref b ∧ SqT K H a [] ∧ SqT K H b ys ∧ ys.length ≤ sizeLine ∧ Q (.ref b) H
theorem op_catT0 {X : Cx} : OpR X (binaryOp .Add) (rCatT0 X.K) := by
  intro pins s σ H x y v u Q I rx ry h
  obtain ⟨a, b, ys, rfl, rfl, ha, hb, hz, q⟩ := h
  cases rx
  cases ry
  obtain ⟨its, r1, p1, _⟩ := I.tuple ha
  obtain ⟨its2, r2, p2, _⟩ := I.tuple hb
  cases r1
  obtain ⟨⟨c1, d1, da1, sl1⟩, ho1, hc1, n1, hd1⟩ := id p1
  obtain ⟨⟨c2, d2, da2, sl2⟩, ho2, hc2, n2, hd2⟩ := id p2
  simp only at hc1 hd1 hc2 hd2
  subst hc1 hd1 hc2 hd2
  exact PySem.concat_meets ⟨_, ho1, rfl⟩ ⟨_, ho2, rfl⟩ PySem.noFill_tuple_add PySem.seq_tuple_add PySem.F.slot_tuple_add PySem.F.entry_tuple_add (PySem.F.args_tuple_add_2 _ _)
    (PyProof.Rows.tuple_addW0 a b #[] its2.toArray n1 n2 d1 d2 sl1 sl2 (by simp)) ⟨ho1, ho2, .ref b, H, I, rfl, q⟩
def fCatT0 : D → D → Option D
  | .tup [], .tup ys => if ys.length ≤ sizeLine then some (.tup ys) else none
  | _, _ => none
theorem os_catT0 {K : PySem.W.Frag} : OpS K (rCatT0 K) fCatT0 := fun J p g σ H v w x y z Q R0 rv rw' e q => by
  unfold fCatT0 at e
  split at e
  · split at e
    · rename_i hz
      cases e
      obtain ⟨a, vs, rfl, sa, ra⟩ := rep_tup rv
      obtain ⟨b, ws, rfl, sb, rb⟩ := rep_tup rw'
      cases ra
      exact ⟨a, b, ws, rfl, rfl, st_del sa, st_del sb, by rw [rb.len]; exact hz, q p H .refl R0 _ rw'⟩
    · cases e
  · cases e
def uAdd : D → D → Option D := orF (fI0 fun i j => .int (i + j)) (orF fCat (orF fCatT fCatT0))
theorem e_add {ma mb : M D} (ha : EF X W a ma) (hb : EF X W b mb) : EF X W (.BinOp a .Add b pos) (mBin uAdd ma mb) := e_orB (e_bin op_add os_I0 ha hb) (e_orB (e_bin op_add_str os_cat ha hb) (e_orB (e_bin op_catT os_catT ha hb) (e_bin op_catT0 os_catT0 ha hb)))
def uSub : D → D → Option D := fI0 fun i j => .int (i - j)
theorem e_sub {ma mb : M D} (ha : EF X W a ma) (hb : EF X W b mb) : EF X W (.BinOp a .Sub b pos) (mBin uSub ma mb) := e_bin op_sub os_I0 ha hb
def cMul (i j : Int) : Bool := decide (i.natAbs.log2 + j.natAbs.log2 < 1000000)
def uMul : D → D → Option D := fI cMul fun i j => .int (i * j)
theorem e_mul {ma mb : M D} (ha : EF X W a ma) (hb : EF X W b mb) : EF X W (.BinOp a .Mult b pos) (mBin uMul ma mb) := e_bin op_mulW (os_I fun i j h => show i.natAbs.log2 + j.natAbs.log2 < 1000000 from of_decide_eq_true h) ha hb
def cDiv (_ j : Int) : Bool := decide (0 < j ∧ j.natAbs.log2 < 9000)
def uDiv : D → D → Option D := fI cDiv fun i j => .int (i / j)
theorem e_div {ma mb : M D} (ha : EF X W a ma) (hb : EF X W b mb) : EF X W (.BinOp a .FloorDiv b pos) (mBin uDiv ma mb) := e_bin op_fdivW (os_I fun _ j h => show 0 < j ∧ j.natAbs.log2 < 9000 from of_decide_eq_true h) ha hb
def cMod (_ j : Int) : Bool := decide (0 < j)
def uMod : D → D → Option D := fI cMod fun i j => .int (i % j)
theorem e_mod {ma mb : M D} (ha : EF X W a ma) (hb : EF X W b mb) : EF X W (.BinOp a .Mod b pos) (mBin uMod ma mb) := e_bin op_mod (os_I fun _ _ h => of_decide_eq_true h) ha hb
def cPow (i j : Int) : Bool := decide (0 ≤ j ∧ j ≤ 1000000 ∧ i.natAbs < 2 ^ 64)
def uPow : D → D → Option D := fI cPow fun i j => .int (i ^ j.toNat)
theorem e_pow {ma mb : M D} (ha : EF X W a ma) (hb : EF X W b mb) : EF X W (.BinOp a .Pow b pos) (mBin uPow ma mb) := e_bin op_pow (os_I fun i j h => show 0 ≤ j ∧ j ≤ 1000000 ∧ i.natAbs < 2 ^ 64 from of_decide_eq_true h) ha hb
/-! ### comparisons -/
def fLtS : D → D → Option D
  | .str i, .str j => some (.bl (decide (i.cps.toList < j.cps.toList)))
  | _, _ => none
theorem os_ltS {K : PySem.W.Frag} : OpS K (fun x y H Q => ∃ i j, x = .str i ∧ y = .str j ∧ Q (.bl (decide (i.cps.toList < j.cps.toList))) H) fLtS := fun J p g σ H v w x y z Q R rv rw' e q => by
  cases x <;> first | (cases e; done) | skip
  cases y <;> first | (cases e; done) | skip
  cases rep_str rv
  cases rep_str rw'
  cases e
  exact ⟨_, _, rfl, rfl, q p H .refl R _ (.bl _)⟩
def iLt : D → D → Option D := fI0 fun i j => .bl (decide (i < j))
def iGt : D → D → Option D := fI0 fun i j => .bl (decide (j < i))
def uLt : D → D → Option D := orF iLt fLtS
section
variable {ma mb : M D}
theorem e_lt (ha : EF X W a ma) (hb : EF X W b mb) : EF X W (.Compare a [.Lt] [b] pos) (mBin uLt ma mb) := e_orB (e_cmp op_lt os_IB ha hb) (e_cmp op_lt_str os_ltS ha hb)
theorem e_eq (hu : X.A.units + 64 < cLine) (ha : EF X W a ma) (hb : EF X W b mb) (hm : behindInMarks .Eq b = false := by first | exact nomark _ | rfl) : EF X W (.Compare a [.Eq] [b] pos) (mBin (fEq false) ma mb) := e_cmp (op_eqD hu) os_eq ha hb hm
theorem t_lt (ha : EF X W a ma) (hb : EF X W b mb) : ET X W (.Compare a [.Lt] [b] pos) (mT2 uLt ma mb) := t_or (t_cmp op_lt os_IB ha hb) (t_cmp op_lt_str os_ltS ha hb)
theorem t_gt (ha : EF X W a ma) (hb : EF X W b mb) : ET X W (.Compare a [.Gt] [b] pos) (mT2 iGt ma mb) := t_cmp op_gt os_IB ha hb
theorem t_eq (hu : X.A.units + 64 < cLine) (ha : EF X W a ma) (hb : EF X W b mb) (hm : behindInMarks .Eq b = false := by first | exact nomark _ | rfl) : ET X W (.Compare a [.Eq] [b] pos) (mT2 (fEq false) ma mb) := t_cmp (op_eqD hu) os_eq ha hb hm
theorem t_ne (hu : X.A.units + 64 < cLine) (ha : EF X W a ma) (hb : EF X W b mb) (hm : behindInMarks .NotEq b = false := by first | exact nomark _ | rfl) : ET X W (.Compare a [.NotEq] [b] pos) (mT2 (fEq true) ma mb) := t_cmp (op_neD hu) os_ne ha hb hm
/-! ### in, subscripts: dicts, lists, tuples, texts -/
def uIn (neg : Bool) : D → D → Option D := orF (fDIn neg) (orF (fIn neg) (fInS neg))
def uIx : D → D → Option D := orF fDGet fIx
theorem e_sbs (hu : X.A.units + 1 < cLine) (ha : EF X W a ma) (hb : EF X W b mb) (hs : L2.NoSl b := by exact fun _ _ => rfl) (hs2 : PlainIx b := by exact fun _ _ => rfl) : EF X W (.Subscript a b pos) (mBin uIx ma mb) := e_orB (e_dget hu ha hb hs) (e_ix ha hb hs2)
end
/-- a test by the value of an expression that is a truth -/
theorem t_e {m : M D} (h : EF X W e m) (he : ∀ whole, isTrue e X.env whole = (do let v ← whole; standAt e.pos; holding [v] (truthy v)) := by intro _; rfl) : ET X W e (mTru m) := t_truth h he
end
end Mo
set_option Elab.async false
set_option linter.all false
set_option maxRecDepth 100000
set_option maxHeartbeats 4000000
/-! Mo, part seventeen: what the printer of derivations names. -/
namespace Mo
open PySem PySem.Spec L2
def frz (m : M O) : M D := m.bind fun o => ret o.d
section
variable {X : Cx} {W : WW} {e a b c : Expr} {es : List Expr} {pos ps : Pos} {ma mb mc : M D}
/-- + of numbers, texts, tuples, lists -/
def uPlus : D → D → Option D := orF uAdd fun x y => (fCatL x y).map O.d
theorem catL_frz {g : G} {r : R D} (h : (ma.bind fun x => mb.bind fun y => lift ((fCatL x y).map O.d)) g = some r) : frz (mBinO fCatL ma mb) g = some r := by
  unfold frz mBinO M.bind at *
  cases e1 : ma g with
  | none =>
    rw [e1] at h
    cases h
  | some r1 =>
    rw [e1] at h
    cases r1 with
    | ex E g1 => exact h
    | ok x g1 =>
      dsimp only at h ⊢
      cases e2 : mb g1 with
      | none =>
        rw [e2] at h
        cases h
      | some r2 =>
        rw [e2] at h
        cases r2 with
        | ex E g2 => exact h
        | ok y g2 =>
          dsimp only at h ⊢
          cases e3 : fCatL x y with
          | none =>
            rw [e3] at h
            cases h
          | some z =>
            rw [e3] at h
            exact h
theorem e_plus (ha : EF X W a ma) (hb : EF X W b mb) : EF X W (.BinOp a .Add b pos) (mBin uPlus ma mb) := (e_add ha hb).or (eo_cat ha hb).f fun g r z => (bin_or z).imp id catL_frz
/-- xs[a:b] of texts, tuples, lists -/
def mSlU (ma : M D) (ml mh : M (Option Int)) : M D := mSl (fun x l u => (fSlS x l u).or ((fSlL x l u).map O.d)) ma ml mh
/-- a op b op' c -/
def mChain (f f' : D → D → Option D) (ma mb mc : M D) : M D := ma.bind fun x => mb.bind fun y => match f x y with
  | some (.bl true) => mc.bind fun z => lift (f' y z)
  | some (.bl false) => ret (.bl false)
  | _ => bad
end
end Mo
set_option Elab.async false
set_option linter.all false
set_option maxRecDepth 100000
set_option maxHeartbeats 4000000
/-! Mo, part eighteen: several names at once. -/
namespace Mo
open PySem PySem.Spec L2
/-- a value, shown or still the def's own -/
inductive Vx where
  | d (x : D) | o (x : O)
def Vx.sl : Vx → Sl
  | .d x => .v x
  | .o x => .o x
/-- what v stands for, seen from the heap H0 of before -/
def VxAt (K : PySem.W.Frag) (H0 : Hp) (σ : St) (g : G) (p : Mt) (H : Hp) (v : V) : Vx → Prop
  | .d x => Rep K (del p H) v x
  | .o x => ∃ q, v = .ref q ∧ q ∈ p.o ∧ H0 q = none ∧ H q ≠ none ∧ NoSl g σ q ∧ OwnAt K (del p H) H q x
def qX (K : PySem.W.Frag) (H : Hp) (σ : St) (Q : VK) : Vx → G → Mt → Hp → Prop := fun x g' p' H' => ∀ v, VxAt K H σ g' p' H' v x → Q v H'
def EX (X : Cx) (W : WW) (e : Expr) (m : M Vx) : Prop := ∀ J p g σ H, Rl X.K J p g σ H → ∀ r, m g = some r → ∀ Q : VK, Post X.K W J p g σ H r (qX X.K H σ Q) → SemE X e σ H Q
def mXd (m : M D) : M Vx := m.bind fun d => ret (.d d)
def mXo (m : M O) : M Vx := m.bind fun d => ret (.o d)
section
variable {X : Cx} {W : WW} {e a b c : Expr} {es : List Expr} {pos ps : Pos}
theorem x_d {m : M D} (h : EF X W e m) : EX X W e (mXd m) := fun J p g σ H R0 r hm Q hp =>
  h.then R0 hm hp fun d g1 p1 H1 v ad R1 rv hk hq => by
    cases hk
    exact hq p1 H1 .refl R1 v rv
theorem EX.then {β : Type} {J : Hp} {p : Mt} {g : G} {σ : St} {H : Hp} {q : β → G → Mt → Hp → Prop} {r : R β} {m : M Vx} {k : Vx → M β} (h : EX X W e m) (R0 : Rl X.K J p g σ H) (hm : m.bind k g = some r) (hp : Post X.K W J p g σ H r q) {Q : VK}
    (hk : ∀ d g1 p1 H1 v, Ad g σ p H g1 p1 H1 → Rl X.K J p1 g1 σ H1 → VxAt X.K H σ g1 p1 H1 v d → k d g1 = some r → Post X.K W J p1 g1 σ H1 r q → Q v H1) : SemE X e σ H Q := by
  unfold M.bind at hm
  cases e1 : m g with
  | none => rw [e1] at hm; cases hm
  | some r1 =>
    cases r1 with
    | ok d g1 =>
      rw [e1] at hm
      exact h J p g σ H R0 _ e1 Q fun p1 H1 ad R1 v rv => hk d g1 p1 H1 v ad R1 rv hm (hp.adv ad)
    | ex E g1 =>
      rw [e1] at hm
      cases hm
      exact h J p g σ H R0 _ e1 Q hp
/-- kept while something else is computed -/
theorem VxAt.ad {K : PySem.W.Frag} {H0 : Hp} {σ : St} {g g' : G} {p p' : Mt} {H H' : Hp} {v : V} {x : Vx} (h : VxAt K H0 σ g p H v x) (a : Ad g σ p H g' p' H') : VxAt K H0 σ g' p' H' v x := by
  cases x with
  | d x => exact Rep.le a.le h
  | o x =>
    obtain ⟨q, h1, h2, h3, h4, h5, h6⟩ := h
    obtain ⟨x1, x2⟩ := a.ex q h2 h5
    exact ⟨q, h1, x1, h3, by rw [x2]; exact h4, a.sl q h5, h6.le a.le x2⟩
/-- two values that came one behind the other -/
def Apart : V → Vx → V → Vx → Prop
  | v, .o _, w, .o _ => v ≠ w
  | _, _, _, _ => True
theorem apart_of {K : PySem.W.Frag} {H0 : Hp} {σ σ' : St} {g g' : G} {p p' : Mt} {H H' : Hp} {v w : V} {x y : Vx} (h : VxAt K H0 σ g p H v x) (h' : VxAt K H σ' g' p' H' w y) : Apart v x w y := by
  cases x with
  | d x => exact True.intro
  | o x =>
    cases y with
    | d y => exact True.intro
    | o y =>
      obtain ⟨q, h1, h2, h3, h4, h5, h6⟩ := h
      obtain ⟨q', h1', h2', h3', _⟩ := h'
      subst h1 h1'
      exact fun z => by
        cases z
        exact h4 h3'
theorem noSl_set {g : G} {σ : St} {q : Addr} {i : Nat} {v : V} {x : Vx} (h : NoSl g σ q) (hl : g.s.length = σ.length) (hv : (∃ d, x = .d d) ∨ v ≠ .ref q) : NoSl (g.set i x.sl) (σ.set i (some v)) q := fun j o e1 e2 => by
  rcases getE_set e1 with ⟨i1, z, l1⟩ | ⟨n1, e1⟩
  · rw [getV_set, if_pos ⟨i1, hl ▸ l1⟩] at e2
    cases e2
    rcases hv with ⟨d, rfl⟩ | hv
    · cases z
    · exact hv rfl
  · rw [getV_set, if_neg fun z => n1 z.1] at e2
    exact h j o e1 e2
theorem Rl.setX {K : PySem.W.Frag} {J H0 : Hp} {p : Mt} {g : G} {σ : St} {H : Hp} {i : Nat} {v : V} {x : Vx} (R : Rl K J p g σ H) (jn : ∀ q, H0 q = none → J q = none) (h : VxAt K H0 σ g p H v x) : Rl K J p (g.set i x.sl) (σ.set i (some v)) H := by
  cases x with
  | d x => exact R.setV h
  | o x =>
    obtain ⟨q, rfl, h2, h3, h4, h5, h6⟩ := h
    exact R.setO h2 (jn q h3) h5 h6
/-- the second of two that are stored -/
theorem VxAt.set {K : PySem.W.Frag} {H0 : Hp} {σ : St} {g : G} {p : Mt} {H : Hp} {i : Nat} {v w : V} {x y : Vx} (h : VxAt K H0 σ g p H w y) (hl : g.s.length = σ.length) (ap : Apart v x w y) : VxAt K H0 (σ.set i (some v)) (g.set i x.sl) p H w y := by
  cases y with
  | d y => exact h
  | o y =>
    obtain ⟨q, rfl, h2, h3, h4, h5, h6⟩ := h
    refine ⟨q, rfl, h2, h3, h4, noSl_set h5 hl ?_, h6⟩
    cases x with
    | d x => exact .inl ⟨x, rfl⟩
    | o x => exact .inr ap
/-- x, y = e, f -/
def mPar (i j : Nat) (ma mb : M Vx) : M Oc := ma.bind fun x => mb.bind fun y g => some (.ok .nx ((g.set i x.sl).set j y.sl))
theorem s_par {x y : Str} {px py pt pt2 : Pos} {kt k2 : Nat} {ma mb : M Vx} (i j : Nat) (hc : X.calm = true) (nd : X.N.Nodup) (ha : EX X W a ma) (hb : EX X W b mb) (hij : i ≠ j := by decide) (hi : X.N[i]? = some x := by rfl) (hj : X.N[j]? = some y := by rfl)
    (hx : X.env.scope.names.lookup x = some .local := by rfl) (hy : X.env.scope.names.lookup y = some .local := by rfl)
    (hw : swappedStores [.Tuple [.Name x px, .Name y py] kt pt] (.Tuple [a, b] k2 pt2) X.env = pure (some [x, y]) := by rfl) (hs : swapsWithSole [.Tuple [.Name x px, .Name y py] kt pt] (.Tuple [a, b] k2 pt2) pos.line X.env = pure false := by rfl)
    (he : starEach [a, b] X.env = (false, eval a X.env) :: starEach [b] X.env := by rfl) (he2 : starEach [b] X.env = (false, eval b X.env) :: starEach [] X.env := by rfl) :
    SS X W (.Assign [.Tuple [.Name x px, .Name y py] kt pt] (.Tuple [a, b] k2 pt2) pos) (mPar i j ma mb) := fun J p g σ H R0 r hm Dd hp => by
  obtain ⟨r1, e1, hq⟩ := post_s R0 hm hp
  refine of_ps (ps_par (i := i) (j := j) hc nd hi hj hij hx hy (pa_cons semE (pa_cons semE pa_nil he2) he) hw hs) (ha J p g σ H R0 r1 e1 _ (hq _ fun u g1 p1 H1 er ad R1 hk hp1 v hv => ?_))
  obtain ⟨r2, e2, hq2⟩ := post_s R1 hk hp1
  refine hb J p1 g1 σ H1 R1 r2 e2 _ (hq2 _ fun u2 g2 p2 H2 er2 ad2 R2 hk2 hp2 w hw' => ?_)
  cases hk2
  have ap := apart_of hv hw'
  have hv2 := hv.ad ad2
  exact ⟨v, w, rfl, hp2 _ p2 H2 .refl ((R2.setX (fun q e => R0.jn e) hv2).setX (fun q e => R1.jn e) (hw'.set R2.len ap))⟩
/-- x, y, z = e, f, h -/
def mPar3 (i j k : Nat) (ma mb mc : M Vx) : M Oc := ma.bind fun x => mb.bind fun y => mc.bind fun z g => some (.ok .nx (((g.set i x.sl).set j y.sl).set k z.sl))
theorem s_par3 {x y z : Str} {px py pz pt pt2 : Pos} {kt k2 : Nat} {ma mb mc : M Vx} (i j k : Nat) (hc : X.calm = true) (nd : X.N.Nodup) (ha : EX X W a ma) (hb : EX X W b mb) (hcc : EX X W c mc) (hij : i ≠ j := by decide) (hik : i ≠ k := by decide) (hjk : j ≠ k := by decide)
    (hi : X.N[i]? = some x := by rfl) (hj : X.N[j]? = some y := by rfl) (hk : X.N[k]? = some z := by rfl)
    (hx : X.env.scope.names.lookup x = some .local := by rfl) (hy : X.env.scope.names.lookup y = some .local := by rfl) (hz : X.env.scope.names.lookup z = some .local := by rfl)
    (hw : swappedStores [.Tuple [.Name x px, .Name y py, .Name z pz] kt pt] (.Tuple [a, b, c] k2 pt2) X.env = pure (some [x, y, z]) := by rfl) (hs : swapsWithSole [.Tuple [.Name x px, .Name y py, .Name z pz] kt pt] (.Tuple [a, b, c] k2 pt2) pos.line X.env = pure false := by rfl)
    (he : starEach [a, b, c] X.env = (false, eval a X.env) :: starEach [b, c] X.env := by rfl) (he2 : starEach [b, c] X.env = (false, eval b X.env) :: starEach [c] X.env := by rfl) (he3 : starEach [c] X.env = (false, eval c X.env) :: starEach [] X.env := by rfl) :
    SS X W (.Assign [.Tuple [.Name x px, .Name y py, .Name z pz] kt pt] (.Tuple [a, b, c] k2 pt2) pos) (mPar3 i j k ma mb mc) := fun J p g σ H R0 r hm Dd hp => by
  obtain ⟨r1, e1, hq⟩ := post_s R0 hm hp
  refine of_ps (ps_par3 (i := i) (j := j) (l := k) hc nd hi hj hk hij hik hjk hx hy hz (pa_cons semE (pa_cons semE (pa_cons semE pa_nil he3) he2) he) hw hs) (ha J p g σ H R0 r1 e1 _ (hq _ fun u g1 p1 H1 er ad R1 hk hp1 v hv => ?_))
  obtain ⟨r2, e2, hq2⟩ := post_s R1 hk hp1
  refine hb J p1 g1 σ H1 R1 r2 e2 _ (hq2 _ fun u2 g2 p2 H2 er2 ad2 R2 hk2 hp2 w hw' => ?_)
  obtain ⟨r3, e3, hq3⟩ := post_s R2 hk2 hp2
  refine hcc J p2 g2 σ H2 R2 r3 e3 _ (hq3 _ fun u3 g3 p3 H3 er3 ad3 R3 hk3 hp3 w3 hw3 => ?_)
  cases hk3
  have ap := apart_of hv hw'
  have ap2 := apart_of (hv.ad ad2) hw3
  have ap3 := apart_of hw' hw3
  have hv2 := (hv.ad ad2).ad ad3
  have hw2 := hw'.ad ad3
  have RA := R3.setX (i := i) (fun q e => R0.jn e) hv2
  have RB := RA.setX (i := j) (fun q e => R1.jn e) (hw2.set R3.len ap)
  exact ⟨v, w, w3, rfl, hp3 _ p3 H3 .refl (RB.setX (i := k) (fun q e => R2.jn e) ((hw3.set R3.len ap2).set RA.len ap3))⟩
/-- target = e, the value taken apart -/
def mAsg (f : D → G → Option G) (m : M D) : M Oc := m.bind fun d g => (f d g).map fun g' => .ok .nx g'
theorem s_asg {tg : Expr} {vs : List Nat} {f : D → G → Option G} {m : M D} (h : EF X W e m) (ht : ES X vs tg f) (hs : swapsWithSole [tg] e pos.line X.env = pure false := by rfl) (hw : swappedStores [tg] e X.env = pure none := by rfl)
    (h1 : (assignEach [tg] X.env).map (·.2) = [assign tg X.env] := by rfl) : SS X W (.Assign [tg] e pos) (mAsg f m) := fun J p g σ H R0 r hm Dd hp => by
  obtain ⟨r1, e1, hq⟩ := post_s R0 hm hp
  refine of_ps (ps_asg semE semG hs hw h1) (h J p g σ H R0 r1 e1 _ (hq _ fun d g1 p1 H1 er ad R1 hk hp1 v rv => ?_))
  cases e2 : f d g1 with
  | none =>
    rw [e2] at hk
    cases hk
  | some g2 =>
    rw [e2] at hk
    cases hk
    exact ht J p1 g1 σ H1 v d g2 R1 rv e2 _ fun σ' sm R2 => hp1 σ' p1 H1 .refl R2
end
end Mo
set_option Elab.async false
set_option linter.all false
set_option maxRecDepth 100000
set_option maxHeartbeats 4000000
/-! Mo, part nineteen: displays of dicts, stars in displays. -/
namespace Mo
open PySem PySem.Spec L2
theorem Ad.putQ {g g2 : G} {σ : St} {p p2 : Mt} {H H2 : Hp} {q : Addr} {u : HO} (a : Ad g σ p H g2 p2 H2) (hq : H q = none) (lv : ∀ a ∈ p.o, H a ≠ none) (le : Le (del p2 H2) (del p2 (upd H2 q u))) : Ad g σ p H g2 p2 (upd H2 q u) :=
  ⟨a.dd, a.le.trans le, fun b m n => by
    obtain ⟨h1, h2⟩ := a.ex b m n
    have nb : b ≠ q := fun z => lv b m (by rw [z]; exact hq)
    exact ⟨h1, by rw [upd_ne nb]; exact h2⟩, a.sl, fun b n => upd_th b (a.th b n)⟩
section
variable {X : Cx} {W : WW} {e a b c : Expr} {es : List Expr} {pos ps : Pos}
/-! ### {k: v, ..}, keys numbers or texts -/
def EPs (X : Cx) (W : WW) (pos : Pos) (ks : List (Option Expr)) (vs : List Expr) (trs : List (TE × TE)) (m : M (List (Key × D))) : Prop :=
  PPs X pos ks vs trs ∧ ∀ J p g σ H, Rl X.K J p g σ H → ∀ r, m g = some r → ∀ Q : List (V × V) → Hp → Prop, Post X.K W J p g σ H r (fun es _ p' H' => ∀ ws : List (Key × V), RepK X.K (del p' H') ws es → Q (ws.map fun kv => (kV kv.1, kv.2)) H') → tPairs trs σ H Q
def mPairs (mk mv : M D) (ms : M (List (Key × D))) : M (List (Key × D)) := mk.bind fun k => mv.bind fun v => ms.bind fun r => lift ((asKey k).map fun kk => (kk, v) :: r)
theorem pp_nil : EPs X W pos [] [] [] (ret []) := ⟨pps_nil, fun J p g σ H R0 r hm Q hp => by
  cases hm
  exact hp p H .refl R0 [] .nil⟩
theorem pp_cons {k v : Expr} {ks : List (Option Expr)} {vs : List Expr} {trs : List (TE × TE)} {mk mv : M D} {ms : M (List (Key × D))} (hk : EF X W k mk) (hv : EF X W v mv) (hr : EPs X W pos ks vs trs ms) :
    EPs X W pos (some k :: ks) (v :: vs) ((SemE X k, SemE X v) :: trs) (mPairs mk mv ms) := ⟨pps_cons semE semE hr.1, fun J p g σ H R0 r hm Q hp => by
  show SemE X k σ H _
  refine hk.then R0 hm hp fun x g1 p1 H1 u ad1 R1 ru hm1 hp1 => ?_
  show SemE X v σ H1 _
  refine hv.then R1 hm1 hp1 fun y g2 p2 H2 w ad2 R2 rw' hm2 hp2 => ?_
  unfold M.bind at hm2
  cases e1 : ms g2 with
  | none => rw [e1] at hm2; cases hm2
  | some r1 =>
    rw [e1] at hm2
    cases r1 with
    | ex E g3 =>
      cases hm2
      exact hr.2 J p2 g2 σ H2 R2 _ e1 _ hp2
    | ok es g3 =>
      refine hr.2 J p2 g2 σ H2 R2 _ e1 _ fun p3 H3 ad3 R3 ws rws => ?_
      dsimp only at hm2
      cases e2 : asKey x with
      | none =>
        rw [e2] at hm2
        cases hm2
      | some kk =>
        rw [e2] at hm2
        cases hm2
        have eu : u = kV kk := rep_key ru e2
        subst eu
        exact hp2 p3 H3 ad3 R3 ((kk, w) :: ws) (.cons (rw'.le ad3.le) rws)⟩
def mergeD (acc : List (Key × D)) (more : List (Key × D)) : List (Key × D) := more.foldl (fun acc kv => putD acc kv.1 kv.2) acc
theorem repK_merge {K : PySem.W.Frag} {F : Hp} : ∀ {more : List (Key × V)} {es : List (Key × D)} {acc : List (Key × V)} {ds : List (Key × D)}, RepK K F more es → RepK K F acc ds → RepK K F (mergeK acc more) (mergeD ds es)
  | _, _, _, _, .nil, h => h
  | _, _, _, _, .cons (k := k) (v := v) (d := d) h1 r, h => repK_merge (acc := putK _ k v) (ds := putD _ k d) r (repK_put h h1)
def mDisp (ms : M (List (Key × D))) : M O := ms.bind fun es => if es.length ≤ 15 then ret (.k (mergeD [] es)) else bad
theorem eo_disp {keys : List (Option Expr)} {values : List Expr} {trs : List (TE × TE)} {ms : M (List (Key × D))} (h : EPs X W pos keys values trs ms) (hall : keys.all (·.isSome) = true := by rfl) (hl : keys.length = values.length := by rfl) (h0 : keys ≠ [] := by exact fun z => nomatch z) (h15 : keys.length ≤ 15 := by decide) :
    EO X W (.Dict keys values pos) (mDisp ms) := fun J p g σ H R0 r hm Q hp =>
  of_pe (pe_disp h.1 hall hl h0 h15) fun q hq => by
    obtain ⟨R1, ad1, m1, j1, n1, le1⟩ := R0.hide (o := .dK []) hq
    unfold mDisp M.bind at hm
    cases e1 : ms g with
    | none => rw [e1] at hm; cases hm
    | some r1 =>
      rw [e1] at hm
      cases r1 with
      | ex E g2 =>
        cases hm
        exact h.2 J _ g σ _ R1 _ e1 _ (hp.adv ad1)
      | ok es g2 =>
        refine h.2 J _ g σ _ R1 _ e1 _ fun p2 H2 ad2 R2 ws rws => ?_
        obtain ⟨m2, e2⟩ := ad2.ex q m1 n1
        have n2 := ad2.sl q n1
        rw [upd_same] at e2
        dsimp only at hm
        split at hm
        · rename_i hz
          cases hm
          refine ⟨e2, ws, rfl, by rw [repK_len rws]; exact hz, ?_⟩
          obtain ⟨R3, le3⟩ := R2.putH (u := .dK (mergeK [] ws)) m2 j1 n2 trivial
          exact hp p2 _ ((ad1.trans ad2).putQ hq (fun a m => mut_ne (R0.lv a m)) le3) R3 q m2 hq n2 ⟨_, upd_same, RepK.le le3 (repK_merge rws .nil)⟩
        · cases hm
/-! ### *e in a display -/
def mStar (m : M D) (ms : M (List D)) : M (List D) := m.bind fun d => match seqD d with
  | some xs => ms.bind fun ds => ret (xs ++ ds)
  | none => bad
/-! ### f'..' -/
def fFmt : D → Option D
  | .str y => if y.length ≤ sizeLine then some (.str y) else none
  | .int i => if i.natAbs.log2 < 1920 then some (.str (toString i)) else none
  | _ => none
def mFmt (m : M D) : M D := m.bind fun d => lift (fFmt d)
def mJs : List (M D) → Str → M D
  | [], acc => ret (.str acc)
  | m :: ms, acc => m.bind fun d => match d with
    | .str y => if (acc ++ y).length ≤ sizeLine then mJs ms (acc ++ y) else bad
    | _ => bad
end
end Mo
set_option Elab.async false
set_option linter.all false
set_option maxRecDepth 100000
set_option maxHeartbeats 1000000
/-! Lp, part nine: more of texts, lists that are filled, more comprehensions. -/
namespace Lp
open PySem PySem.Spec L2
/-! ### texts -/
section
variable {X : Cx} {p : OA} {σ : St} {H H' : Hp} {e a b c : Expr} {es : List Expr} {pos ps : Pos} {α β γ : Type} [Enc α] [Enc β] [Enc γ] {D : Ends}
/-- x, y = e1, e2 (two names) -/
theorem s_par {A : α → Prop} {B : β → Prop} {x y : Str} {px py pt : Pos} {kt k2 pt2} (i j : Nat) (dk : DOk p H) (hc : X.calm = true) (nd : X.N.Nodup) (ha : JE X p a σ H A) (hb : JE X p b σ H B)
    (k : ∀ v1 v2 H1 u1 u2, Go p H H1 → A u1 → B u2 → Rep X.K (del p H1) v1 (enc u1) → Rep X.K (del p H1) v2 (enc u2) → D.nx ((σ.set i (some v1)).set j (some v2)) H1) (hij : i ≠ j) (hi : X.N[i]? = some x := by rfl) (hj : X.N[j]? = some y := by rfl)
    (hx : X.env.scope.names.lookup x = some .local := by rfl) (hy : X.env.scope.names.lookup y = some .local := by rfl) (hw : swappedStores [.Tuple [.Name x px, .Name y py] kt pt] (.Tuple [a, b] k2 pt2) X.env = pure (some [x, y]) := by rfl)
    (hs : swapsWithSole [.Tuple [.Name x px, .Name y py] kt pt] (.Tuple [a, b] k2 pt2) pos.line X.env = pure false := by rfl) (he : starEach [a, b] X.env = (false, eval a X.env) :: starEach [b] X.env := by rfl) (he2 : starEach [b] X.env = (false, eval b X.env) :: starEach [] X.env := by rfl) :
    SemS X (.Assign [.Tuple [.Name x px, .Name y py] kt pt] (.Tuple [a, b] k2 pt2) pos) D σ H :=
  of_ps (ps_par hc nd hi hj hij hx hy (pa_cons semE (pa_cons semE pa_nil he2) he) hw hs) (ha H (.refl dk) _ fun v H1 u g1 pu r1 => hb H1 g1 _ fun v2 H2 u2 g2 pu2 r2 => ⟨v, v2, rfl, k v v2 H2 u u2 (g1.trans g2) pu pu2 (r1.go g2) r2⟩)
/-! ### a list that is filled -/
/-- the list at l is being filled: it holds ds -/
def Fill (X : Cx) (p : OA) (l : Addr) (J : Hp) (ds : List PyData) : Prop := ∃ xs, J l = some (.lst xs) ∧ Reps X.K (del (p.add l) J) xs ds
theorem Fill.go {l : Addr} {J J1 : Hp} {ds : List PyData} (f : Fill X p l J ds) (n : p.d ≠ some l) (g : Go (p.add l) J J1) : Fill X p l J1 ds := by
  obtain ⟨xs, e, r⟩ := f
  exact ⟨xs, g.ex l _ n e, r.go g⟩
theorem Fill.rep {l : Addr} {J : Hp} {ds : List PyData} (f : Fill X p l J ds) (n : ¬ Hid p l) : Rep X.K (del p J) (.ref l) (.list ds) := by
  obtain ⟨xs, e, r⟩ := f
  exact .lst (by rw [del_at n]; exact e) r.sub
end
/-! ### comprehensions without a test -/
end Lp
set_option Elab.async false
set_option linter.all false
set_option maxRecDepth 100000
set_option maxHeartbeats 4000000
/-! Mo, part twenty: sorted. -/
namespace Mo
open PySem PySem.Spec L2 PyProof.Rows PyProof.Rows.G
/-! ### order of keys -/
end Mo
set_option Elab.async false
set_option linter.all false
set_option maxRecDepth 100000
set_option maxHeartbeats 4000000
/-! Mo, part twenty-one: sorted, on data. -/
namespace Mo
open PySem PySem.Spec L2 PyProof.Rows PyProof.Rows.G
/-! ### texts in order -/
def leS (x y : Str) : Bool := !decide (y.cps.toList < x.cps.toList)
def sortS (xs : List Str) : List Str := xs.mergeSort leS
def nub : List Str → List Str
  | [] => []
  | x :: r => if x ∈ nub r then nub r else x :: nub r
theorem mem_nub {x : Str} : ∀ {xs : List Str}, x ∈ nub xs ↔ x ∈ xs
  | [] => Iff.rfl
  | y :: r => by
    unfold nub
    split
    · rename_i h
      rw [mem_nub, List.mem_cons]
      refine ⟨.inr, fun z => z.elim (fun e => ?_) id⟩
      rw [e]
      exact mem_nub.mp h
    · rw [List.mem_cons, List.mem_cons, mem_nub]
theorem nodup_nub : ∀ (xs : List Str), (nub xs).Nodup
  | [] => List.nodup_nil
  | y :: r => by
    unfold nub
    split
    · exact nodup_nub r
    · rename_i h
      exact List.nodup_cons.mpr ⟨h, nodup_nub r⟩
def sortU (xs : List Str) : List Str := sortS (nub xs)
/-! ### numbers in order -/
theorem CO.or {K : PySem.W.Frag} {r r' : List V → Hp → VK → Prop} {f f' : List D → Option O} (h : CO K r f) (h' : CO K r' f') : CO K (fun xs H Q => r xs H Q ∨ r' xs H Q) (fun xs => (f xs).or (f' xs)) := fun J p g σ H vs ds z Q R0 rs e q => by
  dsimp only at e
  cases e1 : f ds with
  | some z' =>
    rw [e1] at e
    cases e
    exact .inl (h J p g σ H vs ds _ Q R0 rs e1 q)
  | none =>
    rw [e1] at e
    exact .inr (h' J p g σ H vs ds z Q R0 rs e q)
end Mo
set_option Elab.async false
set_option linter.all false
set_option maxRecDepth 100000
set_option maxHeartbeats 4000000
/-! Mo, part twenty-two: sets of texts. -/
namespace Mo
open PySem PySem.Spec PySem.Calls PyProof.Rows L2
open Lp (TxAt newSet tx_new tx_loop SetX setX_new rSetX cr_setX rSortX cr_sortX call_set_tx)
section
variable {X : Cx}
def signsS (x : Str) : List Str := x.cps.toList.map fun c => (⟨#[c]⟩ : Str)
def fSetS : D → Option (List Str)
  | .lst ds => (asStrs ds).bind fun xs => if xs.length ≤ 4000 then some xs else none
  | .str x => if x.length ≤ 4000 then some (signsS x) else none
  | _ => none
def fSortSet (d : D) : Option O := (fSetS d).map fun xs => .l ((sortU xs).map .str)
end
end Mo
set_option Elab.async false
set_option linter.all false
set_option maxRecDepth 100000
set_option maxHeartbeats 4000000
/-! Mo, part twenty-three: min and max with a default. -/
namespace Mo
open PySem PySem.Spec PySem.Calls PyProof.Rows L2
end Mo
set_option Elab.async false
set_option linter.all false
set_option maxRecDepth 100000
set_option maxHeartbeats 4000000
/-! Mo, part twenty-four: min and max with a default, on data. -/
namespace Mo
open PySem PySem.Spec PyProof.Rows L2
end Mo
set_option Elab.async false
set_option linter.all false
set_option maxRecDepth 100000
set_option maxHeartbeats 4000000
/-! Mo, part twenty-five: specials of own classes. -/
namespace Mo
open PySem PySem.Spec PySem.Calls L2
open Lp (FnG okN callG)
section
variable {X : Cx} {W : WW} {e a b : Expr} {es : List Expr} {pos ps : Pos} {C ff : Addr} {k : Nat} {fd : FuncData} {qs : List Str} {sp : Sp} {m : Str}
/-- on data: len(o) by the def F -/
def mLenI (C : Addr) (F : FD) (mo : M D) : M D := mo.bind fun d => match d with
  | .ins C' fs => if C' = C then (liftC (F [.ins C' fs])).bind fun v => (match v with
    | .int n => if 0 ≤ n ∧ n < 2 ^ 63 then ret (.int n) else bad
    | _ => bad) else bad
  | _ => bad
/-! ### isinstance(e, C), C a class of one's own -/
/-- isinstance(e, C), e's class C itself -/
def fIsC (C : Addr) : D → Option D
  | .ins C' _ => if C' = C then some (.bl true) else none
  | _ => none
def mIsC (C : Addr) (m : M D) : M D := m.bind fun d => lift (fIsC C d)
end
end Mo
set_option Elab.async false
set_option linter.all false
set_option maxRecDepth 100000
set_option maxHeartbeats 4000000
/-! Mo, part twenty-six: dict comprehensions, whatever the keys. -/
namespace Mo
open PySem PySem.Spec L2 PyProof.Rows
end Mo
set_option Elab.async false
set_option linter.all false
set_option maxRecDepth 100000
set_option maxHeartbeats 4000000
/-! Mo, part twenty-seven: dict comprehensions, on data. -/
namespace Mo
open PySem PySem.Spec L2 PyProof.Rows
/-- the turns -/
def dcGo (vs : List Nat) (f : D → G → Option G) (mt : M Bool) (mk mv : M D) : List D → O → M O
  | [], acc => ret acc
  | d :: ds, acc => fun g => match f d g with
    | none => none
    | some g1 => match mt g1 with
      | some (.ok true g2) => match mk g2 with
        | some (.ok y g3) => match mv g3 with
          | some (.ok z g4) => match putO acc y z with
            | some acc' => dcGo vs f mt mk mv ds acc' (wipeG g4 vs)
            | none => none
          | _ => none
        | _ => none
      | some (.ok false g2) => dcGo vs f mt mk mv ds acc (wipeG g2 vs)
      | _ => none
def mDc (o0 : O) (vs : List Nat) (mi : M (List D)) (f : D → G → Option G) (mt : M Bool) (mk mv : M D) : M O := mi.bind fun ds g1 => if noOwn vs g1 = true then lcEnd vs g1 id (dcGo vs f mt mk mv ds o0 (wipeG g1 vs)) else none
end Mo
set_option Elab.async false
set_option linter.all false
set_option maxRecDepth 100000
set_option maxHeartbeats 4000000
/-! Mo, part twenty-eight: repr, dict of pairs, is of truths. -/
namespace Mo
open PySem PySem.Spec L2
end Mo
set_option Elab.async false
set_option linter.all false
set_option maxRecDepth 100000
set_option maxHeartbeats 4000000
/-! Mo, part twenty-nine: y = [..]; what the second printer names. -/
namespace Mo
open PySem PySem.Spec L2
theorem M.assoc {α β γ : Type} (m : M α) (f : α → M β) (k : β → M γ) : (m.bind f).bind k = m.bind fun a => (f a).bind k := by
  funext g
  unfold M.bind
  cases m g with
  | none => rfl
  | some r => cases r <;> rfl
noncomputable def mSortSet (m : M D) : M O := m.bind fun d => lift (fSortSet d)
section
variable {X : Cx} {W : WW} {e a b c it tg : Expr} {es : List Expr} {pos ps : Pos}
theorem lc_rd {elt : Expr} {ifs : List Expr} {scope : Scope} {own : List (Str × Nat)} {is : List Nat} {mi : M (List D)} {f : D → G → Option G} {mt : M Bool} {me : M D} (hi : EI X WN tg it mi)
    (hg : ∀ s H C cl fp, ES (Blk X scope s H C cl fp) is tg f) (ht : ∀ s H C cl fp, ETs (Blk X scope s H C cl fp) WN ifs mt) (he : ∀ s H C cl fp, EF (Blk X scope s H C cl fp) WN elt me) (hin : ∀ i ∈ is, i ∈ own.map (·.2))
    {J : Hp} {p : Mt} {g : G} {σ : St} {H : Hp} (R0 : Rl X.K J p g σ H) {r : R O} (hm : mLc (own.map (·.2)) mi f mt me g = some r) {Q : VK} (hp : Post X.K WN J p g σ H r (qO X.K H σ Q)) :
    tLc (SemI X tg it) (bG X scope tg) (bT X scope ifs) (bE X scope elt) (own.map (·.2)) σ H (unlV X Q) := by
  generalize hvs : own.map (·.2) = vs at hm hin
  clear hvs
  unfold mLc M.bind at hm
  cases e1 : mi g with
  | none =>
    rw [e1] at hm
    cases hm
  | some r1 =>
    rw [e1] at hm
    cases r1 with
    | ex E g1 =>
      cases hm
      exact hi J p g σ H R0 _ e1 _ hp
    | ok ds g1 =>
      dsimp only at hm
      split at hm
      · rename_i no
        refine hi J p g σ H R0 _ e1 _ fun p1 H1 ad R1 Jt J' H1' lk wk => ?_
        obtain ⟨R1', ad1⟩ := lk.rl R1
        obtain ⟨Gg, Y, w, hG, hY⟩ := wk.ex
        intro q hq
        obtain ⟨R2, ad2, m2, jq, n2, _⟩ := (R1'.wipe vs).hide (o := .lst []) hq
        refine lc_it w (fun k Hk => ∃ gk pk acc, Rl X.K J' pk gk (L2.wipe σ vs) Hk ∧ Ad (wipeG g1 vs) (L2.wipe σ vs) p1 H1' gk pk Hk ∧ q ∈ pk.o ∧ NoSl gk (L2.wipe σ vs) q ∧ OwnAt X.K (del pk Hk) Hk q (.l acc) ∧ lcEnd vs g1 .l (lcGo vs f mt me (ds.drop k) acc gk) = some r)
          ⟨_, _, [], R2, ad2, m2, n2, ⟨[], upd_same, .nil⟩, hm⟩ (fun k Hk _ ⟨gk, pk, acc, Rk, adk, _⟩ => hG pk gk _ Hk Rk adk.dd adk.le) (fun k x Hk H' hlt ⟨gk, pk, acc, Rk, adk, mk, nk, ow, e'⟩ y => ?_) (fun Hk ⟨gk, pk, acc, Rk, adk, mk, nk, ow, e'⟩ => ?_)
        · obtain ⟨d, ed, R3, ad3, rx⟩ := hY pk gk _ Hk k x H' Rk adk.dd adk.le hlt y
          have e2 : ds.drop k = d :: ds.drop (k + 1) := by
            rw [List.drop_eq_getElem_cons hlt]
            rw [List.getElem?_eq_getElem hlt] at ed
            cases ed
            rfl
          rw [e2] at e'
          simp only [lcGo] at e'
          cases q1 : f d gk with
          | none =>
            rw [q1] at e'
            cases e'
          | some g3 =>
            simp only [q1] at e'
            intro s H0 C cl fp
            refine hg s H0 C cl fp J' pk gk _ H' x d g3 R3 rx q1 _ fun σ2 sm0 R4 => ?_
            have sm := sm0.mono hin
            have hw := wipe_same sm
            refine ⟨hw, fun s H0 C cl fp => ?_⟩
            cases q2 : mt g3 with
            | none =>
              rw [q2] at e'
              cases e'
            | some r2 =>
              rw [q2] at e'
              cases r2 with
              | ex E g4 => cases e'
              | ok b g4 =>
                refine ht s H0 C cl fp J' pk g3 σ2 H' R4 _ q2 _ fun p4 H4 ad4 R5 => ?_
                unfold qT
                cases b with
                | false =>
                  refine iteF ?_
                  obtain ⟨x1, x2⟩ := ad4.ex q mk (sm.sl q nk)
                  obtain ⟨x3, x4⟩ := ad3.ex q mk nk
                  have R6 := R5.wipe vs
                  rw [hw] at R6
                  have n6 := (ad4.sl q (sm.sl q nk)).wipe vs
                  rw [hw] at n6
                  exact ⟨_, p4, acc, R6, adk.turn (fun a m => mut_ne (R1'.lv a m)) ad3 sm ad4 hw hq (.refl _) (fun _ _ => rfl) (mut_ne (R5.lv q x1)), x1, n6, ow.le (ad3.le.trans ad4.le) (x2.trans x4), e'⟩
                | true =>
                  refine iteT fun s H0 C cl fp => ?_
                  cases q3 : me g4 with
                  | none =>
                    simp only [q3] at e'
                    cases e'
                  | some r3 =>
                    simp only [q3] at e'
                    cases r3 with
                    | ex E g5 => cases e'
                    | ok y2 g5 =>
                      dsimp only at e'
                      split at e'
                      · rename_i hz
                        refine he s H0 C cl fp J' p4 g4 σ2 H4 R5 _ q3 _ fun p5 H5 ad5 R6 v rv => ?_
                        have ad6 := ad4.trans ad5
                        obtain ⟨x1, x2⟩ := ad6.ex q mk (sm.sl q nk)
                        obtain ⟨x3, x4⟩ := ad3.ex q mk nk
                        have n5 := ad6.sl q (sm.sl q nk)
                        obtain ⟨us, u1, u2⟩ := ow
                        obtain ⟨R7, le7⟩ := R6.putH (u := .lst (us ++ [v])) x1 jq n5 trivial
                        have R8 := R7.wipe vs
                        rw [hw] at R8
                        have n6 := n5.wipe vs
                        rw [hw] at n6
                        refine ⟨us, by rw [x2, x4, u1], by rw [u2.len]; exact hz, _, p5, acc ++ [y2], R8, adk.turn (fun a m => mut_ne (R1'.lv a m)) ad3 sm ad6 hw hq le7 (fun a na => upd_ne na) (by rw [upd_same]; exact Option.some_ne_none _), x1, n6, ⟨us ++ [v], upd_same, ?_⟩, e'⟩
                        exact (u2.le (ad3.le.trans (ad6.le.trans le7))).app (.cons (rv.le le7) .nil)
                      · cases e'
        · rw [List.drop_length] at e'
          cases e'
          have R3 := R1'.back no Rk adk.le
          have hl : g1.s.length = gk.s.length := R1'.len.trans ((wipe_length σ vs).symm.trans Rk.len.symm)
          obtain ⟨H6, h1, h2, h3, h4, h5, h6⟩ := lk.off R1 adk.dd R3
          refine unlV_of h1 (hp pk H6 ⟨adk.dd.trans ad.dd, ad.le.trans (ad1.le.trans (adk.le.trans h3)), fun a m n => ?_, fun a n => ?_, fun a n => h4 a (adk.th a (ad1.th a (ad.th a n)))⟩ h2 q mk (ad.gone (ad1.gone hq)) (nk.back no hl) (ow.le h3 (h5 q mk)))
          · obtain ⟨x1, x2⟩ := ad.ex a m n
            have n1 := ad.sl a n
            obtain ⟨x3, x4⟩ := ad1.ex a x1 n1
            obtain ⟨x5, x6⟩ := adk.ex a x3 (n1.wipe vs)
            exact ⟨x5, by rw [h5 a x5, x6, x4, x2]⟩
          · exact (adk.sl a ((ad.sl a n).wipe vs)).back no hl
      · cases hm
theorem post_setF {J : Hp} {p : Mt} {g : G} {σ : St} {H : Hp} {i : Nat} {m : M O} {r : R Oc} {Dd : Ends} (R0 : Rl X.K J p g σ H) (hm : mSet i (frz m) g = some r) (hp : PostS X.K WN J p H r Dd) : ∃ r1, m g = some r1 ∧ Post X.K WN J p g σ H r1 (qO X.K H σ fun x H1 => Dd.nx (σ.set i (some x)) H1) := by
  unfold mSet frz at hm
  rw [M.assoc] at hm
  obtain ⟨r1, e1, hq⟩ := post_s R0 hm hp
  refine ⟨r1, e1, hq _ fun d g1 p1 H1 er ad R1 hk hp1 q h1 h2 h3 h4 => ?_⟩
  cases hk
  obtain ⟨R2, e2⟩ := R1.show_ h3 h1
  exact hp1 _ (p1.rem q) H1 ⟨rfl, del_rem, fun a m n => List.mem_filter.mpr ⟨m, decide_eq_true fun z => n (by rw [z]; exact R0.jn h2)⟩, fun _ z => z⟩ (R2.setV ((h4.le del_rem rfl).rep e2))
/-- y = [..], y shown -/
theorem s_setLc {y : Str} {py spos : Pos} {elt : Expr} {ifs : List Expr} {scope : Scope} {own : List (Str × Nat)} {is : List Nat} {mi : M (List D)} {f : D → G → Option G} {mt : M Bool} {me : M D} (i : Nat) (hc : X.calm = true) (hN : X.N.Nodup) (hi : EI X WN tg it mi) (ok : BlkOk X.N X.env.scope scope own)
    (hg : ∀ s H C cl fp, ES (Blk X scope s H C cl fp) is tg f) (ht : ∀ s H C cl fp, ETs (Blk X scope s H C cl fp) WN ifs mt) (he : ∀ s H C cl fp, EF (Blk X scope s H C cl fp) WN elt me) (hin : ∀ i ∈ is, i ∈ own.map (·.2) := by decide)
    (hy : X.N[i]? = some y := by rfl) (hyl : X.env.scope.names.lookup y = some .local := by rfl) (hsw : swapsWith (.ListComp elt [⟨tg, it, ifs, 0⟩] scope pos) (some (.Name y py)) spos.line X.env = pure true := by exact sw_true rfl rfl rfl (by decide +kernel))
    (hs : ∀ x, foldedSetIterable it X.env x = pure x := by intro _; rfl) : SS X WN (.Assign [.Name y py] (.ListComp elt [⟨tg, it, ifs, 0⟩] scope pos) spos) (mSet i (frz (mLc (own.map (·.2)) mi f mt me))) := fun J p g σ H R0 r hm Dd hp => by
  obtain ⟨r1, e1, hq⟩ := post_setF R0 hm hp
  refine semS_unl (of_ps (ps_setLc (i := i) (g := bG X scope tg) (tt := bT X scope ifs) (te := bE X scope elt) hc hN hy hyl hsw semI ok (fun s H0 C cl fp => ⟨fun pins s' σ' H' v u Q' I r' h => (h s H0 C cl fp).run pins s' u I r'⟩) (fun s H0 C cl fp => ⟨fun pins s' σ' H' Q' I h => (h s H0 C cl fp).run pins s' I⟩) (fun s H0 C cl fp => ⟨fun pins s' σ' H' Q' I h => (h s H0 C cl fp).run pins s' I⟩) hs) ?_)
  exact lc_rd hi hg ht he hin R0 e1 hq
end
end Mo
set_option Elab.async false
set_option linter.all false
set_option maxRecDepth 100000
set_option maxHeartbeats 4000000
/-! Mo, part thirty: what a function of the state comes to. -/
namespace Mo
open PySem PySem.Spec L2
/-- m runs through from g, and Q holds of what comes of it -/
def Ev {α : Type} (m : M α) (g : G) (Q : α → G → Prop) : Prop := ∃ a g', m g = some (.ok a g') ∧ Q a g'
section
variable {α β γ : Type} {g : G} {i : Nat} {d : D} {o : O}
theorem Ev.mono {m : M α} {Q Q' : α → G → Prop} (h : Ev m g Q) (k : ∀ a g', Q a g' → Q' a g') : Ev m g Q' := let ⟨a, g', e, q⟩ := h; ⟨a, g', e, k a g' q⟩
@[simp] theorem ev_ret {a : α} {Q : α → G → Prop} : Ev (ret a) g Q ↔ Q a g := ⟨fun ⟨_, _, e, q⟩ => by cases e; exact q, fun q => ⟨a, g, rfl, q⟩⟩
@[simp] theorem ev_bad {Q : α → G → Prop} : Ev bad g Q ↔ False := ⟨fun ⟨_, _, e, q⟩ => by (cases e), False.elim⟩
@[simp] theorem ev_bind {m : M α} {k : α → M β} {Q : β → G → Prop} : Ev (m.bind k) g Q ↔ Ev m g fun a g' => Ev (k a) g' Q := by
  constructor
  · rintro ⟨b, g2, e, q⟩
    unfold M.bind at e
    split at e
    · exact ⟨_, _, by assumption, b, g2, e, q⟩
    · cases e
    · cases e
  · rintro ⟨a, g1, e1, b, g2, e2, q⟩
    refine ⟨b, g2, ?_, q⟩
    unfold M.bind
    rw [e1]
    exact e2
@[simp] theorem ev_lift_some {a : α} {Q : α → G → Prop} : Ev (lift (some a)) g Q ↔ Q a g := ⟨fun ⟨_, _, e, q⟩ => by cases e; exact q, fun q => ⟨a, g, rfl, q⟩⟩
@[simp] theorem ev_lift_none {Q : α → G → Prop} : Ev (lift (none : Option α)) g Q ↔ False := ⟨fun ⟨_, _, e, q⟩ => by (cases e), False.elim⟩
theorem ev_lift {a : α} {x : Option α} {Q : α → G → Prop} (h : x = some a) (q : Q a g) : Ev (lift x) g Q := by rw [h]; exact ev_lift_some.mpr q
@[simp] theorem ev_fun {a : α} {g1 : G → G} {Q : α → G → Prop} : Ev (fun g => some (.ok a (g1 g))) g Q ↔ Q a (g1 g) := ⟨fun ⟨_, _, e, q⟩ => by cases e; exact q, fun q => ⟨a, _, rfl, q⟩⟩
@[simp] theorem gset_mk {s : List Sl} {c : C3} {x : Sl} : G.set ⟨s, c⟩ i x = ⟨s.set i x, c⟩ := rfl
theorem ev_name_v {s : List Sl} {c : C3} {Q : D → G → Prop} (h : s[i]? = some (.v d)) : Ev (mName i) ⟨s, c⟩ Q ↔ Q d ⟨s, c⟩ := by
  constructor
  · rintro ⟨_, _, e, q⟩
    simp only [mName, h] at e
    cases e
    exact q
  · exact fun q => ⟨d, _, by simp only [mName, h], q⟩
@[simp] theorem ev_set {m : M D} {Q : Oc → G → Prop} : Ev (mSet i m) g Q ↔ Ev m g fun d g' => Q .nx (g'.set i (.v d)) := by
  unfold mSet
  rw [ev_bind]
  exact ⟨fun h => h.mono fun d g' ⟨_, _, e, q⟩ => (by cases e; exact q), fun h => h.mono fun d g' q => ⟨_, _, rfl, q⟩⟩
@[simp] theorem ev_setO {m : M O} {Q : Oc → G → Prop} : Ev (mSetO i m) g Q ↔ Ev m g fun d g' => Q .nx (g'.set i (.o d)) := by
  unfold mSetO
  rw [ev_bind]
  exact ⟨fun h => h.mono fun d g' ⟨_, _, e, q⟩ => (by cases e; exact q), fun h => h.mono fun d g' q => ⟨_, _, rfl, q⟩⟩
@[simp] theorem ev_mret {m : M D} {Q : Oc → G → Prop} : Ev (mRet m) g Q ↔ Ev m g fun d g' => Q (.rt d) g' := by
  unfold mRet
  simp
@[simp] theorem ev_mretO {m : M O} {Q : Oc → G → Prop} : Ev (mRetO m) g Q ↔ Ev m g fun d g' => Q (.rto d) g' := by
  unfold mRetO
  simp
/-- what stands behind a statement's end -/
def After (k : M Oc) (Q : Oc → G → Prop) : Oc → G → Prop
  | .nx, g => Ev k g Q
  | o, g => Q o g
@[simp] theorem after_nx {k : M Oc} {Q : Oc → G → Prop} : After k Q .nx g ↔ Ev k g Q := Iff.rfl
@[simp] theorem after_rt {k : M Oc} {Q : Oc → G → Prop} : After k Q (.rt d) g ↔ Q (.rt d) g := Iff.rfl
@[simp] theorem after_rto {k : M Oc} {Q : Oc → G → Prop} : After k Q (.rto o) g ↔ Q (.rto o) g := Iff.rfl
@[simp] theorem after_bk {k : M Oc} {Q : Oc → G → Prop} : After k Q .bk g ↔ Q .bk g := Iff.rfl
@[simp] theorem after_ct {k : M Oc} {Q : Oc → G → Prop} : After k Q .ct g ↔ Q .ct g := Iff.rfl
@[simp] theorem ev_seq {m k : M Oc} {Q : Oc → G → Prop} : Ev (seq m k) g Q ↔ Ev m g (After k Q) := by
  constructor
  · rintro ⟨a, g2, e, q⟩
    unfold seq at e
    split at e
    · exact ⟨.nx, _, by assumption, a, g2, e, q⟩
    · rename_i r h
      refine ⟨a, g2, e, ?_⟩
      cases a <;> first | exact q | (rw [e] at h; exact (h _ rfl).elim)
  · rintro ⟨a, g1, e1, q⟩
    cases a with
    | nx =>
      obtain ⟨b, g2, e2, q⟩ := q
      exact ⟨b, g2, by unfold seq; rw [e1]; exact e2, q⟩
    | _ => exact ⟨_, g1, by unfold seq; rw [e1], q⟩
@[simp] theorem ev_if {mc : M Bool} {ma mb : M γ} {Q : γ → G → Prop} : Ev (mIf mc ma mb) g Q ↔ Ev mc g fun b g' => if b = true then Ev ma g' Q else Ev mb g' Q := by
  unfold mIf
  rw [ev_bind]
  refine ⟨fun h => h.mono fun b g' q => ?_, fun h => h.mono fun b g' q => ?_⟩
  · cases b <;> simpa using q
  · cases b <;> simpa using q
@[simp] theorem ev_bin {f : D → D → Option D} {ma mb : M D} {Q : D → G → Prop} : Ev (mBin f ma mb) g Q ↔ Ev ma g fun x g' => Ev mb g' fun y g2 => Ev (lift (f x y)) g2 Q := by
  unfold mBin
  simp
@[simp] theorem ev_t2 {f : D → D → Option D} {ma mb : M D} {Q : Bool → G → Prop} : Ev (mT2 f ma mb) g Q ↔ Ev ma g fun x g' => Ev mb g' fun y g2 => Ev (lift ((f x y).bind asB)) g2 Q := by
  unfold mT2
  simp
@[simp] theorem ev_tru {m : M D} {Q : Bool → G → Prop} : Ev (mTru m) g Q ↔ Ev m g fun x g' => Ev (lift (truD x)) g' Q := by
  unfold mTru
  simp
@[simp] theorem ev_tst {m : M D} {Q : Bool → G → Prop} : Ev (mTst m) g Q ↔ Ev m g fun x g' => Ev (lift (asB x)) g' Q := by
  unfold mTst
  simp
@[simp] theorem ev_tnot {m : M Bool} {Q : Bool → G → Prop} : Ev (mtNot m) g Q ↔ Ev m g fun x g' => Q (!x) g' := by
  unfold mtNot
  simp
@[simp] theorem ev_tand {ma mb : M Bool} {Q : Bool → G → Prop} : Ev (mtAnd ma mb) g Q ↔ Ev ma g fun b g' => if b = true then Ev mb g' Q else Q false g' := by
  unfold mtAnd
  rw [ev_bind]
  refine ⟨fun h => h.mono fun b g' q => ?_, fun h => h.mono fun b g' q => ?_⟩
  · cases b <;> simpa using q
  · cases b <;> simpa using q
@[simp] theorem ev_tor {ma mb : M Bool} {Q : Bool → G → Prop} : Ev (mtOr ma mb) g Q ↔ Ev ma g fun b g' => if b = true then Q true g' else Ev mb g' Q := by
  unfold mtOr
  rw [ev_bind]
  refine ⟨fun h => h.mono fun b g' q => ?_, fun h => h.mono fun b g' q => ?_⟩
  · cases b <;> simpa using q
  · cases b <;> simpa using q
@[simp] theorem ev_cons {m : M D} {ms : M (List D)} {Q : List D → G → Prop} : Ev (mCons m ms) g Q ↔ Ev m g fun x g' => Ev ms g' fun r g2 => Q (x :: r) g2 := by
  unfold mCons
  simp
@[simp] theorem ev_call {f : List D → Option D} {ms : M (List D)} {Q : D → G → Prop} : Ev (mCall f ms) g Q ↔ Ev ms g fun r g2 => Ev (lift (f r)) g2 Q := by
  unfold mCall
  simp
@[simp] theorem ev_callO {f : List D → Option O} {ms : M (List D)} {Q : O → G → Prop} : Ev (mCallO f ms) g Q ↔ Ev ms g fun r g2 => Ev (lift (f r)) g2 Q := by
  unfold mCallO
  simp
@[simp] theorem ev_frz {m : M O} {Q : D → G → Prop} : Ev (frz m) g Q ↔ Ev m g fun x g2 => Q x.d g2 := by
  unfold frz
  simp
theorem ev_ite {p : Prop} [Decidable p] {a b : M α} {Q : α → G → Prop} : Ev (if p then a else b) g Q ↔ if p then Ev a g Q else Ev b g Q := by
  split <;> exact Iff.rfl
@[simp] theorem ev_tup {ms : M (List D)} {Q : D → G → Prop} : Ev (mTup ms) g Q ↔ Ev ms g fun r g2 => r.length ≤ sizeLine ∧ Q (.tup r) g2 := by
  unfold mTup
  rw [ev_bind]
  refine ⟨fun h => h.mono fun b g' q => ?_, fun h => h.mono fun b g' q => ?_⟩
  · rw [ev_ite] at q
    split at q
    · exact ⟨by assumption, ev_ret.mp q⟩
    · exact (ev_bad.mp q).elim
  · rw [ev_ite, if_pos q.1]
    exact ev_ret.mpr q.2
@[simp] theorem ev_lst {ms : M (List D)} {Q : O → G → Prop} : Ev (mLst ms) g Q ↔ Ev ms g fun r g2 => r.length ≤ sizeLine ∧ Q (.l r) g2 := by
  unfold mLst
  rw [ev_bind]
  refine ⟨fun h => h.mono fun b g' q => ?_, fun h => h.mono fun b g' q => ?_⟩
  · rw [ev_ite] at q
    split at q
    · exact ⟨by assumption, ev_ret.mp q⟩
    · exact (ev_bad.mp q).elim
  · rw [ev_ite, if_pos q.1]
    exact ev_ret.mpr q.2
@[simp] theorem ev_liftC {f : C3 → Option (α × C3)} {Q : α → G → Prop} : Ev (liftC f) g Q ↔ ∃ a c, f g.c = some (a, c) ∧ Q a ⟨g.s, c⟩ := by
  constructor
  · rintro ⟨a, g', e, q⟩
    obtain ⟨d, c, e1, e2⟩ := liftC_some e
    cases e2
    exact ⟨a, c, e1, q⟩
  · rintro ⟨a, c, e, q⟩
    exact ⟨a, _, by unfold liftC; rw [e], q⟩
@[simp] theorem ev_fn {F : FD} {ms : M (List D)} {Q : D → G → Prop} : Ev (mFn F ms) g Q ↔ Ev ms g fun ds g' => ∃ a c, F ds g'.c = some (a, c) ∧ Q a ⟨g'.s, c⟩ := by
  unfold mFn
  simp
@[simp] theorem ev_fnO {F : FO} {ms : M (List D)} {Q : O → G → Prop} : Ev (mFnO F ms) g Q ↔ Ev ms g fun ds g' => ∃ a c, F ds g'.c = some (a, c) ∧ Q a ⟨g'.s, c⟩ := by
  unfold mFnO
  simp
@[simp] theorem ev_isDi {m : M α} {Q : α → G → Prop} : Ev (isDi i m) g Q ↔ g.s[i]? = some .di ∧ Ev m g Q := by
  constructor
  · rintro ⟨a, g', e, q⟩
    obtain ⟨h1, h2⟩ := isDi_some e
    exact ⟨h1, a, g', h2, q⟩
  · rintro ⟨h, a, g', e, q⟩
    exact ⟨a, g', by unfold isDi; rw [h]; exact e, q⟩
@[simp] theorem ev_expr {m : M D} {Q : Oc → G → Prop} : Ev (mExpr m) g Q ↔ Ev m g fun _ g' => Q .nx g' := by
  unfold mExpr
  simp
@[simp] theorem ev_xd {m : M D} {Q : Vx → G → Prop} : Ev (mXd m) g Q ↔ Ev m g fun d g' => Q (.d d) g' := by
  unfold mXd
  simp
@[simp] theorem ev_xo {m : M O} {Q : Vx → G → Prop} : Ev (mXo m) g Q ↔ Ev m g fun d g' => Q (.o d) g' := by
  unfold mXo
  simp
@[simp] theorem ev_par {j : Nat} {ma mb : M Vx} {Q : Oc → G → Prop} : Ev (mPar i j ma mb) g Q ↔ Ev ma g fun x g' => Ev mb g' fun y g2 => Q .nx ((g2.set i x.sl).set j y.sl) := by
  unfold mPar
  simp only [ev_bind]
  exact ⟨fun h => h.mono fun x g' h => h.mono fun y g2 ⟨_, _, e, q⟩ => (by cases e; exact q), fun h => h.mono fun x g' h => h.mono fun y g2 q => ⟨_, _, rfl, q⟩⟩
@[simp] theorem ev_par3 {j k : Nat} {ma mb mc : M Vx} {Q : Oc → G → Prop} : Ev (mPar3 i j k ma mb mc) g Q ↔ Ev ma g fun x g' => Ev mb g' fun y g2 => Ev mc g2 fun z g3 => Q .nx (((g3.set i x.sl).set j y.sl).set k z.sl) := by
  unfold mPar3
  simp only [ev_bind]
  exact ⟨fun h => h.mono fun x g' h => h.mono fun y g2 h => h.mono fun z gg ⟨_, _, e, q⟩ => (by cases e; exact q), fun h => h.mono fun x g' h => h.mono fun y g2 h => h.mono fun z gg q => ⟨_, _, rfl, q⟩⟩
@[simp] theorem vxd_sl {x : D} : (Vx.d x).sl = .v x := rfl
@[simp] theorem vxo_sl {x : O} : (Vx.o x).sl = .o x := rfl
@[simp] theorem ev_asg {f : D → G → Option G} {m : M D} {Q : Oc → G → Prop} : Ev (mAsg f m) g Q ↔ Ev m g fun d g' => ∃ g2, f d g' = some g2 ∧ Q .nx g2 := by
  unfold mAsg
  rw [ev_bind]
  refine ⟨fun h => h.mono fun d g' ⟨a, g2, e, q⟩ => ?_, fun h => h.mono fun d g' ⟨g2, e, q⟩ => ⟨.nx, g2, by dsimp only; rw [e]; rfl, q⟩⟩
  dsimp only at e
  cases e2 : f d g' with
  | none => rw [e2] at e; cases e
  | some g3 => rw [e2] at e; cases e; exact ⟨g2, rfl, q⟩
end
/-! ### loops -/
section
variable {f : D → G → Option G} {mb : M Oc}
/-- how a turn ends -/
def Turn (I : G → Prop) (Q : Oc → G → Prop) : Oc → G → Prop
  | .nx, g => I g
  | .ct, g => I g
  | .bk, g => Q .nx g
  | .rt d, g => Q (.rt d) g
  | .rto o, g => Q (.rto o) g
theorem ev_loop {Q : Oc → G → Prop} (I : List D → G → Prop) (hs : ∀ d r g, I (d :: r) g → ∃ g1, f d g = some g1 ∧ Ev mb g1 (Turn (I r) Q)) (he : ∀ g, I [] g → Q .nx g) : ∀ (ds : List D) (g : G), I ds g → Ev (mLoop f mb ds) g Q
  | [], g, h => ev_ret.mpr (he g h)
  | d :: r, g, h => by
    obtain ⟨g1, e1, o, g2, e2, q⟩ := hs d r g h
    have key : ∀ x, mLoop f mb (d :: r) g = x → (∃ a g', x = some (.ok a g') ∧ Q a g') → Ev (mLoop f mb (d :: r)) g Q := fun x e ⟨a, g', e', q⟩ => ⟨a, g', e.trans e', q⟩
    refine key _ rfl ?_
    simp only [mLoop, e1, e2]
    cases o with
    | nx => exact ev_loop I hs he r g2 q
    | ct => exact ev_loop I hs he r g2 q
    | bk => exact ⟨_, _, rfl, q⟩
    | rt d => exact ⟨_, _, rfl, q⟩
    | rto d => exact ⟨_, _, rfl, q⟩
@[simp] theorem ev_for {mi : M (List D)} {g : G} {Q : Oc → G → Prop} : Ev (mFor f mi mb) g Q ↔ Ev mi g fun ds g' => Ev (mLoop f mb ds) g' Q := by
  unfold mFor
  simp
/-- a comprehension's turns -/
theorem ev_lcGo {vs : List Nat} {mt : M Bool} {me : M D} {Q : List D → G → Prop} (I : List D → List D → G → Prop)
    (hs : ∀ d r acc g, I (d :: r) acc g → ∃ g1, f d g = some g1 ∧ Ev mt g1 fun b g2 => if b = true then acc.length < sizeLine ∧ Ev me g2 fun y g3 => I r (acc ++ [y]) (wipeG g3 vs) else I r acc (wipeG g2 vs))
    (he : ∀ acc g, I [] acc g → Q acc g) : ∀ (ds acc : List D) (g : G), I ds acc g → Ev (lcGo vs f mt me ds acc) g Q
  | [], acc, g, h => ev_ret.mpr (he acc g h)
  | d :: r, acc, g, h => by
    obtain ⟨g1, e1, b, g2, e2, q⟩ := hs d r acc g h
    have key : ∀ x, lcGo vs f mt me (d :: r) acc g = x → (∃ a g', x = some (.ok a g') ∧ Q a g') → Ev (lcGo vs f mt me (d :: r) acc) g Q := fun x e ⟨a, g', e', q⟩ => ⟨a, g', e.trans e', q⟩
    refine key _ rfl ?_
    simp only [lcGo, e1, e2]
    cases b with
    | false => exact ev_lcGo I hs he r acc _ q
    | true =>
      obtain ⟨hl, y, g3, e3, q⟩ := q
      simp only [e3, if_pos hl]
      exact ev_lcGo I hs he r _ _ q
@[simp] theorem ev_lc {vs : List Nat} {mi : M (List D)} {mt : M Bool} {me : M D} {g : G} {Q : O → G → Prop} : Ev (mLc vs mi f mt me) g Q ↔ Ev mi g fun ds g1 => noOwn vs g1 = true ∧ Ev (lcGo vs f mt me ds []) (wipeG g1 vs) fun ys g2 => Q (.l ys) (backG g1 g2 vs) := by
  unfold mLc
  rw [ev_bind]
  refine ⟨fun h => h.mono fun ds g1 q => ?_, fun h => h.mono fun ds g1 ⟨h1, ys, g2, e, q⟩ => ?_⟩
  · obtain ⟨a, g', e, q⟩ := q
    dsimp only at e
    split at e
    · rename_i h1
      refine ⟨h1, ?_⟩
      cases e2 : lcGo vs f mt me ds [] (wipeG g1 vs) with
      | none => rw [e2] at e; cases e
      | some r =>
        cases r with
        | ex E g2 => rw [e2] at e; cases e
        | ok ys g2 =>
          rw [e2] at e
          cases e
          exact ⟨ys, g2, e2, q⟩
    · cases e
  · refine ⟨.l ys, backG g1 g2 vs, ?_, q⟩
    dsimp only
    rw [if_pos h1, e]
    rfl
end
/-! ### a def's function -/
def RetP (P : D → C3 → Prop) : Oc → G → Prop
  | .nx, g => P .non g.c
  | .rt d, g => P d g.c
  | .rto o, g => P o.d g.c
  | _, _ => False
@[simp] theorem retp_nx {P : D → C3 → Prop} {g : G} : RetP P .nx g ↔ P .non g.c := Iff.rfl
@[simp] theorem retp_rt {P : D → C3 → Prop} {g : G} {d : D} : RetP P (.rt d) g ↔ P d g.c := Iff.rfl
@[simp] theorem retp_rto {P : D → C3 → Prop} {g : G} {d : O} : RetP P (.rto d) g ↔ P d.d g.c := Iff.rfl
theorem run_ev {dice : Bool} {n k : Nat} {m : M Oc} {ds : List D} {c : C3} {P : D → C3 → Prop} (hl : ds.length + dice.toNat = k) (h : Ev m ⟨ini dice n ds, c⟩ (RetP P)) : ∃ d c', runM dice n k m ds c = some (d, c') ∧ P d c' := by
  obtain ⟨o, g, e, q⟩ := h
  unfold runM
  rw [if_pos hl, e]
  cases o with
  | nx => exact ⟨_, _, rfl, q⟩
  | rt d => exact ⟨_, _, rfl, q⟩
  | rto d => exact ⟨_, _, rfl, q⟩
  | bk => exact q.elim
  | ct => exact q.elim
def RetO (P : O → C3 → Prop) : Oc → G → Prop
  | .rto o, g => P o g.c
  | _, _ => False
@[simp] theorem reto_rto {P : O → C3 → Prop} {g : G} {d : O} : RetO P (.rto d) g ↔ P d g.c := Iff.rfl
theorem runO_ev {dice : Bool} {n k : Nat} {m : M Oc} {ds : List D} {c : C3} {P : O → C3 → Prop} (hl : ds.length + dice.toNat = k) (h : Ev m ⟨ini dice n ds, c⟩ (RetO P)) : ∃ d c', runO dice n k m ds c = some (d, c') ∧ P d c' := by
  obtain ⟨o, g, e, q⟩ := h
  unfold runO
  rw [if_pos hl, e]
  cases o with
  | rto d => exact ⟨_, _, rfl, q⟩
  | _ => exact q.elim
@[simp] theorem ini_t {n : Nat} {ds : List D} : ini true n ds = .di :: (ds.map .v ++ List.replicate (n - (ds.length + 1)) .un) := rfl
@[simp] theorem ini_f {n : Nat} {ds : List D} : ini false n ds = ds.map .v ++ List.replicate (n - ds.length) .un := rfl
/-! ### operators on known data -/
section
variable {i j : Int} {x y : Str} {b : Bool}
@[simp] theorem uPlus_int : uPlus (.int i) (.int j) = some (.int (i + j)) := rfl
@[simp] theorem uSub_int : uSub (.int i) (.int j) = some (.int (i - j)) := rfl
@[simp] theorem iGt_int : iGt (.int i) (.int j) = some (.bl (decide (j < i))) := rfl
@[simp] theorem iLt_int : iLt (.int i) (.int j) = some (.bl (decide (i < j))) := rfl
@[simp] theorem uLt_int : uLt (.int i) (.int j) = some (.bl (decide (i < j))) := rfl
@[simp] theorem asB_bl : asB (.bl b) = some b := rfl
@[simp] theorem fInt1_int : fInt1 [.int i] = some (.int i) := rfl
@[simp] theorem fLen_lst {xs : List D} : fLen [.lst xs] = some (.int xs.length) := rfl
@[simp] theorem fLen_tup {xs : List D} : fLen [.tup xs] = some (.int xs.length) := rfl
theorem uMul_int (h : i.natAbs.log2 + j.natAbs.log2 < 1000000) : uMul (.int i) (.int j) = some (.int (i * j)) := by
  show (if cMul i j = true then some (D.int (i * j)) else none) = _
  rw [if_pos (show cMul i j = true from decide_eq_true h)]
theorem uDiv_int (h : 0 < j ∧ j.natAbs.log2 < 9000) : uDiv (.int i) (.int j) = some (.int (i / j)) := by
  show (if cDiv i j = true then some (D.int (i / j)) else none) = _
  rw [if_pos (show cDiv i j = true from decide_eq_true h)]
theorem uMod_int (h : 0 < j) : uMod (.int i) (.int j) = some (.int (i % j)) := by
  show (if cMod i j = true then some (D.int (i % j)) else none) = _
  rw [if_pos (show cMod i j = true from decide_eq_true h)]
end
end Mo
set_option Elab.async false
set_option linter.all false
set_option maxRecDepth 100000
set_option maxHeartbeats 4000000
/-! Mo, part thirty-one: the same of the rest of the signs. -/
namespace Mo
open PySem PySem.Spec L2
section
variable {α β γ : Type} {g : G} {i : Nat} {d : D} {o : O} {C : Addr} {fl : Str}
theorem ev_onDL {k : List D → M α} {Q : α → G → Prop} : Ev (onDL i k) g Q ↔ g.s[i]? = some .di ∧ ∃ xs, g.c = .l xs ∧ Ev (k xs) g Q := by
  constructor
  · rintro ⟨a, g', e, q⟩
    obtain ⟨h1, xs, h2, h3⟩ := onDL_some e
    exact ⟨h1, xs, h2, a, g', h3, q⟩
  · rintro ⟨h1, xs, h2, a, g', h3, q⟩
    refine ⟨a, g', ?_, q⟩
    unfold onDL isDi
    rw [h1]
    dsimp only
    rw [h2]
    exact h3
theorem ev_onDN {k : List (Str × D) → M α} {Q : α → G → Prop} : Ev (onDN i C k) g Q ↔ g.s[i]? = some .di ∧ ∃ xs, g.c = .n C xs ∧ Ev (k xs) g Q := by
  constructor
  · rintro ⟨a, g', e, q⟩
    obtain ⟨h1, xs, h2, h3⟩ := onDN_some e
    exact ⟨h1, xs, h2, a, g', h3, q⟩
  · rintro ⟨h1, xs, h2, a, g', h3, q⟩
    refine ⟨a, g', ?_, q⟩
    unfold onDN isDi
    rw [h1]
    dsimp only
    rw [h2]
    dsimp only
    rw [if_pos rfl]
    exact h3
theorem ev_onO {k : O → M α} {Q : α → G → Prop} : Ev (onO i k) g Q ↔ ∃ o, g.s[i]? = some (.o o) ∧ Ev (k o) g Q := by
  constructor
  · rintro ⟨a, g', e, q⟩
    obtain ⟨xs, h2, h3⟩ := onO_some e
    exact ⟨xs, h2, a, g', h3, q⟩
  · rintro ⟨xs, h2, a, g', h3, q⟩
    refine ⟨a, g', ?_, q⟩
    unfold onO
    rw [h2]
    exact h3
theorem ev_onL {k : List D → M α} {Q : α → G → Prop} : Ev (onL i k) g Q ↔ ∃ xs, g.s[i]? = some (.o (.l xs)) ∧ Ev (k xs) g Q := by
  constructor
  · rintro ⟨a, g', e, q⟩
    obtain ⟨xs, h2, h3⟩ := onL_some e
    exact ⟨xs, h2, a, g', h3, q⟩
  · rintro ⟨xs, h2, a, g', h3, q⟩
    refine ⟨a, g', ?_, q⟩
    unfold onL
    rw [h2]
    exact h3
@[simp] theorem ev_ixD {mk : M D} {Q : D → G → Prop} : Ev (mIxD i mk) g Q ↔ g.s[i]? = some .di ∧ Ev mk g fun k g' => g'.s[i]? = some .di ∧ ∃ xs, g'.c = .l xs ∧ Ev (lift (fIx (.lst xs) k)) g' Q := by
  unfold mIxD
  simp only [ev_isDi, ev_bind, ev_onDL]
@[simp] theorem ev_ixPutD {n : Int} {mv : M D} {Q : Oc → G → Prop} : Ev (mIxPutD i n mv) g Q ↔ Ev mv g fun v g' => g'.s[i]? = some .di ∧ ∃ xs, g'.c = .l xs ∧ ∃ j, ixN xs.length n = some j ∧ Q .nx ⟨g'.s, .l (xs.set j v)⟩ := by
  unfold mIxPutD
  simp only [ev_bind, ev_onDL]
  refine ⟨fun h => h.mono fun v g' ⟨h1, xs, h2, a, g2, e, q⟩ => ?_, fun h => h.mono fun v g' ⟨h1, xs, h2, j, e, q⟩ => ⟨h1, xs, h2, .nx, _, by dsimp only; rw [e], q⟩⟩
  dsimp only at e
  split at e
  · rename_i j hj
    cases e
    exact ⟨h1, xs, h2, j, hj, q⟩
  · cases e
@[simp] theorem ev_fldD {Q : D → G → Prop} : Ev (mFldD i C fl) g Q ↔ g.s[i]? = some .di ∧ ∃ xs, g.c = .n C xs ∧ Ev (lift (getF fl xs)) g Q := by
  unfold mFldD
  rw [ev_onDN]
@[simp] theorem ev_fldPutD {mv : M D} {Q : Oc → G → Prop} : Ev (mFldPutD i C fl mv) g Q ↔ Ev mv g fun v g' => g'.s[i]? = some .di ∧ ∃ xs, g'.c = .n C xs ∧ xs.length < 1000 ∧ Q .nx ⟨g'.s, .n C (setF fl v xs)⟩ := by
  unfold mFldPutD
  simp only [ev_bind, ev_onDN]
  refine ⟨fun h => h.mono fun v g' ⟨h1, xs, h2, a, g2, e, q⟩ => ?_, fun h => h.mono fun v g' ⟨h1, xs, h2, j, q⟩ => ⟨h1, xs, h2, .nx, _, by dsimp only; rw [if_pos j], q⟩⟩
  dsimp only at e
  split at e
  · rename_i hj
    cases e
    exact ⟨h1, xs, h2, hj, q⟩
  · cases e
@[simp] theorem ev_dput {mk mv : M D} {Q : Oc → G → Prop} : Ev (mDPut i mk mv) g Q ↔ Ev mv g fun v g1 => (∃ o0, g1.s[i]? = some (.o o0)) ∧ Ev mk g1 fun k g2 => ∃ o, g2.s[i]? = some (.o o) ∧ ∃ o', putO o k v = some o' ∧ Q .nx (g2.set i (.o o')) := by
  unfold mDPut
  simp only [ev_bind, ev_onO]
  refine ⟨fun h => h.mono fun v g1 ⟨o0, h0, h⟩ => ⟨⟨o0, h0⟩, h.mono fun k g2 ⟨o, h1, a, g3, e, q⟩ => ?_⟩, fun h => h.mono fun v g1 ⟨⟨o0, h0⟩, h⟩ => ⟨o0, h0, h.mono fun k g2 ⟨o, h1, o', e, q⟩ => ⟨o, h1, .nx, _, by dsimp only; rw [e], q⟩⟩⟩
  dsimp only at e
  split at e
  · rename_i o' hj
    cases e
    exact ⟨o, h1, o', hj, q⟩
  · cases e
@[simp] theorem ev_get2Q {mk mx : M D} {Q : D → G → Prop} : Ev (mGet2Q i mk mx) g Q ↔ ∃ o0, g.s[i]? = some (.o o0) ∧ isDic o0.d = true ∧ Ev mk g fun k g1 => Ev mx g1 fun x g2 => ∃ o, g2.s[i]? = some (.o o) ∧ Ev (lift (fDGet2 o.d k x)) g2 Q := by
  unfold mGet2Q
  simp only [ev_onO]
  refine ⟨fun ⟨o, h, q⟩ => ⟨o, h, ?_⟩, fun ⟨o, h, hd, q⟩ => ⟨o, h, ?_⟩⟩
  · rw [ev_ite] at q
    split at q
    · refine ⟨by assumption, ?_⟩
      simpa only [ev_bind, ev_onO] using q
    · exact (ev_bad.mp q).elim
  · rw [ev_ite, if_pos hd]
    simpa only [ev_bind, ev_onO] using q
@[simp] theorem ev_get2 {md mk mx : M D} {Q : D → G → Prop} : Ev (mGet2 md mk mx) g Q ↔ Ev md g fun d g0 => isDic d = true ∧ Ev mk g0 fun k g1 => Ev mx g1 fun x g2 => Ev (lift (fDGet2 d k x)) g2 Q := by
  unfold mGet2
  rw [ev_bind]
  refine ⟨fun h => h.mono fun d g0 q => ?_, fun h => h.mono fun d g0 ⟨hd, q⟩ => ?_⟩
  · rw [ev_ite] at q
    split at q
    · refine ⟨by assumption, ?_⟩
      simpa only [ev_bind] using q
    · exact (ev_bad.mp q).elim
  · rw [ev_ite, if_pos hd]
    simpa only [ev_bind] using q
@[simp] theorem ev_dinQ {neg : Bool} {mk : M D} {Q : D → G → Prop} : Ev (mDInQ neg i mk) g Q ↔ Ev mk g fun k g1 => ∃ o, g1.s[i]? = some (.o o) ∧ Ev (lift (fDIn neg k o.d)) g1 Q := by
  unfold mDInQ
  simp only [ev_bind, ev_onO]
@[simp] theorem ev_ixQ {mk : M D} {Q : D → G → Prop} : Ev (mIxQ i mk) g Q ↔ (∃ xs, g.s[i]? = some (.o (.l xs))) ∧ Ev mk g fun k g1 => ∃ xs, g1.s[i]? = some (.o (.l xs)) ∧ Ev (lift (fIx (.lst xs) k)) g1 Q := by
  unfold mIxQ
  simp only [ev_bind, ev_onL]
  exact ⟨fun ⟨xs, h, q⟩ => ⟨⟨xs, h⟩, q⟩, fun ⟨⟨xs, h⟩, q⟩ => ⟨xs, h, q⟩⟩
@[simp] theorem ev_lenQ {Q : D → G → Prop} : Ev (mLenQ i) g Q ↔ ∃ xs, g.s[i]? = some (.o (.l xs)) ∧ Q (.int xs.length) g := by
  unfold mLenQ
  simp only [ev_onL, ev_ret]
theorem ev_toL {x : Option (List D × D)} {Q : D → G → Prop} : Ev (toL i x) g Q ↔ ∃ ys d, x = some (ys, d) ∧ Q d (g.set i (.o (.l ys))) := by
  constructor
  · rintro ⟨a, g', e, q⟩
    unfold toL at e
    split at e
    · cases e
      exact ⟨_, _, rfl, q⟩
    · cases e
  · rintro ⟨ys, d, rfl, q⟩
    exact ⟨_, _, rfl, q⟩
@[simp] theorem ev_lm1 {f : List D → D → Option (List D × D)} {m : M D} {Q : D → G → Prop} : Ev (mLm1 i f m) g Q ↔ (∃ xs, g.s[i]? = some (.o (.l xs))) ∧ Ev m g fun d g1 => ∃ xs, g1.s[i]? = some (.o (.l xs)) ∧ ∃ ys y, f xs d = some (ys, y) ∧ Q y (g1.set i (.o (.l ys))) := by
  unfold mLm1
  simp only [ev_bind, ev_onL, ev_toL]
  exact ⟨fun ⟨xs, h, q⟩ => ⟨⟨xs, h⟩, q⟩, fun ⟨⟨xs, h⟩, q⟩ => ⟨xs, h, q⟩⟩
@[simp] theorem ev_fnQ {F : FD} {ms : M (List D)} {Q : D → G → Prop} : Ev (mFnQ i F ms) g Q ↔ (∃ o, g.s[i]? = some (.o o)) ∧ Ev ms g fun ds g1 => ∃ o, g1.s[i]? = some (.o o) ∧ ∃ d o', F ds o = some (d, o') ∧ Q d (g1.set i (.o o')) := by
  unfold mFnQ
  simp only [ev_bind, ev_onO]
  refine ⟨fun ⟨o, h, q⟩ => ⟨⟨o, h⟩, q.mono fun ds g1 ⟨o, h1, a, g2, e, q⟩ => ⟨o, h1, ?_⟩⟩, fun ⟨⟨o, h⟩, q⟩ => ⟨o, h, q.mono fun ds g1 ⟨o, h1, d, o', e, q⟩ => ⟨o, h1, d, _, by dsimp only; rw [e], q⟩⟩⟩
  dsimp only at e
  split at e
  · rename_i d o' hj
    cases e
    exact ⟨_, _, hj, q⟩
  · cases e
@[simp] theorem ev_fnE {F : FD} {mo : M O} {ms : M (List D)} {Q : D → G → Prop} : Ev (mFnE F mo ms) g Q ↔ Ev mo g fun o g1 => Ev ms g1 fun ds g2 => ∃ d o', F ds o = some (d, o') ∧ Q d g2 := by
  unfold mFnE
  simp only [ev_bind]
  refine ⟨fun h => h.mono fun o g1 h => h.mono fun ds g2 q => ?_, fun h => h.mono fun o g1 h => h.mono fun ds g2 ⟨d, o', e, q⟩ => ?_⟩
  · cases e : F ds o with
    | none => rw [e] at q; exact (ev_lift_none.mp q).elim
    | some z => rw [e] at q; exact ⟨z.1, z.2, rfl, ev_lift_some.mp q⟩
  · rw [e]
    exact ev_lift_some.mpr q
@[simp] theorem ev_make {F : FD} {ms : M (List D)} {Q : O → G → Prop} : Ev (mMake C F ms) g Q ↔ Ev ms g fun ds g1 => ∃ fs, F ds (.n C []) = some (.non, .n C fs) ∧ Q (.n C fs) g1 := by
  unfold mMake
  simp only [ev_bind]
  refine ⟨fun h => h.mono fun ds g1 ⟨a, g2, e, q⟩ => ?_, fun h => h.mono fun ds g1 ⟨fs, e, q⟩ => ⟨_, _, by dsimp only; rw [e]; dsimp only; rw [if_pos rfl], q⟩⟩
  dsimp only at e
  split at e
  · rename_i C' fs hj
    split at e
    · rename_i hc
      subst hc
      cases e
      exact ⟨fs, hj, q⟩
    · cases e
  · cases e
@[simp] theorem ev_fld {m : M D} {Q : D → G → Prop} : Ev (mFld C fl m) g Q ↔ Ev m g fun d g1 => Ev (lift (fldD C fl d)) g1 Q := by
  unfold mFld
  simp only [ev_bind]
@[simp] theorem fldD_ins {fs : List (Str × D)} : fldD C fl (.ins C fs) = getF fl fs := if_pos rfl
@[simp] theorem ev_prop {F : FD} {mo : M D} {Q : D → G → Prop} : Ev (mProp C F mo) g Q ↔ Ev mo g fun d g1 => ∃ fs, d = .ins C fs ∧ ∃ x c', F [.ins C fs] g1.c = some (x, c') ∧ Q x ⟨g1.s, c'⟩ := by
  unfold mProp
  simp only [ev_bind]
  refine ⟨fun h => h.mono fun d g1 q => ?_, fun h => h.mono fun d g1 ⟨fs, e, q⟩ => ?_⟩
  · cases d <;> first | exact (ev_bad.mp q).elim | skip
    rename_i C' fs
    dsimp only at q
    rw [ev_ite] at q
    split at q
    · rename_i hc
      subst hc
      exact ⟨fs, rfl, ev_liftC.mp q⟩
    · exact (ev_bad.mp q).elim
  · subst e
    dsimp only
    rw [if_pos rfl]
    exact ev_liftC.mpr q
@[simp] theorem ev_meth {m : Str} {F : FD} {mo : M D} {ms : M (List D)} {Q : D → G → Prop} : Ev (mMeth C m F mo ms) g Q ↔ Ev mo g fun d g1 => ∃ fs, d = .ins C fs ∧ getF m fs = none ∧ Ev ms g1 fun ds g2 => ∃ x c', F (.ins C fs :: ds) g2.c = some (x, c') ∧ Q x ⟨g2.s, c'⟩ := by
  unfold mMeth
  simp only [ev_bind]
  refine ⟨fun h => h.mono fun d g1 q => ?_, fun h => h.mono fun d g1 ⟨fs, e, h1, q⟩ => ?_⟩
  · cases d <;> first | exact (ev_bad.mp q).elim | skip
    rename_i C' fs
    dsimp only at q
    rw [ev_ite] at q
    split at q
    · rename_i hc
      obtain ⟨rfl, hc⟩ := hc
      refine ⟨fs, rfl, hc, ?_⟩
      simpa only [ev_bind, ev_liftC] using q
    · exact (ev_bad.mp q).elim
  · subst e
    dsimp only
    rw [if_pos ⟨rfl, h1⟩]
    simpa only [ev_bind, ev_liftC] using q
@[simp] theorem ev_lenI {F : FD} {mo : M D} {Q : D → G → Prop} : Ev (mLenI C F mo) g Q ↔ Ev mo g fun d g1 => ∃ fs, d = .ins C fs ∧ ∃ n c', F [.ins C fs] g1.c = some (.int n, c') ∧ 0 ≤ n ∧ n < 2 ^ 63 ∧ Q (.int n) ⟨g1.s, c'⟩ := by
  unfold mLenI
  simp only [ev_bind]
  refine ⟨fun h => h.mono fun d g1 q => ?_, fun h => h.mono fun d g1 ⟨fs, e, n, c', h1, h2, h3, q⟩ => ?_⟩
  · cases d <;> first | exact (ev_bad.mp q).elim | skip
    rename_i C' fs
    dsimp only at q
    rw [ev_ite] at q
    split at q
    · rename_i hc
      subst hc
      rw [ev_bind, ev_liftC] at q
      obtain ⟨x, c', e, q⟩ := q
      cases x <;> first | exact (ev_bad.mp q).elim | skip
      rename_i n
      dsimp only at q
      rw [ev_ite] at q
      split at q
      · rename_i hn
        exact ⟨fs, rfl, n, c', e, hn.1, hn.2, ev_ret.mp q⟩
      · exact (ev_bad.mp q).elim
    · exact (ev_bad.mp q).elim
  · subst e
    dsimp only
    rw [if_pos rfl, ev_bind, ev_liftC]
    refine ⟨_, c', h1, ?_⟩
    dsimp only
    rw [if_pos ⟨h2, h3⟩]
    exact ev_ret.mpr q
@[simp] theorem ev_isC {m : M D} {Q : D → G → Prop} : Ev (mIsC C m) g Q ↔ Ev m g fun d g1 => Ev (lift (fIsC C d)) g1 Q := by
  unfold mIsC
  simp only [ev_bind]
@[simp] theorem fIsC_ins {fs : List (Str × D)} : fIsC C (.ins C fs) = some (.bl true) := if_pos rfl
@[simp] theorem ev_isi {cls : String} {m : M D} {Q : D → G → Prop} : Ev (mIsi cls m) g Q ↔ Ev m g fun d g1 => Ev (lift (fIsi cls d)) g1 Q := by
  unfold mIsi
  simp only [ev_bind]
@[simp] theorem ev_sortSet {m : M D} {Q : O → G → Prop} : Ev (mSortSet m) g Q ↔ Ev m g fun d g1 => Ev (lift (fSortSet d)) g1 Q := by
  unfold mSortSet
  simp only [ev_bind]
@[simp] theorem ev_pairs {mk mv : M D} {ms : M (List (Key × D))} {Q : List (Key × D) → G → Prop} : Ev (mPairs mk mv ms) g Q ↔ Ev mk g fun k g1 => Ev mv g1 fun v g2 => Ev ms g2 fun r g3 => Ev (lift ((asKey k).map fun kk => (kk, v) :: r)) g3 Q := by
  unfold mPairs
  simp only [ev_bind]
@[simp] theorem ev_disp {ms : M (List (Key × D))} {Q : O → G → Prop} : Ev (mDisp ms) g Q ↔ Ev ms g fun es g1 => es.length ≤ 15 ∧ Q (.k (mergeD [] es)) g1 := by
  unfold mDisp
  rw [ev_bind]
  refine ⟨fun h => h.mono fun es g1 q => ?_, fun h => h.mono fun es g1 q => ?_⟩
  · rw [ev_ite] at q
    split at q
    · exact ⟨by assumption, ev_ret.mp q⟩
    · exact (ev_bad.mp q).elim
  · rw [ev_ite, if_pos q.1]
    exact ev_ret.mpr q.2
@[simp] theorem ev_star {m : M D} {ms : M (List D)} {Q : List D → G → Prop} : Ev (mStar m ms) g Q ↔ Ev m g fun d g1 => ∃ xs, seqD d = some xs ∧ Ev ms g1 fun ds g2 => Q (xs ++ ds) g2 := by
  unfold mStar
  rw [ev_bind]
  refine ⟨fun h => h.mono fun d g1 q => ?_, fun h => h.mono fun d g1 ⟨xs, e, q⟩ => ?_⟩
  · cases e : seqD d with
    | none => rw [e] at q; exact (ev_bad.mp q).elim
    | some xs =>
      rw [e] at q
      refine ⟨xs, rfl, ?_⟩
      simpa using q
  · rw [e]
    simpa using q
@[simp] theorem seqD_lst {xs : List D} : seqD (.lst xs) = some xs := rfl
@[simp] theorem seqD_tup {xs : List D} : seqD (.tup xs) = some xs := rfl
@[simp] theorem ev_fmt {m : M D} {Q : D → G → Prop} : Ev (mFmt m) g Q ↔ Ev m g fun d g1 => Ev (lift (fFmt d)) g1 Q := by
  unfold mFmt
  simp only [ev_bind]
@[simp] theorem ev_js_nil {acc : Str} {Q : D → G → Prop} : Ev (mJs [] acc) g Q ↔ Q (.str acc) g := ev_ret
@[simp] theorem ev_js_cons {m : M D} {ms : List (M D)} {acc : Str} {Q : D → G → Prop} : Ev (mJs (m :: ms) acc) g Q ↔ Ev m g fun d g1 => ∃ y, d = .str y ∧ (acc ++ y).length ≤ sizeLine ∧ Ev (mJs ms (acc ++ y)) g1 Q := by
  show Ev (m.bind fun d => match d with
    | .str y => if (acc ++ y).length ≤ sizeLine then mJs ms (acc ++ y) else bad
    | _ => bad) g Q ↔ _
  rw [ev_bind]
  refine ⟨fun h => h.mono fun d g1 q => ?_, fun h => h.mono fun d g1 ⟨y, e, h1, q⟩ => ?_⟩
  · cases d <;> first | exact (ev_bad.mp q).elim | skip
    rename_i y
    dsimp only at q
    rw [ev_ite] at q
    split at q
    · exact ⟨y, rfl, by assumption, q⟩
    · exact (ev_bad.mp q).elim
  · subst e
    dsimp only
    rw [ev_ite, if_pos h1]
    exact q
@[simp] theorem ev_ms1 {f : D → D → Option α} {ma mb : M D} {Q : α → G → Prop} : Ev (mMs1 f ma mb) g Q ↔ Ev ma g fun x g1 => ∃ y, x = .str y ∧ Ev mb g1 fun z g2 => Ev (lift (f (.str y) z)) g2 Q := by
  unfold mMs1
  rw [ev_bind]
  refine ⟨fun h => h.mono fun d g1 q => ?_, fun h => h.mono fun d g1 ⟨y, e, q⟩ => ?_⟩
  · cases d <;> first | exact (ev_bad.mp q).elim | skip
    exact ⟨_, rfl, by simpa using q⟩
  · subst e
    simpa using q
@[simp] theorem ev_part {m : M D} {Q : Option Int → G → Prop} : Ev (mPart m) g Q ↔ Ev m g fun d g1 => Ev (lift (asI d)) g1 Q := by
  unfold mPart
  simp only [ev_bind]
@[simp] theorem ev_sl {f : D → Option Int → Option Int → Option α} {ma : M D} {ml mh : M (Option Int)} {Q : α → G → Prop} : Ev (mSl f ma ml mh) g Q ↔ Ev ma g fun x g1 => Ev ml g1 fun l g2 => Ev mh g2 fun h g3 => Ev (lift (f x l h)) g3 Q := by
  unfold mSl
  simp only [ev_bind]
@[simp] theorem ev_slU {ma : M D} {ml mh : M (Option Int)} {Q : D → G → Prop} : Ev (mSlU ma ml mh) g Q ↔ Ev ma g fun x g1 => Ev ml g1 fun l g2 => Ev mh g2 fun h g3 => Ev (lift ((fSlS x l h).or ((fSlL x l h).map O.d))) g3 Q := by
  unfold mSlU
  simp only [ev_sl]
@[simp] theorem ev_not {m : M D} {Q : D → G → Prop} : Ev (mNot m) g Q ↔ Ev m g fun x g1 => Ev (lift (fNot x)) g1 Q := by
  unfold mNot
  simp only [ev_bind]
@[simp] theorem fNot_bl {b : Bool} : fNot (.bl b) = some (.bl (!b)) := rfl
@[simp] theorem ev_neg {m : M D} {Q : D → G → Prop} : Ev (mNeg m) g Q ↔ Ev m g fun x g1 => Ev (lift (fNeg x)) g1 Q := by
  unfold mNeg
  simp only [ev_bind]
@[simp] theorem fNeg_int {n : Int} : fNeg (.int n) = some (.int (-n)) := rfl
@[simp] theorem ev_and {ma mb : M D} {Q : D → G → Prop} : Ev (mAnd ma mb) g Q ↔ Ev ma g fun x g1 => ∃ b, x = .bl b ∧ if b = true then Ev mb g1 Q else Q (.bl false) g1 := by
  unfold mAnd
  rw [ev_bind]
  refine ⟨fun h => h.mono fun d g1 q => ?_, fun h => h.mono fun d g1 ⟨y, e, q⟩ => ?_⟩
  · cases d <;> first | exact (ev_bad.mp q).elim | skip
    rename_i b
    refine ⟨b, rfl, ?_⟩
    cases b <;> simpa using q
  · subst e
    cases y <;> simpa using q
@[simp] theorem ev_or {ma mb : M D} {Q : D → G → Prop} : Ev (mOr ma mb) g Q ↔ Ev ma g fun x g1 => ∃ b, x = .bl b ∧ if b = true then Q (.bl true) g1 else Ev mb g1 Q := by
  unfold mOr
  rw [ev_bind]
  refine ⟨fun h => h.mono fun d g1 q => ?_, fun h => h.mono fun d g1 ⟨y, e, q⟩ => ?_⟩
  · cases d <;> first | exact (ev_bad.mp q).elim | skip
    rename_i b
    refine ⟨b, rfl, ?_⟩
    cases b <;> simpa using q
  · subst e
    cases y <;> simpa using q
@[simp] theorem ev_iter {m : M D} {Q : List D → G → Prop} : Ev (mIter m) g Q ↔ Ev m g fun d g1 => Ev (lift (iterD d)) g1 Q := by
  unfold mIter
  simp only [ev_bind]
@[simp] theorem ev_wk {f : List D → Option (List D)} {ms : M (List D)} {Q : List D → G → Prop} : Ev (mWk f ms) g Q ↔ Ev ms g fun d g1 => Ev (lift (f d)) g1 Q := by
  unfold mWk
  simp only [ev_bind]
@[simp] theorem ev_binO {f : D → D → Option O} {ma mb : M D} {Q : O → G → Prop} : Ev (mBinO f ma mb) g Q ↔ Ev ma g fun x g' => Ev mb g' fun y g2 => Ev (lift (f x y)) g2 Q := by
  unfold mBinO
  simp only [ev_bind]
@[simp] theorem iterD_lst {xs : List D} : iterD (.lst xs) = some xs := rfl
@[simp] theorem iterD_tup {xs : List D} : iterD (.tup xs) = some xs := rfl
@[simp] theorem iterD_dt {kvs : List (List Key × D)} : iterD (.dt kvs) = some (kvs.map fun kv => .tup (kv.1.map kD)) := rfl
@[simp] theorem iterD_dk {kvs : List (Key × D)} : iterD (.dk kvs) = some (kvs.map fun kv => kD kv.1) := rfl
@[simp] theorem iterD_str {x : Str} : iterD (.str x) = some (chars x) := rfl
@[simp] theorem ev_dc {o0 : O} {vs : List Nat} {mi : M (List D)} {f : D → G → Option G} {mt : M Bool} {mk mv : M D} {Q : O → G → Prop} : Ev (mDc o0 vs mi f mt mk mv) g Q ↔ Ev mi g fun ds g1 => noOwn vs g1 = true ∧ Ev (dcGo vs f mt mk mv ds o0) (wipeG g1 vs) fun ys g2 => Q ys (backG g1 g2 vs) := by
  unfold mDc
  rw [ev_bind]
  refine ⟨fun h => h.mono fun ds g1 q => ?_, fun h => h.mono fun ds g1 ⟨h1, ys, g2, e, q⟩ => ?_⟩
  · obtain ⟨a, g', e, q⟩ := q
    dsimp only at e
    split at e
    · rename_i h1
      refine ⟨h1, ?_⟩
      cases e2 : dcGo vs f mt mk mv ds o0 (wipeG g1 vs) with
      | none => rw [e2] at e; cases e
      | some r =>
        cases r with
        | ex E g2 => rw [e2] at e; cases e
        | ok ys g2 =>
          rw [e2] at e
          cases e
          exact ⟨ys, g2, e2, q⟩
    · cases e
  · refine ⟨ys, backG g1 g2 vs, ?_, q⟩
    dsimp only
    rw [if_pos h1, e]
    rfl
end
end Mo
set_option Elab.async false
set_option linter.all false
set_option maxRecDepth 100000
set_option maxHeartbeats 4000000
/-! Mo, part thirty-two: the law's own promise. -/
namespace Mo
open PySem PySem.Spec L2
open Lp (FnG)
def spLaw (K : PySem.W.Frag) : Sp := fun vs J Q _ => ∃ (a : Addr) (ns : List Int), vs = [.ref a] ∧ SqL K J a (ns.map V.int) ∧ ns.length ≤ 63 ∧ ∀ J', Q (.bl true) J'
theorem reps_ints' {K : PySem.W.Frag} {H : Hp} : ∀ ns : List Int, Reps K H (ns.map V.int) (ns.map D.int)
  | [] => .nil
  | n :: r => .cons (.int n) (reps_ints' r)
theorem del_0 {H : Hp} : del ⟨none, []⟩ H = H := by
  funext b
  exact del_at fun z : Hid ⟨none, []⟩ b => z.elim (fun e => by cases e) fun m => nomatch m
theorem law_end {P : Program} {w : World} {K : PySem.W.Frag} {mg : Str → Option Value} {base : Heap} {k : Nat} {f : Addr} {fd : FuncData} {F : FD} (h : FnG P w K mg base CX0 k f fd ["_law_script"] (spM K false F))
    (hF : ∀ ns : List Int, ns.length ≤ 63 → ∃ c', F [.lst (ns.map .int)] (.l []) = some (.bl true, c')) : FnG P w K mg base CX0 k f fd ["_law_script"] (spLaw K) := by
  have key : ∀ {vs : List V} {J : Hp} {Q : VK} {E : XK}, spLaw K vs J Q E → spM K false F vs J Q E := fun {vs J Q E} ⟨a, ns, e, hS, hl, hq⟩ => by
    obtain ⟨c', e2⟩ := hF ns hl
    refine ⟨⟨none, []⟩, .l [], [.lst (ns.map .int)], vs, .bl true, c', rfl, ⟨fun a e => (by cases e), fun a e => (by cases e), fun a m => (nomatch m)⟩, ?_, e2, fun v J2 _ rv => ?_⟩
    · subst e
      rw [del_0]
      exact .cons (.lst hS (reps_ints' ns)) .nil
    · rw [rep_bl rv]
      exact hq J2
  exact ⟨fun vs H Q E hs => h.len vs H Q E (key hs), fun B fr st J ar ws xs R Z r hg e0 hb hv hs => h.go B fr st J ar ws xs R Z r hg e0 hb hv (key hs)⟩
end Mo
set_option Elab.async false
set_option linter.all false
set_option maxRecDepth 100000
set_option maxHeartbeats 4000000
/-! Mo, part thirty-three: k in an own dict as a test; calls without arguments. -/
namespace Mo
open PySem PySem.Spec L2
open Lp (FnG callG)
section
variable {X : Cx} {W : WW} {b : Expr} {x : Str} {px pos : Pos}
def mtInQ (neg : Bool) (i : Nat) (mk : M D) : M Bool := mk.bind fun k => onO i fun o => lift ((fDIn neg k o.d).bind asB)
@[simp] theorem ev_tinQ {neg : Bool} {i : Nat} {mk : M D} {g : G} {Q : Bool → G → Prop} : Ev (mtInQ neg i mk) g Q ↔ Ev mk g fun k g1 => ∃ o, g1.s[i]? = some (.o o) ∧ Ev (lift ((fDIn neg k o.d).bind asB)) g1 Q := by
  unfold mtInQ
  simp [ev_onO]
@[simp] theorem ev_dgetQ {i : Nat} {mk : M D} {g : G} {Q : D → G → Prop} : Ev (mDGetQ i mk) g Q ↔ (∃ o, g.s[i]? = some (.o o)) ∧ Ev mk g fun k g1 => ∃ o, g1.s[i]? = some (.o o) ∧ Ev (lift (fDGet o.d k)) g1 Q := by
  unfold mDGetQ
  simp [ev_onO]
end
end Mo
set_option Elab.async false
set_option linter.all false
set_option maxRecDepth 100000
set_option maxHeartbeats 4000000
/-! Mo, part thirty-four: a dict of a dict that a def fills: the plain parts of a machine, read from lines. -/
namespace Mo
open PySem PySem.Spec L2
open Lp (FnG)
structure PlS where
  F : D
  L : D
  A : List (List Key × D)
  x : Sl
  y : Sl
abbrev plG (ls : D) (c : C3) (s : PlS) : G := ⟨[.v ls, .un, s.x, s.y], c⟩
def NoO (x : Sl) : Prop := ∀ o, x ≠ .o o
theorem nosl_pl {ls : D} {c : C3} {s : PlS} {σ : St} (hx : NoO s.x) (hy : NoO s.y) (a : Addr) : NoSl (plG ls c s) σ a := fun i o e => by
  exfalso
  match i, e with
  | 0, e => cases e
  | 1, e => cases e
  | 2, e => exact hx o (Option.some.inj e)
  | 3, e => exact hy o (Option.some.inj e)
  | (i + 4), e => cases e
theorem Rl.setUn {K : PySem.W.Frag} {J : Hp} {p : Mt} {g : G} {σ : St} {H : Hp} {i : Nat} {v : Option V} (R : Rl K J p g σ H) (h : g.s[i]? = some .un) : Rl K J p g (σ.set i v) H := by
  have ne : ∀ {j : Nat} {x : Sl}, g.s[j]? = some x → x ≠ .un → j ≠ i := fun {j x} e n z => by
    rw [z, h] at e
    exact n (Option.some.inj e).symm
  refine ⟨by rw [List.length_set]; exact R.len, R.old, R.dice, R.dno, R.lv, R.fz, fun j x e => ?_, fun j x e => ?_, fun j e => ?_, fun j k o1 o2 q e1 e2 e3 e4 => ?_⟩
  · rw [List.getElem?_set_ne (Ne.symm (ne e (fun z => nomatch z)))]
    exact R.sv j x e
  · rw [List.getElem?_set_ne (Ne.symm (ne e (fun z => nomatch z)))]
    exact R.so j x e
  · rw [List.getElem?_set_ne (Ne.symm (ne e (fun z => nomatch z)))]
    exact R.sd j e
  · rw [List.getElem?_set_ne (Ne.symm (ne e1 (fun z => nomatch z)))] at e3
    rw [List.getElem?_set_ne (Ne.symm (ne e2 (fun z => nomatch z)))] at e4
    exact R.inj j k o1 o2 q e1 e2 e3 e4
structure PlI (K : PySem.W.Frag) (J : Hp) (p0 : Mt) (H0 : Hp) (c : C3) (ls : D) (p : Mt) (σ : St) (H : Hp) (s : PlS) : Prop where
  R : Rl K J p (plG ls c s) σ H
  a : As J p0 H0 p H
  nx : NoO s.x
  ny : NoO s.y
  ex : ∃ q r u1 u2 es, σ[1]? = some (some (.ref q)) ∧ q ∈ p.o ∧ r ∈ p.o ∧ q ≠ r ∧ J q = none ∧ J r = none ∧ H q = some (.dK [(.inr "firsts", u1), (.inr "lasts", u2), (.inr "arcs", .ref r)]) ∧
    Rep K (del p H) u1 s.F ∧ Rep K (del p H) u2 s.L ∧ H r = some (.dT es) ∧ RepT K (del p H) es s.A
section
variable {K : PySem.W.Frag} {J : Hp} {p0 p p1 : Mt} {H0 H H1 : Hp} {c : C3} {ls : D} {σ : St} {s : PlS}
theorem PlI.ad (I : PlI K J p0 H0 c ls p σ H s) (ad : Ad (plG ls c s) σ p H (plG ls c s) p1 H1) (R1 : Rl K J p1 (plG ls c s) σ H1) : PlI K J p0 H0 c ls p1 σ H1 s := by
  obtain ⟨q, r, u1, u2, es, h1, h2, h3, h4, h5, h6, h7, h8, h9, h10, h11⟩ := I.ex
  obtain ⟨a1, b1⟩ := ad.ex q h2 (nosl_pl I.nx I.ny q)
  obtain ⟨a2, b2⟩ := ad.ex r h3 (nosl_pl I.nx I.ny r)
  exact ⟨R1, I.a.trans (ad.as I.R), I.nx, I.ny, q, r, u1, u2, es, h1, a1, a2, h4, h5, h6, by rw [b1, h7], h8.le ad.le, h9.le ad.le, by rw [b2, h10], RepT.le ad.le h11⟩
end
end Mo
set_option Elab.async false
set_option linter.all false
set_option maxRecDepth 100000
set_option maxHeartbeats 4000000
/-! Mo, part thirty-five: int of a text; the pieces of the def that reads lines. -/
namespace Mo
open PySem PySem.Spec L2
section
variable {X : Cx} {ew c1 c2 v1 v2 kk vv : Expr}
theorem ob {α β : Type} {o : Option α} {f : α → Option β} {b : β} (h : o.bind f = some b) : ∃ a, o = some a ∧ f a = some b := by
  cases o with
  | none => cases h
  | some a => exact ⟨a, rfl, h⟩
end
end Mo
set_option Elab.async false
set_option linter.all false
set_option maxRecDepth 100000
set_option maxHeartbeats 4000000
/-! Mo, part thirty-six: a dict whose keys are pairs of a text and of a tuple of numbers. -/
namespace Mo
open PySem PySem.Spec L2
def nk (l : Str) (row : List Int) : NestedKey := .tup [.text l, .tup (row.map .num)]
theorem nums_inj : ∀ {a b : List Int}, a.map NestedKey.num = b.map NestedKey.num → a = b
  | [], [], _ => rfl
  | [], _ :: _, h => by cases h
  | _ :: _, [], h => by cases h
  | x :: a, y :: b, h => by
    simp only [List.map_cons, List.cons.injEq] at h
    obtain ⟨h1, h2⟩ := h
    cases h1
    rw [nums_inj h2]
theorem nk_inj {l l' : Str} {r r' : List Int} : nk l r = nk l' r' ↔ l = l' ∧ r = r' := by
  constructor
  · intro h
    unfold nk at h
    injection h with h
    injection h with h1 h2
    injection h1 with h1
    injection h2 with h2 _
    injection h2 with h2
    exact ⟨h1, nums_inj h2⟩
  · rintro ⟨rfl, rfl⟩
    rfl
abbrev NE := NestedKey × Addr × Value
/-- the dict with these entries at q -/
def ND (P : Program) (w : World) (q : Addr) (xs : List NE) : HO := .ext fun h => (q == sysModules) = false ∧ xs.length ≤ sizeLine ∧
  ∃ o es ep, h.get? q = some o ∧ o.ExactDict ∧ o.data = .dict es ep ∧ es.toList = xs.map (entryOfKey (nestedKind P w)) ∧ (xs.map fun x => x.1).Nodup
/-- such a key at b -/
def KeyAt (H : Hp) (b : Addr) (l : Str) (row : List Int) : Prop := ∃ c, H b = some (.tup [.str l, .ref c]) ∧ H c = some (.tup (row.map V.int))
section
variable {X : Cx} {pins : List (Addr × Obj)} {σ : St} {H : Hp} {s : Shared} {q b : Addr} {l : Str} {row : List Int} {xs : List NE} {E' : Value → Shared → Prop}
/-- the entry of a key -/
def entry (xs : List NE) (l : Str) (row : List Int) : Option (Addr × Value) := atKey xs (nk l row)
end
end Mo
set_option Elab.async false
set_option linter.all false
set_option maxRecDepth 100000
set_option maxHeartbeats 4000000
/-! Mo, part thirty-seven: a walk along a text that keeps what it found in a dict. -/
namespace Mo
open PySem PySem.Spec L2
def nsD (ns : List Int) : List D := ns.map .int
def pD (x : List Int × Int) : D := .tup [.tup (nsD x.1), .int x.2]
abbrev StepF := Str → List Int → Option (List Int × Int)
/-- the entries are what the steps come to -/
def Ent (K : PySem.W.Frag) (F : Hp) (step : StepF) (xs : List NE) : Prop := ∀ x ∈ xs, ∃ l row out v, x.1 = nk l row ∧ KeyAt F x.2.1 l row ∧ step l row = some out ∧ RelV v x.2.2 ∧ Rep K F v (pD out)
section
variable {K : PySem.W.Frag} {F F' H : Hp} {step : StepF} {xs : List NE} {p : Mt}
theorem KeyAt.le {b : Addr} {l : Str} {row : List Int} (k : KeyAt F b l row) (e : Le F F') : KeyAt F' b l row := by
  obtain ⟨c, h1, h2⟩ := k
  exact ⟨c, e.ex h1 rfl, e.ex h2 rfl⟩
theorem Ent.le (e : Ent K F step xs) (l : Le F F') : Ent K F' step xs := fun x m => by
  obtain ⟨a, row, out, v, h1, h2, h3, h4, h5⟩ := e x m
  exact ⟨a, row, out, v, h1, h2.le l, h3, h4, h5.le l⟩
theorem Ent.get (e : Ent K F step xs) {l : Str} {row : List Int} {y : Addr × Value} (h : entry xs l row = some y) : ∃ out v, step l row = some out ∧ RelV v y.2 ∧ Rep K F v (pD out) := by
  unfold entry atKey at h
  obtain ⟨x, h1, h2⟩ := Option.map_eq_some_iff.mp h
  have m := List.mem_of_find?_eq_some h1
  have hk := List.find?_some h1
  obtain ⟨a, row', out, v, e1, e2, e3, e4, e5⟩ := e x m
  have hk' : x.1 = nk l row := by simpa using hk
  rw [e1] at hk'
  obtain ⟨rfl, rfl⟩ := nk_inj.mp hk'
  exact ⟨out, v, e3, by rw [← h2]; exact e4, e5⟩
end
section
variable {g : G} {σ : St} {q x : Addr} {i : Nat}
theorem nosl_setV {d : D} {v : Option V} (n : NoSl g σ q) : NoSl (g.set i (.v d)) (σ.set i v) q := fun j o e => by
  rcases getE_set e with ⟨_, z, _⟩ | ⟨ne, e⟩
  · cases z
  · rw [getV_set, if_neg fun z => ne z.1]
    exact n j o e
theorem nosl_setO {o' : O} (n : NoSl g σ q) (h : x ≠ q) (hl : g.s.length = σ.length) : NoSl (g.set i (.o o')) (σ.set i (some (.ref x))) q := fun j o e => by
  rcases getE_set e with ⟨rfl, z, l⟩ | ⟨ne, e⟩
  · rw [getV_set, if_pos ⟨rfl, hl ▸ l⟩]
    intro z
    cases z
    exact h rfl
  · rw [getV_set, if_neg fun z => ne z.1]
    exact n j o e
end
/-- the dict under way, beside the slots -/
structure RwI (X : Cx) (J : Hp) (p0 : Mt) (H0 : Hp) (step : StepF) (g : G) (p : Mt) (σ : St) (H : Hp) (xs : List NE) : Prop where
  R : Rl X.K J p g σ H
  a : As J p0 H0 p H
  ex : ∃ q, σ[3]? = some (some (.ref q)) ∧ q ∈ p.o ∧ J q = none ∧ NoSl g σ q ∧ H q = some (ND X.prog X.w q xs) ∧ Ent X.K (del p H) step xs
section
variable {X : Cx} {J : Hp} {p0 p p1 : Mt} {H0 H H1 : Hp} {step : StepF} {g g1 : G} {σ : St} {xs : List NE} {i : Nat}
theorem RwI.ad (I : RwI X J p0 H0 step g p σ H xs) (ad : Ad g σ p H g1 p1 H1) (R1 : Rl X.K J p1 g1 σ H1) : RwI X J p0 H0 step g1 p1 σ H1 xs := by
  obtain ⟨q, h1, h2, h3, h4, h5, h6⟩ := I.ex
  obtain ⟨a1, b1⟩ := ad.ex q h2 h4
  exact ⟨R1, I.a.trans (ad.as I.R), q, h1, a1, h3, ad.sl q h4, by rw [b1, h5], h6.le ad.le⟩
theorem RwI.setV {v : V} {d : D} (I : RwI X J p0 H0 step g p σ H xs) (rv : Rep X.K (del p H) v d) (n3 : i ≠ 3) : RwI X J p0 H0 step (g.set i (.v d)) p (σ.set i (some v)) H xs := by
  obtain ⟨q, h1, h2, h3, h4, h5, h6⟩ := I.ex
  exact ⟨I.R.setV rv, I.a, q, by rw [List.getElem?_set_ne n3]; exact h1, h2, h3, nosl_setV h4, h5, h6⟩
theorem RwI.setO {x : Addr} {o : O} (I : RwI X J p0 H0 step g p σ H xs) (m : x ∈ p.o) (jn : J x = none) (n : NoSl g σ x) (ow : OwnAt X.K (del p H) H x o) (n3 : i ≠ 3) : RwI X J p0 H0 step (g.set i (.o o)) p (σ.set i (some (.ref x))) H xs := by
  obtain ⟨q, h1, h2, h3, h4, h5, h6⟩ := I.ex
  refine ⟨I.R.setO m jn n ow, I.a, q, by rw [List.getElem?_set_ne n3]; exact h1, h2, h3, nosl_setO h4 (fun z => ?_) I.R.len, h5, h6⟩
  subst z
  cases o with
  | l _ => obtain ⟨_, z, _⟩ := ow; rw [h5] at z; cases z
  | k _ => obtain ⟨_, z, _⟩ := ow; rw [h5] at z; cases z
  | t _ => obtain ⟨_, z, _⟩ := ow; rw [h5] at z; cases z
  | n _ _ => obtain ⟨_, _, z, _⟩ := ow; rw [h5] at z; cases z
end
end Mo
set_option Elab.async false
set_option linter.all false
set_option maxRecDepth 100000
set_option maxHeartbeats 8000000
/-! Mo, part thirty-eight: the walk's body. -/
namespace Mo
open PySem PySem.Spec L2
end Mo
set_option Elab.async false
set_option linter.all false
set_option maxRecDepth 100000
set_option maxHeartbeats 8000000
/-! Mo, part thirty-nine: the walk's loops. -/
namespace Mo
open PySem PySem.Spec L2
end Mo
set_option Elab.async false
set_option linter.all false
set_option maxRecDepth 100000
set_option maxHeartbeats 8000000
/-! Mo, part forty: the walk, whole. -/
namespace Mo
open PySem PySem.Spec L2
section
variable {X : Cx} {J : Hp} {p0 p : Mt} {H0 H : Hp} {sf : D → StepF} {σ : St} {xs : List NE} {ep e2 er ea : Expr} {mp m2 : M D} {mr : M O} {ma : M D} {c : C3}
variable {a0 a1 a2 a3 a4 a5 a6 a7 a8 a9 b1 b2 b3 b4 b5 b6 b7 c1 c2 c3 d1 d2 d3 d4 d5 d6 d7 d8 d9 f1 f2 f3 f4 f5 : Pos}
theorem RwI.base {step : StepF} {g' : G} {p' : Mt} {σ' : St} {H' : Hp} (I : RwI X J p H step g' p' σ' H' xs) (a : As J p0 H0 p H) : RwI X J p0 H0 step g' p' σ' H' xs := ⟨I.R, a.trans I.a, I.ex⟩
end
end Mo
set_option Elab.async false
set_option linter.all false
set_option maxRecDepth 100000
set_option maxHeartbeats 4000000
/-! Mo, part forty-one: the walk's pieces. -/
namespace Mo
open PySem PySem.Spec L2
end Mo
set_option Elab.async false
set_option linter.all false
set_option maxRecDepth 100000
set_option maxHeartbeats 4000000
/-! Mo: an own thing that is called. -/
namespace Mo
open PySem PySem.Spec PySem.Calls L2 PyProof.Rows
open Lp (FnG okN callG)
section
variable {X : Cx} {W : WW} {fe : Expr} {es : List Expr} {pos : Pos} {C ff : Addr} {k : Nat} {fd : FuncData} {qs : List Str} {sp : Sp}
def mOCall (C : Addr) (F : FD) (mo : M D) (ms : M (List D)) : M D := mo.bind fun d => match d with
  | .ins C' fs => if C' = C then ms.bind fun ds => liftC (F (.ins C' fs :: ds)) else bad
  | _ => bad
@[simp] theorem ev_ocall {F : FD} {mo : M D} {ms : M (List D)} {g : G} {Q : D → G → Prop} : Ev (mOCall C F mo ms) g Q ↔ Ev mo g fun d g1 => ∃ fs, d = .ins C fs ∧ Ev ms g1 fun ds g2 => ∃ x c', F (.ins C fs :: ds) g2.c = some (x, c') ∧ Q x ⟨g2.s, c'⟩ := by
  unfold mOCall
  simp only [ev_bind]
  refine ⟨fun h => h.mono fun d g1 q => ?_, fun h => h.mono fun d g1 ⟨fs, e, q⟩ => ?_⟩
  · cases d <;> first | exact (ev_bad.mp q).elim | skip
    rename_i C' fs
    dsimp only at q
    rw [ev_ite] at q
    split at q
    · rename_i hc
      subst hc
      exact ⟨fs, rfl, (ev_bind.mp q).mono fun ds g2 z => ev_liftC.mp z⟩
    · exact (ev_bad.mp q).elim
  · subst e
    dsimp only
    rw [if_pos rfl]
    exact ev_bind.mpr (q.mono fun ds g2 z => ev_liftC.mpr z)
end
end Mo
set_option Elab.async false
set_option linter.all false
set_option maxRecDepth 100000
set_option maxHeartbeats 4000000
/-! Mo: == and != of a class with an own __eq__ (and no own __ne__). -/
namespace Mo
open PySem PySem.Spec PySem.Calls L2 PyProof.Rows
open Lp (FnG okN callG)
section
variable {X : Cx} {W : WW} {a b : Expr} {pos : Pos} {C ff : Addr} {k : Nat} {fd : FuncData} {qs : List Str} {sp : Sp}
/-- on data -/
def mEqI (neg : Bool) (C : Addr) (F : FD) (ma mb : M D) : M D := ma.bind fun x => mb.bind fun y => match x, y with
  | .ins C1 fs, .ins C2 gs => if C1 = C ∧ C2 = C then (liftC (F [.ins C fs, .ins C gs])).bind fun v => (match v with
    | .bl t => ret (.bl (bif neg then !t else t))
    | _ => bad) else bad
  | _, _ => bad
@[simp] theorem ev_eqI {neg : Bool} {F : FD} {ma mb : M D} {g : G} {Q : D → G → Prop} : Ev (mEqI neg C F ma mb) g Q ↔ Ev ma g fun x g1 => Ev mb g1 fun y g2 => ∃ fs gs, x = .ins C fs ∧ y = .ins C gs ∧ ∃ t c', F [.ins C fs, .ins C gs] g2.c = some (.bl t, c') ∧ Q (.bl (bif neg then !t else t)) ⟨g2.s, c'⟩ := by
  unfold mEqI
  simp only [ev_bind]
  refine ⟨fun h => h.mono fun x g1 q => q.mono fun y g2 z => ?_, fun h => h.mono fun x g1 q => q.mono fun y g2 ⟨fs, gs, e1, e2, t, c', e3, z⟩ => ?_⟩
  · cases x <;> first | exact (ev_bad.mp z).elim | skip
    cases y <;> first | exact (ev_bad.mp z).elim | skip
    rename_i C1 fs C2 gs
    dsimp only at z
    rw [ev_ite] at z
    split at z
    · rename_i hC
      obtain ⟨e1, e2⟩ := hC
      subst e1 e2
      refine ⟨fs, gs, rfl, rfl, ?_⟩
      obtain ⟨d, c', e, z⟩ := ev_liftC.mp (ev_bind.mp z)
      cases d <;> first | exact (ev_bad.mp z).elim | skip
      exact ⟨_, c', e, ev_ret.mp z⟩
    · exact (ev_bad.mp z).elim
  · subst e1 e2
    dsimp only
    rw [if_pos ⟨rfl, rfl⟩]
    exact ev_bind.mpr (ev_liftC.mpr ⟨_, _, e3, ev_ret.mpr z⟩)
end
end Mo
set_option Elab.async false
set_option linter.all false
set_option maxRecDepth 100000
set_option maxHeartbeats 4000000
/-! Mo: {(k, ..): v, ..}, a dict display whose keys are tuples. -/
namespace Mo
open PySem PySem.Spec PySem.Calls L2 PyProof.Rows
open Lp (FnG okN callG)
section
variable {X : Cx} {W : WW} {e a b c : Expr} {es : List Expr} {pos ps : Pos}
def asTK : D → Option (List Key)
  | .tup ds => asKeys ds
  | _ => none
def mPairsT (mk mv : M D) (ms : M (List (List Key × D))) : M (List (List Key × D)) := mk.bind fun k => mv.bind fun v => ms.bind fun r => lift ((asTK k).map fun kk => (kk, v) :: r)
def putsD (acc : List (List Key × D)) (more : List (List Key × D)) : List (List Key × D) := more.foldl (fun acc kv => putD acc kv.1 kv.2) acc
def mDispT (ms : M (List (List Key × D))) : M O := ms.bind fun es => if es.length ≤ 15 then ret (.t (putsD [] es)) else bad
@[simp] theorem ev_pairsT {mk mv : M D} {ms : M (List (List Key × D))} {g : G} {Q : List (List Key × D) → G → Prop} : Ev (mPairsT mk mv ms) g Q ↔ Ev mk g fun k g1 => Ev mv g1 fun v g2 => Ev ms g2 fun r g3 => ∃ kk, asTK k = some kk ∧ Q ((kk, v) :: r) g3 := by
  unfold mPairsT
  simp only [ev_bind]
  refine ⟨fun h => h.mono fun k g1 q => q.mono fun v g2 z => z.mono fun r g3 y => ?_, fun h => h.mono fun k g1 q => q.mono fun v g2 z => z.mono fun r g3 ⟨kk, e, y⟩ => ?_⟩
  · cases e : asTK k with
    | none =>
      rw [e] at y
      obtain ⟨_, _, z, _⟩ := y
      cases z
    | some kk =>
      rw [e] at y
      exact ⟨kk, rfl, ev_lift_some.mp y⟩
  · rw [e]
    exact ev_lift_some.mpr y
@[simp] theorem ev_dispT {ms : M (List (List Key × D))} {g : G} {Q : O → G → Prop} : Ev (mDispT ms) g Q ↔ Ev ms g fun es g1 => es.length ≤ 15 ∧ Q (.t (putsD [] es)) g1 := by
  unfold mDispT
  simp only [ev_bind]
  refine ⟨fun h => h.mono fun es g1 q => ?_, fun h => h.mono fun es g1 ⟨e, q⟩ => ?_⟩
  · rw [ev_ite] at q
    split at q
    · rename_i e
      exact ⟨e, ev_ret.mp q⟩
    · exact (ev_bad.mp q).elim
  · rw [if_pos e]
    exact ev_ret.mpr q
end
end Mo
set_option Elab.async false
set_option linter.all false
set_option maxRecDepth 100000
set_option maxHeartbeats 4000000
/-! Mo: y = {k: v for ..} on one line. -/
namespace Mo
open PySem PySem.Spec PySem.Calls L2 PyProof.Rows
end Mo
set_option Elab.async false
set_option linter.all false
set_option maxRecDepth 100000
set_option maxHeartbeats 4000000
/-! Mo: == of own classes as a test; list * int, text * int; xs[i] = v of an own list. -/
namespace L2
open PySem PySem.Spec PyProof.Rows
/-- a text times a number -/
def rTimesT : R2 := fun x y H Q => ∃ z k, x = .str z ∧ y = .int k ∧ 0 ≤ k ∧ k < 2 ^ 40 ∧ z.length * k.toNat ≤ 1000000 ∧ Q (.str (Txt.mul z k)) H
theorem op_timesT {X : Cx} : OpR X (binaryOp .Mult) rTimesT := by
  intro pins s σ H x y v u Q I rx ry h
  obtain ⟨z, k, rfl, rfl, h1, h2, hz, q⟩ := h
  obtain ⟨t1, rfl⟩ := rx
  obtain ⟨t2, rfl⟩ := ry
  refine SB.mul ⟨?_, fun a b => ?_, fun a b => ?_⟩ fun t' k' => ⟨.str (Txt.mul z k), H, I.tok _, ⟨_, rfl⟩, q⟩
  · rw [decide_eq_false (show ¬ k < -(2 ^ 63 : Int) by omega), decide_eq_false (show ¬ k ≥ 2 ^ 63 by omega)]
    rfl
  · obtain ⟨n, rfl⟩ := Int.eq_ofNat_of_zero_le h1
    have hn : 0 < (n : Int) := by omega
    intro c
    have c2 : (2 ^ 63 - 1 : Int) < (z.length : Int) * (n : Int) := by
      have := Int.lt_mul_of_ediv_lt hn (show (2 ^ 63 - 1 : Int) / (n : Int) < z.length from c)
      omega
    rw [Int.toNat_natCast] at hz
    have : ((z.length * n : Nat) : Int) = (z.length : Int) * (n : Int) := by simp
    omega
  · rw [show Builtin.Str.tooLong (z.length * k.toNat) = decide (z.length * k.toNat > sizeLine) from rfl]
    exact decide_eq_false (by rw [sizeLine_eq]; omega)
end L2
namespace Mo
open PySem PySem.Spec PySem.Calls L2 PyProof.Rows
open Lp (FnG)
section
variable {X : Cx} {W : WW} {a b e : Expr} {es : List Expr} {pos ps : Pos} {C ff : Addr} {k : Nat} {fd : FuncData} {qs : List Str} {sp : Sp}
/-! ### == of own classes, as a test -/
def mtEqI (neg : Bool) (C : Addr) (F : FD) (ma mb : M D) : M Bool := ma.bind fun x => mb.bind fun y => match x, y with
  | .ins C1 fs, .ins C2 gs => if C1 = C ∧ C2 = C then (liftC (F [.ins C fs, .ins C gs])).bind fun v => (match v with
    | .bl t => ret (bif neg then !t else t)
    | _ => bad) else bad
  | _, _ => bad
@[simp] theorem ev_teqI {neg : Bool} {F : FD} {ma mb : M D} {g : G} {Q : Bool → G → Prop} : Ev (mtEqI neg C F ma mb) g Q ↔ Ev ma g fun x g1 => Ev mb g1 fun y g2 => ∃ fs gs, x = .ins C fs ∧ y = .ins C gs ∧ ∃ t c', F [.ins C fs, .ins C gs] g2.c = some (.bl t, c') ∧ Q (bif neg then !t else t) ⟨g2.s, c'⟩ := by
  unfold mtEqI
  simp only [ev_bind]
  refine ⟨fun h => h.mono fun x g1 q => q.mono fun y g2 z => ?_, fun h => h.mono fun x g1 q => q.mono fun y g2 ⟨fs, gs, e1, e2, t, c', e3, z⟩ => ?_⟩
  · cases x <;> first | exact (ev_bad.mp z).elim | skip
    cases y <;> first | exact (ev_bad.mp z).elim | skip
    rename_i C1 fs C2 gs
    dsimp only at z
    rw [ev_ite] at z
    split at z
    · rename_i hC
      obtain ⟨e1, e2⟩ := hC
      subst e1 e2
      refine ⟨fs, gs, rfl, rfl, ?_⟩
      obtain ⟨d, c', e, z⟩ := ev_liftC.mp (ev_bind.mp z)
      cases d <;> first | exact (ev_bad.mp z).elim | skip
      exact ⟨_, c', e, ev_ret.mp z⟩
    · exact (ev_bad.mp z).elim
  · subst e1 e2
    dsimp only
    rw [if_pos ⟨rfl, rfl⟩]
    exact ev_bind.mpr (ev_liftC.mpr ⟨_, _, e3, ev_ret.mpr z⟩)
/-! ### list * number, text * number -/
def uTimesT : D → D → Option D
  | .str z, .int k => if 0 ≤ k ∧ k < 2 ^ 40 ∧ z.length * k.toNat ≤ 1000000 then some (.str (Txt.mul z k)) else none
  | _, _ => none
theorem os_timesT {K : PySem.W.Frag} : OpS K rTimesT uTimesT := fun J p g σ H v w x y z Q R0 rv rw' e q => by
  unfold uTimesT at e
  split at e
  · split at e
    · rename_i hl
      cases e
      cases rep_str rv
      cases rep_int rw'
      exact ⟨_, _, rfl, rfl, hl.1, hl.2.1, hl.2.2, q p H .refl R0 _ (.str _)⟩
    · cases e
  · cases e
theorem e_timesT {ma mb : M D} (ha : EF X W a ma) (hb : EF X W b mb) : EF X W (.BinOp a .Mult b pos) (mBin uTimesT ma mb) := e_bin op_timesT os_timesT ha hb
end
/-! ### xs[i] = v, xs the def's own list -/
end Mo
set_option Elab.async false
set_option linter.all false
set_option maxRecDepth 100000
set_option maxHeartbeats 4000000
/-! Mo: == of two dicts whose keys are tuples and whose values are numbers. -/
namespace L2
open PySem PySem.Spec PyProof.Rows
end L2
namespace Mo
open PySem PySem.Spec PySem.Calls L2 PyProof.Rows
end Mo
set_option Elab.async false
set_option linter.all false
set_option maxRecDepth 100000
set_option maxHeartbeats 4000000
/-! Mo: zip(e, text), e a list or a tuple. -/
namespace Mo
open PySem PySem.Spec L2
open PyProof.Rows hiding St
end Mo
set_option Elab.async false
set_option linter.all false
set_option maxRecDepth 100000
set_option maxHeartbeats 4000000
/-! Mo: list(d) of a dict with tuples for keys. -/
namespace Mo
open PySem PySem.Spec PySem.Calls L2 PyProof.Rows
end Mo
set_option Elab.async false
set_option linter.all false
set_option maxRecDepth 100000
set_option maxHeartbeats 4000000
/-! Mo: dict(xs) of a list of pairs whose keys are tuples. -/
namespace Mo
open PySem PySem.Spec PySem.Calls L2 PyProof.Rows
end Mo
set_option Elab.async false
set_option linter.all false
set_option maxRecDepth 100000
set_option maxHeartbeats 4000000
/-! Mo: list(d), d the def's own dict with tuples for keys. -/
namespace Mo
open PySem PySem.Spec PySem.Calls L2 PyProof.Rows
end Mo
set_option Elab.async false
set_option linter.all false
set_option maxRecDepth 100000
set_option maxHeartbeats 4000000
/-! Mo: len(d) of a dict with tuples for keys. -/
namespace Mo
open PySem PySem.Spec PySem.Calls L2 PyProof.Rows
end Mo
set_option Elab.async false
set_option linter.all false
set_option maxRecDepth 100000
set_option maxHeartbeats 4000000
/-! Mo: a | b, a + b, a * b of a class with own methods for them. -/
namespace Mo
open PySem PySem.Spec PySem.Calls L2 PyProof.Rows
open Lp (FnG okN callG)
end Mo
set_option Elab.async false
set_option linter.all false
set_option maxRecDepth 100000
set_option maxHeartbeats 4000000
/-! Mo: return y, y the def's own thing, given away. -/
namespace Mo
open PySem PySem.Spec PySem.Calls L2 PyProof.Rows
end Mo
set_option Elab.async false
set_option linter.all false
set_option maxRecDepth 100000
set_option maxHeartbeats 4000000
/-! Mo: a set of texts as a value: set(xs), sorted(s), len(s); a << b, a | b of numbers. -/
namespace Mo
open PySem PySem.Spec PySem.Calls L2 PyProof.Rows
open Lp
end Mo
namespace Mo
open PySem PySem.Spec PySem.Calls L2 PyProof.Rows
open Lp
end Mo
set_option Elab.async false
set_option linter.all false
set_option maxRecDepth 100000
set_option maxHeartbeats 4000000
/-! Mo: list comprehensions with two for; what the second goes over is a list, a tuple or a text. -/
namespace Mo
open PySem PySem.Spec L2
/-- as Ad, the slots' values may change, too -/
structure Adv (g0 : G) (σ0 : St) (p1 : Mt) (H1 : Hp) (g : G) (σ : St) (p : Mt) (H : Hp) : Prop where
  dd : p.d = p1.d
  le : Le (del p1 H1) (del p H)
  ex : ∀ a ∈ p1.o, NoSl g0 σ0 a → a ∈ p.o ∧ H a = H1 a
  sl : ∀ a, NoSl g0 σ0 a → NoSl g σ a
  th : ∀ a, H1 a ≠ none → H a ≠ none
section
variable {g0 g g' : G} {σ0 σ σ' : St} {p1 p p' : Mt} {H1 H H' : Hp} {q : Addr} {u : HO}
theorem Adv.refl : Adv g0 σ0 p1 H1 g0 σ0 p1 H1 := ⟨rfl, .refl _, fun _ h _ => ⟨h, rfl⟩, fun _ h => h, fun _ h => h⟩
theorem Adv.ad (a : Adv g0 σ0 p1 H1 g σ p H) (b : Ad g σ p H g' p' H') : Adv g0 σ0 p1 H1 g' σ p' H' := ⟨b.dd.trans a.dd, a.le.trans b.le, fun x hx n => by
    obtain ⟨h1, h2⟩ := a.ex x hx n
    obtain ⟨h3, h4⟩ := b.ex x h1 (a.sl x n)
    exact ⟨h3, h4.trans h2⟩, fun x n => b.sl x (a.sl x n), fun x n => b.th x (a.th x n)⟩
theorem Adv.wipe (a : Adv g0 σ0 p1 H1 g σ p H) (vs : List Nat) : Adv g0 σ0 p1 H1 (wipeG g vs) (L2.wipe σ vs) p H := ⟨a.dd, a.le, a.ex, fun x n => (a.sl x n).wipe vs, a.th⟩
end
/-! ### what the inner for goes over -/
def iterS : D → Option (List D)
  | .lst ds => some ds
  | .tup ds => some ds
  | .str x => some (chars x)
  | _ => none
def mIterS (m : M D) : M (List D) := m.bind fun d => lift (iterS d)
section
variable {X : Cx} {W : WW} {it tg it1 tg1 : Expr} {pos : Pos}
def lcGo2 (vs vs1 : List Nat) (f : D → G → Option G) (mt : M Bool) (mi1 : M (List D)) (f1 : D → G → Option G) (mt1 : M Bool) (me : M D) : List D → List D → M (List D)
  | [], acc => ret acc
  | d :: ds, acc => fun g => match f d g with
    | none => none
    | some g1 => match mt g1 with
      | some (.ok true g2) => match mi1 g2 with
        | some (.ok es g3) => match lcGo vs1 f1 mt1 me es acc (wipeG g3 vs1) with
          | some (.ok acc2 g4) => lcGo2 vs vs1 f mt mi1 f1 mt1 me ds acc2 (wipeG g4 vs)
          | _ => none
        | _ => none
      | some (.ok false g2) => lcGo2 vs vs1 f mt mi1 f1 mt1 me ds acc (wipeG g2 vs)
      | _ => none
def mLc2 (vs vs1 : List Nat) (mi : M (List D)) (f : D → G → Option G) (mt : M Bool) (mi1 : M (List D)) (f1 : D → G → Option G) (mt1 : M Bool) (me : M D) : M O :=
  mi.bind fun ds g1 => if noOwn vs g1 = true then lcEnd vs g1 .l (lcGo2 vs vs1 f mt mi1 f1 mt1 me ds [] (wipeG g1 vs)) else none
end
end Mo
set_option Elab.async false
set_option linter.all false
set_option maxRecDepth 100000
set_option maxHeartbeats 4000000
/-! Mo: list(d.values()), dict(d.items()); x, y = e, f where a name is a cell. -/
namespace Mo
open PySem PySem.Spec PySem.Calls L2 PyProof.Rows
/-! ### of the def's own -/
end Mo
set_option Elab.async false
set_option linter.all false
set_option maxRecDepth 100000
set_option maxHeartbeats 4000000
/-! Mo: d != e of two dicts with plain keys and whole numbers, where they are alike. -/
namespace Mo
open PySem PySem.Spec PySem.Calls L2 PyProof.Rows
end Mo
/-! ### isinstance(e, C), C a class of one's own, e of a type that is none of it -/
namespace Mo
open PySem PySem.Spec L2
def fIsN (C : Addr) (d : D) : Option D := (fIsC C d).or ((tyN d).map fun _ => .bl false)
def mIsN (C : Addr) (m : M D) : M D := m.bind fun d => lift (fIsN C d)
@[simp] theorem ev_isN {C : Addr} {m : M D} {g : G} {Q : D → G → Prop} : Ev (mIsN C m) g Q ↔ Ev m g fun d g1 => Ev (lift (fIsN C d)) g1 Q := by
  unfold mIsN
  simp
end Mo
/-! ### len of a dict, whatever its keys -/
namespace Mo
open PySem PySem.Spec L2
end Mo
set_option Elab.async false
set_option linter.all false
set_option maxRecDepth 100000
set_option maxHeartbeats 4000000
set_option exponentiation.threshold 9000
/-! Lw, part one: what all laws have in common: the dice. -/
namespace Lw
open PySem PySem.Spec L2 Mo
/-- the dice, rolled at most N times -/
def Di (c : C3) (N : Nat) : Prop := ∃ a b n : Int, c = .l [.int a, .int b, .int n] ∧ 0 ≤ a ∧ a < 10 ^ 120 ∧ 0 ≤ b ∧ b < 10 ^ 12 ∧ 0 ≤ n ∧ n ≤ N
theorem Di.mono {c : C3} {N N' : Nat} (h : Di c N) (l : N ≤ N') : Di c N' := by
  obtain ⟨a, b, n, e, h1, h2, h3, h4, h5, h6⟩ := h
  exact ⟨a, b, n, e, h1, h2, h3, h4, h5, by omega⟩
theorem log_le {i : Int} {k : Nat} (h0 : 0 ≤ i) (h : i < 2 ^ k) (hk : 0 < k) : i.natAbs.log2 < k := by
  have : i.natAbs < 2 ^ k := by
    have e : ((2 ^ k : Nat) : Int) = 2 ^ k := by simp
    omega
  by_cases z : i.natAbs = 0
  · rw [z]
    exact hk
  · exact (Nat.log2_lt z).mpr this
def mRoll : M Oc := (seq (mIf (mT2 iGt (mIxD 0 (ret (.int 0))) (ret (.int 0))) (seq (mSet 4 (mBin uMod (mCall fInt1 (mCons (mIxD 0 (ret (.int 0))) (ret []))) (mName 1))) (seq (mIxPutD 0 0 (mBin uDiv (mIxD 0 (ret (.int 0))) (mName 1))) (seq (mRet (mName 4)) (ret .nx)))) (ret .nx)) (seq (mIxPutD 0 2 (mBin uPlus (mIxD 0 (ret (.int 2))) (ret (.int 1)))) (seq (mSet 2 (mBin uMod (mCall fInt1 (mCons (mBin uPlus (mIxD 0 (ret (.int 1))) (mBin uMul (ret (.int 7907)) (mIxD 0 (ret (.int 2))))) (ret []))) (ret (.int 2305843009213693907)))) (seq (mSet 3 (mBin uPlus (mBin uMul (mBin uMod (mCall fInt1 (mCons (mBin uPlus (mBin uMul (mName 2) (mName 2)) (mBin uMul (ret (.int 67)) (mIxD 0 (ret (.int 2))))) (ret []))) (ret (.int 2305843009213693921))) (ret (.int 6700417))) (mName 2))) (seq (mRet (mBin uMod (mCall fInt1 (mCons (mBin uDiv (mName 3) (ret (.int 32768))) (ret []))) (mName 1))) (ret .nx))))))
@[simp] theorem ix3_0 {x y z : D} : fIx (.lst [x, y, z]) (.int 0) = some x := rfl
@[simp] theorem ix3_1 {x y z : D} : fIx (.lst [x, y, z]) (.int 1) = some y := rfl
@[simp] theorem ix3_2 {x y z : D} : fIx (.lst [x, y, z]) (.int 2) = some z := rfl
theorem ixN3_0 : ixN 3 (0 : Int) = some 0 := rfl
theorem ixN3_2 : ixN 3 (2 : Int) = some 2 := rfl
/-- what a roll promises -/
def RollS (F : FD) : Prop := ∀ (c : C3) (N : Nat) (n : Int), Di c N → N ≤ 1000000 → 0 < n → n ≤ 10 ^ 60 → ∃ r c', F [.int n] c = some (.int r, c') ∧ 0 ≤ r ∧ r < n ∧ Di c' (N + 1)
theorem log_small {i : Int} (h0 : 0 ≤ i) (h : i < 10 ^ 130) : i.natAbs.log2 < 433 := log_le h0 (Int.lt_trans h (by decide)) (by decide)
theorem roll_spec : RollS (runM true 5 2 mRoll) := fun c N n ⟨a, b, k, e, a0, a1, b0, b1, k0, k1⟩ hN hn hn2 => by
  subst e
  suffices h : ∃ d c', runM true 5 2 mRoll [.int n] (.l [.int a, .int b, .int k]) = some (d, c') ∧ ∃ r, d = .int r ∧ 0 ≤ r ∧ r < n ∧ Di c' (N + 1) by
    obtain ⟨d, c', e, r, rfl, h⟩ := h
    exact ⟨r, c', e, h⟩
  refine run_ev rfl ?_
  have hm1 : ∀ {x : Int}, uMod (.int x) (.int n) = some (.int (x % n)) := uMod_int hn
  have hd1 : ∀ {x : Int}, uDiv (.int x) (.int n) = some (.int (x / n)) := uDiv_int ⟨hn, Nat.lt_trans (log_small (Int.le_of_lt hn) (Int.lt_of_le_of_lt hn2 (by decide))) (by decide)⟩
  have hm2 : ∀ {x : Int}, uMod (.int x) (.int 2305843009213693907) = some (.int (x % 2305843009213693907)) := uMod_int (by decide)
  have hm3 : ∀ {x : Int}, uMod (.int x) (.int 2305843009213693921) = some (.int (x % 2305843009213693921)) := uMod_int (by decide)
  have hd2 : ∀ {x : Int}, uDiv (.int x) (.int 32768) = some (.int (x / 32768)) := uDiv_int (by decide)
  have k2 : k + 1 < 10 ^ 130 := by omega
  have ml : ∀ {x y : Int}, 0 ≤ x → x < 10 ^ 130 → 0 ≤ y → y < 10 ^ 130 → uMul (.int x) (.int y) = some (.int (x * y)) := fun a b c d => uMul_int (by have := log_small a b; have := log_small c d; omega)
  have h1 := ml (x := 7907) (by decide) (by decide) (by omega : 0 ≤ k + 1) k2
  have h2 := ml (x := 67) (by decide) (by decide) (by omega : 0 ≤ k + 1) k2
  have r1 : ∀ x : Int, 0 ≤ x % 2305843009213693907 ∧ x % 2305843009213693907 < 2305843009213693907 := fun x => ⟨Int.emod_nonneg _ (by decide), Int.emod_lt_of_pos _ (by decide)⟩
  have r2 : ∀ x : Int, 0 ≤ x % 2305843009213693921 ∧ x % 2305843009213693921 < 2305843009213693921 := fun x => ⟨Int.emod_nonneg _ (by decide), Int.emod_lt_of_pos _ (by decide)⟩
  have h3 : ∀ {x : Int}, uMul (.int (x % 2305843009213693907)) (.int (x % 2305843009213693907)) = some (.int (x % 2305843009213693907 * (x % 2305843009213693907))) := fun {x} => ml (r1 x).1 (Int.lt_trans (r1 x).2 (by decide)) (r1 x).1 (Int.lt_trans (r1 x).2 (by decide))
  have h4 : ∀ {x : Int}, uMul (.int (x % 2305843009213693921)) (.int 6700417) = some (.int (x % 2305843009213693921 * 6700417)) := fun {x} => ml (r2 x).1 (Int.lt_trans (r2 x).2 (by decide)) (by decide) (by decide)
  simp [mRoll, ev_name_v, hm1, hd1, hm2, hm3, hd2, h1, h2, h3, h4, ixN3_0, ixN3_2]
  split
  · refine ⟨Int.emod_nonneg _ (by omega), Int.emod_lt_of_pos _ hn, a / n, b, k, rfl, Int.ediv_nonneg a0 (by omega), ?_, b0, b1, k0, by omega⟩
    exact Int.lt_of_le_of_lt (Int.ediv_le_self _ a0) a1
  · refine ⟨Int.emod_nonneg _ (by omega), Int.emod_lt_of_pos _ hn, a, b, k + 1, rfl, a0, a1, b0, b1, by omega, by omega⟩
end Lw
set_option Elab.async false
set_option linter.all false
set_option maxRecDepth 100000
set_option maxHeartbeats 4000000
set_option exponentiation.threshold 9000
/-! Lw, part two: dice made, picks, mixtures. -/
namespace Lw
open PySem PySem.Spec L2 Mo
def mDice : M Oc := (seq (mSet 2 (mIf (mT2 uLt (mName 1) (mCall fLen (mCons (mName 0) (ret [])))) (mCall fInt1 (mCons (mBin uIx (mName 0) (mName 1)) (ret []))) (mBin uPlus (mBin uMul (ret (.int 43)) (mName 1)) (ret (.int 7))))) (seq (mSet 3 (mBin uMod (mCall fAbs (mCons (mName 2) (ret []))) (mBin uPow (ret (.int 10)) (ret (.int 59))))) (seq (mSet 4 (mCall fMax2 (mCons (ret (.int 0)) (mCons (mBin uSub (mCall fAbs (mCons (mName 2) (ret []))) (mBin uPow (ret (.int 10)) (ret (.int 17)))) (ret []))))) (seq (mRetO (mLst (mCons (mBin uMod (mName 4) (mBin uMul (mBin uPow (ret (.int 10)) (ret (.int 60))) (mBin uPow (ret (.int 10)) (ret (.int 60))))) (mCons (mBin uPlus (mBin uPlus (mBin uPlus (mBin uMul (mBin uMod (mName 3) (ret (.int 2147483587))) (ret (.int 37))) (mBin uMul (ret (.int 601)) (mName 1))) (mBin uMul (ret (.int 11)) (mCall fInt1 (mCons (mBin uLt (mName 2) (ret (.int 0))) (ret []))))) (ret (.int 5))) (mCons (ret (.int 0)) (ret [])))))) (ret .nx)))))
theorem uIx_lst {xs : List D} {i : Int} (h0 : 0 ≤ i) (h1 : i < xs.length) : ∃ d, xs[i.toNat]? = some d ∧ uIx (.lst xs) (.int i) = some d := by
  have h2 : i.toNat < xs.length := by omega
  refine ⟨xs[i.toNat], List.getElem?_eq_getElem h2, ?_⟩
  show atI xs i = _
  have e := atI_nat (List.getElem?_eq_getElem h2)
  rw [Int.toNat_of_nonneg h0] at e
  exact e
theorem uPow_nat {i : Int} {j : Nat} (h : (j : Int) ≤ 1000000 ∧ i.natAbs < 2 ^ 64) : uPow (.int i) (.int (j : Int)) = some (.int (i ^ j)) := by
  show (if cPow i j = true then some (D.int (i ^ (j : Int).toNat)) else none) = _
  rw [if_pos (show cPow i j = true from decide_eq_true ⟨by omega, h.1, h.2⟩)]
  rfl
theorem pow59 : uPow (.int 10) (.int 59) = some (.int (10 ^ 59)) := uPow_nat (i := 10) (j := 59) (by decide)
theorem pow17 : uPow (.int 10) (.int 17) = some (.int (10 ^ 17)) := uPow_nat (i := 10) (j := 17) (by decide)
theorem pow60 : uPow (.int 10) (.int 60) = some (.int (10 ^ 60)) := uPow_nat (i := 10) (j := 60) (by decide)
theorem pow30 : uPow (.int 10) (.int 30) = some (.int (10 ^ 30)) := uPow_nat (i := 10) (j := 30) (by decide)
@[simp] theorem fAbs_int {i : Int} : fAbs [.int i] = some (.int (if i < 0 then -i else i)) := rfl
@[simp] theorem fMax2_int {i j : Int} : fMax2 [.int i, .int j] = some (.int (if j > i then j else i)) := rfl
@[simp] theorem fMin2_int {i j : Int} : fMin2 [.int i, .int j] = some (.int (if j < i then j else i)) := rfl
@[simp] theorem fInt1_bl {b : Bool} : fInt1 [.bl b] = some (.int (if b then 1 else 0)) := rfl
def DiceS (F : FO) : Prop := ∀ (ns : List Int) (spot : Int) (c : C3), 0 ≤ spot → spot < 100 → ∃ o c', F [.lst (ns.map .int), .int spot] c = some (o, c') ∧ Di o 0
theorem dice_spec : DiceS (runO false 5 2 mDice) := fun ns spot c s0 s1 => by
  refine runO_ev rfl ?_
  have hm1 : ∀ {x : Int}, uMod (.int x) (.int (10 ^ 59)) = some (.int (x % 10 ^ 59)) := uMod_int (by decide)
  have hm2 : ∀ {x : Int}, uMod (.int x) (.int (10 ^ 60 * 10 ^ 60)) = some (.int (x % (10 ^ 60 * 10 ^ 60))) := uMod_int (by decide)
  have hm3 : ∀ {x : Int}, uMod (.int x) (.int 2147483587) = some (.int (x % 2147483587)) := uMod_int (by decide)
  have ml : ∀ {x y : Int}, 0 ≤ x → x < 10 ^ 130 → 0 ≤ y → y < 10 ^ 130 → uMul (.int x) (.int y) = some (.int (x * y)) := fun a b c d => uMul_int (by have := log_small a b; have := log_small c d; omega)
  have h1 : uMul (.int 43) (.int spot) = some (.int (43 * spot)) := ml (by decide) (by decide) s0 (by omega)
  have h2 : uMul (.int 601) (.int spot) = some (.int (601 * spot)) := ml (by decide) (by decide) s0 (by omega)
  have h3 : uMul (.int (10 ^ 60)) (.int (10 ^ 60)) = some (.int (10 ^ 60 * 10 ^ 60)) := ml (by decide) (by decide) (by decide) (by decide)
  have r3 : ∀ x : Int, 0 ≤ x % 2147483587 ∧ x % 2147483587 < 2147483587 := fun x => ⟨Int.emod_nonneg _ (by decide), Int.emod_lt_of_pos _ (by decide)⟩
  have h4 : ∀ {x : Int}, uMul (.int (x % 2147483587)) (.int 37) = some (.int (x % 2147483587 * 37)) := fun {x} => ml (r3 x).1 (Int.lt_trans (r3 x).2 (by decide)) (by decide) (by decide)
  have h5 : ∀ {x : Int}, uMul (.int 11) (.int (if x < 0 then 1 else 0)) = some (.int (11 * if x < 0 then 1 else 0)) := fun {x} => by
    split
    · exact ml (by decide) (by decide) (by decide) (by decide)
    · exact ml (by decide) (by decide) (by decide) (by decide)
  have fin : ∀ x : Int, Ev (seq (mSet 3 (mBin uMod (mCall fAbs (mCons (mName 2) (ret []))) (mBin uPow (ret (.int 10)) (ret (.int 59))))) (seq (mSet 4 (mCall fMax2 (mCons (ret (.int 0)) (mCons (mBin uSub (mCall fAbs (mCons (mName 2) (ret []))) (mBin uPow (ret (.int 10)) (ret (.int 17)))) (ret []))))) (seq (mRetO (mLst (mCons (mBin uMod (mName 4) (mBin uMul (mBin uPow (ret (.int 10)) (ret (.int 60))) (mBin uPow (ret (.int 10)) (ret (.int 60))))) (mCons (mBin uPlus (mBin uPlus (mBin uPlus (mBin uMul (mBin uMod (mName 3) (ret (.int 2147483587))) (ret (.int 37))) (mBin uMul (ret (.int 601)) (mName 1))) (mBin uMul (ret (.int 11)) (mCall fInt1 (mCons (mBin uLt (mName 2) (ret (.int 0))) (ret []))))) (ret (.int 5))) (mCons (ret (.int 0)) (ret [])))))) (ret .nx))))
      ⟨[.v (.lst (ns.map .int)), .v (.int spot), .v (.int x), .un, .un], c⟩ (RetO fun o _ => Di o 0) := fun x => by
    simp [ev_name_v, pow59, pow17, pow60, hm1, hm2, hm3, h2, h3, h4, h5, -Int.reducePow, -Int.reduceMul]
    refine ⟨by decide, _, _, 0, rfl, Int.emod_nonneg _ (by decide), ?_, ?_, ?_, Int.le_refl _, Int.le_refl _⟩
    · exact Int.emod_lt_of_pos _ (by decide)
    · have := (r3 ((if x < 0 then -x else x) % 10 ^ 59)).1
      split <;> omega
    · have := (r3 ((if x < 0 then -x else x) % 10 ^ 59)).2
      split <;> omega
  unfold mDice
  rw [ev_seq]
  by_cases hl : spot < ns.length
  · obtain ⟨d, e1, e2⟩ := uIx_lst (xs := ns.map .int) s0 (by rw [List.length_map]; exact hl)
    rw [List.getElem?_map] at e1
    cases e3 : ns[spot.toNat]? with
    | none => rw [e3] at e1; cases e1
    | some x =>
      rw [e3] at e1
      cases e1
      have := fin x
      simp only [ini_f, List.map_cons, List.map_nil, List.length_cons, List.length_nil]
      simp [ev_name_v, hl, e2] at this ⊢
      exact this
  · have := fin (43 * spot + 7)
    simp only [ini_f, List.map_cons, List.map_nil, List.length_cons, List.length_nil]
    simp [ev_name_v, hl, h1] at this ⊢
    exact this
end Lw
set_option Elab.async false
set_option linter.all false
set_option maxRecDepth 100000
set_option maxHeartbeats 4000000
/-! Lw, part three: picks, mixtures, some of a list. -/
namespace Lw
open PySem PySem.Spec L2 Mo
@[simp] theorem ex2 {α β : Type} {x : α} {y : β} {P : α → β → Prop} : (∃ a c, (x = a ∧ y = c) ∧ P a c) ↔ P x y := ⟨fun ⟨_, _, ⟨h1, h2⟩, p⟩ => h1 ▸ h2 ▸ p, fun p => ⟨x, y, ⟨rfl, rfl⟩, p⟩⟩
def mPick (Fr : FD) : M Oc := (seq (mRet (mBin uIx (mName 1) (isDi 0 (mFn Fr (mCons (mCall fLen (mCons (mName 1) (ret []))) (ret [])))))) (ret .nx))
def PickS (F : FD) : Prop := ∀ (c : C3) (N : Nat) (xs : List D), Di c N → N ≤ 1000000 → xs ≠ [] → xs.length ≤ 1000000 → ∃ x c', F [.lst xs] c = some (x, c') ∧ x ∈ xs ∧ Di c' (N + 1)
theorem pick_spec {Fr : FD} (hr : RollS Fr) : PickS (runM true 2 2 (mPick Fr)) := fun c N xs h hN hx hl => by
  refine run_ev rfl ?_
  have h0 : 0 < xs.length := List.length_pos_iff.mpr hx
  obtain ⟨r, c', e, r0, r1, hd⟩ := hr c N xs.length h hN (by omega) (by omega)
  obtain ⟨d, e1, e2⟩ := uIx_lst (xs := xs) r0 r1
  simp [mPick, ev_name_v, e, e2]
  exact ⟨List.mem_of_getElem? e1, hd⟩
/-! ### mixtures -/
theorem rngD_len {lo : Int} {n : Nat} : (rngD lo n).length = n := by unfold rngD; simp
theorem rng1_nat {n : Nat} (h : n ≤ 1000000) : fRng1 [.int (n : Int)] = some (rngD 0 n) := by
  dsimp only [fRng1]
  rw [if_pos ⟨by omega, by omega⟩, Int.toNat_natCast]
end Lw
set_option Elab.async false
set_option linter.all false
set_option maxRecDepth 100000
set_option maxHeartbeats 4000000
/-! Lw, part four: some of a list; names of states. -/
namespace Lw
open PySem PySem.Spec L2 Mo
@[simp] theorem wipeG_n {g : G} : wipeG g [] = g := rfl
@[simp] theorem wipeG_c' {g : G} {v : Nat} {vs : List Nat} : wipeG g (v :: vs) = (wipeG g vs).set v .un := rfl
@[simp] theorem backG_n {g0 g : G} : backG g0 g [] = g := rfl
@[simp] theorem backG_c {g0 g : G} {v : Nat} {vs : List Nat} : backG g0 g (v :: vs) = match g0.s[v]? with
  | some x => (backG g0 g vs).set v x
  | none => backG g0 g vs := rfl
@[simp] theorem od_l {xs : List D} : (O.l xs).d = .lst xs := rfl
@[simp] theorem od_k {xs : List (Key × D)} : (O.k xs).d = .dk xs := rfl
@[simp] theorem od_t {xs : List (List Key × D)} : (O.t xs).d = .dt xs := rfl
@[simp] theorem od_n {C : Addr} {xs : List (Str × D)} : (O.n C xs).d = .ins C xs := rfl
def sL (ss : List Str) : List D := ss.map .str
theorem sL_len {ss : List Str} : (sL ss).length = ss.length := List.length_map _
theorem pys_strs : ∀ ss : List Str, D.pys (sL ss) = some (ss.map .str)
  | [] => rfl
  | s :: r => by
    show (match D.py (.str s), D.pys (sL r) with | some x, some r => some (x :: r) | _, _ => none) = _
    rw [pys_strs r]
    rfl
theorem eqv_strs : ∀ ss tt : List Str, PyData.eqvAll (ss.map .str) (tt.map .str) = decide (ss = tt)
  | [], [] => rfl
  | [], _ :: _ => rfl
  | _ :: _, [] => rfl
  | s :: ss, t :: tt => by
    show (PyData.eqv (.str s) (.str t) && PyData.eqvAll (ss.map .str) (tt.map .str)) = _
    rw [eqv_strs ss tt]
    show ((s == t) && decide (ss = tt)) = _
    by_cases h : s = t <;> simp [h]
def OkS (ss : List Str) : Prop := ∀ x ∈ ss, PyData.strOk x = true
theorem lay_strs : ∀ {ss : List Str}, OkS ss → PyData.canLayAll0 (ss.map .str) = true
  | [], _ => rfl
  | s :: ss, h => by
    show (PyData.canLay0 (.str s) && PyData.canLayAll0 (ss.map .str)) = true
    rw [lay_strs fun x m => h x (List.mem_cons_of_mem _ m)]
    show (PyData.strOk s && true) = true
    rw [h s List.mem_cons_self]
    rfl
theorem dep_strs : ∀ ss : List Str, PyData.depthAll (ss.map .str) = 0
  | [] => rfl
  | s :: ss => by simp [PyData.depthAll, PyData.depth, dep_strs ss]
theorem shp_strs {ss : List Str} (h : OkS ss) : SeqAt.shaped (.list (ss.map .str)) = true := by
  simp [SeqAt.shaped, PyData.canLay0, PyData.depth, lay_strs h, dep_strs]
theorem fEq_strs {neg : Bool} {ss tt : List Str} (h : OkS ss) (h2 : OkS tt) : fEq neg (.lst (sL ss)) (.lst (sL tt)) = some (.bl (if neg then !decide (ss = tt) else decide (ss = tt))) := by
  have e1 : D.py (.lst (sL ss)) = some (.list (ss.map .str)) := by simp only [D.py, pys_strs]; rfl
  have e2 : D.py (.lst (sL tt)) = some (.list (tt.map .str)) := by simp only [D.py, pys_strs]; rfl
  unfold fEq
  rw [e1, e2]
  simp only [shp_strs h, shp_strs h2, Bool.and_self, if_true]
  show some (D.bl (if neg = true then !PyData.eqvAll _ _ else PyData.eqvAll _ _)) = _
  rw [eqv_strs]
@[simp] theorem fEq_int {neg : Bool} {i j : Int} : fEq neg (.int i) (.int j) = some (.bl (if neg then !(i == j) else (i == j))) := rfl
/-! ### names of states -/
def drawPool : List Str := ["s", "t", "p", "q", "qa", "first", "last", "arc", "zzzzzzzz", "u"]
def namePool : List Str := drawPool ++ ((["r", "c", "x", "xa", "xb", "xc", "xd", "xe", "y", "v"] : List Str) ++ ((["qb", "qc", "qd", "qe", "qf", "qg", "qh", "qi", "qj", "qk", "ql", "qm"] : List Str) ++ (["qn", "qo", "qp", "qq", "qr", "qs", "qt", "qu", "qv", "qw", "qx", "new", "later", "z", "e", "k", "a", "zz", "m", "b", "yy", "g", "h", "zzz"] : List Str)))
/-- strictly ascending names from the pool -/
structure NamesOk (ss : List Str) : Prop where
  up : ss.Pairwise fun x y => x.cps.toList < y.cps.toList
  mem : ∀ x ∈ ss, x ∈ namePool
  ne : ss ≠ []
  len : ss.length ≤ 24
theorem NamesOk.sub {ss tt : List Str} (h : NamesOk ss) (s : tt.Sublist ss) (n : tt ≠ []) : NamesOk tt := ⟨h.up.sublist s, fun x m => h.mem x (s.subset m), n, Nat.le_trans s.length_le h.len⟩
theorem pool_ok : OkS namePool := List.all_eq_true.mp (by decide +kernel : namePool.all PyData.strOk = true)
theorem NamesOk.ok {ss : List Str} (h : NamesOk ss) : OkS ss := fun x m => pool_ok x (h.mem x m)
end Lw
set_option Elab.async false
set_option linter.all false
set_option maxRecDepth 100000
set_option maxHeartbeats 4000000
/-! Lw, part five: a drawn machine. -/
namespace Lw
open PySem PySem.Spec L2 Mo
structure Arc where
  a : Str
  l : Str
  b : Str
  p : Int
def keyA (a l b : Str) : List Key := [.inr a, .inr l, .inr b]
def arcT (x : Arc) : List Key × D := (keyA x.a x.l x.b, .int x.p)
def sameA (x : Arc) (a l b : Str) : Prop := x.a = a ∧ x.l = l ∧ x.b = b
instance {x : Arc} {a l b : Str} : Decidable (sameA x a l b) := inferInstanceAs (Decidable (_ ∧ _ ∧ _))
/-- arcs as they come: the places differ, the names are known -/
structure ArcsOk (names signs : List Str) (xs : List Arc) : Prop where
  nd : xs.Pairwise fun x y => ¬ sameA x y.a y.l y.b
  at' : ∀ x ∈ xs, x.a ∈ names ∧ x.l ∈ signs ∧ x.b ∈ names ∧ 0 ≤ x.p ∧ x.p ≤ 9
def lets : List Str := ["a", "b", "c"]
/-- a machine of plain parts -/
structure Pl where
  fs : List Str
  ls : List Str
  arcs : List Arc
def Pl.d (p : Pl) : D := .dk [(.inr "firsts", .lst (sL p.fs)), (.inr "lasts", .lst (sL p.ls)), (.inr "arcs", .dt (p.arcs.map arcT))]
structure PlOk (p : Pl) (n : Nat) : Prop where
  fs : NamesOk p.fs
  ls : NamesOk p.ls
  all : ∃ names, NamesOk names ∧ names.length ≤ n ∧ (∀ x ∈ p.fs, x ∈ names) ∧ (∀ x ∈ p.ls, x ∈ names) ∧ ArcsOk names lets p.arcs
  few : p.arcs.length ≤ 1000
def DrawnS (F : FD) : Prop := ∀ (c : C3) (N : Nat) (n m : Int), Di c N → N ≤ 200000 → 1 ≤ n → n ≤ 10 → 1 ≤ m → m ≤ 3 → ∃ p c', F [.int n, .int m] c = some (Pl.d p, c') ∧ PlOk p n.toNat ∧ Di c' (N + 1000)
end Lw
set_option Elab.async false
set_option linter.all false
set_option maxRecDepth 100000
set_option maxHeartbeats 4000000
/-! Lw, part six: pure comprehensions; the states and letters of plain parts. -/
namespace Lw
open PySem PySem.Spec L2 Mo
theorem ev_lcPure {β : Type} {vs : List Nat} {f : D → G → Option G} {mt : M Bool} {me : M D} {g0 : G} {Q : List D → G → Prop} (xs : List β) (tD : β → D) (keep : β → Bool) (out : β → D)
    (hs : ∀ x ∈ xs, ∃ g1, f (tD x) g0 = some g1 ∧ Ev mt g1 fun b g2 => b = keep x ∧ if b = true then Ev me g2 fun y g3 => y = out x ∧ wipeG g3 vs = g0 else wipeG g2 vs = g0)
    (hl : xs.length < sizeLine) (q : Q ((xs.filter keep).map out) g0) : Ev (lcGo vs f mt me (xs.map tD) []) g0 Q := by
  obtain ⟨I, hI⟩ : ∃ I : List D → List D → G → Prop, ∀ ds acc g, I ds acc g ↔ ∃ pre rr, xs = pre ++ rr ∧ ds = rr.map tD ∧ acc = (pre.filter keep).map out ∧ g = g0 := ⟨_, fun _ _ _ => Iff.rfl⟩
  refine ev_lcGo I ?_ ?_ _ _ _ ((hI _ _ _).mpr ⟨[], xs, rfl, rfl, rfl, rfl⟩)
  · intro d r acc g hi
    obtain ⟨pre, rr, e1, e2, e3, e4⟩ := (hI _ _ _).mp hi
    cases rr with
    | nil => cases e2
    | cons x rr =>
      cases e2
      subst e4
      obtain ⟨g1, e5, h5⟩ := hs x (by rw [e1]; simp)
      refine ⟨g1, e5, h5.mono fun b g2 ⟨hb, h6⟩ => ?_⟩
      have eap : xs = (pre ++ [x]) ++ rr := by rw [e1]; simp
      cases b with
      | true =>
        rw [if_pos rfl] at h6 ⊢
        refine ⟨?_, h6.mono fun y g3 ⟨ey, eg⟩ => (hI _ _ _).mpr ⟨pre ++ [x], rr, eap, rfl, ?_, eg⟩⟩
        · have h7 : (pre.filter keep).length ≤ pre.length := List.length_filter_le _ _
          have h8 : xs.length = pre.length + (rr.length + 1) := by rw [e1]; simp
          rw [e3, List.length_map]
          omega
        · rw [e3, ey, List.filter_append, List.map_append, List.filter_cons, if_pos hb.symm]
          rfl
      | false =>
        rw [if_neg Bool.false_ne_true] at h6 ⊢
        refine (hI _ _ _).mpr ⟨pre ++ [x], rr, eap, rfl, ?_, h6⟩
        rw [e3, List.filter_append, List.filter_cons, if_neg (by rw [← hb]; exact Bool.false_ne_true)]
        simp
  · intro acc g hi
    obtain ⟨pre, rr, e1, e2, e3, e4⟩ := (hI _ _ _).mp hi
    cases rr with
    | cons x rr => cases e2
    | nil =>
      rw [List.append_nil] at e1
      subst e4 e1 e3
      exact q
theorem filter_tt {α : Type} (xs : List α) : xs.filter (fun _ => true) = xs := List.filter_eq_self.mpr fun _ _ => rfl
def arcD (x : Arc) : D := .tup [.str x.a, .str x.l, .str x.b]
theorem uPlus_lst {xs ys : List D} (h : xs.length + ys.length ≤ sizeLine) : uPlus (.lst xs) (.lst ys) = some (.lst (xs ++ ys)) := by
  show (uAdd (.lst xs) (.lst ys)).or ((fCatL (.lst xs) (.lst ys)).map O.d) = _
  have : fCatL (.lst xs) (.lst ys) = some (.l (xs ++ ys)) := if_pos h
  rw [this]
  rfl
def endsOf (xs : List Arc) : List Str := xs.flatMap fun x => [x.a, x.b]
def Pl.all (p : Pl) : List Str := p.fs ++ p.ls ++ endsOf p.arcs
def Pl.states (p : Pl) : List Str := sortU p.all
def Pl.letters (p : Pl) : List Str := sortU (p.arcs.map (·.l))
def StatesS (F : FD) : Prop := ∀ (p : Pl) (n : Nat) (c : C3), PlOk p n → F [p.d] c = some (.lst (sL p.states), c)
end Lw
set_option Elab.async false
set_option linter.all false
set_option maxRecDepth 100000
set_option maxHeartbeats 4000000
/-! Mo: what comprehensions with two for come to. -/
namespace Mo
open PySem PySem.Spec L2
@[simp] theorem ev_lc2 {vs vs1 : List Nat} {f f1 : D → G → Option G} {mi mi1 : M (List D)} {mt mt1 : M Bool} {me : M D} {g : G} {Q : O → G → Prop} : Ev (mLc2 vs vs1 mi f mt mi1 f1 mt1 me) g Q ↔ Ev mi g fun ds g1 => noOwn vs g1 = true ∧ Ev (lcGo2 vs vs1 f mt mi1 f1 mt1 me ds []) (wipeG g1 vs) fun ys g2 => Q (.l ys) (backG g1 g2 vs) := by
  unfold mLc2
  rw [ev_bind]
  refine ⟨fun h => h.mono fun ds g1 q => ?_, fun h => h.mono fun ds g1 ⟨h1, ys, g2, e, q⟩ => ?_⟩
  · obtain ⟨a, g', e, q⟩ := q
    dsimp only at e
    split at e
    · rename_i h1
      refine ⟨h1, ?_⟩
      cases e2 : lcGo2 vs vs1 f mt mi1 f1 mt1 me ds [] (wipeG g1 vs) with
      | none => rw [e2] at e; cases e
      | some r =>
        cases r with
        | ex E g2 => rw [e2] at e; cases e
        | ok ys g2 =>
          rw [e2] at e
          cases e
          exact ⟨ys, g2, e2, q⟩
    · cases e
  · refine ⟨.l ys, backG g1 g2 vs, ?_, q⟩
    dsimp only
    rw [if_pos h1, e]
    rfl
@[simp] theorem ev_iterS {m : M D} {g : G} {Q : List D → G → Prop} : Ev (mIterS m) g Q ↔ Ev m g fun d g1 => Ev (lift (iterS d)) g1 Q := by
  unfold mIterS
  simp
end Mo
set_option Elab.async false
set_option linter.all false
set_option maxRecDepth 100000
set_option maxHeartbeats 4000000
/-! Mo: xs.pop() and the truth of an own list; while: its bound, what it comes to. -/
namespace Mo
open PySem PySem.Spec PySem.Calls L2
open Lp (FnG)
section
variable {K : PySem.W.Frag} {X : Cx} {W : WW} {x : Str} {px pos : Pos}
/-- the truth of an own list -/
def mtOwnQ (i : Nat) : M Bool := onL i fun xs => ret (!xs.isEmpty)
end
section
variable {g : G} {i : Nat}
@[simp] theorem ev_lm0 {f : List D → Option (List D × D)} {Q : D → G → Prop} : Ev (mLm0 i f) g Q ↔ ∃ xs, g.s[i]? = some (.o (.l xs)) ∧ ∃ ys y, f xs = some (ys, y) ∧ Q y (g.set i (.o (.l ys))) := by
  unfold mLm0
  simp only [ev_onL, ev_toL]
@[simp] theorem ev_ownQ {Q : Bool → G → Prop} : Ev (mtOwnQ i) g Q ↔ ∃ xs, g.s[i]? = some (.o (.l xs)) ∧ Q (!xs.isEmpty) g := by
  unfold mtOwnQ
  simp only [ev_onL, ev_ret]
end
end Mo
set_option Elab.async false
set_option linter.all false
set_option maxRecDepth 100000
set_option maxHeartbeats 4000000
/-! Mo: x in o, x not in o, str(o): o of a class with its own specials. -/
namespace Mo
open PySem PySem.Spec PySem.Calls L2 PyProof.Rows
open Lp (FnG okN callG)
section
variable {X : Cx} {W : WW} {a b : Expr} {pos ps : Pos} {C ff : Addr} {k : Nat} {fd : FuncData} {qs : List Str} {sp : Sp}
/-- on data -/
def inGo {α : Type} (neg : Bool) (C : Addr) (F : FD) (kk : Bool → M α) (x y : D) : M α := match y with
  | .ins C2 gs => if C2 = C then (liftC (F [.ins C gs, x])).bind fun v => (match v with
    | .bl t => kk (bif neg then !t else t)
    | _ => bad) else bad
  | _ => bad
def mInI (neg : Bool) (C : Addr) (F : FD) (ma mb : M D) : M D := ma.bind fun x => mb.bind fun y => inGo neg C F (fun b => ret (.bl b)) x y
def mtInI (neg : Bool) (C : Addr) (F : FD) (ma mb : M D) : M Bool := ma.bind fun x => mb.bind fun y => inGo neg C F ret x y
end
theorem ev_inGo {α : Type} {C : Addr} {neg : Bool} {F : FD} {kk : Bool → M α} {x y : D} {g : G} {Q : α → G → Prop} : Ev (inGo neg C F kk x y) g Q ↔ ∃ gs, y = .ins C gs ∧ ∃ t c', F [.ins C gs, x] g.c = some (.bl t, c') ∧ Ev (kk (bif neg then !t else t)) ⟨g.s, c'⟩ Q := by
  unfold inGo
  refine ⟨fun z => ?_, fun ⟨gs, e2, t, c', e3, z⟩ => ?_⟩
  · cases y <;> first | exact (ev_bad.mp z).elim | skip
    rename_i C2 gs
    dsimp only at z
    rw [ev_ite] at z
    split at z
    · rename_i hC
      subst hC
      refine ⟨gs, rfl, ?_⟩
      obtain ⟨d, c', e, z⟩ := ev_liftC.mp (ev_bind.mp z)
      cases d <;> first | exact (ev_bad.mp z).elim | skip
      exact ⟨_, c', e, z⟩
    · exact (ev_bad.mp z).elim
  · subst e2
    dsimp only
    rw [if_pos rfl]
    exact ev_bind.mpr (ev_liftC.mpr ⟨_, _, e3, z⟩)
@[simp] theorem ev_inI {C : Addr} {neg : Bool} {F : FD} {ma mb : M D} {g : G} {Q : D → G → Prop} : Ev (mInI neg C F ma mb) g Q ↔ Ev ma g fun x g1 => Ev mb g1 fun y g2 => ∃ gs, y = .ins C gs ∧ ∃ t c', F [.ins C gs, x] g2.c = some (.bl t, c') ∧ Q (.bl (bif neg then !t else t)) ⟨g2.s, c'⟩ := by
  unfold mInI
  simp only [ev_bind, ev_inGo, ev_ret]
@[simp] theorem ev_tinI {C : Addr} {neg : Bool} {F : FD} {ma mb : M D} {g : G} {Q : Bool → G → Prop} : Ev (mtInI neg C F ma mb) g Q ↔ Ev ma g fun x g1 => Ev mb g1 fun y g2 => ∃ gs, y = .ins C gs ∧ ∃ t c', F [.ins C gs, x] g2.c = some (.bl t, c') ∧ Q (bif neg then !t else t) ⟨g2.s, c'⟩ := by
  unfold mtInI
  simp only [ev_bind, ev_inGo, ev_ret]
end Mo
set_option Elab.async false
set_option linter.all false
set_option maxRecDepth 100000
set_option maxHeartbeats 4000000
/-! Mo: xs[::-1] of a list. -/
namespace Mo
open PySem PySem.Spec PySem.Calls L2 PyProof.Rows
section
variable {X : Cx} {W : WW} {a se : Expr} {pos p2 : Pos}
def fRevL : D → Option Int → Option O
  | .lst ds, some (-1) => some (.l ds.reverse)
  | _, _ => none
def mRevL (ma : M D) (ms : M (Option Int)) : M O := ma.bind fun x => ms.bind fun o => lift (fRevL x o)
end
@[simp] theorem ev_revL {ma : M D} {ms : M (Option Int)} {g : G} {Q : O → G → Prop} : Ev (mRevL ma ms) g Q ↔ Ev ma g fun x g1 => Ev ms g1 fun o g2 => Ev (lift (fRevL x o)) g2 Q := by
  unfold mRevL
  simp only [ev_bind]
end Mo
set_option Elab.async false
set_option linter.all false
set_option maxRecDepth 100000
set_option maxHeartbeats 4000000
/-! Mo: == and != of a thing of an own class with a tuple, a text or None. -/
namespace Mo
open PySem PySem.Spec PySem.Calls L2 PyProof.Rows
open Lp (FnG okN callG)
/-- plain types do not come first -/
structure NtC (K : PySem.W.Frag) (C : Addr) : Prop where
  t : PySem.W.notFirst K C (.type "tuple") = true
  s : PySem.W.notFirst K C (.type "str") = true
  n : PySem.W.notFirst K C (.type "NoneType") = true
section
variable {X : Cx} {W : WW} {a b : Expr} {pos : Pos} {C ff : Addr} {k : Nat} {fd : FuncData} {qs : List Str} {sp : Sp}
/-- what a value's type is, by the abstract heap -/
inductive TyX (H : Hp) : V → String → Prop
  | tup {q : Addr} {xs : List V} : H q = some (.tup xs) → TyX H (.ref q) "tuple"
  | str (z : Str) : TyX H (.str z) "str"
  | non : TyX H .non "NoneType"
theorem NtC.of {K : PySem.W.Frag} (c : NtC K C) {H : Hp} {y : V} {T : String} (h : TyX H y T) : PySem.W.notFirst K C (.type T) = true := by
  cases h with
  | tup e => exact c.t
  | str z => exact c.s
  | non => exact c.n
/-- on data -/
def isTX : D → Bool
  | .tup _ => true
  | .str _ => true
  | .non => true
  | _ => false
def eqGo {α : Type} (neg : Bool) (C : Addr) (F : FD) (kk : Bool → M α) (x y : D) : M α := match x with
  | .ins C2 fs => if C2 = C ∧ isTX y = true then (liftC (F [.ins C fs, y])).bind fun v => (match v with
    | .bl t => kk (bif neg then !t else t)
    | _ => bad) else bad
  | _ => bad
def mEqX (neg : Bool) (C : Addr) (F : FD) (ma mb : M D) : M D := ma.bind fun x => mb.bind fun y => eqGo neg C F (fun b => ret (.bl b)) x y
def mtEqX (neg : Bool) (C : Addr) (F : FD) (ma mb : M D) : M Bool := ma.bind fun x => mb.bind fun y => eqGo neg C F ret x y
end
theorem ev_eqGo {α : Type} {C : Addr} {neg : Bool} {F : FD} {kk : Bool → M α} {x y : D} {g : G} {Q : α → G → Prop} : Ev (eqGo neg C F kk x y) g Q ↔ ∃ gs, x = .ins C gs ∧ isTX y = true ∧ ∃ t c', F [.ins C gs, y] g.c = some (.bl t, c') ∧ Ev (kk (bif neg then !t else t)) ⟨g.s, c'⟩ Q := by
  unfold eqGo
  refine ⟨fun z => ?_, fun ⟨gs, e2, hy, t, c', e3, z⟩ => ?_⟩
  · cases x <;> first | exact (ev_bad.mp z).elim | skip
    rename_i C2 gs
    dsimp only at z
    rw [ev_ite] at z
    split at z
    · rename_i hC
      obtain ⟨hC, hy⟩ := hC
      subst hC
      refine ⟨gs, rfl, hy, ?_⟩
      obtain ⟨d, c', e, z⟩ := ev_liftC.mp (ev_bind.mp z)
      cases d <;> first | exact (ev_bad.mp z).elim | skip
      exact ⟨_, c', e, z⟩
    · exact (ev_bad.mp z).elim
  · subst e2
    dsimp only
    rw [if_pos ⟨rfl, hy⟩]
    exact ev_bind.mpr (ev_liftC.mpr ⟨_, _, e3, z⟩)
@[simp] theorem ev_eqX {C : Addr} {neg : Bool} {F : FD} {ma mb : M D} {g : G} {Q : D → G → Prop} : Ev (mEqX neg C F ma mb) g Q ↔ Ev ma g fun x g1 => Ev mb g1 fun y g2 => ∃ gs, x = .ins C gs ∧ isTX y = true ∧ ∃ t c', F [.ins C gs, y] g2.c = some (.bl t, c') ∧ Q (.bl (bif neg then !t else t)) ⟨g2.s, c'⟩ := by
  unfold mEqX
  simp only [ev_bind, ev_eqGo, ev_ret]
@[simp] theorem ev_teqX {C : Addr} {neg : Bool} {F : FD} {ma mb : M D} {g : G} {Q : Bool → G → Prop} : Ev (mtEqX neg C F ma mb) g Q ↔ Ev ma g fun x g1 => Ev mb g1 fun y g2 => ∃ gs, x = .ins C gs ∧ isTX y = true ∧ ∃ t c', F [.ins C gs, y] g2.c = some (.bl t, c') ∧ Q (bif neg then !t else t) ⟨g2.s, c'⟩ := by
  unfold mtEqX
  simp only [ev_bind, ev_eqGo, ev_ret]
end Mo
set_option Elab.async false
set_option linter.all false
set_option maxRecDepth 100000
set_option maxHeartbeats 4000000
/-! Mo: for .. in e.items(), list(e.values()), e a dict with tuples for keys. -/
namespace Mo
open PySem PySem.Spec PySem.Calls L2 PyProof.Rows
def itemsT (kvs : List (List Key × D)) : List D := kvs.map fun kv => .tup [.tup (kv.1.map kD), kv.2]
def fItemsT : D → Option (List D)
  | .dt kvs => some (itemsT kvs)
  | _ => none
def mItemsT (m : M D) : M (List D) := m.bind fun d => lift (fItemsT d)
@[simp] theorem ev_itemsT {m : M D} {g : G} {Q : List D → G → Prop} : Ev (mItemsT m) g Q ↔ Ev m g fun d g1 => Ev (lift (fItemsT d)) g1 Q := by
  unfold mItemsT
  simp
@[simp] theorem fItemsT_dt {kvs : List (List Key × D)} : fItemsT (.dt kvs) = some (itemsT kvs) := rfl
/-! ### list(e.values()) -/
def fListValsT : D → Option O
  | .dt kvs => some (.l (kvs.map (·.2)))
  | _ => none
def mListValsT (m : M D) : M O := m.bind fun d => lift (fListValsT d)
@[simp] theorem ev_listValsT {m : M D} {g : G} {Q : O → G → Prop} : Ev (mListValsT m) g Q ↔ Ev m g fun d g1 => Ev (lift (fListValsT d)) g1 Q := by
  unfold mListValsT
  simp
end Mo
set_option Elab.async false
set_option linter.all false
set_option maxRecDepth 100000
set_option maxHeartbeats 4000000
/-! Mo: defs that let own errors out; raise, try. -/
namespace Mo
open PySem PySem.Spec PySem.Calls L2 PyProof.Rows
open Lp (FnG okG okN callG)
/-- the error's class by its name; adr tells where the class of a name lies -/
def nmE (E : Exn) : Str := match E.fs with
  | (n, _) :: _ => n
  | [] => Str.empty
def mkE (adr : Str → Addr) (n : Str) : Exn := ⟨adr n, [(n, .non)]⟩
section
variable {X : Cx} {W : WW} {e : Expr} {es : List Expr} {pos ps : Pos} {k : Nat} {f : Addr} {fd : FuncData} {qs : List Str} {x : Str} {adr : Str → Addr}
/-- raise C('text') -/
def mRaise (adr : Str → Addr) (n : Str) : M Oc := fun g => some (.ex (mkE adr n) g)
end
end Mo
set_option Elab.async false
set_option linter.all false
set_option maxRecDepth 100000
set_option maxHeartbeats 4000000
/-! Mo: try: .. except C: .. (clauses without a name). -/
namespace Mo
open PySem PySem.Spec PySem.Calls L2 PyProof.Rows
def tsOf (X : Cx) (su : List Stmt) : Addr → Value → Option Addr → TS := fun a cls d D σ H => ∀ (oe : Obj) (pn : List (Addr × Obj)), Zc cls d oe → (∃ vs, oe.data = .fields vs) → SemSs (X.suite a ((a, oe) :: pn)) su D σ H
inductive HdM (X : Cx) (adr : Str → Addr) (names : List Str) (tab : Str → Str → Bool) : List ExceptHandler → List (Str × M Oc) → List (Value × (Addr → Value → Option Addr → TS)) → Prop
  | nil : HdM X adr names tab [] [] []
  | cons {y : Str} {b₀ : Stmt} {suite : List Stmt} {np pos' : Pos} {m : M Oc} {hds : List ExceptHandler} {ms : List (Str × M Oc)} {l : List (Value × (Addr → Value → Option Addr → TS))} (hc : Names X y (.ref (adr y))) (hx : ∀ n ∈ names, PySem.W.exmOne X.K (.ref (adr n)) (.ref (adr y)) = some (tab n y))
      (hsu : ∀ (a : Addr) (pn : List (Addr × Obj)), SB (X.suite a pn) WN (b₀ :: suite) m) (r : HdM X adr names tab hds ms l) :
      HdM X adr names tab (.ExceptHandler (some (.Name y np)) none (b₀ :: suite) pos' :: hds) ((y, m) :: ms) ((.ref (adr y), tsOf X (b₀ :: suite)) :: l)
section
variable {X : Cx} {W : WW} {adr : Str → Addr} {names : List Str} {tab : Str → Str → Bool}
theorem HdM.ok {hds : List ExceptHandler} {ms : List (Str × M Oc)} {l : List (Value × (Addr → Value → Option Addr → TS))} (h : HdM X adr names tab hds ms l) : HdsOk X hds l := by
  induction h with
  | nil => exact .nil
  | cons hc hx hsu r ih => exact .cons hc (fun a oe cls d pn hz hd => ⟨fun pins s σ H D I q => (q oe pn hz hd).run pins s I⟩) ih
theorem PostS.ch {K : PySem.W.Frag} {W W' : WW} {J : Hp} {p : Mt} {H : Hp} {o : Oc} {g : G} {Dd : Ends} (h : PostS K W J p H (.ok o g) Dd) : PostS K W' J p H (.ok o g) Dd := by
  cases o <;> exact h
end
end Mo
set_option Elab.async false
set_option linter.all false
set_option maxRecDepth 100000
set_option maxHeartbeats 4000000
/-! Mo: errors: what a function of the state comes to that lets one out; try. -/
namespace Mo
open PySem PySem.Spec PySem.Calls L2
open Lp (FnG)
/-- which class stands under which -/
def tabOf (l : List (Str × Str)) (n y : Str) : Bool := l.any fun p => decide (p.1 = n) && decide (p.2 = y)
/-- a statement that lets nothing out, wherever it stands -/
def noEx {α : Type} (m : M α) : M α := fun g => match m g with
  | some (.ok a g') => some (.ok a g')
  | _ => none
theorem noEx_ok {α : Type} {m : M α} {g : G} {r : R α} (h : noEx m g = some r) : ∃ a g', r = .ok a g' ∧ m g = some (.ok a g') := by
  unfold noEx at h
  split at h
  · rename_i a g' e
    cases h
    exact ⟨a, g', rfl, e⟩
  · cases h
@[simp] theorem ev_noEx {α : Type} {m : M α} {g : G} {Q : α → G → Prop} : Ev (noEx m) g Q ↔ Ev m g Q := by
  constructor
  · rintro ⟨a, g', e, q⟩
    obtain ⟨a2, g2, e2, e3⟩ := noEx_ok e
    cases e2
    exact ⟨a, g', e3, q⟩
  · rintro ⟨a, g', e, q⟩
    exact ⟨a, g', by unfold noEx; rw [e], q⟩
/-- classes of errors as the text's facts tell them -/
abbrev bmV : List Value := [.type "ValueError", .type "Exception", .type "BaseException", .type "object"]
end Mo
set_option Elab.async false
set_option linter.all false
set_option maxRecDepth 100000
set_option maxHeartbeats 4000000
/-! Mo: a + b and the like of an own class, where its method may let an error out. -/
namespace Mo
open PySem PySem.Spec PySem.Calls L2 PyProof.Rows
open Lp (FnG)
end Mo
set_option Elab.async false
set_option linter.all false
set_option maxRecDepth 100000
set_option maxHeartbeats 4000000
/-! Mo: zip of three with a plain name as target: the pair's owner keeps the tuple that is out, so each turn makes its own. -/
namespace Mo
open PySem PySem.Spec L2
open PyProof.Rows hiding St
end Mo
set_option Elab.async false
set_option linter.all false
set_option maxRecDepth 100000
set_option maxHeartbeats 4000000
/-! Mo: zip(xs, text, ys) with a plain name as target, xs longer than the text; ys[::-1] of a tuple. -/
namespace Mo
open PySem PySem.Spec PySem.Calls L2
open PyProof.Rows hiding St
section
variable {P : Program} {w : World} {K : PySem.W.Frag}
theorem six {z TI TO i1 i2 i3 c : Addr} (h : c ∈ [z, TI, TO, i1, i2, i3]) : c = z ∨ c = TI ∨ c = TO ∨ c = i1 ∨ c = i2 ∨ c = i3 := by simpa using h
end
end Mo
set_option Elab.async false
set_option linter.all false
set_option maxRecDepth 100000
set_option maxHeartbeats 4000000
/-! Mo: t[::-1] and t[i:j] of a tuple (also the whole). -/
namespace Mo
open PySem PySem.Spec PySem.Calls L2 PyProof.Rows
section
variable {X : Cx} {W : WW} {a se : Expr} {e : Expr} {te : TE} {ts : TO} {pos p2 : Pos}
def fRevT : D → Option Int → Option D
  | .tup ds, some (-1) => some (.tup ds.reverse)
  | _, _ => none
def mRevT (ma : M D) (ms : M (Option Int)) : M D := ma.bind fun x => ms.bind fun o => lift (fRevT x o)
@[simp] theorem ev_revT {ma : M D} {ms : M (Option Int)} {g : G} {Q : D → G → Prop} : Ev (mRevT ma ms) g Q ↔ Ev ma g fun x g1 => Ev ms g1 fun o g2 => Ev (lift (fRevT x o)) g2 Q := by
  unfold mRevT
  simp only [ev_bind]
end
end Mo
set_option Elab.async false
set_option linter.all false
set_option maxRecDepth 100000
set_option maxHeartbeats 4000000
/-! Mo: t[::-1] of a text. -/
namespace Mo
open PySem PySem.Spec PySem.Calls L2 PyProof.Rows
/-- a text from behind -/
def revS (x : Str) : Str := ⟨x.cps.toList.reverse.toArray⟩
section
variable {X : Cx} {W : WW} {a se : Expr} {e : Expr} {te : TE} {ts : TO} {pos p2 : Pos}
def fRevS : D → Option Int → Option D
  | .str x, some (-1) => if x.length ≤ sizeLine then some (.str (revS x)) else none
  | _, _ => none
def mRevS (ma : M D) (ms : M (Option Int)) : M D := ma.bind fun x => ms.bind fun o => lift (fRevS x o)
@[simp] theorem ev_revS {ma : M D} {ms : M (Option Int)} {g : G} {Q : D → G → Prop} : Ev (mRevS ma ms) g Q ↔ Ev ma g fun x g1 => Ev ms g1 fun o g2 => Ev (lift (fRevS x o)) g2 Q := by
  unfold mRevS
  simp only [ev_bind]
end
end Mo
set_option Elab.async false
set_option linter.all false
set_option maxRecDepth 100000
set_option maxHeartbeats 8000000
/-! Mo: the walk along a text from several rows, one dict for all. -/
namespace Mo
open PySem PySem.Spec L2
end Mo
set_option Elab.async false
set_option linter.all false
set_option maxRecDepth 100000
set_option maxHeartbeats 1000000
/-! Mo, part MtO: int(x, 8). -/
namespace Mo
open PySem PySem.Spec PySem.Calls L2 PyProof.Rows
end Mo
set_option Elab.async false
set_option linter.all false
set_option maxRecDepth 100000
set_option maxHeartbeats 1000000
/-! Mo, part MtP: f"{n:o}", f"{n:b}", translate by a dict, zfill, index, ord, int(x, 8). -/
namespace Mo
open PySem PySem.Spec PySem.Calls L2 PyProof.Rows
/-! ### as rules -/
end Mo
set_option Elab.async false
set_option linter.all false
set_option maxRecDepth 100000
set_option maxHeartbeats 1000000
/-! Mo, part MtQ: a[i].replace(c, d), a a text. -/
namespace Mo
open PySem PySem.Spec PySem.Calls L2 PyProof.Rows
end Mo
set_option Elab.async false
set_option linter.all false
set_option maxRecDepth 100000
set_option maxHeartbeats 1000000
/-! Mo, part MtR: def f(a, .., *v). -/
namespace Mo
open PySem PySem.Spec PySem.Calls L2 PyProof.Rows
open StX (vals_split run_bnd env0_laid un_laid)
section
variable {P : Program} {w : World} {K : PySem.W.Frag} {mg : Str → Option Value} {base : Heap} {x qual pv : Str} {st : Stmt} {f : Addr} {fd : FuncData} {N ps : List Str} {k : Nat} {m : M Oc}
structure FnS (P : Program) (w : World) (K : PySem.W.Frag) (mg : Str → Option Value) (base : Heap) (k : Nat) (f : Addr) (n : Nat) (sp : Sp) : Prop where
  go : ∀ (B : Around) (fr : List Env) (s : Shared) (J : Hp) (ws : List Value) (xs : List V) (R : VK) (Z : XK), Room k B → B.guards = some [] → Env0 P w K mg base B fr s J → Vals xs ws → n ≤ xs.length → xs.length ≤ sizeLine →
    (∀ p, J p = none → sp (xs.take n ++ [V.ref p]) (upd J p (.tup (xs.drop n))) R Z) → codeAny (model P w) B (.call (.ref f) ⟨ws, []⟩) (CR CX0 fr P w J s R Z) s
theorem FnS.mono {j n : Nat} {sp : Sp} (F : FnS P w K mg base j f n sp) (h : j ≤ k) : FnS P w K mg base k f n sp := ⟨fun B fr s J ws xs R Z r => F.go B fr s J ws xs R Z (r.mono h)⟩
end
end Mo
set_option Elab.async false
set_option linter.all false
set_option maxRecDepth 100000
set_option maxHeartbeats 4000000
/-! Mo, part MtS: zip of texts, lists and tuples, in whatever order. -/
namespace Mo
open PySem PySem.Spec L2
open PyProof.Rows hiding St
/-- what is zipped -/
inductive Zs where
  | q (k : Kd) (a : Addr)
  | x (y : Str) (t : Tok)
def Zs.at (h : Heap) (it : Addr) (i : Nat) : Zs → Prop
  | .q k a => Ik k h it a i
  | .x y t => h.IsStrIter it (strIterType y) y t i
end Mo
set_option Elab.async false
set_option linter.all false
set_option maxRecDepth 100000
set_option maxHeartbeats 4000000
/-! Mo: dict(zip(e, e2)) of two lists whose first one holds plain keys. -/
namespace Mo
open PySem PySem.Spec PySem.Calls L2 PyProof.Rows
end Mo
set_option Elab.async false
set_option linter.all false
set_option maxRecDepth 100000
set_option maxHeartbeats 4000000
/-! Mo: xs.index(t) of a list of texts. -/
namespace Mo
open PySem PySem.Spec PySem.Calls L2 PyProof.Rows
def mMl1 {α : Type} (f : D → D → Option α) (ma mb : M D) : M α := ma.bind fun x => (match x with | .lst _ => mb.bind fun y => lift (f x y) | _ => bad)
section
variable {X : Cx} {W : WW} {a b : Expr} {pa pos : Pos}
@[simp] theorem ev_ml1 {α : Type} {f : D → D → Option α} {ma mb : M D} {g : G} {Q : α → G → Prop} : Ev (mMl1 f ma mb) g Q ↔ Ev ma g fun x g1 => ∃ ys, x = .lst ys ∧ Ev mb g1 fun z g2 => Ev (lift (f (.lst ys) z)) g2 Q := by
  unfold mMl1
  rw [ev_bind]
  constructor
  · refine fun h => h.mono fun x g1 h => ?_
    cases x <;> first | exact (ev_bad.mp h).elim | skip
    exact ⟨_, rfl, ev_bind.mp h⟩
  · refine fun h => h.mono fun x g1 ⟨ys, e, h⟩ => ?_
    subst e
    exact ev_bind.mpr h
end
end Mo
set_option Elab.async false
set_option linter.all false
set_option maxRecDepth 100000
set_option maxHeartbeats 4000000
/-! Mo: list(t) of a text. -/
namespace Mo
open PySem PySem.Spec PySem.Calls L2 PyProof.Rows
end Mo
set_option Elab.async false
set_option linter.all false
set_option maxRecDepth 100000
set_option maxHeartbeats 4000000
/-! Mo: zip(*rows) of any number of tuples: the turn of such a zip. Iterators at B .. B + n - 1, behind them the zip's two tuples and the zip. -/
namespace Mo
open PySem PySem.Spec L2
open PyProof.Rows hiding St
/-- iterator j stands at p j -/
def AtI (B n : Nat) (t : Nat → Addr) (xs : Nat → Array Value) (p : Nat → Nat) (h : Heap) : Prop := ∀ j, j < n → h.IsTupleIter (B + j : Nat) (t j) (p j) ∧ h.IsTuple (t j) (xs j)
structure Cols (B n m : Nat) (t : Nat → Addr) (xs : Nat → Array Value) : Prop where
  lo : ∀ k, k < n → t k < B
  sz : ∀ k, k < n → (xs k).size = m
  nl : n ≤ sizeLine
/-- but for the zip's own -/
def ButZ (B n : Nat) (h h' : Heap) : Prop := ∀ c o, (c < B ∨ B + n + 2 < c) → h.get? c = some o → h'.get? c = some o
def turned (i k : Nat) : Nat → Nat := fun j => if j < k then i + 1 else i
section
variable {B n m i k : Nat} {t : Nat → Addr} {xs : Nat → Array Value} {h h' : Heap} {p : Nat → Nat} {ys : List Value}
theorem AtI.push (a : AtI B n t xs p h) (o : Obj) : AtI B n t xs p (h.push o) := fun j hj =>
  ⟨let ⟨o', ho, r⟩ := (a j hj).1; ⟨o', Heap.get?_push_of_some o ho, r⟩, (a j hj).2.push o⟩
theorem AtI.turn (C : Cols B n m t xs) (a : AtI B n t xs (turned i k) h) (hk : k < n) (h1 : h'.IsTupleIter (B + k : Nat) (t k) (i + 1)) (s : Heap.SameBut (B + k : Nat) h h') : AtI B n t xs (turned i (k + 1)) h' := fun j hj => by
  have h2 := C.lo j hj
  have e2 : @Ne Nat (t j) (B + k) := Nat.ne_of_lt (Nat.lt_of_lt_of_le h2 (Nat.le_add_right _ _))
  refine ⟨?_, (a j hj).2.extBut s.extBut e2⟩
  by_cases e : j = k
  · subst e
    have : turned i (j + 1) j = i + 1 := by simp [turned]
    rw [this]
    exact h1
  · have : turned i (k + 1) j = turned i k j := by
      unfold turned
      by_cases q : j < k
      · rw [if_pos q, if_pos (by omega)]
      · rw [if_neg q, if_neg (by omega)]
    rw [this]
    exact (a j hj).1.extBut s.extBut (show @Ne Nat (B + j) (B + k) by omega)
theorem ButZ.refl : ButZ B n h h := fun _ _ _ e => e
theorem ButZ.push {g0 : Heap} (k0 : ButZ B n g0 h) (o : Obj) : ButZ B n g0 (h.push o) := fun c o' hc e => Heap.get?_push_of_some _ (k0 c o' hc e)
end
section
variable {prog : Program} {w : World} {A : Around} {E : Value → Shared → Prop} {s : Shared} {B n m i : Nat} {t : Nat → Addr} {xs : Nat → Array Value} {f0 : Value} {fb : Bool} {ys : List Value}
abbrev zA (B n : Nat) : Addr := (B + n + 2 : Nat)
end
end Mo
set_option Elab.async false
set_option linter.all false
set_option maxRecDepth 100000
set_option maxHeartbeats 4000000
/-! Mo: zip(*rows) of any number of tuples: it begins; list(..) of it. -/
namespace Mo
open PySem PySem.Spec L2
open PyProof.Rows hiding St
end Mo
set_option Elab.async false
set_option linter.all false
set_option maxRecDepth 100000
set_option maxHeartbeats 4000000
/-! Mo: zip(*rows) of any number of tuples: it begins. -/
namespace Mo
open PySem PySem.Spec L2
open PyProof.Rows hiding St
end Mo
set_option Elab.async false
set_option linter.all false
set_option maxRecDepth 100000
set_option maxHeartbeats 4000000
/-! Mo: list(zip(*rows)): the list grows by one tuple a turn. -/
namespace Mo
open PySem PySem.Spec PySem.Calls L2
open PyProof.Rows hiding St
end Mo
set_option Elab.async false
set_option linter.all false
set_option maxRecDepth 100000
set_option maxHeartbeats 4000000
/-! Mo: the expression list(zip(*e)), e a tuple or list of tuples of one length. -/
namespace Mo
open PySem PySem.Spec PySem.Calls L2 PyProof.Rows
end Mo
set_option Elab.async false
set_option linter.all false
set_option maxRecDepth 100000
set_option maxHeartbeats 4000000
/-! Mo: list(zip(*e)) over data. -/
namespace Mo
open PySem PySem.Spec PySem.Calls L2 PyProof.Rows
section
variable {K : PySem.W.Frag} {J H : Hp} {p : Mt} {g : G} {σ : L2.St}
inductive RCols (K : PySem.W.Frag) (F : Hp) : List (List V) → List (List D) → Prop
  | nil : RCols K F [] []
  | cons {c d cs ds} : Reps K F c d → RCols K F cs ds → RCols K F (c :: cs) (d :: ds)
theorem RCols.le {F F' : Hp} (e : Le F F') : ∀ {cs : List (List V)} {ds : List (List D)}, RCols K F cs ds → RCols K F' cs ds
  | _, _, .nil => .nil
  | _, _, .cons h r => .cons (h.le e) (RCols.le e r)
end
end Mo
set_option Elab.async false
set_option linter.all false
set_option maxRecDepth 100000
set_option maxHeartbeats 4000000
/-! Mo: x ** n of an own thing with its own method and a whole number. -/
namespace Mo
open PySem PySem.Spec PySem.Calls L2 PyProof.Rows
open Lp (FnG okN callG)
end Mo
set_option Elab.async false
set_option linter.all false
set_option maxRecDepth 100000
set_option maxHeartbeats 4000000
/-! Mo: enumerate(text). -/
namespace Mo
open PySem PySem.Spec PySem.Calls L2
open PyProof.Rows hiding St
end Mo
set_option Elab.async false
set_option linter.all false
set_option maxRecDepth 100000
set_option maxHeartbeats 4000000
/-! Mo: for .. in reversed(range(n)). -/
namespace Mo
open PySem PySem.Spec PySem.Calls L2
open PyProof.Rows hiding St
end Mo
set_option Elab.async false
set_option linter.all false
set_option maxRecDepth 100000
set_option maxHeartbeats 4000000
/-! Mo: an own error class is called; the __new__ that it inherits may be another class's than its nearest built-in base (KeyError's is LookupError's). -/
namespace PySem
namespace OEW
open PySem.W PySem.Calls PyProof.Rows PySem.HandSPX
/-- what is asked of the inherited __new__: whose it is, and where it stands -/
structure ExcW (nB id0 : String) (ts : List Value) : Prop where
  end0 : id0.endsWith ".__new__" = true
  own0 : id0.dropRight 8 = nB
  ent0 : entryFor table id0 = some Builtin.«BaseException.__new__»
  qui0 : id0.startsWith "lifetime." = false
  spl0 : splitId id0 = some (nB, "__new__")
  kin0 : builtinKind id0 = some .builtinFn
  sig0 : Manifest.signature? id0 = some ⟨.any, nB, nB, .cls, [⟨"args", .varPos, false⟩, ⟨"kwargs", .varKw, false⟩]⟩
  inB : ts.contains (.type nB) = true
  nAt : ts.contains (.type "AttributeError") = false
  nNm : ts.contains (.type "NameError") = false
  can0 : Manifest.canonical id0 = Manifest.canonical "BaseException.__new__"
  nSt : (nB != "*") = true
theorem excW_of {nB id0 idI : String} {ts : List Value} (F : ExcBaseFacts nB id0 idI ts) : ExcW nB id0 ts :=
  ⟨F.ends, F.owner, F.entry, F.quiet, F.newSplit, F.newKind, F.newRow, F.hasB, F.noAttr, F.noName, F.canon, F.noStar⟩
/-- KeyError has no __new__ of its own -/
theorem excW_key : ExcW "LookupError" "LookupError.__new__" [.type "KeyError", .type "LookupError", .type "Exception", .type "BaseException", .type "object"] :=
  let F := PySem.F.excBase_LookupError
  ⟨F.ends, F.owner, F.entry, F.quiet, F.newSplit, F.newKind, F.newRow, by decide +kernel, by decide +kernel, by decide +kernel, F.canon, F.noStar⟩
section
variable {M : Model} {A : Around} {E : Value → Shared → Prop} {hp : Heap} {gs : Array GenState} {dr : Drawn} {tk : Nat} {os : OsState}
variable {nm qn : Str} {C N : Addr} {bs mr ts : List Value} {hd : Bool} {sn : List Str} {sb : List Value} {ab : Bool} {cl : Option Bool} {de : Option Addr} {x0 x1 x2 x3 x5 : Option Value} {nB id0 : String}
theorem chk_newW (F : ExcW nB id0 ts) (eq : ∀ X : String, mr.contains (.type X) = ts.contains (.type X)) {as : List Value} {Q : Unit → Shared → Prop}
    (hC : hp.get? C = some (excClassObj nm qn C N bs mr hd sn sb ab cl de x0 x1 x2 x3 x5 id0)) (q : Q () ⟨hp, gs, dr, tk, os⟩) : wpAny M A (checkBuiltinCall id0 ⟨.ref C :: as, []⟩) Q E ⟨hp, gs, dr, tk, os⟩ := by
  have c0 : (Value.ref C :: mr).contains (.type nB) = true := by rw [List.contains_cons, eq, F.inB, Bool.or_true]
  have c1 := F.nSt
  simp only [checkBuiltinCall, F.kin0, F.spl0, F.sig0]
  repeat (first | refine wpAny_loadPart_at hC ?_ | (refine wpAny_isSubtype_exc hC ?_; rw [c0]) | refine wpAny_staticBase_exc hC ?_ | refine wpAny_madeBy_exc hC ?_ | simp only [bne_self_eq_false, Bool.false_eq_true, if_false] | wp_step)
  exact q
end
section
variable {prog : Program} {w : World} {A : Around} {E : Value → Shared → Prop} {R : Result → Shared → Prop} {hp : Heap} {gs : Array GenState} {dr : Drawn} {tk : Nat} {os : OsState}
variable {nm qn : Str} {C N : Addr} {bs mr ts : List Value} {hd : Bool} {sn : List Str} {sb : List Value} {ab : Bool} {cl : Option Bool} {de : Option Addr} {x0 x1 x2 x3 x5 : Option Value} {nB id0 : String}
theorem newW (F : ExcW nB id0 ts) (eq : ∀ X : String, mr.contains (.type X) = ts.contains (.type X)) {as : List Value} (hC : hp.get? C = some (excClassObj nm qn C N bs mr hd sn sb ab cl de x0 x1 x2 x3 x5 id0))
    (q : R (.ok (.ret (.ref (hp.objs.size + 1)))) ⟨(hp.push { cls := .type "tuple", data := .seq as.toArray }).push { cls := .ref C, data := .fields #[.ref hp.objs.size, .none, .none, .none, .bool false, .none] }, gs, dr, tk, os⟩) (hl : as.length ≤ sizeLine) :
    codeAny (model prog w) A (.builtin id0 ⟨.ref C :: as, []⟩) R ⟨hp, gs, dr, tk, os⟩ := by
  have e0 := F.end0
  have c0 : (Value.ref C :: mr).contains (.type nB) = true := by rw [List.contains_cons, eq, F.inB, Bool.or_true]
  have c1 : (Value.ref C :: mr).contains (.type "AttributeError") = false := by rw [List.contains_cons, eq, F.nAt]; rfl
  have c2 : (Value.ref C :: mr).contains (.type "NameError") = false := by rw [List.contains_cons, eq, F.nNm]; rfl
  refine codeAny_builtinAt F.ent0 ?_
  unfold Builtin.«BaseException.__new__»
  refine wpAt_bind ?_
  show wpAt _ _ _ (stack >>= _) _ _ _
  refine wpAt_bind (wpAt_stack fun _ _ => wpAt_of_wpAny ?_)
  wp_walk
  refine wpAt_of_wpAny ?_
  rw [F.own0]
  repeat (first | with_reducible refine wpAny_madeHere_exc F.can0 hC ?_ | with_reducible refine wpAny_loadPart_at hC ?_ | (with_reducible refine wpAny_isSubtype_exc hC ?_; first | rw [c0] | rw [c1] | rw [c2]) | wp_step)
  show R _ _
  rw [Heap.size_push]
  exact q
theorem typeCallW (F : ExcW nB id0 ts) (eq : ∀ X : String, mr.contains (.type X) = ts.contains (.type X)) {as : List Value} {fI : Addr} {Q : Fin → Shared → Prop} (hC : hp.get? C = some (excClassObj nm qn C N bs mr hd sn sb ab cl de x0 x1 x2 x3 x5 id0))
    (hi : W.Looks (model prog w) hp (typeLookup (.ref C) "__init__") (some (.ref fI))) (hb : ∀ self, W.Looks (model prog w) hp (bindSpecial (.ref fI) self) (.ref fI, [self])) (hl : as.length ≤ sizeLine)
    (q : codeAny (model prog w) A (.call (.ref fI) ⟨.ref (hp.objs.size + 1) :: as, []⟩) (fun r s' => match r with | .ok (.ret v) => v = .none ∧ Q (.done (.ret (.ref (hp.objs.size + 1)))) s' | .ok _ => False | .error e => E e s')
      ⟨(hp.push (W.kdv_tup as)).push (excO C hp.objs.size), gs, dr, tk, os⟩) : wpAny (model prog w) A (Builtin.«type.__call__» ⟨.ref C :: as, []⟩) Q E ⟨hp, gs, dr, tk, os⟩ := by
  repeat (first | with_reducible refine wpAny_loadPart_at hC ?_ | with_reducible refine wpAny_madeBy_exc hC ?_ | wp_step)
  refine codeAny_call_builtin_code (Code.quiet_builtin _ F.qui0) (chk_newW F eq hC (newW F eq hC ?_ hl))
  show wpAny _ _ _ _ _ _
  have up : ∀ b o, hp.get? b = some o → ((hp.push (W.kdv_tup as)).push (excO C hp.objs.size)).get? b = some o := fun b o e => Heap.get?_push_of_some _ (Heap.get?_push_of_some _ e)
  have hC2 := up _ _ hC
  have he : ((hp.push (W.kdv_tup as)).push (excO C hp.objs.size)).get? (hp.objs.size + 1) = some (excO C hp.objs.size) := by heap_get
  have cC : (Value.ref C :: mr).contains (.ref C) = true := by simp
  have i2 := hi.keeps up
  have b2 := (hb (.ref (hp.objs.size + 1))).keeps up
  unfold isInstance
  repeat (first | with_reducible refine wpAny_loadPart_at he ?_ | (with_reducible refine wpAny_isSubtype_exc hC2 ?_; rw [cC]) | wp_step)
  show wpAny _ _ (typeLookup (.ref C) _) _ _ _
  refine i2.at (wpAny_holding (wpAny_bind (b2.at (wpAny_bind (wpAny_call (codeAny_mono q fun r s2 z => ?_))))))
  rcases r with e | (v | _ | _ | _) <;> first | exact z | exact z.elim | skip
  obtain ⟨rfl, z⟩ := z
  first
    | exact wpAny_pure (wpAny_pure z)
    | (wp_walk; exact z)
theorem callW (F : ExcW nB id0 ts) (eq : ∀ X : String, mr.contains (.type X) = ts.contains (.type X)) {as : List Value} {fI : Addr} (hC : hp.get? C = some (excClassObj nm qn C N bs mr hd sn sb ab cl de x0 x1 x2 x3 x5 id0))
    (hi : W.Looks (model prog w) hp (typeLookup (.ref C) "__init__") (some (.ref fI))) (hb : ∀ self, W.Looks (model prog w) hp (bindSpecial (.ref fI) self) (.ref fI, [self])) (hl : as.length ≤ sizeLine)
    (q : codeAny (model prog w) (A.under (.builtin "type.__call__" ⟨.ref C :: as, []⟩)) (.call (.ref fI) ⟨.ref (hp.objs.size + 1) :: as, []⟩) (W.InitBack (hp.objs.size + 1) R)
      ⟨(hp.push (W.kdv_tup as)).push (excO C hp.objs.size), gs, dr, tk, os⟩) : codeAny (model prog w) A (.call (.ref C) ⟨as, []⟩) R ⟨hp, gs, dr, tk, os⟩ := by
  have t1 := tc_lookup
  have t2 := tc_bind (.ref C)
  have t3 : (⟨hp, gs, dr, tk, os⟩ : Shared).TypeIs (.ref C) "type" := ⟨_, hC, rfl⟩
  refine codeAny_of_tree (show wpAny _ _ (callAny (.ref C) _) _ _ _ from ?_)
  repeat (any_goals (first | assumption | with_reducible refine wpAny_loadPart_at hC ?_ | wp_step))
  refine ⟨rfl, codeAny_call_builtin_at (Code.quiet_builtin _ (by decide +kernel)) entry_typeCall (wpAny_check_type_call_sub hC (typeCallW F eq hC hi hb hl ?_))⟩
  refine codeAny_mono q fun r s2 z => ?_
  rcases r with e | (v | _ | _ | _) <;> exact z
end
/-- the store through self.name, over KeyError -/
theorem store_key : StoreFacts "KeyError" [.type "KeyError", .type "LookupError", .type "Exception", .type "BaseException", .type "object"] "object.__setattr__" "object" where
  mro := by kernel_rfl
  slot := .of (owner := "object") (n := "__setattr__") (by (rw [typeLookup_type, builtinLookup_eq_fast]; kernel_rfl)) (by decide +kernel) (by decide +kernel) (by decide +kernel) (by first | exact .inl (by decide +kernel) | exact .inr (by decide +kernel)) (by (rw [isSubtype_type]; kernel_rfl))
  entry := PySem.F.entry_object_sa
  kind := by decide +kernel
  split := by decide +kernel
  hasOwner := by decide +kernel
  args := fun x y z => by (unfold argsOk; kernel_rfl)
  passes := fun _ => by kernel_rfl
end OEW
end PySem
set_option Elab.async false
set_option linter.all false
set_option maxRecDepth 100000
set_option maxHeartbeats 4000000
/-! Mo: own errors over any built-in error, whose __init__ keeps its one argument in a field: made. -/
namespace PySem
namespace OEG
open PySem.W PySem.Calls PyProof.Rows PySem.HandSPX PySem.OEX
open Builtin Builtin.ObjectAttr
variable {prog : Program} {w : World} {A : Around} {E : Value → Shared → Prop} {R : Result → Shared → Prop} {hp : Heap} {g : Array GenState} {d : Drawn} {t : Nat} {os : OsState} {B : String} {bmB : List Value}
/-- self.name = v on a new error that has no dict yet -/
theorem osa_any {K : W.Frag} {name : Str} {tk : Tok} {v : Value} {x C : Addr} {fv : Array Value} (SF : StoreFacts B bmB "object.__setattr__" "object")
    (X : K.In hp) (hx : hp.get? x = some { cls := .ref C, data := .fields fv }) (ov : W.excOver K C bmB = true) (hh : W.hasDictIn K C = true) (ht : W.takerIn K C name = some none)
    (hq : ∀ h' tk' dx, (∀ b o, b ≠ x → hp.get? b = some o → h'.get? b = some o) → hp.objs.size ≤ dx → dx ≠ x → h'.get? x = some { cls := .ref C, dict := some dx, data := .fields fv } →
      h'.Ns1 dx (fun y => if y = name then some v else none) → R (.ok (.ret .none)) ⟨h', g, d, tk', os⟩) :
    codeAny (model prog w) A (.call (.builtin "object.__setattr__") ⟨[.ref x, .str name tk, v], []⟩) R ⟨hp, g, d, t, os⟩ := by
  have I : W.InstAt hp x { cls := .ref C, data := .fields fv } C none := ⟨hx, rfl, rfl, trivial⟩
  have hxs : x ≠ hp.objs.size := Nat.ne_of_lt (Heap.lt_size hx)
  obtain ⟨cd, hcd, hd'⟩ := any_some hh
  have hcls : W.Looks (model prog w) hp (classData C) cd := W.looks_clsIn X hcd
  refine osa_openX (s := ⟨hp, g, d, t, os⟩) (od := none) SF X I ov ht fun b => ?_
  show wpAny _ _ (storeInOwnDict (.ref x) (.ref C) (.str name tk) name v b) _ _ _
  obtain ⟨nm, bs, mro, ns, qn, hd, sn, sb, ab, col, del⟩ := cd
  dsimp only at hd'
  subst hd'
  unfold storeInOwnDict ownDictForStores
  repeat (first | with_reducible refine store_in_new ?_ ?_ | with_reducible refine wpAny_loadPart_at hx ?_ | with_reducible refine hcls.at ?_ | wp_step)
  · exact ⟨_, #[], _, (Heap.get?_update_ne _ _ _ _ hxs.symm).trans (Heap.get?_push_at rfl rfl), rfl, fun e he => absurd he (by simp), fun _ => rfl⟩
  · intro h' tk' hn' hs
    have hx₁ : (hp.push { cls := .type "dict", data := .dict #[] }).get? x = some { cls := .ref C, data := .fields fv } := Heap.get?_push_of_some _ hx
    refine hq h' tk' hp.objs.size (fun b o hb ho => ?_) (Nat.le_refl _) hxs.symm ?_ hn'
    · exact (hs.2 b (Nat.ne_of_lt (Heap.lt_size ho))).trans ((Heap.get?_update_ne _ _ _ _ hb).trans (Heap.get?_push_of_some _ ho))
    · exact (hs.2 x hxs).trans (Heap.get?_update_self _ hx₁ rfl)
end OEG
end PySem
namespace L2
open PySem PySem.Spec PyProof.Rows
/-- an own error class over the built-in B, with an own __init__ -/
structure OexG (K : PySem.W.Frag) (C : Addr) (B newId initId : String) (bmB : List Value) : Prop where
  fB : ∃ nB, PySem.OEW.ExcW nB newId bmB
  sf : StoreFacts B bmB "object.__setattr__" "object"
  q : PySem.W.excInitIn K C bmB newId = true
  ov : PySem.W.excOver K C bmB = true
  hd : PySem.W.hasDictIn K C = true
  sa : PySem.W.findIn K (.ref C) "__setattr__" = some (some (.builtin "object.__setattr__"))
  exC : PySem.W.subIn K (.ref C) (.type "BaseException") = some true
  tyC : PySem.W.typeIn K (.ref C) = some (.type "type")
  kC : PySem.W.keepIn K (.ref C) = true
section
variable {X : Cx} {pins : List (Addr × Obj)} {σ : St} {H : Hp} {s : Shared} {a C : Addr} {f : Str} {y : V} {u : Value} {Q : Unit → Shared → Prop} {E : Value → Shared → Prop} {A : Around} {B newId initId : String} {bmB : List Value}
theorem stG_new (T : OexG X.K C B newId initId bmB) (I : Inv X pins σ H s) (e : H a = some (exo a C none)) (hno : PySem.W.takerIn X.K C f = some none) (ry : RelV y u)
    (h : ∀ dx s', H dx = none → dx ≠ a → Inv X pins σ (upd (upd H dx (exd dx [(f, y)])) a (exo a C (some dx))) s' → Q () s') : wpAny (model X.prog X.w) A (setAttr (.ref a) f u) Q E s := by
  obtain ⟨t1, ho⟩ := exo_at I.hok e
  obtain ⟨hp, g, d, t, os⟩ := s
  refine PySem.W.set_plain I.kIn (ox := { cls := .ref C, dict := none, data := .fields #[.ref t1, .none, .none, .none, .bool false, .none] }) (od := none) ⟨ho, rfl, rfl, trivial⟩ T.sa ?_
  refine PySem.OEG.osa_any T.sf I.kIn ho T.ov T.hd hno (fun h' tk' dx k dn dne hx hn => ?_)
  have hnd : H dx = none := I.hok.fresh dn
  have nd : ∀ {b : Addr} {o : Obj}, hp.get? b = some o → b ≠ dx := fun {b o} q => Nat.ne_of_lt (Nat.lt_of_lt_of_le (Heap.lt_size q) dn)
  have na : ∀ {b : Addr}, H b = none → b ≠ a := fun {b} n z => by
    rw [z, e] at n
    cases n
  have Un1 : Un X.fs [] H (upd (upd H dx (exd dx [(f, y)])) a (exo a C (some dx))) hp h' := {
    keep := fun b o q n _ _ => k b o (na n) q
    slot := fun b o q n _ _ => ⟨o.slots, k b o (na n) q⟩
    free := fun b o q n _ => by rw [upd_ne (na n), upd_ne (nd q)]; exact n
    there := fun b o q _ => by
      by_cases hb : b = a
      · exact ⟨_, by rw [hb]; exact hx⟩
      · exact ⟨o, k b o hb q⟩
    tups := fun b xs q => by rw [upd_ne (at_ne e q exo_tup), upd_ne (ne_of_none q hnd)]; exact q
    frzs := fun b o v q => by rw [upd_ne (at_ne e q exo_frz), upd_ne (ne_of_none q hnd)]; exact q
    tbls := fun b ps q => ⟨#[], by rw [upd_ne (at_ne e q exo_tbl), upd_ne (ne_of_none q hnd), q]; simp⟩ }
  refine h dx _ hnd dne (I.un (t' := tk') Un1 fun b o q => ?_)
  by_cases hb : b = a
  · subst hb
    rw [upd_same] at q
    cases q
    exact exo_ok hx
  · rw [upd_ne hb] at q
    by_cases hd : b = dx
    · subst hd
      rw [upd_same] at q
      cases q
      exact exd_ok hn (relO_put (fs := []) ry fun g => True.intro)
    · rw [upd_ne hd] at q
      exact (I.hok b o q).stay (fun c v hc z => k c v (by
          rcases hc with hc | hc
          · rw [hc]
            exact hb
          · exact at_ne e hc exo_own) z)
        (fun c hc => by rw [upd_ne (at_ne e hc exo_own), upd_ne (ne_of_none hc hnd)]; exact hc) (fun c xs hc => by rw [upd_ne (at_ne e hc exo_tup), upd_ne (ne_of_none hc hnd)]; exact hc)
end
/-- self.f = e on a new error -/
def tStG (K : PySem.W.Frag) (C : Addr) (f : Str) (to te : TE) : TS := fun D σ H => te σ H fun y H1 => to σ H1 fun x H2 => ∃ a : Addr, x = .ref a ∧ H2 a = some (exo a C none) ∧ ∀ dx, H2 dx = none → dx ≠ a → D.nx σ (upd (upd H2 dx (exd dx [(f, y)])) a (exo a C (some dx)))
section
variable {X : Cx} {o e : Expr} {es : List Expr} {to te : TE} {ta : TA} {f : Str} {p p' p1 p2 pos : Pos} {C : Addr} {B newId initId : String} {bmB : List Value}
theorem ps_stG (T : OexG X.K C B newId initId bmB) (hno : PySem.W.takerIn X.K C f = some none) (ho : PE X o to) (he : PE X e te) (hs : swapsWith e (some (.Attribute o f p')) pos.line X.env = pure false := by rfl) : PS X (.Assign [.Attribute o f p'] e pos) (tStG X.K C f to te) := by
  refine ⟨fun pins s σ H D I h => ?_⟩
  refine plainObj_wpAny_Assign_Attribute (thn (he.run pins s σ H _ I h) fun v s1 ⟨y, H1, I1, r1, q1⟩ => thn (ho.run pins s1 σ H1 _ I1 q1) fun u s2 ⟨x, H2, I2, r2, a, ex, ea, q⟩ => ?_) hs
  subst ex
  obtain rfl : u = Value.ref a := r2
  exact stG_new T I2 ea hno r1 fun dx s' n ne J => ⟨σ, _, J, q dx n ne⟩
end
end L2
namespace Mo
open PySem PySem.Spec PySem.Calls L2 PyProof.Rows
open Lp (FnG okG callG)
/-- __init__ of an error that keeps its argument in f -/
def spI (K : PySem.W.Frag) (C : Addr) (f : Str) : Sp := fun vs J Q _ => ∃ (a : Addr) (y : V), vs = [.ref a, y] ∧ J a = some (exo a C none) ∧ ∀ dx, J dx = none → dx ≠ a → Q .non (upd (upd J dx (exd dx [(f, y)])) a (exo a C (some dx)))
section
variable {P : Program} {w : World} {K : PySem.W.Frag} {mg : Str → Option Value} {base : Heap} {x qual : Str} {st : Stmt} {fI C : Addr} {fd : FuncData} {f self y : Str} {k kt : Nat} {B newId initId : String} {bmB : List Value} {pa p1 p2 pos : Pos}
theorem okI (T : OexG K C B newId initId bmB) (hno : PySem.W.takerIn K C f = some none) (F : Fun K x qual st fI fd) (S : FnScope [self, y] [self, y] (defScope st)) (hb : defBody st = [.Assign [.Attribute (.Name self p1) f pa] (.Name y p2) pos])
    (v0 : ∀ (cdv : Value) (B : Around) (fr : List Env) (s : Shared) (J : Hp) (Z : XK), Vis (cxOf CX0 P w K mg base [self, y] qual (defScope st) fI cdv B fr s J Z).env.scope self) (v1 : ∀ (cdv : Value) (B : Around) (fr : List Env) (s : Shared) (J : Hp) (Z : XK), Vis (cxOf CX0 P w K mg base [self, y] qual (defScope st) fI cdv B fr s J Z).env.scope y)
    (hs : ∀ (cdv : Value) (B : Around) (fr : List Env) (s : Shared) (J : Hp) (Z : XK), swapsWith (.Name y p2) (some (.Attribute (.Name self p1) f pa)) pos.line (cxOf CX0 P w K mg base [self, y] qual (defScope st) fI cdv B fr s J Z).env = pure false)
    (d0 : (self == ("__debug__" : Str)) = false) (d1 : (self == ("__classdict__" : Str)) = false) (d2 : (y == ("__debug__" : Str)) = false) (d3 : (y == ("__classdict__" : Str)) = false) :
    FnG P w K mg base CX0 (k + 1) fI fd [self, y] (spI K C f) := by
  refine okG F S (fun vs H Q E ⟨a, y, e, _⟩ => by rw [e]; rfl) fun cdv B fr s J vs Q Z hr hg ⟨a, z, e, ea, q⟩ => ?_
  subst e
  rw [hb]
  refine ⟨_, pss_one (ps_stG (X := cxOf CX0 P w K mg base [self, y] qual (defScope st) fI cdv B fr s J Z) T hno (pe_var (i := 0) rfl (v0 cdv B fr s J Z) d0 d1) (pe_var (i := 1) rfl (v1 cdv B fr s J Z) d2 d3) (hs cdv B fr s J Z)), ?_⟩
  exact ⟨z, rfl, .ref a, rfl, a, rfl, ea, fun dx h1 h2 => q dx h1 h2⟩
end
/-- raise C(e): the error and its dict -/
def tMkG (C : Addr) (f : Str) (ta : TA) : L2.St → Hp → XK → Prop := fun σ H Q => ta σ H fun vs H1 => ∃ y, vs = [y] ∧ ∀ d, H1 d = none → Q (.ref C) (some d) (upd H1 d (.xd [(f, y)]))
section
variable {X : Cx} {e : Expr} {es : List Expr} {ta : TA} {f x : Str} {p pos : Pos} {C fI : Addr} {B newId initId : String} {bmB : List Value} {fd : FuncData} {ps : List Str} {k : Nat}
theorem pmk_g (T : OexG X.K C B newId initId bmB) (iC : PySem.W.findIn X.K (.ref C) "__init__" = some (some (.ref fI))) (tI : PySem.W.typeIn X.K (.ref fI) = some (.type "function"))
    (F1 : FnG X.prog X.w X.K X.mg X.base CX0 k fI fd ps (spI X.K C f)) (hr : Room (k + 1) X.A) (hgd : X.A.guards = some []) (hb : Binds X.K fd ps []) (hg : Gl X x) (hm : X.mg x = some (.ref C)) (ha : PA X (e :: es) ta)
    (hdb : (x == ("__debug__" : Str)) = false := by decide) (he : starEach (e :: es) X.env = (false, eval e X.env) :: starEach es X.env := by rfl) (hpl : (backTo pos (starEach es X.env)).any (·.1) = false := by rfl) :
    PMk X (.Call (.Name x p) (e :: es) [] pos) (tMkG C f ta) := by
  intro pins s σ H Q I h
  refine wpAny_Call_Name_kw (ld_glob I hg hm ?_ hdb)
  refine PySem.W.callWith_K (h₀ := X.base) I.ok.mod.kin T.kC (thn (ha.run pos pins s σ H _ I h) fun us s1 ⟨vs, H1, I1, r1, y, ev, q1⟩ => ⟨I1.kIn, ?_⟩) he hpl
  subst ev
  show wpAny _ _ (call (.ref C) us) _ _ _
  obtain ⟨hp, g, dr, tk, os⟩ := s1
  obtain ⟨nm, N, qn, bs, bm, hdct, sn, sub, ab, col, dd, k0, k1, k2, k3, k5, hC, hT⟩ := PySem.W.excInit_of I1.kIn T.q
  have hsz : hp.objs.size ≤ hp.objs.size + 1 := Nat.le_succ _
  have hn : H1 (hp.objs.size + 1) = none := I1.hok.fresh hsz
  have kk : ∀ b o, hp.get? b = some o → ((hp.push (PySem.W.kdv_tup us)).push (PySem.HandSPX.excO C hp.objs.size)).get? b = some o := fun b o e => Heap.get?_push_of_some _ (Heap.get?_push_of_some _ e)
  have hget : ((hp.push (PySem.W.kdv_tup us)).push (PySem.HandSPX.excO C hp.objs.size)).get? (hp.objs.size + 1) = some (PySem.HandSPX.excO C hp.objs.size) := by heap_get
  have I2 : Inv X pins σ (upd H1 (hp.objs.size + 1) (exo (hp.objs.size + 1) C none)) ⟨(hp.push (PySem.W.kdv_tup us)).push (PySem.HandSPX.excO C hp.objs.size), g, dr, tk, os⟩ :=
    I1.laid (t' := tk) (a := hp.objs.size + 1) (o := exo (hp.objs.size + 1) C none) (h' := (hp.push (PySem.W.kdv_tup us)).push (PySem.HandSPX.excO C hp.objs.size)) kk hsz (exo_ok hget)
  have r2 : Vals [V.ref (hp.objs.size + 1), y] (Value.ref (hp.objs.size + 1) :: us) := .cons rfl r1
  have hq : spI X.K C f [V.ref (hp.objs.size + 1), y] (upd H1 (hp.objs.size + 1) (exo (hp.objs.size + 1) C none)) (fun v H2 => v = .non ∧ ∃ (d : Addr) (fs : List (Str × V)), H2 (hp.objs.size + 1) = some (exo (hp.objs.size + 1) C (some d)) ∧ H2 d = some (exd d fs) ∧ H1 d = none ∧ Q (.ref C) (some d) (upd (L2.del H2 (hp.objs.size + 1)) d (.xd fs))) (fun _ _ _ => False) := by
    refine ⟨_, y, rfl, upd_same, fun dx h1 h2 => ⟨rfl, dx, [(f, y)], upd_same, ?_, ?_, ?_⟩⟩
    · rw [upd_ne h2, upd_same]
    · rw [upd_ne h2] at h1
      exact h1
    · rw [upd_ne h2] at h1
      have e1 : upd (L2.del (upd (upd (upd H1 (hp.objs.size + 1) (exo (hp.objs.size + 1) C none)) dx (exd dx [(f, y)])) (hp.objs.size + 1) (exo (hp.objs.size + 1) C (some dx))) (hp.objs.size + 1)) dx (.xd [(f, y)]) = upd H1 dx (.xd [(f, y)]) := by
        funext b
        by_cases hbd : b = dx
        · rw [hbd, upd_same, upd_same]
        · rw [upd_ne hbd, upd_ne hbd]
          by_cases hba : b = hp.objs.size + 1
          · rw [hba, L2.del_same, hn]
          · rw [L2.del_ne hba, upd_ne hba, upd_ne hbd, upd_ne hba]
      rw [e1]
      exact q1 dx h1
  have hl : (Value.ref (hp.objs.size + 1) :: us).length = ps.length := by
    have e := r2.length
    rw [F1.len _ _ _ _ hq] at e
    exact e.symm
  have hus : us.length ≤ sizeLine := by
    rw [← Paired.length r1, sizeLine_eq]
    simp
  have bt := hb ⟨(hp.push (PySem.W.kdv_tup us)).push (PySem.HandSPX.excO C hp.objs.size), g, dr, tk, os⟩ (Value.ref (hp.objs.size + 1) :: us) I2.kIn (by rw [List.append_nil]; exact hl)
  rw [List.append_nil] at bt
  obtain ⟨nB, FW⟩ := T.fB
  refine wpAny_call (PySem.OEW.callW FW hT hC (PySem.W.looks_findIn I1.kIn iC) (fun self => PySem.W.bind_fn I1.kIn self tI) hus
    (codeAny_mono (F1.go _ X.stack _ _ ⟨Value.ref (hp.objs.size + 1) :: us, []⟩ (Value.ref (hp.objs.size + 1) :: us) _ _ (fun _ _ _ => False) (hr.make C us []) (guards_make hgd) (I2.env0.make C us []) bt r2 hq) fun r s' hq' => ?_))
  cases r with
  | error er => exact (hq' : False).elim
  | ok fl =>
    cases fl with
    | ret u =>
      obtain ⟨v, H2, os2, bare2, un2, hok2, rv, ev, d, fs, ea, ed, hd1, q2⟩ := hq'
      subst ev
      obtain ⟨h2, g2, d2, t2, os'⟩ := s'
      exact ⟨rv, mk_end (raises_own T.exC T.tyC) I1 hsz kk un2 hok2 os2 bare2 ea ed hd1 q2⟩
    | next => exact False.elim hq'
    | brk => exact False.elim hq'
    | cont => exact False.elim hq'
end
end Mo
set_option Elab.async false
set_option linter.all false
set_option maxRecDepth 100000
set_option maxHeartbeats 4000000
/-! Mo: defs that may let out own errors that keep a field. -/
namespace Mo
open PySem PySem.Spec PySem.Calls L2 PyProof.Rows
open Lp (FnG okG callG)
/-- an error of the class named n, with x in its field f -/
def mkP (adr : Str → Addr) (n f : Str) (x : D) : Exn := ⟨adr n, [(n, .non), (f, x)]⟩
/-- the error's dict -/
def EDict (K : PySem.W.Frag) (p : Mt) (H : Hp) (E : Exn) (d : Option Addr) : Prop := match E.fs with
  | _ :: (f, x) :: _ => ∃ (dd : Addr) (v : V), d = some dd ∧ H dd = some (.xd [(f, v)]) ∧ Rep K (del p H) v x
  | _ => d = none
theorem EDict.le {K : PySem.W.Frag} {p p' : Mt} {H : Hp} {E : Exn} {d : Option Addr} (h : EDict K p' H E d) (le : Le (del p' H) (del p H)) : EDict K p H E d := by
  unfold EDict at h ⊢
  split at h
  · obtain ⟨dd, v, e1, e2, e3⟩ := h
    exact ⟨dd, v, e1, e2, e3.le le⟩
  · exact h
def OutsP (X : Cx) (W : WW) : Prop := Takes X fun cls d σ H => ∃ E g p, cls = .ref E.C ∧ EDict X.K p H E d ∧ W E g p σ H
def mRaiseP (adr : Str → Addr) (n f : Str) (ms : M (List D)) : M Oc := ms.bind fun ds g => match ds with
  | [d] => some (.ex (mkP adr n f d) g)
  | _ => none
section
variable {X : Cx} {W : WW} {e : Expr} {adr : Str → Addr} {fI : Addr} {B newId initId : String} {bmB : List Value} {fd : FuncData} {ps : List Str} {k : Nat} {n f : Str} {p1 p3 pos : Pos} {ms : M (List D)}
theorem s_raiseP (T : OexG X.K (adr n) B newId initId bmB) (iC : PySem.W.findIn X.K (.ref (adr n)) "__init__" = some (some (.ref fI))) (tI : PySem.W.typeIn X.K (.ref fI) = some (.type "function"))
    (F1 : FnG X.prog X.w X.K X.mg X.base CX0 k fI fd ps (spI X.K (adr n) f)) (hr : Room (k + 1) X.A) (hgd : X.A.guards = some []) (hb : L2.Binds X.K fd ps []) (hm' : X.mg n = some (.ref (adr n))) (hc : X.calm = true) (ho : OutsP X W) (ha : EA X W [e] ms)
    (hg : Gl X n := by rfl) (hdb : (n == ("__debug__" : Str)) = false := by decide) (he : starEach [e] X.env = [(false, eval e X.env)] := by rfl) :
    SS X W (.Raise (some (.Call (.Name n p1) [e] [] p3)) none pos) (mRaiseP adr n f ms) := fun J p g σ H R0 r hm Dd hp => by
  obtain ⟨r1, e1, hq⟩ := post_s R0 hm hp
  refine of_ps (ps_raise hc ho (pmk_g T iC tI F1 hr hgd hb hg hm' semA hdb he rfl)) ?_
  refine ha J p g σ H R0 r1 e1 _ (hq _ fun ds g1 q1 H1 er ad R1 hk hp1 vs rs => ?_)
  cases ds with
  | nil => cases hk
  | cons d r2 =>
    cases r2 with
    | cons _ _ => cases hk
    | nil =>
      cases hk
      obtain ⟨v, rfl, rv⟩ := reps1 rs
      refine ⟨v, rfl, fun dd hd => ?_⟩
      obtain ⟨R2, ad2, e2⟩ := R1.new (o := .xd [(f, v)]) hd
      exact ⟨mkP adr n f d, g1, q1, rfl, ⟨dd, v, rfl, upd_same, rv.le ad2.le⟩, hp1 σ q1 _ (ad2.as R1) R2⟩
end
end Mo
set_option Elab.async false
set_option linter.all false
set_option maxRecDepth 100000
set_option maxHeartbeats 4000000
/-! Mo: a call that may let such an error out; try: .. except C as e: .. -/
namespace Mo
open PySem PySem.Spec PySem.Calls L2 PyProof.Rows
open Lp (FnG okG callG)
/-! ### try: .. except C as e: .. -/
def isUn : Option Sl → Bool
  | some .un => true
  | _ => false
theorem isUn_eq {o : Option Sl} (h : isUn o = true) : o = some .un := by
  cases o with
  | none => cases h
  | some x => cases x <;> first | rfl | cases h
/-- the suite of a clause that names its error -/
def SuiteOk (X : Cx) (adr : Str → Addr) (names : List Str) (tab : Str → Bool) (i : Nat) (f : Str) (suite : List Stmt) (mh : D → M Oc) : Prop :=
  ∀ (n : Str), n ∈ names → tab n = true → ∀ (a : Addr) (oe : Obj) (pn : List (Addr × Obj)) (dd : Addr), Zc (.ref (adr n)) (some dd) oe → (∃ vs, oe.data = .fields vs) → ∀ (J : Hp) (p : Mt) (g : G) (σ : L2.St) (H : Hp) (x : D) (v : V), Rl X.K J p g σ H → σ[i]? = some (some (.ref a)) → g.s[i]? = some .un →
    H dd = some (.xd [(f, v)]) → Rep X.K (del p H) v x → ∀ r, mh x g = some r → ∀ Dd : Ends, PostS X.K WN J p H r Dd → SemSs (X.suite a ((a, oe) :: pn)) suite Dd σ H
end Mo
set_option Elab.async false
set_option linter.all false
set_option maxRecDepth 100000
set_option maxHeartbeats 4000000
/-! Mo: except C as e: return [e.f] -/
namespace Mo
open PySem PySem.Spec PySem.Calls L2 PyProof.Rows
end Mo
set_option Elab.async false
set_option linter.all false
set_option maxRecDepth 100000
set_option maxHeartbeats 4000000
/-! Mo: x in [..] where the items are data of any depth; tuple * int. -/
namespace Mo
open PySem PySem.Spec PySem.Calls L2 PyProof.Rows
section
variable {K : PySem.W.Frag}
theorem Reps.rep {H : Hp} {vs : List V} {ds : List D} (h : Reps K H vs ds) : ∀ n : Nat, Reps K H (List.replicate n vs).flatten (List.replicate n ds).flatten
  | 0 => .nil
  | n + 1 => by
    have app : ∀ {as bs : List V} {cs es : List D}, Reps K H as cs → Reps K H bs es → Reps K H (as ++ bs) (cs ++ es) := fun {as} => by
      induction as with
      | nil => intro bs cs es a b; cases a; exact b
      | cons y ys ih => intro bs cs es a b; cases a with | cons a1 a2 => exact .cons a1 (ih a2 b)
    rw [List.replicate_succ, List.replicate_succ, List.flatten_cons, List.flatten_cons]
    exact app h (Reps.rep h n)
end
end Mo
set_option Elab.async false
set_option linter.all false
set_option maxRecDepth 100000
set_option maxHeartbeats 4000000
/-! Mo: what the printed texts want of errors with a field. -/
namespace Mo
open PySem PySem.Spec PySem.Calls L2 PyProof.Rows
open Lp (FnG okG callG)
theorem outsP_wn {X : Cx} : OutsP X WN := fun _ _ ⟨_, _, _, _, _, _, _, _, _, _, _, _, _, _, _, _, w⟩ => by
  obtain ⟨_, _, _, _, _, z⟩ := w
  exact z.elim
abbrev bmL : List Value := [.type "LookupError", .type "Exception", .type "BaseException", .type "object"]
abbrev bmI : List Value := [.type "IndexError", .type "LookupError", .type "Exception", .type "BaseException", .type "object"]
abbrev bmO : List Value := [.type "OverflowError", .type "ArithmeticError", .type "Exception", .type "BaseException", .type "object"]
/-- what the written part says of such a class, as one computation -/
def oexB (K : PySem.W.Frag) (C : Addr) (newId : String) (bmB : List Value) : Bool :=
  PySem.W.excInitIn K C bmB newId && (PySem.W.excOver K C bmB && (PySem.W.hasDictIn K C && (decide (PySem.W.findIn K (.ref C) "__setattr__" = some (some (.builtin "object.__setattr__"))) && (decide (PySem.W.subIn K (.ref C) (.type "BaseException") = some true) && (decide (PySem.W.typeIn K (.ref C) = some (.type "type")) && PySem.W.keepIn K (.ref C))))))
theorem oexB_ok {K : PySem.W.Frag} {C : Addr} {B newId initId : String} {bmB : List Value} (fB : ExcBaseFacts B newId initId bmB) (sf : StoreFacts B bmB "object.__setattr__" "object") (h : oexB K C newId bmB = true) : OexG K C B newId initId bmB := by
  unfold oexB at h
  rw [Bool.and_eq_true, Bool.and_eq_true, Bool.and_eq_true, Bool.and_eq_true, Bool.and_eq_true, Bool.and_eq_true] at h
  obtain ⟨h1, h2, h3, h4, h5, h6, h7⟩ := h
  exact ⟨⟨_, PySem.OEW.excW_of fB⟩, sf, h1, h2, h3, of_decide_eq_true h4, of_decide_eq_true h5, of_decide_eq_true h6, h7⟩
theorem oex_L {K : PySem.W.Frag} {C : Addr} (h : oexB K C "LookupError.__new__" bmL = true) : OexG K C "LookupError" "LookupError.__new__" "LookupError.__init__" bmL := oexB_ok PySem.F.excBase_LookupError PySem.F.store_LookupError h
theorem oex_I {K : PySem.W.Frag} {C : Addr} (h : oexB K C "IndexError.__new__" bmI = true) : OexG K C "IndexError" "IndexError.__new__" "IndexError.__init__" bmI := oexB_ok PySem.F.excBase_IndexError PySem.F.store_IndexError h
theorem oex_O {K : PySem.W.Frag} {C : Addr} (h : oexB K C "OverflowError.__new__" bmO = true) : OexG K C "OverflowError" "OverflowError.__new__" "OverflowError.__init__" bmO := oexB_ok PySem.F.excBase_OverflowError PySem.F.store_OverflowError h
theorem oex_V {K : PySem.W.Frag} {C : Addr} (h : oexB K C "ValueError.__new__" bmV = true) : OexG K C "ValueError" "ValueError.__new__" "ValueError.__init__" bmV := oexB_ok PySem.F.excBase_ValueError PySem.F.store_ValueError h
abbrev bmR : List Value := [.type "RuntimeError", .type "Exception", .type "BaseException", .type "object"]
abbrev bmA : List Value := [.type "ArithmeticError", .type "Exception", .type "BaseException", .type "object"]
abbrev bmK : List Value := [.type "KeyError", .type "LookupError", .type "Exception", .type "BaseException", .type "object"]
theorem oex_R {K : PySem.W.Frag} {C : Addr} (h : oexB K C "RuntimeError.__new__" bmR = true) : OexG K C "RuntimeError" "RuntimeError.__new__" "RuntimeError.__init__" bmR := oexB_ok PySem.F.excBase_RuntimeError PySem.F.store_RuntimeError h
theorem oex_A {K : PySem.W.Frag} {C : Addr} (h : oexB K C "ArithmeticError.__new__" bmA = true) : OexG K C "ArithmeticError" "ArithmeticError.__new__" "ArithmeticError.__init__" bmA := oexB_ok PySem.F.excBase_ArithmeticError PySem.F.store_ArithmeticError h
theorem oex_K {K : PySem.W.Frag} {C : Addr} (h : oexB K C "LookupError.__new__" bmK = true) : OexG K C "KeyError" "LookupError.__new__" "KeyError.__init__" bmK := by
  unfold oexB at h
  rw [Bool.and_eq_true, Bool.and_eq_true, Bool.and_eq_true, Bool.and_eq_true, Bool.and_eq_true, Bool.and_eq_true] at h
  obtain ⟨h1, h2, h3, h4, h5, h6, h7⟩ := h
  exact ⟨⟨_, PySem.OEW.excW_key⟩, PySem.OEW.store_key, h1, h2, h3, of_decide_eq_true h4, of_decide_eq_true h5, of_decide_eq_true h6, h7⟩
end Mo
set_option Elab.async false
set_option linter.all false
set_option maxRecDepth 100000
set_option maxHeartbeats 4000000
/-! Mo: except C as e: return .., with e.f anywhere in it. -/
namespace Mo
open PySem PySem.Spec PySem.Calls L2 PyProof.Rows
/-- an expression read while something holds that stays -/
def EFp (X : Cx) (W : WW) (P : L2.St → Mt → Hp → Prop) (e : Expr) (m : M D) : Prop := ∀ J p g σ H, Rl X.K J p g σ H → P σ p H → ∀ r, m g = some r → ∀ Q : VK, Post X.K W J p g σ H r (qF X.K Q) → SemE X e σ H Q
def Stay (P : L2.St → Mt → Hp → Prop) : Prop := ∀ {g : G} {σ : L2.St} {p : Mt} {H : Hp} {g1 : G} {p1 : Mt} {H1 : Hp}, Ad g σ p H g1 p1 H1 → P σ p H → P σ p1 H1
section
variable {X : Cx} {W : WW} {P : L2.St → Mt → Hp → Prop} {a b e : Expr} {rest : List Expr} {pos : Pos} {ma mb m : M D} {β : Type}
theorem EF.p (h : EF X W e m) : EFp X W P e m := fun J p g σ H R _ => h J p g σ H R
section
variable {J : Hp} {p : Mt} {g : G} {σ : L2.St} {H : Hp} {q : β → G → Mt → Hp → Prop} {r : R β}
theorem EFp.then (hst : Stay P) {k : D → M β} (h : EFp X W P e m) (R0 : Rl X.K J p g σ H) (h0 : P σ p H) (hm : m.bind k g = some r) (hp : Post X.K W J p g σ H r q) {Q : VK}
    (hk : ∀ d g1 p1 H1 v, Ad g σ p H g1 p1 H1 → Rl X.K J p1 g1 σ H1 → P σ p1 H1 → Rep X.K (del p1 H1) v d → k d g1 = some r → Post X.K W J p1 g1 σ H1 r q → Q v H1) : SemE X e σ H Q := by
  unfold M.bind at hm
  cases e1 : m g with
  | none => rw [e1] at hm; cases hm
  | some r1 =>
    cases r1 with
    | ok d g1 =>
      rw [e1] at hm
      exact h J p g σ H R0 h0 _ e1 Q fun p1 H1 ad R1 v rv => hk d g1 p1 H1 v ad R1 (hst ad h0) rv hm (hp.adv ad)
    | ex E g1 =>
      rw [e1] at hm
      cases hm
      exact h J p g σ H R0 h0 _ e1 Q hp
end
end
/-- the error's field is there -/
def PinE (K : PySem.W.Frag) (i : Nat) (a dd : Addr) (f : Str) (v : V) (x : D) : L2.St → Mt → Hp → Prop := fun σ p H => σ[i]? = some (some (.ref a)) ∧ del p H dd = some (.xd [(f, v)]) ∧ Rep K (del p H) v x
theorem pinE_stay {K : PySem.W.Frag} {i : Nat} {a dd : Addr} {f : Str} {v : V} {x : D} : Stay (PinE K i a dd f v x) := fun ad h => ⟨h.1, (ad.le _ _ rfl (.inl h.2.1)).ex rfl, h.2.2.le ad.le⟩
section
variable {X : Cx} {adr : Str → Addr} {names : List Str} {tab : Str → Bool} {i : Nat} {f n : Str} {p1 p2 p3 p4 : Pos} {e : Expr}
theorem suite_ret (m : D → M D)
    (h : ∀ y ∈ names, tab y = true → ∀ (a : Addr) (oe : Obj) (pn : List (Addr × Obj)) (dd : Addr) (v : V) (x : D), Zc (.ref (adr y)) (some dd) oe → (∃ vs, oe.data = .fields vs) → EFp (X.suite a ((a, oe) :: pn)) WN (PinE X.K i a dd f v x) e (m x)) :
    SuiteOk X adr names tab i f [.Return (some e) p4] (fun x => mRet (m x)) := fun y hy ht a oe pn dd hz hv J p g σ H x v R ha hu h1 h2 r hm Dd hp => by
  have hd : del p H dd = some (.xd [(f, v)]) := by
    rw [del_at]
    · exact h1
    · rintro (z | z)
      · have := R.dice dd z
        cases hc : g.c with
        | l xs => rw [hc] at this; obtain ⟨_, e, _⟩ := this; rw [h1] at e; cases e
        | k xs => rw [hc] at this; obtain ⟨_, e, _⟩ := this; rw [h1] at e; cases e
        | t xs => rw [hc] at this; obtain ⟨_, e, _⟩ := this; rw [h1] at e; cases e
        | n C fs => rw [hc] at this; obtain ⟨_, _, e, _⟩ := this; rw [h1] at e; cases e
      · have := R.lv dd z
        rw [h1] at this
        exact this
  obtain ⟨r1, e1, hq⟩ := post_s R hm hp
  refine of_pss (pss_one (ps_ret semE)) (h y hy ht a oe pn dd v x hz hv J p g σ H R ⟨ha, hd, h2⟩ r1 e1 _ (hq _ fun d g1 p1 H1 er ad R1 hk hp1 v rv => ?_))
  cases hk
  exact hp1 _ p1 H1 v .refl R1 rv
theorem p_xf {oe : Obj} {a dd : Addr} {pn : List (Addr × Obj)} {v : V} {x : D} {y : Str} (hi : X.N[i]? = some n) (hln : X.env.kindOf n = some .local) (T1 : XfC X.K (adr y)) (T2 : PySem.W.findIn X.K (.ref (adr y)) f = some none) (hz : Zc (.ref (adr y)) (some dd) oe) (hv : ∃ vs, oe.data = .fields vs)
    (hd : (n == ("__debug__" : Str)) = false := by decide) (hcd : (n == ("__classdict__" : Str)) = false := by decide) (hb : attributeBase (.Name n p1) f X.env (eval (.Name n p1) X.env) = eval (.Name n p1) X.env := by rfl) :
    EFp (X.suite a ((a, oe) :: pn)) WN (PinE X.K i a dd f v x) (.Attribute (.Name n p1) f p2) (ret x) := fun J p g σ H R0 h0 r hm Q hp => by
  cases hm
  obtain ⟨h1, h2, h3⟩ := h0
  have h4 : H dd = some (.xd [(f, v)]) := del_of h2
  exact of_pe (pe_xf T1 T2 hz hv (pe_var (X := X.suite a ((a, oe) :: pn)) hi (.inl hln) hd hcd) hb) ⟨.ref a, h1, rfl, rfl, dd, [(f, v)], v, rfl, h4, by simp [List.lookup], hp p H .refl R0 v h3⟩
end
end Mo
set_option Elab.async false
set_option linter.all false
set_option maxRecDepth 100000
set_option maxHeartbeats 4000000
/-! Mo: o.m(k = e), the other keyword-only parameters at their defaults. -/
namespace Mo
open PySem PySem.Spec PySem.Calls L2 PyProof.Rows
open Lp (FnG okG callG)
end Mo
set_option Elab.async false
set_option linter.all false
set_option maxRecDepth 100000
set_option maxHeartbeats 4000000
/-! Mo: a class as a value (cls(..) in a classmethod), C.m(..), o[k] by an own __getitem__. -/
namespace Mo
open PySem PySem.Spec PySem.Calls L2 PyProof.Rows
open Lp (FnG okG callG)
section
variable {X : Cx} {W : WW} {e fe o : Expr} {es : List Expr} {pos ps apos : Pos} {C ff : Addr} {m x : Str} {k : Nat} {fd : FuncData} {qs : List Str} {sp : Sp} {t : TA} {tf ta : TE}
def mMakeV (C : Addr) (F : FD) (mf : M D) (ms : M (List D)) : M O := mf.bind fun d => match d with
  | .cl C' => if C' = C then mMake C F ms else bad
  | _ => bad
/-! ### C.m(e, ..) -/
def mCm (C : Addr) (F : FD) (ms : M (List D)) : M D := ms.bind fun ds => liftC (F (.cl C :: ds))
/-! ### o[k], o's class with an own __getitem__ -/
def mGetI (C : Addr) (F : FD) (ma mb : M D) : M D := ma.bind fun x => mb.bind fun y => match x with
  | .ins C' fs => if C' = C then liftC (F [.ins C fs, y]) else bad
  | _ => bad
end
@[simp] theorem ev_makeV {C : Addr} {F : FD} {mf : M D} {ms : M (List D)} {g : G} {Q : O → G → Prop} : Ev (mMakeV C F mf ms) g Q ↔ Ev mf g fun d g1 => d = .cl C ∧ Ev (mMake C F ms) g1 Q := by
  unfold mMakeV
  rw [ev_bind]
  refine ⟨fun h => h.mono fun x g1 z => ?_, fun h => h.mono fun x g1 ⟨e, z⟩ => ?_⟩
  · cases x <;> first | exact (ev_bad.mp z).elim | skip
    dsimp only at z
    rw [ev_ite] at z
    split at z
    · rename_i hC
      exact ⟨by rw [hC], z⟩
    · exact (ev_bad.mp z).elim
  · subst e
    dsimp only
    rw [if_pos rfl]
    exact z
@[simp] theorem ev_cm {C : Addr} {F : FD} {ms : M (List D)} {g : G} {Q : D → G → Prop} : Ev (mCm C F ms) g Q ↔ Ev ms g fun ds g1 => ∃ d c', F (.cl C :: ds) g1.c = some (d, c') ∧ Q d ⟨g1.s, c'⟩ := by
  unfold mCm
  simp only [ev_bind, ev_liftC]
@[simp] theorem ev_getI {C : Addr} {F : FD} {ma mb : M D} {g : G} {Q : D → G → Prop} : Ev (mGetI C F ma mb) g Q ↔ Ev ma g fun x g1 => Ev mb g1 fun y g2 => ∃ fs, x = .ins C fs ∧ ∃ d c', F [.ins C fs, y] g2.c = some (d, c') ∧ Q d ⟨g2.s, c'⟩ := by
  unfold mGetI
  simp only [ev_bind]
  refine ⟨fun h => h.mono fun x g1 q => q.mono fun y g2 z => ?_, fun h => h.mono fun x g1 q => q.mono fun y g2 ⟨fs, e, d, c', e3, z⟩ => ?_⟩
  · cases x <;> first | exact (ev_bad.mp z).elim | skip
    rename_i C2 gs
    dsimp only at z
    rw [ev_ite] at z
    split at z
    · rename_i hC
      subst hC
      obtain ⟨d, c', e, z⟩ := ev_liftC.mp z
      exact ⟨gs, rfl, d, c', e, z⟩
    · exact (ev_bad.mp z).elim
  · subst e
    dsimp only
    rw [if_pos rfl]
    exact ev_liftC.mpr ⟨d, c', e3, z⟩
end Mo
set_option Elab.async false
set_option linter.all false
set_option maxRecDepth 100000
set_option maxHeartbeats 4000000
/-! Mo: ==, != of a thing of an own class with anything; isinstance of anything. -/
namespace Mo
open PySem PySem.Spec PySem.Calls L2 PyProof.Rows
open Lp (FnG okN callG)
section
variable {X : Cx} {W : WW} {a b : Expr} {pos : Pos} {C ff : Addr} {Os : List Addr} {k : Nat} {fd : FuncData} {qs : List Str} {sp : Sp}
/-- on data -/
def isTZ (C : Addr) (Os : List Addr) : D → Bool
  | .ins c _ => decide (c = C ∨ c ∈ Os)
  | d => (tyN d).isSome
def eqGoZ {α : Type} (neg : Bool) (C : Addr) (Os : List Addr) (F : FD) (kk : Bool → M α) (x y : D) : M α := match x with
  | .ins C2 fs => if C2 = C ∧ isTZ C Os y = true then (liftC (F [.ins C fs, y])).bind fun v => (match v with
    | .bl t => kk (bif neg then !t else t)
    | _ => bad) else bad
  | _ => bad
def mEqZ (neg : Bool) (C : Addr) (Os : List Addr) (F : FD) (ma mb : M D) : M D := ma.bind fun x => mb.bind fun y => eqGoZ neg C Os F (fun b => ret (.bl b)) x y
def mtEqZ (neg : Bool) (C : Addr) (Os : List Addr) (F : FD) (ma mb : M D) : M Bool := ma.bind fun x => mb.bind fun y => eqGoZ neg C Os F ret x y
end
theorem ev_eqGoZ {α : Type} {C : Addr} {Os : List Addr} {neg : Bool} {F : FD} {kk : Bool → M α} {x y : D} {g : G} {Q : α → G → Prop} : Ev (eqGoZ neg C Os F kk x y) g Q ↔ ∃ gs, x = .ins C gs ∧ isTZ C Os y = true ∧ ∃ t c', F [.ins C gs, y] g.c = some (.bl t, c') ∧ Ev (kk (bif neg then !t else t)) ⟨g.s, c'⟩ Q := by
  unfold eqGoZ
  refine ⟨fun z => ?_, fun ⟨gs, e2, hy, t, c', e3, z⟩ => ?_⟩
  · cases x <;> first | exact (ev_bad.mp z).elim | skip
    rename_i C2 gs
    dsimp only at z
    rw [ev_ite] at z
    split at z
    · rename_i hC
      obtain ⟨hC, hy⟩ := hC
      subst hC
      refine ⟨gs, rfl, hy, ?_⟩
      obtain ⟨d, c', e, z⟩ := ev_liftC.mp (ev_bind.mp z)
      cases d <;> first | exact (ev_bad.mp z).elim | skip
      exact ⟨_, c', e, z⟩
    · exact (ev_bad.mp z).elim
  · subst e2
    dsimp only
    rw [if_pos ⟨rfl, hy⟩]
    exact ev_bind.mpr (ev_liftC.mpr ⟨_, _, e3, z⟩)
@[simp] theorem ev_eqZ {C : Addr} {Os : List Addr} {neg : Bool} {F : FD} {ma mb : M D} {g : G} {Q : D → G → Prop} : Ev (mEqZ neg C Os F ma mb) g Q ↔ Ev ma g fun x g1 => Ev mb g1 fun y g2 => ∃ gs, x = .ins C gs ∧ isTZ C Os y = true ∧ ∃ t c', F [.ins C gs, y] g2.c = some (.bl t, c') ∧ Q (.bl (bif neg then !t else t)) ⟨g2.s, c'⟩ := by
  unfold mEqZ
  simp only [ev_bind, ev_eqGoZ, ev_ret]
@[simp] theorem ev_teqZ {C : Addr} {Os : List Addr} {neg : Bool} {F : FD} {ma mb : M D} {g : G} {Q : Bool → G → Prop} : Ev (mtEqZ neg C Os F ma mb) g Q ↔ Ev ma g fun x g1 => Ev mb g1 fun y g2 => ∃ gs, x = .ins C gs ∧ isTZ C Os y = true ∧ ∃ t c', F [.ins C gs, y] g2.c = some (.bl t, c') ∧ Q (bif neg then !t else t) ⟨g2.s, c'⟩ := by
  unfold mtEqZ
  simp only [ev_bind, ev_eqGoZ, ev_ret]
/-! ### isinstance(e, C), e anything -/
def fIsZ (C : Addr) (Os : List Addr) : D → Option D
  | .ins c _ => if c = C then some (.bl true) else if c ∈ Os then some (.bl false) else none
  | d => (tyN d).map fun _ => .bl false
def mIsZ (C : Addr) (Os : List Addr) (m : M D) : M D := m.bind fun d => lift (fIsZ C Os d)
@[simp] theorem ev_isZ {C : Addr} {Os : List Addr} {m : M D} {g : G} {Q : D → G → Prop} : Ev (mIsZ C Os m) g Q ↔ Ev m g fun d g1 => Ev (lift (fIsZ C Os d)) g1 Q := by
  unfold mIsZ
  simp
end Mo
set_option Elab.async false
set_option linter.all false
set_option maxRecDepth 100000
set_option maxHeartbeats 4000000
/-! Mo, part MtU: a, b, .. = a list. -/
namespace Mo
open PySem PySem.Spec L2
end Mo
set_option Elab.async false
set_option linter.all false
set_option maxRecDepth 100000
set_option maxHeartbeats 1000000
/-! Mo, part MtZ: f(*e) of a def f(a, .., *v). -/
namespace Mo
open PySem PySem.Spec PySem.Calls L2 PyProof.Rows
end Mo
set_option Elab.async false
set_option linter.all false
set_option maxRecDepth 100000
set_option maxHeartbeats 4000000
/-! Mo, part MtW: a dict of texts that is filled behind all others' backs: opened, closed. -/
namespace Mo
open PySem PySem.Spec L2
theorem nd_len {α : Type} [DecidableEq α] : ∀ {l m : List α}, l.Nodup → (∀ x ∈ l, x ∈ m) → l.length ≤ m.length
  | [], _, _, _ => Nat.zero_le _
  | x :: l, m, nd, h => by
    have hx := h x List.mem_cons_self
    have h2 : ∀ y ∈ l, y ∈ m.erase x := fun y my => by
      have ne : y ≠ x := fun e => (List.nodup_cons.mp nd).1 (e ▸ my)
      exact (List.mem_erase_of_ne ne).mpr (h y (List.mem_cons_of_mem _ my))
    have := nd_len (List.nodup_cons.mp nd).2 h2
    rw [List.length_erase_of_mem hx] at this
    have : 0 < m.length := List.length_pos_of_mem hx
    rw [List.length_cons]
    omega
/-- what may stand in it -/
structure VagK (m kvs : List (Str × Str)) : Prop where
  nd : (kvs.map (·.1)).Nodup
  sub : ∀ x ∈ kvs, x ∈ m
theorem VagK.len {m kvs : List (Str × Str)} (h : VagK m kvs) : kvs.length ≤ m.length := by
  have e := nd_len (m := m.map (·.1)) h.nd fun x mx => by
    obtain ⟨y, my, rfl⟩ := List.mem_map.mp mx
    exact List.mem_map_of_mem (h.sub y my)
  simpa using e
end Mo
set_option Elab.async false
set_option linter.all false
set_option maxRecDepth 100000
set_option maxHeartbeats 4000000
/-! Mo, part MtX: the rest of a def over such a dict, as if it were the parameter that the def changes. -/
namespace Mo
open PySem PySem.Spec L2
/-! data that no such dict belongs to -/
def isExt : HO → Bool
  | .ext _ => true
  | _ => false
/-- what can be read in F can be read in F', but for what is told by hand -/
def LeX (F F' : Hp) : Prop := ∀ a u, isExt u = false → isFD u = false → Vw F a u → Vw F' a u
section
variable {K : PySem.W.Frag} {F F' : Hp}
theorem LeX.ex {a : Addr} {o : HO} (e : LeX F F') (h : F a = some o) (n : isD o = false) (x : isExt o = false) (f : isFD o = false := by rfl) : F' a = some o := (e a o x f (.inl h)).ex n
end
end Mo
set_option Elab.async false
set_option linter.all false
set_option maxRecDepth 100000
set_option maxHeartbeats 4000000
/-! Mo, part MtY: a dict that is the changed parameter's content: k in d, d[k], d[k] = v. -/
namespace Mo
open PySem PySem.Spec L2
end Mo
set_option Elab.async false
set_option linter.all false
/-! Vm: what a factor keeps of the rows that were put before it. -/
set_option Elab.async false
set_option linter.all false
set_option maxRecDepth 100000
set_option maxHeartbeats 4000000
/-! Mo: own errors as values: C(e), C with an own __init__. -/
namespace Mo
open PySem PySem.Spec PySem.Calls L2 PyProof.Rows
open Lp (FnG okG callG)
/-- C(e): the error itself, its argument in the field f -/
def tMkV (C : Addr) (f : Str) (ta : TA) : TE := fun σ H Q => ta σ H fun vs H1 => ∃ y, vs = [y] ∧ ∀ a dx, H1 a = none → H1 dx = none → dx ≠ a → Q (.ref a) (upd (upd H1 dx (exd dx [(f, y)])) a (exo a C (some dx)))
section
variable {X : Cx} {W : WW} {e : Expr} {es : List Expr} {ta : TA} {f x : Str} {p pos : Pos} {C fI : Addr} {B newId initId : String} {bmB : List Value} {fd : FuncData} {ps : List Str} {k : Nat}
theorem pe_mkV (T : OexG X.K C B newId initId bmB) (iC : PySem.W.findIn X.K (.ref C) "__init__" = some (some (.ref fI))) (tI : PySem.W.typeIn X.K (.ref fI) = some (.type "function"))
    (F1 : FnG X.prog X.w X.K X.mg X.base CX0 k fI fd ps (spI X.K C f)) (hr : Room (k + 1) X.A) (hgd : X.A.guards = some []) (hb : Binds X.K fd ps []) (hg : Gl X x) (hm : X.mg x = some (.ref C)) (ha : PA X (e :: es) ta)
    (hdb : (x == ("__debug__" : Str)) = false := by decide) (he : starEach (e :: es) X.env = (false, eval e X.env) :: starEach es X.env := by rfl) (hpl : (backTo pos (starEach es X.env)).any (·.1) = false := by rfl) :
    PE X (.Call (.Name x p) (e :: es) [] pos) (tMkV C f ta) := by
  refine ⟨fun pins s σ H Q I h => ?_⟩
  refine wpAny_Call_Name_kw (ld_glob I hg hm ?_ hdb)
  refine PySem.W.callWith_K (h₀ := X.base) I.ok.mod.kin T.kC (thn (ha.run pos pins s σ H _ I h) fun us s1 ⟨vs, H1, I1, r1, y, ev, q1⟩ => ⟨I1.kIn, ?_⟩) he hpl
  subst ev
  show wpAny _ _ (call (.ref C) us) _ _ _
  obtain ⟨hp, g, dr, tk, os⟩ := s1
  obtain ⟨nm, N, qn, bs, bm, hdct, sn, sub, ab, col, dd, k0, k1, k2, k3, k5, hC, hT⟩ := PySem.W.excInit_of I1.kIn T.q
  have hsz : hp.objs.size ≤ hp.objs.size + 1 := Nat.le_succ _
  have hn : H1 (hp.objs.size + 1) = none := I1.hok.fresh hsz
  have kk : ∀ b o, hp.get? b = some o → ((hp.push (PySem.W.kdv_tup us)).push (PySem.HandSPX.excO C hp.objs.size)).get? b = some o := fun b o e => Heap.get?_push_of_some _ (Heap.get?_push_of_some _ e)
  have hget : ((hp.push (PySem.W.kdv_tup us)).push (PySem.HandSPX.excO C hp.objs.size)).get? (hp.objs.size + 1) = some (PySem.HandSPX.excO C hp.objs.size) := by heap_get
  have I2 : Inv X pins σ (upd H1 (hp.objs.size + 1) (exo (hp.objs.size + 1) C none)) ⟨(hp.push (PySem.W.kdv_tup us)).push (PySem.HandSPX.excO C hp.objs.size), g, dr, tk, os⟩ :=
    I1.laid (t' := tk) (a := hp.objs.size + 1) (o := exo (hp.objs.size + 1) C none) (h' := (hp.push (PySem.W.kdv_tup us)).push (PySem.HandSPX.excO C hp.objs.size)) kk hsz (exo_ok hget)
  have r2 : Vals [V.ref (hp.objs.size + 1), y] (Value.ref (hp.objs.size + 1) :: us) := .cons rfl r1
  have hq : spI X.K C f [V.ref (hp.objs.size + 1), y] (upd H1 (hp.objs.size + 1) (exo (hp.objs.size + 1) C none)) (fun v H2 => v = .non ∧ Q (.ref (hp.objs.size + 1)) H2) (fun _ _ _ => False) := by
    refine ⟨_, y, rfl, upd_same, fun dx h1 h2 => ⟨rfl, ?_⟩⟩
    rw [upd_ne h2] at h1
    have e1 : upd (upd (upd H1 (hp.objs.size + 1) (exo (hp.objs.size + 1) C none)) dx (exd dx [(f, y)])) (hp.objs.size + 1) (exo (hp.objs.size + 1) C (some dx)) = upd (upd H1 dx (exd dx [(f, y)])) (hp.objs.size + 1) (exo (hp.objs.size + 1) C (some dx)) := by
      funext b
      by_cases hba : b = hp.objs.size + 1
      · rw [hba, upd_same, upd_same]
      · rw [upd_ne hba, upd_ne hba]
        by_cases hbd : b = dx
        · rw [hbd, upd_same, upd_same]
        · rw [upd_ne hbd, upd_ne hbd, upd_ne hba]
    rw [e1]
    exact q1 _ dx hn h1 h2
  have hl : (Value.ref (hp.objs.size + 1) :: us).length = ps.length := by
    have e := r2.length
    rw [F1.len _ _ _ _ hq] at e
    exact e.symm
  have hus : us.length ≤ sizeLine := by
    rw [← Paired.length r1, sizeLine_eq]
    simp
  have bt := hb ⟨(hp.push (PySem.W.kdv_tup us)).push (PySem.HandSPX.excO C hp.objs.size), g, dr, tk, os⟩ (Value.ref (hp.objs.size + 1) :: us) I2.kIn (by rw [List.append_nil]; exact hl)
  rw [List.append_nil] at bt
  obtain ⟨nB, FW⟩ := T.fB
  refine wpAny_call (PySem.OEW.callW FW hT hC (PySem.W.looks_findIn I1.kIn iC) (fun self => PySem.W.bind_fn I1.kIn self tI) hus
    (codeAny_mono (F1.go _ X.stack _ _ ⟨Value.ref (hp.objs.size + 1) :: us, []⟩ (Value.ref (hp.objs.size + 1) :: us) _ _ (fun _ _ _ => False) (hr.make C us []) (guards_make hgd) (I2.env0.make C us []) bt r2 hq) fun r s' hq' => ?_))
  match r, hq' with
  | .error er, hq' => exact (hq' : False).elim
  | .ok (.ret u), hq' =>
    obtain ⟨v, H2, I3, rv3, ev, q3⟩ := I2.after hq'
    subst ev
    exact ⟨rv3, .ref _, H2, I3, rfl, q3⟩
end
def mMkV (C : Addr) (f : Str) (ms : M (List D)) : M D := ms.bind fun ds => match ds with
  | [d] => ret (.exv C [(f, d)])
  | _ => bad
section
variable {X : Cx} {W : WW} {e : Expr} {es : List Expr} {f x : Str} {p pos : Pos} {C fI : Addr} {B newId initId : String} {bmB : List Value} {fd : FuncData} {ps : List Str} {k : Nat}
theorem e_mkV {ms : M (List D)} (T : OexG X.K C B newId initId bmB) (iC : PySem.W.findIn X.K (.ref C) "__init__" = some (some (.ref fI))) (tI : PySem.W.typeIn X.K (.ref fI) = some (.type "function"))
    (F1 : FnG X.prog X.w X.K X.mg X.base CX0 k fI fd ps (spI X.K C f)) (hr : Room (k + 1) X.A) (hgd : X.A.guards = some []) (hb : Binds X.K fd ps []) (hm : X.mg x = some (.ref C)) (ha : EA X W (e :: es) ms) (hg : Gl X x := by rfl)
    (hdb : (x == ("__debug__" : Str)) = false := by decide) (he : starEach (e :: es) X.env = (false, eval e X.env) :: starEach es X.env := by rfl) (hpl : (backTo pos (starEach es X.env)).any (·.1) = false := by rfl) :
    EF X W (.Call (.Name x p) (e :: es) [] pos) (mMkV C f ms) := fun J p g σ H R0 r hm' Q hp =>
  of_pe (pe_mkV T iC tI F1 hr hgd hb hg hm semA hdb he hpl) (ha.then R0 hm' hp fun ds g1 p1 H1 vs ad1 R1 rs hm1 hp1 => by
    match ds, rs, hm1 with
    | [d], rs, hm1 =>
      cases hm1
      obtain ⟨v, rfl, rv⟩ := reps1 rs
      refine ⟨v, rfl, fun a dx na nd hne => ?_⟩
      obtain ⟨R2, ad2, h2⟩ := R1.new (o := exd dx [(f, v)]) nd
      have na2 : upd H1 dx (exd dx [(f, v)]) a = none := by
        rw [upd_ne (Ne.symm hne)]
        exact na
      obtain ⟨R3, ad3, h3⟩ := R2.new (o := exo a C (some dx)) na2
      exact hp1 _ _ (ad2.trans ad3) R3 _ (.exf h3 (ad3.le.ex h2 rfl) ((rv.le ad2.le).le ad3.le))
    | [], _, hm1 => cases hm1
    | _ :: _ :: _, _, hm1 => cases hm1)
end
end Mo
set_option Elab.async false
set_option linter.all false
set_option maxRecDepth 100000
set_option maxHeartbeats 4000000
/-! Mo: own errors as values: C(e), C without an own __init__; C('m') besides. -/
namespace Mo
open PySem PySem.Spec PySem.Calls L2 PyProof.Rows
section
variable {X : Cx} {pins : List (Addr × Obj)} {σ : L2.St} {H : Hp} {s : Shared} {a : Addr} {o : HO} {h' : Heap} {t' : Nat}
theorem inv_laidN (I : Inv X pins σ H s) (k : ∀ b u, s.heap.get? b = some u → h'.get? b = some u) (na : s.heap.get? a = none) (hn : H a = none) (new : ObjOk X.prog X.w (upd H a o) h' a o) :
    Inv X pins σ (upd H a o) { s with heap := h', toks := t' } := by
  have ne : ∀ {b : Addr} {u : Obj}, s.heap.get? b = some u → b ≠ a := fun {b u} q z => by
    rw [z, na] at q
    cases q
  refine I.un (t' := t') {
    keep := fun b u q _ _ _ => k b u q
    slot := fun b u q _ _ _ => ⟨u.slots, k b u q⟩
    free := fun b u q n _ => by rw [upd_ne (ne q)]; exact n
    there := fun b u q _ => ⟨u, k b u q⟩
    tups := fun b xs q => by rw [upd_ne (ne_of_none q hn)]; exact q
    frzs := fun b x v q => by rw [upd_ne (ne_of_none q hn)]; exact q
    tbls := fun b ps q => ⟨#[], by rw [upd_ne (ne_of_none q hn), q]; simp⟩ } fun b u q => ?_
  by_cases hb : b = a
  · subst hb
    rw [upd_same] at q
    cases q
    exact new
  · rw [upd_ne hb] at q
    exact (I.hok b u q).stay (fun c v hc z => k c v z) (fun c hc => by rw [upd_ne (ne_of_none hc hn)]; exact hc) fun c xs hc => by rw [upd_ne (ne_of_none hc hn)]; exact hc
end
section
variable {X : Cx} {W : WW} {e : Expr} {ta : TA} {x : Str} {p pos : Pos} {C : Addr} {B newId initId : String} {bmB : List Value}
theorem pe_mkP (F : ExcBaseFacts B newId initId bmB) (q : PySem.W.excIn X.K C bmB newId = true) (gC : X.mg x = some (.ref C)) (kC : PySem.W.keepIn X.K (.ref C) = true) (hg : Gl X x) (ha : PA X [e] ta)
    (hdb : (x == ("__debug__" : Str)) = false := by decide) (he : starEach [e] X.env = (false, eval e X.env) :: starEach [] X.env := by rfl) (hpl : (backTo pos (starEach [] X.env)).any (·.1) = false := by rfl) :
    PE X (.Call (.Name x p) [e] [] pos) (fun σ H Q => ta σ H fun vs H1 => vs.length ≤ 1000 ∧ ∀ a, H1 a = none → Q (.ref a) (upd H1 a (exo a C none))) := by
  refine ⟨fun pins s σ H Q I h => ?_⟩
  refine wpAny_Call_Name_kw (ld_glob I hg gC ?_ hdb)
  refine PySem.W.callWith_K (h₀ := X.base) I.ok.mod.kin kC (thn (ha.run pos pins s σ H _ I h) fun us s1 ⟨vs, H1, I1, r1, hl, q1⟩ => ⟨I1.kIn, ?_⟩) he hpl
  show wpAny _ _ (call (.ref C) us) _ _ _
  obtain ⟨hp, g, dr, tk, os⟩ := s1
  obtain ⟨bm, N, nm, qn, bs, hdct, sn, sub, ab, col, dd, k0, k1, k2, k3, k5, mN, hC, hN, hni, T⟩ := exc_obj I1.kIn q
  have hus : us.length ≤ sizeLine := by
    rw [← r1.length, sizeLine_eq]
    omega
  refine wpAny_call_exc_subT F T hC hN hni (fun h' e' hm => ?_) hus
  obtain ⟨t, hget, _, _⟩ := hm.there
  have na : H1 e' = none := I1.hok.gone hm.new
  exact ⟨.ref e', _, inv_laidN (t' := tk) I1 hm.keeps hm.new na (exo_ok hget), rfl, q1 _ na⟩
def mMkP (C : Addr) (ms : M (List D)) : M D := ms.bind fun ds => match ds with
  | [_] => ret (.exv C [])
  | _ => bad
theorem e_mkP {ms : M (List D)} (F : ExcBaseFacts B newId initId bmB) (q : PySem.W.excIn X.K C bmB newId = true) (gC : X.mg x = some (.ref C)) (kC : PySem.W.keepIn X.K (.ref C) = true) (ha : EA X W [e] ms) (hg : Gl X x := by rfl)
    (hdb : (x == ("__debug__" : Str)) = false := by decide) (he : starEach [e] X.env = (false, eval e X.env) :: starEach [] X.env := by rfl) (hpl : (backTo pos (starEach [] X.env)).any (·.1) = false := by rfl) :
    EF X W (.Call (.Name x p) [e] [] pos) (mMkP C ms) := fun J p g σ H R0 r hm' Q hp =>
  of_pe (pe_mkP F q gC kC hg semA hdb he hpl) (ha.then R0 hm' hp fun ds g1 p1 H1 vs ad1 R1 rs hm1 hp1 => by
    match ds, rs, hm1 with
    | [d], rs, hm1 =>
      cases hm1
      obtain ⟨v, rfl, rv⟩ := reps1 rs
      refine ⟨by simp, fun a na => ?_⟩
      obtain ⟨R2, ad2, h2⟩ := R1.new (o := exo a C none) na
      exact hp1 _ _ ad2 R2 _ (.exn h2)
    | [], _, hm1 => cases hm1
    | _ :: _ :: _, _, hm1 => cases hm1)
end
end Mo
set_option Elab.async false
set_option linter.all false
set_option maxRecDepth 100000
set_option maxHeartbeats 4000000
/-! Mo: isinstance(e, C), e an own error as a value. -/
namespace Mo
open PySem PySem.Spec PySem.Calls L2 PyProof.Rows
def rIsV (K : PySem.W.Frag) : List V → Hp → VK → Prop := fun xs H Q => ∃ (a D : Addr) (od : Option Addr) (c : V) (cv : Value) (b : Bool), xs = [.ref a, c] ∧ H a = some (exo a D od) ∧ (∀ dx, od = some dx → ∃ fs, H dx = some (exd dx fs)) ∧ ExcC K D ∧
  (∀ u, RelV c u → u = cv) ∧ PySem.W.kitOne K (.ref D) cv = some b ∧ Q (.bl b) H
theorem call_isV {X : Cx} : CallR X (.builtin "isinstance") (rIsV X.K) := by
  intro pins s σ H xs us Q I r h
  obtain ⟨a, D, od, c, cv, b, rfl, ha, hdx, C, hcv, e, q⟩ := h
  cases r with
  | cons rx rr =>
    cases rr with
    | cons rt rr =>
      cases rr
      cases rx
      have ec := hcv _ rt
      rw [ec]
      obtain ⟨t1, ho⟩ := exo_at I.hok ha
      have hcl : (PySem.W.clsIn X.K D).isSome = true := by
        obtain ⟨cd, hc, _⟩ := PySem.W.any_some C.hd
        rw [hc]
        rfl
      have go : ∀ {od' : Option Obj}, PySem.W.InstAt s.heap a { cls := .ref D, dict := od, data := .fields #[.ref t1, .none, .none, .none, .bool false, .none] } D od' → wpAny (model X.prog X.w) X.A (call (.builtin "isinstance") [.ref a, cv]) (EP X pins σ Q) X.xe s := fun {od'} J =>
        PySem.W.kia_one (prog := X.prog) (w := X.w) (A := X.A) (PySem.W.kitx_exc (od := od') hcl C.hg C.hk C.hs C.ha C.hn C.ht C.hm) I.kIn J e (fun z => nomatch z) fun tk => (⟨.bl b, H, I.kept (t' := tk) (fun _ _ z => z), rfl, q⟩ : EP X pins σ Q (.bool b) { s with toks := tk })
      cases od with
      | none => exact go (od' := none) ⟨ho, rfl, rfl, trivial⟩
      | some dx =>
        obtain ⟨fs, hd⟩ := hdx dx rfl
        obtain ⟨mA, hns, _⟩ := exd_at I.hok hd
        obtain ⟨o, es, ep, hg, _⟩ := hns
        exact go (od' := some o) ⟨ho, rfl, rfl, hg⟩
/-- isinstance(e, c) on an error; subs: those of its classes that lie below c -/
def mIsV (all subs : List Addr) (ma : M D) : M D := ma.bind fun x => match x with
  | .exv C _ => if C ∈ all then ret (.bl (decide (C ∈ subs))) else bad
  | _ => bad
/-- what is told of c and the errors' classes -/
structure IsVC (K : PySem.W.Frag) (all subs : List Addr) (cv : Value) : Prop where
  cls : ∀ D ∈ all, ExcC K D
  kit : ∀ D ∈ all, PySem.W.kitOne K (.ref D) cv = some (decide (D ∈ subs))
section
variable {X : Cx} {W : WW} {e ec : Expr} {all subs : List Addr} {cv : Value} {c : V} {pos ps : Pos}
theorem e_isV {ma : M D} (T : IsVC X.K all subs cv) (hm : X.mg "isinstance" = none) (hc : PE X ec (tC c)) (hcv : ∀ u, RelV c u → u = cv) (ha : EF X W e ma) (hv : bootBuiltins "isinstance" = some (.builtin "isinstance") := by decide +kernel) (hg : Gl X "isinstance" := by rfl)
    (he : starEach [e, ec] X.env = (false, eval e X.env) :: starEach [ec] X.env := by rfl) (he2 : starEach [ec] X.env = (false, eval ec X.env) :: starEach [] X.env := by rfl) (hpl : (backTo pos (starEach [ec] X.env)).any (·.1) = false := by rfl) :
    EF X W (.Call (.Name "isinstance" ps) [e, ec] [] pos) (mIsV all subs ma) := fun J p g σ H R0 r hm' Q hp =>
  of_pe (pe_callB call_isV hg hm hv (pa_cons semE (pa_cons hc pa_nil he2) he) (by decide) (by decide) he hpl) (ha.then R0 hm' hp fun x g1 p1 H1 v ad1 R1 rv hm1 hp1 => by
    cases x <;> first | (cases hm1; done) | skip
    rename_i C fs
    dsimp only at hm1
    split at hm1
    · rename_i hC
      cases hm1
      cases rv with
      | exn h1 => exact ⟨_, C, none, c, cv, _, rfl, del_of h1, (fun dx z => nomatch z), T.cls C hC, hcv, T.kit C hC, hp1 _ _ .refl R1 _ (.bl _)⟩
      | exf h1 h2 h3 => exact ⟨_, C, some _, c, cv, _, rfl, del_of h1, (fun dx z => by cases z; exact ⟨_, del_of h2⟩), T.cls C hC, hcv, T.kit C hC, hp1 _ _ .refl R1 _ (.bl _)⟩
    · cases hm1)
end
end Mo
set_option Elab.async false
set_option linter.all false
set_option maxRecDepth 100000
set_option maxHeartbeats 4000000
/-! Mo: e.f, e an own error as a value. -/
namespace Mo
open PySem PySem.Spec PySem.Calls L2 PyProof.Rows
def tXv (C : Addr) (f : Str) (te : TE) : TE := fun σ H Q => te σ H fun x H1 => ∃ (a dd : Addr) (fs : List (Str × V)) (v : V), x = .ref a ∧ H1 a = some (exo a C (some dd)) ∧ H1 dd = some (exd dd fs) ∧ fs.lookup f = some v ∧ Q v H1
section
variable {X : Cx} {W : WW} {C : Addr} {e : Expr} {te : TE} {pos : Pos} {n : Str}
theorem pe_xv (T : XfC X.K C) (hno : PySem.W.findIn X.K (.ref C) n = some none) (he : PE X e te) (hb : attributeBase e n X.env (eval e X.env) = eval e X.env := by rfl) : PE X (.Attribute e n pos) (tXv C n te) := by
  refine ⟨fun pins s σ H Q I h => ?_⟩
  refine attr_of hb (thn (he.run pins s σ H _ I h) fun u s1 hh => ?_)
  obtain ⟨x, H1, I1, rx, a, dd, fs, v, ex, ea, ed, l, q⟩ := hh
  subst ex
  obtain rfl : u = Value.ref a := rx
  obtain ⟨t1, ha⟩ := exo_at I1.hok ea
  obtain ⟨mA, hns, hr⟩ := exd_at I1.hok ed
  obtain ⟨od, ho, hl⟩ := lookIn_ns hns
  obtain ⟨u, hu, ru⟩ := RelO.some_of (v := v) (o := mA n) (by rw [← l]; exact hr n)
  have J : PySem.W.InstAt s1.heap a { cls := .ref C, dict := some dd, data := .fields #[.ref t1, .none, .none, .none, .bool false, .none] } C (some od) := ⟨ha, rfl, rfl, ho⟩
  exact HandSPX.exc_get I1.kIn J T.ga T.gg T.exC (PySem.W.findObj_own T.hdC hno rfl (by rw [hl, hu])) (handed_of ru) ⟨v, H1, I1.tok _, ru, q⟩
def mXv (C : Addr) (n : Str) (ma : M D) : M D := ma.bind fun x => match x with
  | .exv C1 [(f, d)] => if C1 = C ∧ f = n then ret d else bad
  | _ => bad
theorem e_xv {ma : M D} (T : XfC X.K C) (hno : PySem.W.findIn X.K (.ref C) n = some none) (ha : EF X W e ma) (hb : attributeBase e n X.env (eval e X.env) = eval e X.env := by rfl) : EF X W (.Attribute e n pos) (mXv C n ma) := fun J p g σ H R0 r hm' Q hp =>
  of_pe (pe_xv T hno semE hb) (ha.then R0 hm' hp fun x g1 p1 H1 v ad1 R1 rv hm1 hp1 => by
    cases x <;> first | (cases hm1; done) | skip
    rename_i C1 fs
    cases rv with
    | exn h1 => cases hm1
    | exf h1 h2 h3 =>
      dsimp only at hm1
      split at hm1
      · rename_i hC
        obtain ⟨rfl, rfl⟩ := hC
        cases hm1
        exact ⟨_, _, _, _, rfl, del_of h1, del_of h2, by simp, hp1 _ _ .refl R1 _ h3⟩
      · cases hm1)
end
end Mo
set_option Elab.async false
set_option linter.all false
set_option maxRecDepth 100000
set_option maxHeartbeats 4000000
/-! Mo: repr of data with dicts in them. -/
namespace Mo
open PySem PySem.Spec PySem.Calls L2 PyProof.Rows
def kPy : Key → PyData
  | .inl i => .int i
  | .inr x => .str x
mutual
def pyD : D → Option PyData
  | .non => some .none
  | .bl b => some (.bool b)
  | .int i => some (.int i)
  | .str x => some (.str x)
  | .lst xs => (pyDs xs).map .list
  | .tup xs => (pyDs xs).map .tuple
  | .dk kvs => (pyDk kvs).map .dict
  | _ => none
def pyDs : List D → Option (List PyData)
  | [] => some []
  | d :: ds => match pyD d, pyDs ds with
    | some x, some xs => some (x :: xs)
    | _, _ => none
def pyDk : List (Key × D) → Option (List (PyData × PyData))
  | [] => some []
  | (k, d) :: r => match pyD d, pyDk r with
    | some x, some xs => some ((kPy k, x) :: xs)
    | _, _ => none
end
/-- the written part knows sys.modules as a dict -/
def SysK (K : PySem.W.Frag) : Prop := ∃ o, K.lookup sysModules = some o ∧ o.cls = .type "dict"
section
variable {X : Cx} {pins : List (Addr × Obj)} {σ : L2.St} {H : Hp} {s : Shared} {p : Mt}
theorem not_sys (T : SysK X.K) (I : Inv X pins σ H s) {a : Addr} {o : Obj} (h : s.heap.get? a = some o) (hc : o.cls = .type "list") : a ≠ sysModules := fun e => by
  obtain ⟨o', hk, hc'⟩ := T
  have := I.kIn _ _ hk
  rw [← e, h] at this
  cases this
  rw [hc] at hc'
  exact absurd hc' (by decide)
theorem reads_keys {P : Program} {w : World} : ∀ {es : List DictEntry} {kvs : List (Key × Value)}, Pairs (mixKind P w) es kvs → ReadsAll s.heap (es.map (·.key)) (kvs.map fun kv => kPy kv.1) []
  | _, _, .nil => .nil
  | _, _, .cons (e := e) (kv := kv) h _ r => by
    have hr := reads_keys r
    rcases keyIs_shape h with ⟨i, t, e1, e2⟩ | ⟨x, t, e1, e2⟩
    · show ReadsAll s.heap (e.key :: _) (kPy kv.1 :: _) []
      rw [e1, e2]
      exact ReadsAll.cons (.int i t) hr
    · show ReadsAll s.heap (e.key :: _) (kPy kv.1 :: _) []
      rw [e1, e2]
      exact ReadsAll.cons (.str x t) hr
theorem pairs_vals {P : Program} {w : World} : ∀ {es : List DictEntry} {kvs : List (Key × Value)}, Pairs (mixKind P w) es kvs → es.map (·.val) = kvs.map (·.2)
  | _, _, .nil => rfl
  | _, _, .cons _ h r => by rw [List.map_cons, List.map_cons, h, pairs_vals r]
mutual
theorem reads_of (T : SysK X.K) (I : Inv X pins σ H s) : ∀ (d : D) (v : V) (x : PyData) (u : Value), Rep X.K (del p H) v d → pyD d = some x → RelV v u → ∃ as, Reads s.heap u x as ∧ sysModules ∉ as
  | .non, v, x, u, h, e, r => by
    cases e
    cases h
    cases (show u = Value.none from r)
    exact ⟨[], .none, by simp⟩
  | .bl b, v, x, u, h, e, r => by
    cases e
    cases h
    cases (show u = Value.bool b from r)
    exact ⟨[], .bool b, by simp⟩
  | .int i, v, x, u, h, e, r => by
    cases e
    cases h
    obtain ⟨t, rfl⟩ := (show ∃ t, u = Value.int i t from r)
    exact ⟨[], .int i t, by simp⟩
  | .str y, v, x, u, h, e, r => by
    cases e
    cases h
    obtain ⟨t, rfl⟩ := (show ∃ t, u = Value.str y t from r)
    exact ⟨[], .str y t, by simp⟩
  | .lst ds, v, x, u, h, e, r => by
    obtain ⟨a, ws, rfl, h1, rs⟩ := rep_lst h
    cases (show u = Value.ref a from r)
    unfold pyD at e
    cases e1 : pyDs ds with
    | none => rw [e1] at e; cases e
    | some xs =>
      rw [e1] at e
      cases e
      obtain ⟨its, vs, ⟨o, n, hg, hc, hd0, hd⟩, _⟩ := I.list (sl_of h1)
      obtain ⟨as, ra, na⟩ := readss_of T I ds ws xs its rs e1 vs
      exact ⟨a :: as, .list hg hc hd (by simpa using ra), by
        rw [List.mem_cons, not_or]
        exact ⟨Ne.symm (not_sys T I hg hc), na⟩⟩
  | .tup ds, v, x, u, h, e, r => by
    obtain ⟨a, ws, rfl, h1, rs⟩ := rep_tup h
    cases (show u = Value.ref a from r)
    unfold pyD at e
    cases e1 : pyDs ds with
    | none => rw [e1] at e; cases e
    | some xs =>
      rw [e1] at e
      cases e
      obtain ⟨its, vs, ⟨o, hg, hc, n, hd⟩, _⟩ := I.tuple (st_del h1)
      obtain ⟨as, ra, na⟩ := readss_of T I ds ws xs its rs e1 vs
      exact ⟨as, .tuple hg hc hd (by simpa using ra), na⟩
  | .dk ds, v, x, u, h, e, r => by
    cases h with
    | dk h1 rs =>
      rename_i a kvs
      cases (show u = Value.ref a from r)
      unfold pyD at e
      cases e1 : pyDk ds with
      | none => rw [e1] at e; cases e
      | some xs =>
        rw [e1] at e
        cases e
        obtain ⟨hz, hsm, vs, kv, o, es, ep, hg, hx, hd, _, pr, _⟩ := (show ObjOk X.prog X.w H s.heap a (.dK kvs) from (vw_of h1).rd.ok I.hok)
        obtain ⟨as, ra, na, ek⟩ := readsk_of T I ds kvs xs vs rs e1 kv
        refine ⟨a :: [] ++ as, .dict hg hx.1 hd ?_ ?_, ?_⟩
        · have := reads_keys (s := s) pr
          rw [← ek]
          exact this
        · rw [pairs_vals pr]
          exact ra
        · simp only [List.cons_append, List.nil_append, List.mem_cons, not_or]
          exact ⟨fun z => (beq_eq_false_iff_ne.mp hsm) z.symm, na⟩
  | .dt _, v, x, u, h, e, r => by cases e
  | .ins _ _, v, x, u, h, e, r => by cases e
  | .sx _ _, v, x, u, h, e, r => by cases e
  | .cl _, v, x, u, h, e, r => by cases e
  | .vd _ _, v, x, u, h, e, r => by cases e
  | .any, v, x, u, h, e, r => by cases e
  | .exv _ _, v, x, u, h, e, r => by cases e
theorem readss_of (T : SysK X.K) (I : Inv X pins σ H s) : ∀ (ds : List D) (vs : List V) (xs : List PyData) (us : List Value), Reps X.K (del p H) vs ds → pyDs ds = some xs → Vals vs us → ∃ as, ReadsAll s.heap us xs as ∧ sysModules ∉ as
  | [], vs, xs, us, h, e, r => by
    cases e
    cases h
    cases r
    exact ⟨[], .nil, by simp⟩
  | d :: ds, vs, xs, us, h, e, r => by
    cases h with
    | cons h0 rs =>
      unfold pyDs at e
      cases e1 : pyD d with
      | none => rw [e1] at e; cases e
      | some x =>
        cases e2 : pyDs ds with
        | none => rw [e1, e2] at e; cases e
        | some xs' =>
          rw [e1, e2] at e
          cases e
          cases r with
          | cons h1 h2 =>
            obtain ⟨as, ra, na⟩ := reads_of T I d _ x _ h0 e1 h1
            obtain ⟨bs, rb, nb⟩ := readss_of T I ds _ xs' _ rs e2 h2
            exact ⟨as ++ bs, .cons ra rb, by rw [List.mem_append, not_or]; exact ⟨na, nb⟩⟩
theorem readsk_of (T : SysK X.K) (I : Inv X pins σ H s) : ∀ (ds : List (Key × D)) (kvs : List (Key × V)) (xs : List (PyData × PyData)) (us : List (Key × Value)), RepK X.K (del p H) kvs ds → pyDk ds = some xs → KV kvs us → ∃ as, ReadsAll s.heap (us.map (·.2)) (xs.map (·.2)) as ∧ sysModules ∉ as ∧ (us.map fun kv => kPy kv.1) = xs.map (·.1)
  | [], kvs, xs, us, h, e, r => by
    cases e
    cases h
    cases r
    exact ⟨[], .nil, by simp, rfl⟩
  | (k, d) :: ds, kvs, xs, us, h, e, r => by
    cases h with
    | cons h0 rs =>
      unfold pyDk at e
      cases e1 : pyD d with
      | none => rw [e1] at e; cases e
      | some x =>
        cases e2 : pyDk ds with
        | none => rw [e1, e2] at e; cases e
        | some xs' =>
          rw [e1, e2] at e
          cases e
          cases r with
          | cons h1 h2 =>
            obtain ⟨q1, q2⟩ := h1
            obtain ⟨as, ra, na⟩ := reads_of T I d _ x _ h0 e1 q2
            obtain ⟨bs, rb, nb, ek⟩ := readsk_of T I ds _ xs' _ rs e2 h2
            refine ⟨as ++ bs, .cons ra rb, by rw [List.mem_append, not_or]; exact ⟨na, nb⟩, ?_⟩
            rw [List.map_cons, List.map_cons, ek]
            dsimp only at q1 ⊢
            rw [q1]
end
end
end Mo
set_option Elab.async false
set_option linter.all false
set_option maxRecDepth 100000
set_option maxHeartbeats 4000000
/-! Mo: repr(e) of data with dicts in them: the rule. -/
namespace Mo
open PySem PySem.Spec PySem.Calls L2 PyProof.Rows
section
variable {X : Cx} {W : WW} {e : Expr} {pos ps : Pos}
theorem call_reprD (T : SysK X.K) (hg : X.A.guards = some []) (hu : X.A.units + 64 < cLine) : CallR X (.builtin "repr") (fun xs J Q => ∃ v d p x, xs = [v] ∧ Rep X.K (del p J) v d ∧ pyD d = some x ∧ x.showable = true ∧ x.depth ≤ 60 ∧ x.shown.length ≤ sizeLine ∧ Q (.str x.shown) J) := by
  intro pins s σ J xs us Q I r h
  obtain ⟨v, d, p, x, rfl, hd, hx, hs, hp, hz, q⟩ := h
  obtain ⟨u, rfl, ru⟩ := vals1 r
  obtain ⟨as, rd, na⟩ := reads_of T I d v x u hd hx ru
  cases rd with
  | none =>
    have q2 : Q (.str "None") J := by simpa only [PyData.shown] using q
    exact PySem.P.repr_of_none ⟨.str "None", J, I.tok _, ⟨_, rfl⟩, q2⟩
  | bool b =>
    have q2 : Q (.str (if b = true then "True" else "False")) J := by simpa only [PyData.shown] using q
    exact PySem.P.repr_of_bool ⟨.str (if b = true then "True" else "False"), J, I.tok _, ⟨_, rfl⟩, q2⟩
  | int i t =>
    simp only [PyData.showable, decide_eq_true_eq] at hs
    have q2 : Q (.str (toString i)) J := by simpa only [PyData.shown] using q
    exact PySem.P.repr_of_int hs ⟨.str (toString i), J, I.tok _, ⟨_, rfl⟩, q2⟩
  | str y t =>
    simp only [PyData.shown] at hz
    have q2 : Q (.str (reprText y)) J := by simpa only [PyData.shown] using q
    exact PySem.P.repr_of_str ⟨.str (reprText y), J, I.tok _, ⟨_, rfl⟩, q2⟩ hz
  | list h1 h2 h3 h4 => exact repr_of_reads' (.list h1 h2 h3 h4) hs (fun _ => na) hg (by omega) (fun _ _ e => e) (fun h' t tk k => ⟨.str (PyData.shown _), J, I.kept (t' := tk) k, ⟨_, rfl⟩, q⟩) hz
  | tuple h1 h2 h3 h4 => exact repr_of_reads' (.tuple h1 h2 h3 h4) hs (fun _ => na) hg (by omega) (fun _ _ e => e) (fun h' t tk k => ⟨.str (PyData.shown _), J, I.kept (t' := tk) k, ⟨_, rfl⟩, q⟩) hz
  | dict h1 h2 h3 h4 h5 => exact repr_of_reads' (.dict h1 h2 h3 h4 h5) hs (fun _ => na) hg (by omega) (fun _ _ e => e) (fun h' t tk k => ⟨.str (PyData.shown _), J, I.kept (t' := tk) k, ⟨_, rfl⟩, q⟩) hz
def fReprD : List D → Option D
  | [d] => match pyD d with
    | some x => if x.showable = true ∧ x.depth ≤ 60 ∧ x.shown.length ≤ sizeLine then some (.str x.shown) else none
    | none => none
  | _ => none
theorem cs_reprD {K : PySem.W.Frag} : CS K (fun xs J Q => ∃ v d p x, xs = [v] ∧ Rep K (del p J) v d ∧ pyD d = some x ∧ x.showable = true ∧ x.depth ≤ 60 ∧ x.shown.length ≤ sizeLine ∧ Q (.str x.shown) J) fReprD := fun J p g σ H vs ds z Q R rs e q => by
  unfold fReprD at e
  split at e
  · split at e
    · split at e
      · rename_i x ex hc
        cases e
        obtain ⟨v, rfl, rv⟩ := reps1 rs
        exact ⟨v, _, p, x, rfl, rv, ex, hc.1, hc.2.1, hc.2.2, q p H .refl R _ (.str _)⟩
      · cases e
    · cases e
  · cases e
theorem e_reprD {ms : M (List D)} (T : SysK X.K) (hgd : X.A.guards = some []) (hu : X.A.units + 64 < cLine) (hm : X.mg "repr" = none) (ha : EA X W [e] ms) (hg : Gl X "repr" := by rfl) (he : starEach [e] X.env = (false, eval e X.env) :: starEach [] X.env := by rfl) (hpl : (backTo pos (starEach [] X.env)).any (·.1) = false := by rfl) :
    EF X W (.Call (.Name "repr" ps) [e] [] pos) (mCall fReprD ms) := e_blt (call_reprD T hgd hu) cs_reprD hm ha (hg := hg) (he := he) (hpl := hpl)
end
end Mo
set_option Elab.async false
set_option linter.all false
set_option maxRecDepth 100000
set_option maxHeartbeats 4000000
/-! Mo: a def that is called while an error is handled, with that error as its argument. -/
namespace Mo
open PySem PySem.Spec PySem.Calls L2 PyProof.Rows
open Lp (FnG okG callG)
/-- its promise; y: the error that is handled, and its object -/
structure FnQ (P : Program) (w : World) (K : PySem.W.Frag) (mg : Str → Option Value) (base : Heap) (CX : CXT) (k : Nat) (f : Addr) (fd : FuncData) (ps : List Str) (sp : Addr × Obj → Sp) : Prop where
  len : ∀ y vs H Q E, sp y vs H Q E → vs.length = ps.length
  go : ∀ (y : Addr × Obj) (B : Around) (fr : List Env) (st : Shared) (J : Hp) (ar : Args) (ws : List Value) (xs : List V) (R : VK) (Z : XK),
    L2H.RoomH k B → B.guards = some [] → L2H.PinOk fr J st y → Env0 P w K mg base B fr st J → BindsTo st fd ar (ps.zip ws) → Vals xs ws → sp y xs J R Z → codeAny (model P w) B (.call (.ref f) ar) (CR CX fr P w J st R Z) st
section
variable {P : Program} {w : World} {K : PySem.W.Frag} {mg : Str → Option Value} {base : Heap} {CX : CXT}
theorem okQ {x qual : Str} {st : Stmt} {f : Addr} {fd : FuncData} {N ps : List Str} {k : Nat} {sp : Addr × Obj → Sp} (F : Fun K x qual st f fd) (S : FnScope N ps (defScope st)) (len : ∀ y vs H Q E, sp y vs H Q E → vs.length = ps.length)
    (body : ∀ (y : Addr × Obj) (cdv : Value) (B : Around) (fr : List Env) (s : Shared) (J : Hp) (xs : List V) (R : VK) (Z : XK),
      L2H.RoomH k (B.deeper (envOfC qual (defScope st) s.heap.objs.size f cdv)) → (B.deeper (envOfC qual (defScope st) s.heap.objs.size f cdv)).guards = some [] → sp y xs J R Z →
      ∃ t, PSs (L2H.cxH CX P w K mg base N qual (defScope st) f cdv B fr s J Z y) (defBody st) t ∧ t { nx := fun _ H' => R .non H', rt := R } (start N xs) J) : FnQ P w K mg base CX (k + 1) f fd ps sp := by
  obtain ⟨oc, od, kV, doc, pm, an, cdv, ct, osl, rfl, lk, hcd⟩ := F.ex
  refine ⟨len, fun y B fr s J ar ws xs R Z hr hg hy e0 hb r hsp => ?_⟩
  have hl := len _ _ _ _ _ hsp
  have inH : ∀ b o, base.get? b = some o → s.heap.get? b = some o := fun b o e => (e0.bs b o e).1
  have KX : K.In s.heap := e0.mod.kin.keeps inH
  have par : ∀ z ∈ ps.zip ws, (defScope st).names.lookup z.1 = some .local ∨ ((defScope st).names.lookup z.1 = some .cell ∧ ((cellsFrom (s.heap.objs.size + 1) (defScope st).names []).lookup z.1).isSome = true) := fun z hz =>
    (S.par z.1 (List.of_mem_zip (show (z.1, z.2) ∈ ps.zip ws from hz)).1).elim .inl fun q => .inr ⟨q, PySem.W.cellsFrom_some _ _ _ (.inl q)⟩
  refine codeAny_call_function hr.depth (KX _ _ lk) rfl S.co S.gen rfl (PySem.W.codeRec_of KX hcd) (hb _ _ _ _ (wpAny_newFunctionEnv_cells S.kind par fun en hen s1 c1 => ?_))
  subst hen
  refine ⟨(e0.mod.nolimit.keeps inH).keeps c1.toInCall.keep, codeAny_func ?_⟩
  obtain ⟨t, ht, hq⟩ := body y cdv B fr s J xs R Z (hr.deeper _) hg hsp
  have I := L2H.inv_startH (CX := CX) (cd := cdv) (qual := qual) (f := f) (E := Z) S hy e0 hl r c1
  refine wpAny_mono (ht.run [] s1 (start N xs) J _ I hq) (fun fl s2 hs => ?_) fun _ _ z => z
  match fl, hs with
  | .ret u, ⟨v, _, H2, I2, rv, q⟩ => exact ⟨v, H2, I2.os, I2.bare, I2.base, I2.hok, rv, q⟩
  | .next, ⟨_, H2, I2, q⟩ => exact ⟨V.non, H2, I2.os, I2.bare, I2.base, I2.hok, rfl, q⟩
  | .brk, ⟨_, _, _, q⟩ => exact q.elim
  | .cont, ⟨_, _, _, q⟩ => exact q.elim
/-- a call of it -/
theorem callQ {X : Cx} {k : Nat} {f : Addr} {fd : FuncData} {ps : List Str} {sp : Addr × Obj → Sp} {x : Str} {p pos : Pos} {e : Expr} {es : List Expr} {t : TA} {Z : XK} {y : Addr × Obj} (hy : y ∈ X.pn) (F : FnQ X.prog X.w X.K X.mg X.base CX k f fd ps sp) (hr : L2H.RoomH k X.A) (hgd : X.A.guards = some [])
    (hg : Gl X x) (hm : X.mg x = some (.ref f)) (hk : PySem.W.keepIn X.K (.ref f) = true) (hb : Binds X.K fd ps []) (hx : Passes CX X Z)
    (ha : PA X (e :: es) t) (hdb : (x == ("__debug__" : Str)) = false := by decide) (he : starEach (e :: es) X.env = (false, eval e X.env) :: starEach es X.env := by rfl) (hpl : (backTo pos (starEach es X.env)).any (·.1) = false := by rfl) :
    PE X (.Call (.Name x p) (e :: es) [] pos) (fun σ H Q => t σ H fun vs H1 => sp y vs H1 Q Z) := by
  constructor
  intro pins s σ J R I h
  apply wpAny_Call_Name_kw
  refine ld_glob I hg hm (PySem.W.callWith_K (h₀ := X.base) I.ok.mod.kin hk (thn (ha.run pos pins s σ J _ I h) fun ws s1 z => ?_) he hpl) hdb
  obtain ⟨xs, J1, I1, r, q⟩ := z
  refine ⟨I1.kIn, ?_⟩
  have bt := hb s1 ws I1.kIn (by rw [List.append_nil, ← r.length]; exact F.len _ _ _ _ _ q)
  rw [List.append_nil] at bt
  obtain ⟨c1, c2, c3, c4, c5⟩ := I1.pin y (List.mem_append_left _ hy)
  have hp : L2H.PinOk X.stack J1 s1 y := ⟨c1, c2, fun m => by
    rcases List.mem_cons.mp (I1.stkSub y.1 m) with z | z
    · exact c3 z
    · exact c4 z, c5⟩
  refine wpAny_call (codeAny_mono (F.go y X.A X.stack s1 J1 ⟨ws, []⟩ ws xs R Z hr hgd hp I1.env0 bt r q) fun o s2 w2 => ?_)
  match o, w2 with
  | .error e, w2 => exact hx pins σ J1 s1 e s2 I1 w2
  | .ok (.ret u), w2 => exact I1.after w2
end
/-! ### an expression that reads the handled error, kept in slot i -/
def PinS (i : Nat) (a : Addr) : L2.St → Mt → Hp → Prop := fun σ _ _ => σ[i]? = some (some (.ref a))
theorem pinS_stay {i : Nat} {a : Addr} : Stay (PinS i a) := fun _ h => h
theorem call_isP {X : Cx} {a D : Addr} {oe : Obj} (hy : (a, oe) ∈ X.pn) (C : ExcC X.K D) (h1 : oe.cls = .ref D) (h2 : oe.dict = none) (h3 : ∃ vs, oe.data = .fields vs) : CallR X (.builtin "isinstance") (rIsE X.K D a) := by
  intro pins s σ H xs us Q I r h
  obtain ⟨c, cv, b, rfl, hcv, e, q⟩ := h
  obtain ⟨u1, u2, rfl, r1, r2⟩ := vals2 r
  cases (show u1 = Value.ref a from r1)
  have e2 := hcv _ r2
  subst e2
  obtain ⟨hget, _⟩ := I.pin (a, oe) (List.mem_append_left _ hy)
  obtain ⟨vs, hv⟩ := h3
  obtain ⟨oc, od, oda, osl⟩ := oe
  dsimp only at h1 h2 hv
  subst h1 h2 hv
  exact PySem.W.kia_one (PySem.W.handS_kitx_exc C.hg C.hk C.hs C.hd C.ha C.hn C.ht C.hm) I.kIn (⟨hget, rfl, rfl, trivial⟩ : PySem.W.InstAt s.heap a _ D none) e (fun z => nomatch z) fun tk => ⟨.bl b, H, I.kept (t' := tk) fun _ _ z => z, rfl, q⟩
section
variable {X : Cx} {W : WW} {P : L2.St → Mt → Hp → Prop} {a b e : Expr} {pos ps : Pos} {ma mb m : M D} {i : Nat} {y : Addr}
theorem p_bin (hst : Stay P) {op : Operator} {r2 : R2} {f : D → D → Option D} (ho : OpR X (binaryOp op) r2) (hs : OpS X.K r2 f) (ha : EFp X W P a ma) (hb : EFp X W P b mb) : EFp X W P (.BinOp a op b pos) (mBin f ma mb) := fun J p g σ H R0 h0 r hm Q hp =>
  of_pe (pe_op ho semE semE) (ha.then hst R0 h0 hm hp fun x g1 p1 H1 v ad1 R1 q1 rv hm1 hp1 => hb.then hst R1 q1 hm1 hp1 fun z g2 p2 H2 u ad2 R2 q2 rw' hm2 hp2 => by
    obtain ⟨o, ho, hq⟩ := post_lift hm2 hp2 R2
    exact hs J p2 g2 σ H2 v u x z o Q R2 (rv.le ad2.le) rw' ho hq)
/-- a call of a built-in class or function with one argument -/
def mCall1 (f : List D → Option D) (m : M D) : M D := m.bind fun d => lift (f [d])
theorem p_ty1 (hst : Stay P) {x : Str} {id : String} {rr : List V → Hp → VK → Prop} {f : List D → Option D} (hc : CallR X (.type id) rr) (hs : CS X.K rr f) (hm : X.mg x = none) (ha : EFp X W P e m) (hv : bootBuiltins x = some (.type id) := by decide +kernel) (hg : Gl X x := by rfl)
    (hn : x ≠ "__name__" := by decide) (hdb : (x == ("__debug__" : Str)) = false := by decide) (he : starEach [e] X.env = (false, eval e X.env) :: starEach [] X.env := by rfl) (hpl : (backTo pos (starEach [] X.env)).any (·.1) = false := by rfl) :
    EFp X W P (.Call (.Name x ps) [e] [] pos) (mCall1 f m) := fun J p g σ H R0 h0 r hm' Q hp =>
  of_pe (pe_callTy hc hg hm hv (pa_cons semE pa_nil he) hn hdb he hpl) (ha.then hst R0 h0 hm' hp fun d g1 p1 H1 v ad1 R1 q1 rv hm1 hp1 => by
    obtain ⟨z, hz, hq⟩ := post_lift hm1 hp1 R1
    exact hs J p1 g1 σ H1 [v] [d] z Q R1 (.cons rv .nil) hz hq)
theorem p_blt1 (hst : Stay P) {x : Str} {id : String} {rr : List V → Hp → VK → Prop} {f : List D → Option D} (hc : CallR X (.builtin id) rr) (hs : CS X.K rr f) (hm : X.mg x = none) (ha : EFp X W P e m) (hv : bootBuiltins x = some (.builtin id) := by decide +kernel) (hg : Gl X x := by rfl)
    (hn : x ≠ "__name__" := by decide) (hdb : (x == ("__debug__" : Str)) = false := by decide) (he : starEach [e] X.env = (false, eval e X.env) :: starEach [] X.env := by rfl) (hpl : (backTo pos (starEach [] X.env)).any (·.1) = false := by rfl) :
    EFp X W P (.Call (.Name x ps) [e] [] pos) (mCall1 f m) := fun J p g σ H R0 h0 r hm' Q hp =>
  of_pe (pe_callB hc hg hm hv (pa_cons semE pa_nil he) hn hdb he hpl) (ha.then hst R0 h0 hm' hp fun d g1 p1 H1 v ad1 R1 q1 rv hm1 hp1 => by
    obtain ⟨z, hz, hq⟩ := post_lift hm1 hp1 R1
    exact hs J p1 g1 σ H1 [v] [d] z Q R1 (.cons rv .nil) hz hq)
/-- isinstance(e, c), e the handled error -/
theorem p_isP {n : Str} {p1 : Pos} {ec : Expr} {C : Addr} {oe : Obj} {c : V} {cv : Value} {k : Bool} (hy : (y, oe) ∈ X.pn) (T : ExcC X.K C) (h1 : oe.cls = .ref C) (h2 : oe.dict = none) (h3 : ∃ vs, oe.data = .fields vs) (hk : PySem.W.kitOne X.K (.ref C) cv = some k)
    (hm : X.mg "isinstance" = none) (hc : PE X ec (tC c)) (hcv : ∀ u, RelV c u → u = cv) (hi : X.N[i]? = some n) (hln : Vis X.env.scope n) (hg : Gl X "isinstance" := by rfl) (hd : (n == ("__debug__" : Str)) = false := by decide) (hcd : (n == ("__classdict__" : Str)) = false := by decide)
    (he : starEach [.Name n p1, ec] X.env = (false, eval (.Name n p1) X.env) :: starEach [ec] X.env := by rfl) (he2 : starEach [ec] X.env = (false, eval ec X.env) :: starEach [] X.env := by rfl) (hpl : (backTo pos (starEach [ec] X.env)).any (·.1) = false := by rfl) :
    EFp X W (PinS i y) (.Call (.Name "isinstance" ps) [.Name n p1, ec] [] pos) (ret (.bl k)) := fun J p g σ H R0 h0 r hm' Q hp => by
  cases hm'
  exact of_pe (pe_callB (call_isP hy T h1 h2 h3) hg hm (by decide +kernel) (pa_cons (pe_var hi hln hd hcd) (pa_cons hc pa_nil he2) he) (by decide) (by decide) he hpl) ⟨.ref y, h0, c, cv, k, rfl, hcv, hk, hp p H .refl R0 _ (.bl k)⟩
end
/-! ### a body: assignments to one name, and return -/
def mSetT (j : Nat) (m : M D) (k : M Oc) : M Oc := m.bind fun d g => k (g.set j (.v d))
inductive SbP (X : Cx) (i : Nat) (y : Addr) (j : Nat) : List Stmt → M Oc → Prop
  | ret {e : Expr} {m : M D} {pos : Pos} (h : EFp X WN (PinS i y) e m) : SbP X i y j [.Return (some e) pos] (mRet m)
  | set {e : Expr} {m : M D} {k : M Oc} {x : Str} {px pos : Pos} {rest : List Stmt} (h : EFp X WN (PinS i y) e m) (r : SbP X i y j rest k) (hi : X.N[j]? = some x := by rfl) (hx : Loc X.env.scope x := by first | exact Or.inl rfl | exact Or.inr rfl)
      (hs : swapsWith e (some (.Name x px)) pos.line X.env = pure false := by rfl) (hf : X.fn x = true ∨ X.env.scope.names.lookup x = some .local := by first | exact .inl rfl | exact .inr rfl) : SbP X i y j (.Assign [.Name x px] e pos :: rest) (mSetT j m k)
theorem SbP.sem {X : Cx} {i j : Nat} {y : Addr} (nd : X.N.Nodup) (hij : j ≠ i) {b : List Stmt} {m : M Oc} (h : SbP X i y j b m) : ∀ {J : Hp} {p : Mt} {g : G} {σ : L2.St} {H : Hp}, Rl X.K J p g σ H → PinS i y σ p H → ∀ {r : R Oc}, m g = some r → ∀ {Dd : Ends}, PostS X.K WN J p H r Dd → SemSs X b Dd σ H := by
  induction h with
  | ret h =>
    intro J p g σ H R0 h0 r hm Dd hp
    obtain ⟨r1, e1, hq⟩ := post_s R0 hm hp
    refine of_pss (pss_one (ps_ret semE)) (h J p g σ H R0 h0 r1 e1 _ (hq _ fun d g1 p1 H1 er ad R1 hk hp1 v rv => ?_))
    cases hk
    exact hp1 _ p1 H1 v .refl R1 rv
  | set h r hi hx hs hf ih =>
    intro J p g σ H R0 h0 ro hm Dd hp
    obtain ⟨r1, e1, hq⟩ := post_s R0 hm hp
    refine of_pss (pss_cons (ps_set nd hi hx semE hs hf) semSs) (h J p g σ H R0 h0 r1 e1 _ (hq _ fun d g1 p1 H1 er ad R1 hk hp1 v rv => ?_))
    exact ih (R1.setV rv) (show (σ.set _ (some v))[i]? = _ by rw [List.getElem?_set_ne hij]; exact h0) hk hp1
end Mo
set_option Elab.async false
set_option linter.all false
set_option maxRecDepth 100000
set_option maxHeartbeats 4000000
/-! Mo: such a def by its body, and its call. -/
namespace Mo
open PySem PySem.Spec PySem.Calls L2 PyProof.Rows
open Lp (FnG okG callG)
/-- the class of the handled error tells the answer -/
def spE (K : PySem.W.Frag) (F : Addr → FD) : Addr × Obj → Sp := fun y vs J Q _ => ∃ (p : Mt) (c : C3) (C : Addr) (d : D) (c' : C3), vs = [.ref y.1] ∧ y.2.cls = .ref C ∧ y.2.dict = none ∧ (∃ fs, y.2.data = .fields fs) ∧ Hd K p J c ∧ F C [.any] c = some (d, c') ∧
  ∀ v J2, Af K p p J J2 c' → Rep K (del p J2) v d → Q v J2
open Classical in
noncomputable def runE (all : List Addr) (n k : Nat) (m : Addr → M Oc) : Addr → FD := fun C ds c => if C ∈ all then runM false n k (m C) ds c else none
section
variable {P : Program} {w : World} {K : PySem.W.Frag} {mg : Str → Option Value} {base : Heap} {x qual : Str} {st : Stmt} {f : Addr} {fd : FuncData} {N ps : List Str} {k j : Nat} {m : Addr → M Oc} {all : List Addr}
abbrev XH (P : Program) (w : World) (K : PySem.W.Frag) (mg : Str → Option Value) (base : Heap) (N : List Str) (qual : Str) (st : Stmt) (f : Addr) (cdv : Value) (B : Around) (fr : List Env) (s : Shared) (J : Hp) (Z : XK) (y : Addr × Obj) : Cx :=
  L2H.cxH CX0 P w K mg base N qual (defScope st) f cdv B fr s J Z y
theorem okE (F : Fun K x qual st f fd) (S : FnScope N ps (defScope st)) (h1 : ps.length = 1) (hj : j ≠ 0)
    (body : ∀ (C : Addr), C ∈ all → ∀ (y : Addr × Obj) (cdv : Value) (B : Around) (fr : List Env) (s : Shared) (J0 : Hp) (Z : XK), y.2.cls = .ref C → y.2.dict = none → (∃ fs, y.2.data = .fields fs) → (y.1, y.2) ∈ (XH P w K mg base N qual st f cdv B fr s J0 Z y).pn →
      L2H.RoomH k (XH P w K mg base N qual st f cdv B fr s J0 Z y).A → (XH P w K mg base N qual st f cdv B fr s J0 Z y).A.guards = some [] → SbP (XH P w K mg base N qual st f cdv B fr s J0 Z y) 0 y.1 j (defBody st) (m C)) :
    FnQ P w K mg base CX0 (k + 1) f fd ps (spE K (runE all N.length ps.length m)) := by
  refine okQ F S (fun y vs J Q Z ⟨p, c, C, d, c', e, _⟩ => by rw [e, h1]; rfl) fun y cdv B fr s J vs Q Z hr hg ⟨p, c, C, d, c', ev, y1, y2, y3, hd, e, q⟩ => ⟨_, semSs, ?_⟩
  subst ev
  unfold runE at e
  split at e
  · rename_i hC
    unfold runM at e
    split at e
    · cases e1 : m C ⟨ini false N.length [.any], c⟩ with
      | none =>
        rw [e1] at e
        cases e
      | some r1 =>
        rw [e1] at e
        refine (body C hC y cdv B fr s J Z y1 y2 y3 (List.mem_singleton.mpr rfl) hr hg).sem S.nd hj (rl_start (dice := false) (vs := [.ref y.1]) (ws := [.ref y.1]) (ds := [.any]) rfl hd (.cons (.any _) .nil)) rfl e1 ?_
        have fin : ∀ {p' : Mt} {H' : Hp} {g' : G} {σ' : L2.St}, As J p J p' H' → Rl K J p' g' σ' H' → Af K p p J H' g'.c := fun a R => ⟨fun b o n e => R.old b o (by rw [a.dd]; exact n) e, fun b e => (R.dice b (by rw [a.dd]; exact e)).le (le_back (fun a m => mut_ne (hd.lv a m)) a.dd a.ex) rfl, R.fz⟩
        cases r1 with
        | ex E g => cases e
        | ok o g =>
          cases o with
          | nx =>
            cases e
            exact fun σ' p' H' a R => q _ H' (fin a R) .non
          | rt d =>
            cases e
            exact fun σ' p' H' v a R rv => q v H' (fin a R) (rv.le (le_back (fun a m => mut_ne (hd.lv a m)) a.dd a.ex))
          | rto o =>
            cases e
            refine fun σ' p' H' y a R h1 h2 h3 h4 => q _ H' (fin a R) ?_
            obtain ⟨R2, e2⟩ := R.show_ h3 h1
            refine ((h4.le del_rem rfl).rep e2).le (le_back (p' := p'.rem y) (fun a m => mut_ne (hd.lv a m)) a.dd fun b hb n => List.mem_filter.mpr ⟨a.ex b hb n, decide_eq_true fun z => n (z ▸ h2)⟩)
          | bk => cases e
          | ct => cases e
    · cases e
  · cases e
end
section
variable {X : Cx} {W : WW} {pos ps : Pos} {i k : Nat} {y f : Addr} {fd : FuncData} {qs : List Str} {x : Str}
theorem p_fnE {F : Addr → FD} {n : Str} {p1 : Pos} {C : Addr} {oe : Obj} (hy : (y, oe) ∈ X.pn) (h1 : oe.cls = .ref C) (h2 : oe.dict = none) (h3 : ∃ vs, oe.data = .fields vs) (hF : FnQ X.prog X.w X.K X.mg X.base CX0 k f fd qs (spE X.K F)) (hr : L2H.RoomH k X.A) (hgd : X.A.guards = some [])
    (hm : X.mg x = some (.ref f)) (hk : PySem.W.keepIn X.K (.ref f) = true) (hb : Binds X.K fd qs []) (hi : X.N[i]? = some n) (hln : Vis X.env.scope n) (hg : Gl X x := by rfl) (hd : (n == ("__debug__" : Str)) = false := by decide) (hcd : (n == ("__classdict__" : Str)) = false := by decide)
    (hdb : (x == ("__debug__" : Str)) = false := by decide) (he : starEach [.Name n p1] X.env = (false, eval (.Name n p1) X.env) :: starEach [] X.env := by rfl) (hpl : (backTo pos (starEach [] X.env)).any (·.1) = false := by rfl) :
    EFp X W (PinS i y) (.Call (.Name x ps) [.Name n p1] [] pos) (mFn (F C) (ret [.any])) := fun J p g σ H R0 h0 r hm' Q hp => by
  have hm2 : liftC (F C [.any]) g = some r := hm'
  obtain ⟨d, c, e1, rfl⟩ := liftC_some hm2
  refine of_pe (callQ (y := (y, oe)) hy hF hr hgd hg hm hk hb pass0 (pa_cons (pe_var hi hln hd hcd) pa_nil he) hdb he hpl) ⟨.ref y, h0, p, g.c, C, d, c, rfl, h1, h2, h3, R0.hd, e1, fun v J2 a rv => ?_⟩
  obtain ⟨R2, ad2⟩ := R0.after a
  exact hp p J2 ad2 R2 v rv
end
end Mo
set_option Elab.async false
set_option linter.all false
set_option maxRecDepth 100000
set_option maxHeartbeats 4000000
/-! Mo: try with several clauses that all name their error alike. -/
namespace Mo
open PySem PySem.Spec PySem.Calls L2 PyProof.Rows
open Lp (FnG okG callG)
/-- what the clauses wish of an error of the body, one after the other; slot i is the name's -/
def wishA (K : PySem.W.Frag) (i : Nat) (Wo : WX) (Dd : Ends) : List (Value × (Addr → Value → Option Addr → TS)) → WX
  | [] => Wo
  | (c, ts) :: r => fun cls d σ H => ∃ b, PySem.W.exmOne K cls c = some b ∧
      (b = true → ∀ a, H a = none → ts a cls d { nx := fun σ' H' => Dd.nx (σ'.set i none) H', rt := Dd.rt, bk := fun σ' H' => Dd.bk (σ'.set i none) H', ct := fun σ' H' => Dd.ct (σ'.set i none) H' } (σ.set i (some (.ref a))) H) ∧ (b = false → wishA K i Wo Dd r cls d σ H)
inductive HdsA (X : Cx) (n : Str) : List ExceptHandler → List (Value × (Addr → Value → Option Addr → TS)) → Prop
  | nil : HdsA X n [] []
  | cons {x : Str} {c : Value} {ts : Addr → Value → Option Addr → TS} {b0 : Stmt} {su : List Stmt} {np pp : Pos} {hs : List ExceptHandler} {l : List (Value × (Addr → Value → Option Addr → TS))} (hc : Names X x c)
      (ok : ∀ (a : Addr) (oe : Obj) (cls : Value) (d : Option Addr) (pn : List (Addr × Obj)), Zc cls d oe → (∃ vs, oe.data = .fields vs) → PSs (X.suite a ((a, oe) :: pn)) (b0 :: su) (ts a cls d)) (r : HdsA X n hs l) :
      HdsA X n (.ExceptHandler (some (.Name x np)) (some n) (b0 :: su) pp :: hs) ((c, ts) :: l)
section
variable {X : Cx} {body : List Stmt} {h0 : ExceptHandler} {hds : List ExceptHandler} {l : List (Value × (Addr → Value → Option Addr → TS))} {pos : Pos} {tb : WX → TS} {Wo : WX} {i : Nat} {n : Str}
theorem ps_tryA (hs : X.stack = X.env :: X.outer) (hf : X.env.frame = some X.env.locals) (hN : X.N.Nodup) (hi : X.N[i]? = some n) (hln : X.env.kindOf n = some .local) (tk : Takes X Wo)
    (hb : ∀ (W1 : WX) (pn : List (Addr × Obj)) (xe : Value → Shared → Prop), Takes (X.tr pn xe) W1 → PassesOwn (model X.prog X.w) X.A X.env xe → PSs (X.tr pn xe) body (tb W1))
    (hh : HdsA X n (h0 :: hds) l) : PS X (.Try body (h0 :: hds) [] [] pos) (fun Dd σ H => tb (wishA X.K i Wo Dd l) Dd σ H) := by
  constructor
  intro pins s0 σ H Dd I h
  have ok := I.ok
  have frm : X.A.frames = some (X.env :: X.outer) := by rw [ok.frames, hs]
  apply wpAny_Try_except
  have caught : ∀ (u : Value) (s' : Shared), L2.XE (X.tr (X.pn ++ pins) (fun e s1 => wpAny (model X.prog X.w) X.A (noteFrame e X.env) (fun _ s2 => wpAny (model X.prog X.w) X.A (setFlight e none) (fun _ s3 => wpAny (model X.prog X.w) X.A (handleBy e X.env (h0 :: hds)) (SP X pins Dd) X.xe s3) X.xe s2) X.xe s1)) (wishA X.K i Wo Dd l) u s' →
      wpAny (model X.prog X.w) X.A (noteFrame u X.env) (fun _ s2 => wpAny (model X.prog X.w) X.A (setFlight u none) (fun _ s3 => wpAny (model X.prog X.w) X.A (handleBy u X.env (h0 :: hds)) (SP X pins Dd) X.xe s3) X.xe s2) X.xe s' := by
    intro u s' xx
    obtain ⟨a, B0, sI, pn2, σ1, H1, cls, d, rfl, I2, nb, up, sky, na, os, ag, w⟩ := xx
    have I1 : Inv X pins σ1 H1 sI := I2.ofTry ok
    have sky1 : Sky B0 (X.env :: X.outer) a (Zc cls d) X.env.locals s'.heap := by rw [← hs]; exact sky
    refine Sky.land Zc.steady frm hf sky1 fun hA flA upA => ?_
    have IA : Inv X pins σ1 H1 { s' with heap := hA } := I1.landed nb flA.1 (up.trans upA) os ag
    obtain ⟨oA, vA, eA, zA, dA⟩ := flA.there
    have noF : a ∉ frs (X.env :: X.outer) := fun hm => by
      obtain ⟨_, o2, e2, nf⟩ := flA.2.2.1.mem hm
      rw [eA] at e2
      cases e2
      exact nf _ dA
    have ne1 : a ≠ X.env.locals := fun z => noF (List.mem_filterMap.mpr ⟨X.env, List.mem_cons_self, by rw [hf, z]⟩)
    have ne2 : a ∉ X.fs := fun hm => by
      obtain ⟨e, he, q⟩ := List.mem_filterMap.mp hm
      exact noF (List.mem_filterMap.mpr ⟨e, List.mem_cons_of_mem _ he, q⟩)
    have SA := IA.suite eA dA na ne1 ne2
    have go : ∀ {hs2 : List ExceptHandler} {l2 : List (Value × (Addr → Value → Option Addr → TS))}, HdsA X n hs2 l2 → wishA X.K i Wo Dd l2 cls d σ1 H1 → wpAny (model X.prog X.w) X.A (handleBy (.ref a) X.env hs2) (SP X pins Dd) X.xe { s' with heap := hA } := by
      intro hs2 l2 hk
      induction hk with
      | nil =>
        intro w
        apply wpAny_handleBy_nil
        obtain ⟨_, _, _, oe, vs, Tb, oT, tv, g1, _, g3, g4, _⟩ := id flA
        unfold PySem.passOn
        refine wpAny_bind (wpAny_field g1 g3 g4 ?_)
        rw [if_neg (show ¬ ((Value.ref Tb == Value.none) = true) from by simp)]
        have fin : wpAny (model X.prog X.w) X.A (setFlight (.ref a) X.env.frame) (fun _ s4 => wpAny (model X.prog X.w) X.A (throw (.ref a) : Sem Flow) (SP X pins Dd) X.xe s4) X.xe { s' with heap := hA } := by
          rw [hf]
          exact HandSPX.setFlight_upZ flA fun hB flB upB => wpAny_throw (tk _ _ ⟨a, B0, sI, pins, σ1, H1, cls, d, rfl, I1, nb, (up.trans upA).trans upB, .inr (.inr (by rw [hs]; exact flB)), na, os, ag, w⟩)
        first
          | exact wpAny_bind (wpAny_pure (wpAny_bind fin))
          | exact wpAny_bind fin
      | @cons x c ts b0 su np pp hs3 l3 hc oks r ih =>
        intro w
        obtain ⟨b, hb1, yes, no⟩ := w
        refine wpAny_handleBy_cons (codeAny_handlers_test ?_) (by intro q; cases q)
        have LT : PySem.W.Looks (model X.prog X.w) hA (typeOf (.ref a)) cls := fun _ _ _ _ k q => wpAny_typeOf_ref (k _ _ eA) (by rw [zA.1]; exact q)
        have LM := PySem.W.exm_one (M := model X.prog X.w) IA.kIn LT hb1
        have asks : ∀ {Q E : Value → Shared → Prop}, Q c { s' with heap := hA } → wpAny (model X.prog X.w) (X.A.mark (some (.ref a))) (eval (.Name x np) X.env) Q E { s' with heap := hA } := fun {Q E} q => by
          obtain ⟨k1, k2, k3 | ⟨k3, k4, k5⟩⟩ := hc
          · exact ld_glob (X := X.suite a ((a, oA) :: (X.pn ++ pins))) SA k1 k3 q k2
          · exact ld_blt (X := X.suite a ((a, oA) :: (X.pn ++ pins))) SA k1 k3 k4 q k5 k2
        refine asks (LM.here ?_)
        cases b with
        | false =>
          show wpAny _ X.A (handleBy (.ref a) X.env hs3) _ _ _
          exact ih (no rfl)
        | true =>
          refine codeAny_handlers_suite_as (HandSPX.lands_againZ flA fun hB flB upB => ?_)
          have IB : Inv X pins σ1 H1 { s' with heap := hB } := I1.landed nb flB.1 ((up.trans upA).trans upB) os ag
          obtain ⟨oB, vB, eB, zB, dB⟩ := flB.there
          have SB0 := IB.suite eB dB na ne1 ne2
          refine store_ok (X := X.suite a ((a, oB) :: (X.pn ++ pins))) (v := .ref a) SB0 hN hi (.inl hln) rfl (fun s5 S5 => ?_) (.inr hln)
          have gone : ∀ {σ6 : L2.St} {H6 : Hp} {s6 : Shared} {Q : Shared → Prop}, Inv (X.suite a ((a, oB) :: (X.pn ++ pins))) [] σ6 H6 s6 → (∀ s7, Inv X pins (σ6.set i none) H6 s7 → Q s7) →
              wpAny (model X.prog X.w) X.A (do bindName X.env n .none; unbindBehindTheSuite X.env n pp) (fun _ s7 => Q s7) X.xe s6 := fun S6 hq => gone_ok (S6.unsuite ok) hN hi hln hq
          refine wpAny_mono ((oks a oB cls d (X.pn ++ pins) zB ⟨_, dB⟩).run [] s5 _ H1 _ S5 (yes rfl a na)) (fun fl s6 hsp => ?_) (fun _ _ z => False.elim z)
          match fl, hsp with
          | .next, ⟨_, _, S6, q6⟩ => exact gone S6 fun s7 J7 => ⟨_, _, J7, q6⟩
          | .brk, ⟨_, _, S6, q6⟩ => exact gone S6 fun s7 J7 => ⟨_, _, J7, q6⟩
          | .cont, ⟨_, _, S6, q6⟩ => exact gone S6 fun s7 J7 => ⟨_, _, J7, q6⟩
          | .ret u, ⟨_, _, _, S6, r6, q6⟩ => exact gone S6 fun s7 J7 => ⟨_, _, _, J7, r6, q6⟩
    exact go hh w
  refine wpAny_mono ((hb (wishA X.K i Wo Dd l) (X.pn ++ pins) _ caught PassesOwn.looking).run [] s0 σ H Dd (I.toTry _) h) (fun fl s1 hsp => ?_) (fun _ _ z => z)
  match fl, hsp with
  | .next, ⟨σ2, H2, I2, q⟩ => exact wpAny_execs_nil ⟨σ2, H2, I2.ofTry ok, q⟩
  | .brk, ⟨σ2, H2, I2, q⟩ => exact ⟨σ2, H2, I2.ofTry ok, q⟩
  | .cont, ⟨σ2, H2, I2, q⟩ => exact ⟨σ2, H2, I2.ofTry ok, q⟩
  | .ret u, ⟨v, σ2, H2, I2, rv, q⟩ => exact ⟨v, σ2, H2, I2.ofTry ok, rv, q⟩
end
end Mo
set_option Elab.async false
set_option linter.all false
set_option maxRecDepth 100000
set_option maxHeartbeats 4000000
/-! Mo: try with several clauses that name their error: what it does. -/
namespace Mo
open PySem PySem.Spec PySem.Calls L2 PyProof.Rows
open Lp (FnG okG callG)
def pickA (tab : Str → Str → Bool) (i : Nat) (E : Exn) (g : G) : List (Str × (Exn → M Oc)) → Option (R Oc)
  | [] => some (.ex E g)
  | (y, mh) :: r => if tab (nmE E) y = true then (if isUn g.s[i]? = true then (match mh E g with
    | some (.ok o g2) => if isUn g2.s[i]? = true then some (.ok o g2) else none
    | _ => none) else none) else pickA tab i E g r
def mTryA (adr : Str → Addr) (names : List Str) (tab : Str → Str → Bool) (i : Nat) (mb : M Oc) (hs : List (Str × (Exn → M Oc))) : M Oc := fun g => match mb g with
  | some (.ex E g') => if E.C = adr (nmE E) ∧ nmE E ∈ names then pickA tab i E g' hs else none
  | r => r
/-- the suite of a clause -/
def SuiteA (X : Cx) (adr : Str → Addr) (names : List Str) (tab : Str → Bool) (i : Nat) (suite : List Stmt) (mh : Exn → M Oc) : Prop :=
  ∀ (n : Str), n ∈ names → tab n = true → ∀ (a : Addr) (oe : Obj) (pn : List (Addr × Obj)) (d : Option Addr), Zc (.ref (adr n)) d oe → (∃ vs, oe.data = .fields vs) → ∀ (J : Hp) (p : Mt) (g : G) (σ : L2.St) (H : Hp) (E : Exn), nmE E = n → EDict X.K p H E d → Rl X.K J p g σ H →
    σ[i]? = some (some (.ref a)) → g.s[i]? = some .un → ∀ r, mh E g = some r → ∀ Dd : Ends, PostS X.K WN J p H r Dd → SemSs (X.suite a ((a, oe) :: pn)) suite Dd σ H
inductive HdA (X : Cx) (adr : Str → Addr) (names : List Str) (tab : Str → Str → Bool) (i : Nat) (n : Str) : List ExceptHandler → List (Str × (Exn → M Oc)) → List (Value × (Addr → Value → Option Addr → TS)) → Prop
  | nil : HdA X adr names tab i n [] [] []
  | cons {y : Str} {b0 : Stmt} {su : List Stmt} {np pp : Pos} {m : Exn → M Oc} {hs : List ExceptHandler} {ms : List (Str × (Exn → M Oc))} {l : List (Value × (Addr → Value → Option Addr → TS))} (hc : Names X y (.ref (adr y)))
      (hx : ∀ n ∈ names, PySem.W.exmOne X.K (.ref (adr n)) (.ref (adr y)) = some (tab n y)) (ok : SuiteA X adr names (fun n => tab n y) i (b0 :: su) m) (r : HdA X adr names tab i n hs ms l) :
      HdA X adr names tab i n (.ExceptHandler (some (.Name y np)) (some n) (b0 :: su) pp :: hs) ((y, m) :: ms) ((.ref (adr y), tsOf X (b0 :: su)) :: l)
section
variable {X : Cx} {W : WW} {adr : Str → Addr} {names : List Str} {tab : Str → Str → Bool} {i : Nat} {n : Str} {mb : M Oc} {body : List Stmt} {h0 : ExceptHandler} {hds : List ExceptHandler} {ms : List (Str × (Exn → M Oc))} {l : List (Value × (Addr → Value → Option Addr → TS))} {pos : Pos}
theorem HdA.rule {hs : List ExceptHandler} {ms : List (Str × (Exn → M Oc))} {l : List (Value × (Addr → Value → Option Addr → TS))} (h : HdA X adr names tab i n hs ms l) : HdsA X n hs l := by
  induction h with
  | nil => exact .nil
  | cons hc hx ok r ih => exact .cons hc (fun a oe cls d pn hz hd => ⟨fun pins s σ H D I q => (q oe pn hz hd).run pins s I⟩) ih
theorem s_tryA (hs : X.stack = X.env :: X.outer) (hf : X.env.frame = some X.env.locals) (hN : X.N.Nodup) (hi : X.N[i]? = some n) (hln : X.env.kindOf n = some .local) (ho : OutsP X W)
    (hb : ∀ (pn : List (Addr × Obj)) (xe : Value → Shared → Prop) (W' : WW), OutsP (X.tr pn xe) W' → SB (X.tr pn xe) W' body mb) (hh : HdA X adr names tab i n (h0 :: hds) ms l) :
    SS X W (.Try body (h0 :: hds) [] [] pos) (mTryA adr names tab i mb ms) := fun J p g σ H R0 r hm Dd hp => by
  have key : ∀ {E : Exn} {g1 : G}, E.C = adr (nmE E) → nmE E ∈ names → ∀ {hs2 : List ExceptHandler} {ms2 : List (Str × (Exn → M Oc))} {l2 : List (Value × (Addr → Value → Option Addr → TS))}, HdA X adr names tab i n hs2 ms2 l2 → pickA tab i E g1 ms2 = some r →
      ∀ σ' p' H', As J p H p' H' → Rl X.K J p' g1 σ' H' → ∀ d, EDict X.K p' H' E d → wishA X.K i (fun cls d σ H => ∃ E g p, cls = .ref E.C ∧ EDict X.K p H E d ∧ W E g p σ H) Dd l2 (.ref E.C) d σ' H' := fun {E g1} hC hn {hs2 ms2 l2} hk => by
    induction hk with
    | nil =>
      intro e σ' p' H' a R d hd
      cases e
      exact ⟨E, g1, p', rfl, hd, hp σ' p' H' a R⟩
    | @cons y b0 su np pp m hs3 ms3 l3 hc hx ok r2 ih =>
      intro e σ' p' H' a R d hd
      refine ⟨tab (nmE E) y, by rw [hC]; exact hx _ hn, fun ht b hbn oe pn hz hdt => ?_, fun ht => ?_⟩
      · simp only [pickA, if_pos ht] at e
        split at e
        · rename_i hu
          have hu := isUn_eq hu
          split at e
          · rename_i o g2 em
            split at e
            · rename_i hu2
              have hu2 := isUn_eq hu2
              cases e
              rw [hC] at hz
              have il : i < σ'.length := by
                rw [← R.len]
                exact (List.getElem?_eq_some_iff.mp hu).1
              refine ok (nmE E) hn ht b oe pn d hz hdt J p' g1 _ H' E rfl hd (R.setUn hu) (by rw [List.getElem?_set_self il]) hu _ em _ ?_
              have hp2 := hp.adv a
              cases o with
              | nx => exact fun σ2 p2 H2 a2 R2 => hp2 _ p2 H2 a2 (R2.setUn hu2)
              | ct => exact fun σ2 p2 H2 a2 R2 => hp2 _ p2 H2 a2 (R2.setUn hu2)
              | bk => exact fun σ2 p2 H2 a2 R2 => hp2 _ p2 H2 a2 (R2.setUn hu2)
              | rt d2 => exact fun σ2 p2 H2 v2 a2 R2 => hp2 σ2 p2 H2 v2 a2 R2
              | rto o2 => exact fun σ2 p2 H2 q a2 R2 => hp2 σ2 p2 H2 q a2 R2
            · cases e
          · cases e
        · cases e
      · simp only [pickA, ht, Bool.false_eq_true, if_false] at e
        exact ih e σ' p' H' a R d hd
  have run : ∀ (W1 : WX), (∀ r1, mb g = some r1 → PostS X.K (fun E _ p' σ' H' => ∀ d, EDict X.K p' H' E d → W1 (.ref E.C) d σ' H') J p H r1 Dd) → (∃ r1, mb g = some r1) → ∀ pn xe, Takes (X.tr pn xe) W1 → SemSs (X.tr pn xe) body Dd σ H := fun W1 h ⟨r1, e1⟩ pn xe tk =>
    hb pn xe (fun E _ p' σ' H' => ∀ d, EDict X.K p' H' E d → W1 (.ref E.C) d σ' H') (tk.imp fun cls d σ' H' ⟨E, g', p', h1, h2, h3⟩ => by subst h1; exact h3 d h2) J p g σ H R0 r1 e1 Dd (h r1 e1)
  refine of_ps (ps_tryA (tb := fun W1 D σ H => ∀ pn xe, Takes (X.tr pn xe) W1 → SemSs (X.tr pn xe) body D σ H) hs hf hN hi hln ho (fun W1 pn xe tk _ => ⟨fun pins s σ H D I q => (q pn xe tk).run pins s I⟩) hh.rule) ?_
  unfold mTryA at hm
  cases e1 : mb g with
  | none => rw [e1] at hm; cases hm
  | some r1 =>
    rw [e1] at hm
    refine run _ (fun r1' e1' => ?_) ⟨_, e1⟩
    rw [e1] at e1'
    cases e1'
    cases r1 with
    | ok o g1 =>
      cases hm
      exact PostS.ch hp
    | ex E g1 =>
      dsimp only at hm
      split at hm
      · rename_i hC
        exact fun σ' p' H' a R d hd => key hC.1 hC.2 hh hm σ' p' H' a R d hd
      · cases hm
end
/-! ### suites that return an expression -/
section
variable {X : Cx} {adr : Str → Addr} {names : List Str} {tab : Str → Bool} {i : Nat} {f : Str} {e : Expr} {pos : Pos}
/-- the error's field is read -/
def mhF (f : Str) (m : D → M D) : Exn → M Oc := fun E g => match E.fs with
  | _ :: (f', x) :: _ => if f' = f then mRet (m x) g else none
  | _ => none
theorem suite_f (m : D → M D) (h : ∀ y ∈ names, tab y = true → ∀ (a : Addr) (oe : Obj) (pn : List (Addr × Obj)) (dd : Addr) (v : V) (x : D), Zc (.ref (adr y)) (some dd) oe → (∃ vs, oe.data = .fields vs) → EFp (X.suite a ((a, oe) :: pn)) WN (PinE X.K i a dd f v x) e (m x)) :
    SuiteA X adr names tab i [.Return (some e) pos] (mhF f m) := fun y hy ht a oe pn d hz hv J p g σ H E en hd R ha hu r hm Dd hp => by
  unfold mhF at hm
  split at hm
  · rename_i z f' x rest hfs
    split at hm
    · rename_i hf
      subst hf
      unfold EDict at hd
      rw [hfs] at hd
      obtain ⟨dd, v, rfl, h1, h2⟩ := hd
      exact suite_ret (X := X) (adr := adr) (names := names) (tab := tab) (i := i) m h y hy ht a oe pn dd hz hv J p g σ H x v R ha hu h1 h2 r hm Dd hp
    · cases hm
  · cases hm
/-- the error itself is handed on; it keeps nothing -/
def mhN (adr : Str → Addr) (m : Addr → M D) : Exn → M Oc := fun E g => match E.fs with
  | [(n, _)] => mRet (m (adr n)) g
  | _ => none
theorem suite_n (m : Addr → M D) (h : ∀ y ∈ names, tab y = true → ∀ (a : Addr) (oe : Obj) (pn : List (Addr × Obj)), Zc (.ref (adr y)) none oe → (∃ vs, oe.data = .fields vs) → EFp (X.suite a ((a, oe) :: pn)) WN (PinS i a) e (m (adr y))) :
    SuiteA X adr names tab i [.Return (some e) pos] (mhN adr m) := fun y hy ht a oe pn d hz hv J p g σ H E en hd R ha hu r hm Dd hp => by
  unfold mhN at hm
  split at hm
  · rename_i n1 z1 hfs
    have e1 : n1 = y := by
      rw [← en]
      unfold nmE
      rw [hfs]
    subst e1
    unfold EDict at hd
    rw [hfs] at hd
    have hd : d = none := hd
    subst hd
    obtain ⟨r1, e1, hq⟩ := post_s R hm hp
    refine of_pss (pss_one (ps_ret semE)) (h n1 hy ht a oe pn hz hv J p g σ H R ha r1 e1 _ (hq _ fun d g1 p1 H1 er ad R1 hk hp1 v rv => ?_))
    cases hk
    exact hp1 _ p1 H1 v .refl R1 rv
  · cases hm
end
end Mo
set_option Elab.async false
set_option linter.all false
set_option maxRecDepth 100000
set_option maxHeartbeats 4000000
/-! Mo: raise C('text') where errors may keep a field; what is told of all error classes. -/
namespace Mo
open PySem PySem.Spec PySem.Calls L2 PyProof.Rows
theorem s_raiseY {X : Cx} {W : WW} {adr : Str → Addr} {bmB : List Value} {B newId initId : String} {y m : Str} {j : Nat} {p1 p2 p3 pos : Pos} (F : ExcBaseFacts B newId initId bmB) (q : PySem.W.excIn X.K (adr y) bmB newId = true) (gC : X.mg y = some (.ref (adr y))) (kC : PySem.W.keepIn X.K (.ref (adr y)) = true) (rs : Raises X (.ref (adr y)))
    (hc : X.calm = true) (ho : OutsP X W) (hg : Gl X y := by rfl) (hdb : (y == ("__debug__" : Str)) = false := by decide) : SS X W (.Raise (some (.Call (.Name y p1) [.Constant (.str m) j p2] [] p3)) none pos) (mRaise adr y) := fun J p g σ H R0 r hm Dd hp => by
  cases hm
  exact of_ps (ps_raise hc ho (pmk_own F q gC kC rs hg hdb)) ⟨mkE adr y, g, p, rfl, rfl, hp σ p H .refl R0⟩
theorem bt_ValueError : bootBuiltins "ValueError" = some (.type "ValueError") := by decide +kernel
theorem bt_KeyError : bootBuiltins "KeyError" = some (.type "KeyError") := by decide +kernel
theorem bt_IndexError : bootBuiltins "IndexError" = some (.type "IndexError") := by decide +kernel
theorem bt_LookupError : bootBuiltins "LookupError" = some (.type "LookupError") := by decide +kernel
theorem bt_RuntimeError : bootBuiltins "RuntimeError" = some (.type "RuntimeError") := by decide +kernel
theorem bt_OverflowError : bootBuiltins "OverflowError" = some (.type "OverflowError") := by decide +kernel
theorem bt_ArithmeticError : bootBuiltins "ArithmeticError" = some (.type "ArithmeticError") := by decide +kernel
end Mo
set_option Elab.async false
set_option linter.all false
set_option maxRecDepth 100000
set_option maxHeartbeats 4000000
set_option exponentiation.threshold 9000
namespace K402
open PySem PySem.Spec L2 Mo
open Lp (FnG)
def topS (i : Nat) : Stmt := PySem.Challenge.pw_lastprices_k02_errors_kept_and_caught.main.body.getD i (.Pass ⟨0, 0, 0, 0⟩)
structure CA where
  w : World
  ad : Str → Addr
abbrev allE (c : CA) : List Addr := (["PriceError", "InvalidMachine", "InvalidText", "InvalidPattern", "InvalidSquare", "InvalidCosts", "InvalidRow", "InvalidPaper", "InvalidOperation", "ParseError", "UnknownName", "NotTaken", "InvalidNumber", "NothingToUndo", "TooMany", "Unstable", "Refused"] : List Str).map c.ad
abbrev subE_ArithmeticError (c : CA) : List Addr := (["TooMany", "Unstable", "Refused"] : List Str).map c.ad
abbrev subE_IndexError (c : CA) : List Addr := (["InvalidNumber"] : List Str).map c.ad
abbrev subE_InvalidCosts (c : CA) : List Addr := (["InvalidCosts"] : List Str).map c.ad
abbrev subE_InvalidMachine (c : CA) : List Addr := (["InvalidMachine"] : List Str).map c.ad
abbrev subE_InvalidNumber (c : CA) : List Addr := (["InvalidNumber"] : List Str).map c.ad
abbrev subE_InvalidOperation (c : CA) : List Addr := (["InvalidOperation"] : List Str).map c.ad
abbrev subE_InvalidPaper (c : CA) : List Addr := (["InvalidPaper"] : List Str).map c.ad
abbrev subE_InvalidPattern (c : CA) : List Addr := (["InvalidPattern"] : List Str).map c.ad
abbrev subE_InvalidRow (c : CA) : List Addr := (["InvalidRow"] : List Str).map c.ad
abbrev subE_InvalidSquare (c : CA) : List Addr := (["InvalidSquare"] : List Str).map c.ad
abbrev subE_InvalidText (c : CA) : List Addr := (["InvalidText"] : List Str).map c.ad
abbrev subE_KeyError (c : CA) : List Addr := (["UnknownName"] : List Str).map c.ad
abbrev subE_LookupError (c : CA) : List Addr := (["UnknownName", "NotTaken", "InvalidNumber"] : List Str).map c.ad
abbrev subE_NotTaken (c : CA) : List Addr := (["NotTaken"] : List Str).map c.ad
abbrev subE_NothingToUndo (c : CA) : List Addr := (["NothingToUndo"] : List Str).map c.ad
abbrev subE_OverflowError (c : CA) : List Addr := (["TooMany"] : List Str).map c.ad
abbrev subE_ParseError (c : CA) : List Addr := (["ParseError"] : List Str).map c.ad
abbrev subE_PriceError (c : CA) : List Addr := (["PriceError", "InvalidMachine", "InvalidText", "InvalidPattern", "InvalidSquare", "InvalidCosts", "InvalidRow", "InvalidPaper", "InvalidOperation", "ParseError"] : List Str).map c.ad
abbrev subE_Refused (c : CA) : List Addr := (["Refused"] : List Str).map c.ad
abbrev subE_RuntimeError (c : CA) : List Addr := (["NothingToUndo"] : List Str).map c.ad
abbrev subE_TooMany (c : CA) : List Addr := (["TooMany"] : List Str).map c.ad
abbrev subE_UnknownName (c : CA) : List Addr := (["UnknownName"] : List Str).map c.ad
abbrev subE_Unstable (c : CA) : List Addr := (["Unstable"] : List Str).map c.ad
abbrev subE_ValueError (c : CA) : List Addr := (["PriceError", "InvalidMachine", "InvalidText", "InvalidPattern", "InvalidSquare", "InvalidCosts", "InvalidRow", "InvalidPaper", "InvalidOperation", "ParseError"] : List Str).map c.ad
structure TF (c : CA) (K : PySem.W.Frag) (mg : Str → Option Value) (w : World) where
  ww : c.w = w
  z_ArithmeticError : mg "ArithmeticError" = none
  z_IndexError : mg "IndexError" = none
  z_KeyError : mg "KeyError" = none
  z_LookupError : mg "LookupError" = none
  z_OverflowError : mg "OverflowError" = none
  z_RuntimeError : mg "RuntimeError" = none
  z_ValueError : mg "ValueError" = none
  z_abs : mg "abs" = none
  z_int : mg "int" = none
  z_isinstance : mg "isinstance" = none
  z_len : mg "len" = none
  z_max : mg "max" = none
  z_min : mg "min" = none
  z_range : mg "range" = none
  z_repr : mg "repr" = none
  xg_InvalidCosts : mg "InvalidCosts" = some (.ref (c.ad "InvalidCosts"))
  xk_InvalidCosts : PySem.W.keepIn K (.ref (c.ad "InvalidCosts")) = true
  xi_InvalidCosts : PySem.W.excIn K (c.ad "InvalidCosts") bmV "ValueError.__new__" = true
  xr_InvalidCosts : PySem.W.subIn K (.ref (c.ad "InvalidCosts")) (.type "BaseException") = some true ∧ PySem.W.typeIn K (.ref (c.ad "InvalidCosts")) = some (.type "type")
  xg_InvalidMachine : mg "InvalidMachine" = some (.ref (c.ad "InvalidMachine"))
  xk_InvalidMachine : PySem.W.keepIn K (.ref (c.ad "InvalidMachine")) = true
  xi_InvalidMachine : PySem.W.excIn K (c.ad "InvalidMachine") bmV "ValueError.__new__" = true
  xr_InvalidMachine : PySem.W.subIn K (.ref (c.ad "InvalidMachine")) (.type "BaseException") = some true ∧ PySem.W.typeIn K (.ref (c.ad "InvalidMachine")) = some (.type "type")
  xg_InvalidOperation : mg "InvalidOperation" = some (.ref (c.ad "InvalidOperation"))
  xk_InvalidOperation : PySem.W.keepIn K (.ref (c.ad "InvalidOperation")) = true
  xi_InvalidOperation : PySem.W.excIn K (c.ad "InvalidOperation") bmV "ValueError.__new__" = true
  xr_InvalidOperation : PySem.W.subIn K (.ref (c.ad "InvalidOperation")) (.type "BaseException") = some true ∧ PySem.W.typeIn K (.ref (c.ad "InvalidOperation")) = some (.type "type")
  xg_InvalidPaper : mg "InvalidPaper" = some (.ref (c.ad "InvalidPaper"))
  xk_InvalidPaper : PySem.W.keepIn K (.ref (c.ad "InvalidPaper")) = true
  xi_InvalidPaper : PySem.W.excIn K (c.ad "InvalidPaper") bmV "ValueError.__new__" = true
  xr_InvalidPaper : PySem.W.subIn K (.ref (c.ad "InvalidPaper")) (.type "BaseException") = some true ∧ PySem.W.typeIn K (.ref (c.ad "InvalidPaper")) = some (.type "type")
  xg_InvalidPattern : mg "InvalidPattern" = some (.ref (c.ad "InvalidPattern"))
  xk_InvalidPattern : PySem.W.keepIn K (.ref (c.ad "InvalidPattern")) = true
  xi_InvalidPattern : PySem.W.excIn K (c.ad "InvalidPattern") bmV "ValueError.__new__" = true
  xr_InvalidPattern : PySem.W.subIn K (.ref (c.ad "InvalidPattern")) (.type "BaseException") = some true ∧ PySem.W.typeIn K (.ref (c.ad "InvalidPattern")) = some (.type "type")
  xg_InvalidRow : mg "InvalidRow" = some (.ref (c.ad "InvalidRow"))
  xk_InvalidRow : PySem.W.keepIn K (.ref (c.ad "InvalidRow")) = true
  xi_InvalidRow : PySem.W.excIn K (c.ad "InvalidRow") bmV "ValueError.__new__" = true
  xr_InvalidRow : PySem.W.subIn K (.ref (c.ad "InvalidRow")) (.type "BaseException") = some true ∧ PySem.W.typeIn K (.ref (c.ad "InvalidRow")) = some (.type "type")
  xg_InvalidSquare : mg "InvalidSquare" = some (.ref (c.ad "InvalidSquare"))
  xk_InvalidSquare : PySem.W.keepIn K (.ref (c.ad "InvalidSquare")) = true
  xi_InvalidSquare : PySem.W.excIn K (c.ad "InvalidSquare") bmV "ValueError.__new__" = true
  xr_InvalidSquare : PySem.W.subIn K (.ref (c.ad "InvalidSquare")) (.type "BaseException") = some true ∧ PySem.W.typeIn K (.ref (c.ad "InvalidSquare")) = some (.type "type")
  xg_InvalidText : mg "InvalidText" = some (.ref (c.ad "InvalidText"))
  xk_InvalidText : PySem.W.keepIn K (.ref (c.ad "InvalidText")) = true
  xi_InvalidText : PySem.W.excIn K (c.ad "InvalidText") bmV "ValueError.__new__" = true
  xr_InvalidText : PySem.W.subIn K (.ref (c.ad "InvalidText")) (.type "BaseException") = some true ∧ PySem.W.typeIn K (.ref (c.ad "InvalidText")) = some (.type "type")
  xg_PriceError : mg "PriceError" = some (.ref (c.ad "PriceError"))
  xk_PriceError : PySem.W.keepIn K (.ref (c.ad "PriceError")) = true
  xi_PriceError : PySem.W.excIn K (c.ad "PriceError") bmV "ValueError.__new__" = true
  xr_PriceError : PySem.W.subIn K (.ref (c.ad "PriceError")) (.type "BaseException") = some true ∧ PySem.W.typeIn K (.ref (c.ad "PriceError")) = some (.type "type")
  xg_InvalidNumber : mg "InvalidNumber" = some (.ref (c.ad "InvalidNumber"))
  f_InvalidNumber_init : Addr
  d_InvalidNumber_init : FuncData
  F_InvalidNumber_init : Fun K "__init__" "InvalidNumber.__init__" (inClass (topS 13) 0) f_InvalidNumber_init d_InvalidNumber_init
  b_InvalidNumber_init : L2.Binds K d_InvalidNumber_init ["self", "value"] []
  oe_InvalidNumber : OexG K (c.ad "InvalidNumber") "IndexError" "IndexError.__new__" "IndexError.__init__" bmI
  on_InvalidNumber : PySem.W.takerIn K (c.ad "InvalidNumber") "value" = some none
  oi_InvalidNumber : PySem.W.findIn K (.ref (c.ad "InvalidNumber")) "__init__" = some (some (.ref f_InvalidNumber_init))
  ot_InvalidNumber : PySem.W.typeIn K (.ref f_InvalidNumber_init) = some (.type "function")
  xf_InvalidNumber : XfC K (c.ad "InvalidNumber") ∧ PySem.W.findIn K (.ref (c.ad "InvalidNumber")) "value" = some none
  xg_NotTaken : mg "NotTaken" = some (.ref (c.ad "NotTaken"))
  f_NotTaken_init : Addr
  d_NotTaken_init : FuncData
  F_NotTaken_init : Fun K "__init__" "NotTaken.__init__" (inClass (topS 12) 0) f_NotTaken_init d_NotTaken_init
  b_NotTaken_init : L2.Binds K d_NotTaken_init ["self", "untaken"] []
  oe_NotTaken : OexG K (c.ad "NotTaken") "LookupError" "LookupError.__new__" "LookupError.__init__" bmL
  on_NotTaken : PySem.W.takerIn K (c.ad "NotTaken") "untaken" = some none
  oi_NotTaken : PySem.W.findIn K (.ref (c.ad "NotTaken")) "__init__" = some (some (.ref f_NotTaken_init))
  ot_NotTaken : PySem.W.typeIn K (.ref f_NotTaken_init) = some (.type "function")
  xf_NotTaken : XfC K (c.ad "NotTaken") ∧ PySem.W.findIn K (.ref (c.ad "NotTaken")) "untaken" = some none
  xg_NothingToUndo : mg "NothingToUndo" = some (.ref (c.ad "NothingToUndo"))
  f_NothingToUndo_init : Addr
  d_NothingToUndo_init : FuncData
  F_NothingToUndo_init : Fun K "__init__" "NothingToUndo.__init__" (inClass (topS 14) 0) f_NothingToUndo_init d_NothingToUndo_init
  b_NothingToUndo_init : L2.Binds K d_NothingToUndo_init ["self", "many"] []
  oe_NothingToUndo : OexG K (c.ad "NothingToUndo") "RuntimeError" "RuntimeError.__new__" "RuntimeError.__init__" bmR
  on_NothingToUndo : PySem.W.takerIn K (c.ad "NothingToUndo") "many" = some none
  oi_NothingToUndo : PySem.W.findIn K (.ref (c.ad "NothingToUndo")) "__init__" = some (some (.ref f_NothingToUndo_init))
  ot_NothingToUndo : PySem.W.typeIn K (.ref f_NothingToUndo_init) = some (.type "function")
  xf_NothingToUndo : XfC K (c.ad "NothingToUndo") ∧ PySem.W.findIn K (.ref (c.ad "NothingToUndo")) "many" = some none
  xg_ParseError : mg "ParseError" = some (.ref (c.ad "ParseError"))
  f_ParseError_init : Addr
  d_ParseError_init : FuncData
  F_ParseError_init : Fun K "__init__" "ParseError.__init__" (inClass (topS 10) 0) f_ParseError_init d_ParseError_init
  b_ParseError_init : L2.Binds K d_ParseError_init ["self", "number"] []
  oe_ParseError : OexG K (c.ad "ParseError") "ValueError" "ValueError.__new__" "ValueError.__init__" bmV
  on_ParseError : PySem.W.takerIn K (c.ad "ParseError") "number" = some none
  oi_ParseError : PySem.W.findIn K (.ref (c.ad "ParseError")) "__init__" = some (some (.ref f_ParseError_init))
  ot_ParseError : PySem.W.typeIn K (.ref f_ParseError_init) = some (.type "function")
  xf_ParseError : XfC K (c.ad "ParseError") ∧ PySem.W.findIn K (.ref (c.ad "ParseError")) "number" = some none
  xg_Refused : mg "Refused" = some (.ref (c.ad "Refused"))
  f_Refused_init : Addr
  d_Refused_init : FuncData
  F_Refused_init : Fun K "__init__" "Refused.__init__" (inClass (topS 17) 0) f_Refused_init d_Refused_init
  b_Refused_init : L2.Binds K d_Refused_init ["self", "pledge"] []
  oe_Refused : OexG K (c.ad "Refused") "ArithmeticError" "ArithmeticError.__new__" "ArithmeticError.__init__" bmA
  on_Refused : PySem.W.takerIn K (c.ad "Refused") "pledge" = some none
  oi_Refused : PySem.W.findIn K (.ref (c.ad "Refused")) "__init__" = some (some (.ref f_Refused_init))
  ot_Refused : PySem.W.typeIn K (.ref f_Refused_init) = some (.type "function")
  xf_Refused : XfC K (c.ad "Refused") ∧ PySem.W.findIn K (.ref (c.ad "Refused")) "pledge" = some none
  xg_TooMany : mg "TooMany" = some (.ref (c.ad "TooMany"))
  f_TooMany_init : Addr
  d_TooMany_init : FuncData
  F_TooMany_init : Fun K "__init__" "TooMany.__init__" (inClass (topS 15) 0) f_TooMany_init d_TooMany_init
  b_TooMany_init : L2.Binds K d_TooMany_init ["self", "limit"] []
  oe_TooMany : OexG K (c.ad "TooMany") "OverflowError" "OverflowError.__new__" "OverflowError.__init__" bmO
  on_TooMany : PySem.W.takerIn K (c.ad "TooMany") "limit" = some none
  oi_TooMany : PySem.W.findIn K (.ref (c.ad "TooMany")) "__init__" = some (some (.ref f_TooMany_init))
  ot_TooMany : PySem.W.typeIn K (.ref f_TooMany_init) = some (.type "function")
  xf_TooMany : XfC K (c.ad "TooMany") ∧ PySem.W.findIn K (.ref (c.ad "TooMany")) "limit" = some none
  xg_UnknownName : mg "UnknownName" = some (.ref (c.ad "UnknownName"))
  f_UnknownName_init : Addr
  d_UnknownName_init : FuncData
  F_UnknownName_init : Fun K "__init__" "UnknownName.__init__" (inClass (topS 11) 0) f_UnknownName_init d_UnknownName_init
  b_UnknownName_init : L2.Binds K d_UnknownName_init ["self", "word"] []
  oe_UnknownName : OexG K (c.ad "UnknownName") "KeyError" "LookupError.__new__" "KeyError.__init__" bmK
  on_UnknownName : PySem.W.takerIn K (c.ad "UnknownName") "word" = some none
  oi_UnknownName : PySem.W.findIn K (.ref (c.ad "UnknownName")) "__init__" = some (some (.ref f_UnknownName_init))
  ot_UnknownName : PySem.W.typeIn K (.ref f_UnknownName_init) = some (.type "function")
  xf_UnknownName : XfC K (c.ad "UnknownName") ∧ PySem.W.findIn K (.ref (c.ad "UnknownName")) "word" = some none
  xg_Unstable : mg "Unstable" = some (.ref (c.ad "Unstable"))
  f_Unstable_init : Addr
  d_Unstable_init : FuncData
  F_Unstable_init : Fun K "__init__" "Unstable.__init__" (inClass (topS 16) 0) f_Unstable_init d_Unstable_init
  b_Unstable_init : L2.Binds K d_Unstable_init ["self", "part"] []
  oe_Unstable : OexG K (c.ad "Unstable") "ArithmeticError" "ArithmeticError.__new__" "ArithmeticError.__init__" bmA
  on_Unstable : PySem.W.takerIn K (c.ad "Unstable") "part" = some none
  oi_Unstable : PySem.W.findIn K (.ref (c.ad "Unstable")) "__init__" = some (some (.ref f_Unstable_init))
  ot_Unstable : PySem.W.typeIn K (.ref f_Unstable_init) = some (.type "function")
  xf_Unstable : XfC K (c.ad "Unstable") ∧ PySem.W.findIn K (.ref (c.ad "Unstable")) "part" = some none
  xm_InvalidCosts_NotTaken : PySem.W.exmOne K (.ref (c.ad "InvalidCosts")) (.ref (c.ad "NotTaken")) = some false
  xm_InvalidCosts_ParseError : PySem.W.exmOne K (.ref (c.ad "InvalidCosts")) (.ref (c.ad "ParseError")) = some false
  xm_InvalidCosts_PriceError : PySem.W.exmOne K (.ref (c.ad "InvalidCosts")) (.ref (c.ad "PriceError")) = some true
  xm_InvalidCosts_Refused : PySem.W.exmOne K (.ref (c.ad "InvalidCosts")) (.ref (c.ad "Refused")) = some false
  xm_InvalidCosts_Unstable : PySem.W.exmOne K (.ref (c.ad "InvalidCosts")) (.ref (c.ad "Unstable")) = some false
  xm_NotTaken_NotTaken : PySem.W.exmOne K (.ref (c.ad "NotTaken")) (.ref (c.ad "NotTaken")) = some true
  xm_NotTaken_ParseError : PySem.W.exmOne K (.ref (c.ad "NotTaken")) (.ref (c.ad "ParseError")) = some false
  xm_NotTaken_PriceError : PySem.W.exmOne K (.ref (c.ad "NotTaken")) (.ref (c.ad "PriceError")) = some false
  xm_NotTaken_Refused : PySem.W.exmOne K (.ref (c.ad "NotTaken")) (.ref (c.ad "Refused")) = some false
  xm_NotTaken_Unstable : PySem.W.exmOne K (.ref (c.ad "NotTaken")) (.ref (c.ad "Unstable")) = some false
  xm_ParseError_NotTaken : PySem.W.exmOne K (.ref (c.ad "ParseError")) (.ref (c.ad "NotTaken")) = some false
  xm_ParseError_ParseError : PySem.W.exmOne K (.ref (c.ad "ParseError")) (.ref (c.ad "ParseError")) = some true
  xm_ParseError_PriceError : PySem.W.exmOne K (.ref (c.ad "ParseError")) (.ref (c.ad "PriceError")) = some true
  xm_ParseError_Refused : PySem.W.exmOne K (.ref (c.ad "ParseError")) (.ref (c.ad "Refused")) = some false
  xm_ParseError_Unstable : PySem.W.exmOne K (.ref (c.ad "ParseError")) (.ref (c.ad "Unstable")) = some false
  xm_Unstable_NotTaken : PySem.W.exmOne K (.ref (c.ad "Unstable")) (.ref (c.ad "NotTaken")) = some false
  xm_Unstable_ParseError : PySem.W.exmOne K (.ref (c.ad "Unstable")) (.ref (c.ad "ParseError")) = some false
  xm_Unstable_PriceError : PySem.W.exmOne K (.ref (c.ad "Unstable")) (.ref (c.ad "PriceError")) = some false
  xm_Unstable_Refused : PySem.W.exmOne K (.ref (c.ad "Unstable")) (.ref (c.ad "Refused")) = some false
  xm_Unstable_Unstable : PySem.W.exmOne K (.ref (c.ad "Unstable")) (.ref (c.ad "Unstable")) = some true
  iv_ArithmeticError : IsVC K (allE c) (subE_ArithmeticError c) (.type "ArithmeticError")
  iv_IndexError : IsVC K (allE c) (subE_IndexError c) (.type "IndexError")
  iv_InvalidCosts : IsVC K (allE c) (subE_InvalidCosts c) (.ref (c.ad "InvalidCosts"))
  iv_InvalidMachine : IsVC K (allE c) (subE_InvalidMachine c) (.ref (c.ad "InvalidMachine"))
  iv_InvalidNumber : IsVC K (allE c) (subE_InvalidNumber c) (.ref (c.ad "InvalidNumber"))
  iv_InvalidOperation : IsVC K (allE c) (subE_InvalidOperation c) (.ref (c.ad "InvalidOperation"))
  iv_InvalidPaper : IsVC K (allE c) (subE_InvalidPaper c) (.ref (c.ad "InvalidPaper"))
  iv_InvalidPattern : IsVC K (allE c) (subE_InvalidPattern c) (.ref (c.ad "InvalidPattern"))
  iv_InvalidRow : IsVC K (allE c) (subE_InvalidRow c) (.ref (c.ad "InvalidRow"))
  iv_InvalidSquare : IsVC K (allE c) (subE_InvalidSquare c) (.ref (c.ad "InvalidSquare"))
  iv_InvalidText : IsVC K (allE c) (subE_InvalidText c) (.ref (c.ad "InvalidText"))
  iv_KeyError : IsVC K (allE c) (subE_KeyError c) (.type "KeyError")
  iv_LookupError : IsVC K (allE c) (subE_LookupError c) (.type "LookupError")
  iv_NotTaken : IsVC K (allE c) (subE_NotTaken c) (.ref (c.ad "NotTaken"))
  iv_NothingToUndo : IsVC K (allE c) (subE_NothingToUndo c) (.ref (c.ad "NothingToUndo"))
  iv_OverflowError : IsVC K (allE c) (subE_OverflowError c) (.type "OverflowError")
  iv_ParseError : IsVC K (allE c) (subE_ParseError c) (.ref (c.ad "ParseError"))
  iv_PriceError : IsVC K (allE c) (subE_PriceError c) (.ref (c.ad "PriceError"))
  iv_Refused : IsVC K (allE c) (subE_Refused c) (.ref (c.ad "Refused"))
  iv_RuntimeError : IsVC K (allE c) (subE_RuntimeError c) (.type "RuntimeError")
  iv_TooMany : IsVC K (allE c) (subE_TooMany c) (.ref (c.ad "TooMany"))
  iv_UnknownName : IsVC K (allE c) (subE_UnknownName c) (.ref (c.ad "UnknownName"))
  iv_Unstable : IsVC K (allE c) (subE_Unstable c) (.ref (c.ad "Unstable"))
  iv_ValueError : IsVC K (allE c) (subE_ValueError c) (.type "ValueError")
  dj : ((["PriceError", "InvalidMachine", "InvalidText", "InvalidPattern", "InvalidSquare", "InvalidCosts", "InvalidRow", "InvalidPaper", "InvalidOperation", "ParseError", "UnknownName", "NotTaken", "InvalidNumber", "NothingToUndo", "TooMany", "Unstable", "Refused"] : List Str).map c.ad).Nodup
  sys : SysK K
  f__law_dice : Addr
  d__law_dice : FuncData
  F__law_dice : Fun K "_law_dice" "_law_dice" (topS 19) f__law_dice d__law_dice
  b__law_dice : Binds K d__law_dice ["_law_script", "_law_spot"] []
  m__law_dice : mg "_law_dice" = some (.ref f__law_dice)
  f__law_roll : Addr
  d__law_roll : FuncData
  F__law_roll : Fun K "_law_roll" "_law_roll" (topS 20) f__law_roll d__law_roll
  b__law_roll : Binds K d__law_roll ["_law_dice_here", "_law_total"] []
  m__law_roll : mg "_law_roll" = some (.ref f__law_roll)
  f__law_pick : Addr
  d__law_pick : FuncData
  F__law_pick : Fun K "_law_pick" "_law_pick" (topS 21) f__law_pick d__law_pick
  b__law_pick : Binds K d__law_pick ["_law_dice_here", "_law_items"] []
  m__law_pick : mg "_law_pick" = some (.ref f__law_pick)
  f__law_own : Addr
  d__law_own : FuncData
  F__law_own : Fun K "_law_own" "_law_own" (topS 22) f__law_own d__law_own
  b__law_own : Binds K d__law_own ["_law_error"] []
  m__law_own : mg "_law_own" = some (.ref f__law_own)
  f__law_whole : Addr
  d__law_whole : FuncData
  F__law_whole : Fun K "_law_whole" "_law_whole" (topS 23) f__law_whole d__law_whole
  b__law_whole : Binds K d__law_whole ["_law_error"] []
  m__law_whole : mg "_law_whole" = some (.ref f__law_whole)
  f__law_messages : Addr
  d__law_messages : FuncData
  F__law_messages : Fun K "_law_messages" "_law_messages" (topS 24) f__law_messages d__law_messages
  b__law_messages : Binds K d__law_messages ["_law_text"] []
  m__law_messages : mg "_law_messages" = some (.ref f__law_messages)
  f__law_kept : Addr
  d__law_kept : FuncData
  F__law_kept : Fun K "_law_kept" "_law_kept" (topS 25) f__law_kept d__law_kept
  b__law_kept : Binds K d__law_kept ["_law_value", "_law_index"] []
  m__law_kept : mg "_law_kept" = some (.ref f__law_kept)
  f__law_caught : Addr
  d__law_caught : FuncData
  F__law_caught : Fun K "_law_caught" "_law_caught" (topS 26) f__law_caught d__law_caught
  b__law_caught : Binds K d__law_caught ["_law_way", "_law_value"] []
  m__law_caught : mg "_law_caught" = some (.ref f__law_caught)
  f__law_right : Addr
  d__law_right : FuncData
  F__law_right : Fun K "_law_right" "_law_right" (topS 27) f__law_right d__law_right
  b__law_right : Binds K d__law_right ["_law_dice_here"] []
  m__law_right : mg "_law_right" = some (.ref f__law_right)
  f_law : Addr
  d_law : FuncData
  F_law : Fun K "law" "law" (topS 28) f_law d_law
  b_law : Binds K d_law ["_law_script"] []
  m_law : mg "law" = some (.ref f_law)
section
variable {P : Program} {w : World} {K : PySem.W.Frag} {mg : Str → Option Value} {base : Heap}
theorem okI_Unstable {c : CA} (T : TF c K mg w) : FnG P w K mg base CX0 1 T.f_Unstable_init T.d_Unstable_init ["self", "part"] (spI K (c.ad "Unstable") "part") :=
  okI (st := inClass (topS 16) 0) T.oe_Unstable T.on_Unstable T.F_Unstable_init ⟨rfl, rfl, rfl, by decide +kernel, rfl, by decide +kernel, by decide +kernel⟩ rfl (fun _ _ _ _ _ _ => .inl rfl) (fun _ _ _ _ _ _ => .inl rfl) (fun _ _ _ _ _ _ => rfl) (by decide) (by decide) (by decide) (by decide)
theorem okI_UnknownName {c : CA} (T : TF c K mg w) : FnG P w K mg base CX0 1 T.f_UnknownName_init T.d_UnknownName_init ["self", "word"] (spI K (c.ad "UnknownName") "word") :=
  okI (st := inClass (topS 11) 0) T.oe_UnknownName T.on_UnknownName T.F_UnknownName_init ⟨rfl, rfl, rfl, by decide +kernel, rfl, by decide +kernel, by decide +kernel⟩ rfl (fun _ _ _ _ _ _ => .inl rfl) (fun _ _ _ _ _ _ => .inl rfl) (fun _ _ _ _ _ _ => rfl) (by decide) (by decide) (by decide) (by decide)
theorem okI_TooMany {c : CA} (T : TF c K mg w) : FnG P w K mg base CX0 1 T.f_TooMany_init T.d_TooMany_init ["self", "limit"] (spI K (c.ad "TooMany") "limit") :=
  okI (st := inClass (topS 15) 0) T.oe_TooMany T.on_TooMany T.F_TooMany_init ⟨rfl, rfl, rfl, by decide +kernel, rfl, by decide +kernel, by decide +kernel⟩ rfl (fun _ _ _ _ _ _ => .inl rfl) (fun _ _ _ _ _ _ => .inl rfl) (fun _ _ _ _ _ _ => rfl) (by decide) (by decide) (by decide) (by decide)
theorem okI_Refused {c : CA} (T : TF c K mg w) : FnG P w K mg base CX0 1 T.f_Refused_init T.d_Refused_init ["self", "pledge"] (spI K (c.ad "Refused") "pledge") :=
  okI (st := inClass (topS 17) 0) T.oe_Refused T.on_Refused T.F_Refused_init ⟨rfl, rfl, rfl, by decide +kernel, rfl, by decide +kernel, by decide +kernel⟩ rfl (fun _ _ _ _ _ _ => .inl rfl) (fun _ _ _ _ _ _ => .inl rfl) (fun _ _ _ _ _ _ => rfl) (by decide) (by decide) (by decide) (by decide)
theorem okI_ParseError {c : CA} (T : TF c K mg w) : FnG P w K mg base CX0 1 T.f_ParseError_init T.d_ParseError_init ["self", "number"] (spI K (c.ad "ParseError") "number") :=
  okI (st := inClass (topS 10) 0) T.oe_ParseError T.on_ParseError T.F_ParseError_init ⟨rfl, rfl, rfl, by decide +kernel, rfl, by decide +kernel, by decide +kernel⟩ rfl (fun _ _ _ _ _ _ => .inl rfl) (fun _ _ _ _ _ _ => .inl rfl) (fun _ _ _ _ _ _ => rfl) (by decide) (by decide) (by decide) (by decide)
theorem okI_NothingToUndo {c : CA} (T : TF c K mg w) : FnG P w K mg base CX0 1 T.f_NothingToUndo_init T.d_NothingToUndo_init ["self", "many"] (spI K (c.ad "NothingToUndo") "many") :=
  okI (st := inClass (topS 14) 0) T.oe_NothingToUndo T.on_NothingToUndo T.F_NothingToUndo_init ⟨rfl, rfl, rfl, by decide +kernel, rfl, by decide +kernel, by decide +kernel⟩ rfl (fun _ _ _ _ _ _ => .inl rfl) (fun _ _ _ _ _ _ => .inl rfl) (fun _ _ _ _ _ _ => rfl) (by decide) (by decide) (by decide) (by decide)
theorem okI_NotTaken {c : CA} (T : TF c K mg w) : FnG P w K mg base CX0 1 T.f_NotTaken_init T.d_NotTaken_init ["self", "untaken"] (spI K (c.ad "NotTaken") "untaken") :=
  okI (st := inClass (topS 12) 0) T.oe_NotTaken T.on_NotTaken T.F_NotTaken_init ⟨rfl, rfl, rfl, by decide +kernel, rfl, by decide +kernel, by decide +kernel⟩ rfl (fun _ _ _ _ _ _ => .inl rfl) (fun _ _ _ _ _ _ => .inl rfl) (fun _ _ _ _ _ _ => rfl) (by decide) (by decide) (by decide) (by decide)
theorem okI_InvalidNumber {c : CA} (T : TF c K mg w) : FnG P w K mg base CX0 1 T.f_InvalidNumber_init T.d_InvalidNumber_init ["self", "value"] (spI K (c.ad "InvalidNumber") "value") :=
  okI (st := inClass (topS 13) 0) T.oe_InvalidNumber T.on_InvalidNumber T.F_InvalidNumber_init ⟨rfl, rfl, rfl, by decide +kernel, rfl, by decide +kernel, by decide +kernel⟩ rfl (fun _ _ _ _ _ _ => .inl rfl) (fun _ _ _ _ _ _ => .inl rfl) (fun _ _ _ _ _ _ => rfl) (by decide) (by decide) (by decide) (by decide)
abbrev s__law_dice : Stmt := topS 19
theorem sc__law_dice : FnScope ["_law_script", "_law_spot", "_law_cell", "_law_great", "_law_left"] ["_law_script", "_law_spot"] (defScope s__law_dice) := ⟨rfl, rfl, rfl, by decide +kernel, rfl, by decide +kernel, by decide +kernel⟩
noncomputable def m__law_dice (c : CA) : M Oc :=
  (seq (mSet 2 (mIf (mT2 uLt (mName 1) (mCall fLen (mCons (mName 0) (ret [])))) (mCall fInt1 (mCons (mBin uIx (mName 0) (mName 1)) (ret []))) (mBin uPlus (mBin uMul (ret (.int 43)) (mName 1)) (ret (.int 7))))) (seq (mSet 3 (mBin uMod (mCall fAbs (mCons (mName 2) (ret []))) (mBin uPow (ret (.int 10)) (ret (.int 59))))) (seq (mSet 4 (mCall fMax2 (mCons (ret (.int 0)) (mCons (mBin uSub (mCall fAbs (mCons (mName 2) (ret []))) (mBin uPow (ret (.int 10)) (ret (.int 17)))) (ret []))))) (seq (mRetO (mLst (mCons (mBin uMod (mName 4) (mBin uMul (mBin uPow (ret (.int 10)) (ret (.int 60))) (mBin uPow (ret (.int 10)) (ret (.int 60))))) (mCons (mBin uPlus (mBin uPlus (mBin uPlus (mBin uMul (mBin uMod (mName 3) (ret (.int 2147483587))) (ret (.int 37))) (mBin uMul (ret (.int 601)) (mName 1))) (mBin uMul (ret (.int 11)) (mCall fInt1 (mCons (mBin uLt (mName 2) (ret (.int 0))) (ret []))))) (ret (.int 5))) (mCons (ret (.int 0)) (ret [])))))) (ret .nx)))))
noncomputable def F__law_dice (c : CA) : FO := runO false 5 2 (m__law_dice c)
theorem ok__law_dice {c : CA} (T : TF c K mg w) : FnG P w K mg base CX0 1 T.f__law_dice T.d__law_dice ["_law_script", "_law_spot"] (spO K false (F__law_dice c)) :=
  okO T.F__law_dice sc__law_dice fun cdv B fr s J0 Z hr hg =>
    have nd := sc__law_dice.nd
    have hu64 := hr.units
    have hu1 := Nat.lt_of_le_of_lt (Nat.add_le_add_left (by decide : 1 ≤ 64) _) hu64
    (b_cons (s_set 2 nd (e_if (t_lt (e_name 1) (e_blt call_len cs_len T.z_len (a_cons (e_name 0) a_nil))) (e_ty call_int1 cs_int T.z_int (a_cons (e_sbs hu1 (e_name 0) (e_name 1)) a_nil)) (e_plus (e_mul e_int (e_name 1)) e_int))) (b_cons (s_set 3 nd (e_mod (e_blt call_abs cs_abs T.z_abs (a_cons (e_name 2) a_nil)) (e_pow e_int e_int))) (b_cons (s_set 4 nd (e_blt (call_max2 rfl) cs_max2 T.z_max (a_cons e_int (a_cons (e_sub (e_blt call_abs cs_abs T.z_abs (a_cons (e_name 2) a_nil)) (e_pow e_int e_int)) a_nil)))) (b_cons (s_retO (eo_lst (a_cons (e_mod (e_name 4) (e_mul (e_pow e_int e_int) (e_pow e_int e_int))) (a_cons (e_plus (e_plus (e_plus (e_mul (e_mod (e_name 3) e_int) e_int) (e_mul e_int (e_name 1))) (e_mul e_int (e_ty call_int1 cs_int T.z_int (a_cons (e_lt (e_name 2) e_int) a_nil)))) e_int) (a_cons e_int a_nil))))) b_nil))))
abbrev s__law_roll : Stmt := topS 20
theorem sc__law_roll : FnScope ["_law_dice_here", "_law_total", "_law_one", "_law_two", "_law_found"] ["_law_dice_here", "_law_total"] (defScope s__law_roll) := ⟨rfl, rfl, rfl, by decide +kernel, rfl, by decide +kernel, by decide +kernel⟩
noncomputable def m__law_roll (c : CA) : M Oc :=
  (seq (mIf (mT2 iGt (mIxD 0 (ret (.int 0))) (ret (.int 0))) (seq (mSet 4 (mBin uMod (mCall fInt1 (mCons (mIxD 0 (ret (.int 0))) (ret []))) (mName 1))) (seq (mIxPutD 0 0 (mBin uDiv (mIxD 0 (ret (.int 0))) (mName 1))) (seq (mRet (mName 4)) (ret .nx)))) (ret .nx)) (seq (mIxPutD 0 2 (mBin uPlus (mIxD 0 (ret (.int 2))) (ret (.int 1)))) (seq (mSet 2 (mBin uMod (mCall fInt1 (mCons (mBin uPlus (mIxD 0 (ret (.int 1))) (mBin uMul (ret (.int 7907)) (mIxD 0 (ret (.int 2))))) (ret []))) (ret (.int 2305843009213693907)))) (seq (mSet 3 (mBin uPlus (mBin uMul (mBin uMod (mCall fInt1 (mCons (mBin uPlus (mBin uMul (mName 2) (mName 2)) (mBin uMul (ret (.int 67)) (mIxD 0 (ret (.int 2))))) (ret []))) (ret (.int 2305843009213693921))) (ret (.int 6700417))) (mName 2))) (seq (mRet (mBin uMod (mCall fInt1 (mCons (mBin uDiv (mName 3) (ret (.int 32768))) (ret []))) (mName 1))) (ret .nx))))))
noncomputable def F__law_roll (c : CA) : FD := runM true 5 2 (m__law_roll c)
theorem ok__law_roll {c : CA} (T : TF c K mg w) : FnG P w K mg base CX0 1 T.f__law_roll T.d__law_roll ["_law_dice_here", "_law_total"] (spM K true (F__law_roll c)) :=
  okM T.F__law_roll sc__law_roll fun cdv B fr s J0 Z hr hg =>
    have nd := sc__law_roll.nd
    have hu64 := hr.units
    have hu1 := Nat.lt_of_le_of_lt (Nat.add_le_add_left (by decide : 1 ≤ 64) _) hu64
    (b_cons (s_if (t_gt (e_ixD 0 e_int) e_int) (b_cons (s_set 4 nd (e_mod (e_ty call_int1 cs_int T.z_int (a_cons (e_ixD 0 e_int) a_nil)) (e_name 1))) (b_cons (s_ixD 0 (e_div (e_ixD 0 e_int) (e_name 1))) (b_cons (s_ret (e_name 4)) b_nil))) b_nil) (b_cons (s_ixD 0 (e_plus (e_ixD 0 e_int) e_int)) (b_cons (s_set 2 nd (e_mod (e_ty call_int1 cs_int T.z_int (a_cons (e_plus (e_ixD 0 e_int) (e_mul e_int (e_ixD 0 e_int))) a_nil)) e_int)) (b_cons (s_set 3 nd (e_plus (e_mul (e_mod (e_ty call_int1 cs_int T.z_int (a_cons (e_plus (e_mul (e_name 2) (e_name 2)) (e_mul e_int (e_ixD 0 e_int))) a_nil)) e_int) e_int) (e_name 2))) (b_cons (s_ret (e_mod (e_ty call_int1 cs_int T.z_int (a_cons (e_div (e_name 3) e_int) a_nil)) (e_name 1))) b_nil)))))
abbrev s__law_pick : Stmt := topS 21
theorem sc__law_pick : FnScope ["_law_dice_here", "_law_items"] ["_law_dice_here", "_law_items"] (defScope s__law_pick) := ⟨rfl, rfl, rfl, by decide +kernel, rfl, by decide +kernel, by decide +kernel⟩
noncomputable def m__law_pick (c : CA) : M Oc :=
  (seq (mRet (mBin uIx (mName 1) (isDi 0 (mFn (F__law_roll c) (mCons (mCall fLen (mCons (mName 1) (ret []))) (ret [])))))) (ret .nx))
noncomputable def F__law_pick (c : CA) : FD := runM true 2 2 (m__law_pick c)
theorem ok__law_pick {c : CA} (T : TF c K mg w) : FnG P w K mg base CX0 2 T.f__law_pick T.d__law_pick ["_law_dice_here", "_law_items"] (spM K true (F__law_pick c)) :=
  okM T.F__law_pick sc__law_pick fun cdv B fr s J0 Z hr hg =>
    have nd := sc__law_pick.nd
    have hu64 := hr.units
    have hu1 := Nat.lt_of_le_of_lt (Nat.add_le_add_left (by decide : 1 ≤ 64) _) hu64
    (b_cons (s_ret (e_sbs hu1 (e_name 1) (e_fd 0 (ok__law_roll T) (hr.mono (by decide)) hg T.m__law_roll T.F__law_roll.kp T.b__law_roll (a_cons (e_blt call_len cs_len T.z_len (a_cons (e_name 1) a_nil)) a_nil)))) b_nil)
abbrev s__law_own : Stmt := topS 22
theorem sc__law_own : FnScope ["_law_error", "_law_found"] ["_law_error"] (defScope s__law_own) := ⟨rfl, rfl, rfl, by decide +kernel, rfl, by decide +kernel, by decide +kernel⟩
noncomputable def m__law_own (c : CA) : M Oc :=
  (seq (mSet 1 (mBin uPlus (mBin uTimesT (ret (.str "m")) (mCall fInt1 (mCons (mIsV (allE c) (subE_InvalidMachine c) (mName 0)) (ret [])))) (mBin uTimesT (ret (.str "t")) (mCall fInt1 (mCons (mIsV (allE c) (subE_InvalidText c) (mName 0)) (ret [])))))) (seq (mSet 1 (mBin uPlus (mBin uPlus (mName 1) (mBin uTimesT (ret (.str "p")) (mCall fInt1 (mCons (mIsV (allE c) (subE_InvalidPattern c) (mName 0)) (ret []))))) (mBin uTimesT (ret (.str "s")) (mCall fInt1 (mCons (mIsV (allE c) (subE_InvalidSquare c) (mName 0)) (ret [])))))) (seq (mSet 1 (mBin uPlus (mBin uPlus (mName 1) (mBin uTimesT (ret (.str "c")) (mCall fInt1 (mCons (mIsV (allE c) (subE_InvalidCosts c) (mName 0)) (ret []))))) (mBin uTimesT (ret (.str "r")) (mCall fInt1 (mCons (mIsV (allE c) (subE_InvalidRow c) (mName 0)) (ret [])))))) (seq (mSet 1 (mBin uPlus (mBin uPlus (mName 1) (mBin uTimesT (ret (.str "q")) (mCall fInt1 (mCons (mIsV (allE c) (subE_InvalidPaper c) (mName 0)) (ret []))))) (mBin uTimesT (ret (.str "o")) (mCall fInt1 (mCons (mIsV (allE c) (subE_InvalidOperation c) (mName 0)) (ret [])))))) (seq (mSet 1 (mBin uPlus (mBin uPlus (mName 1) (mBin uTimesT (ret (.str "x")) (mCall fInt1 (mCons (mIsV (allE c) (subE_ParseError c) (mName 0)) (ret []))))) (mBin uTimesT (ret (.str "U")) (mCall fInt1 (mCons (mIsV (allE c) (subE_UnknownName c) (mName 0)) (ret [])))))) (seq (mSet 1 (mBin uPlus (mBin uPlus (mName 1) (mBin uTimesT (ret (.str "T")) (mCall fInt1 (mCons (mIsV (allE c) (subE_NotTaken c) (mName 0)) (ret []))))) (mBin uTimesT (ret (.str "N")) (mCall fInt1 (mCons (mIsV (allE c) (subE_InvalidNumber c) (mName 0)) (ret [])))))) (seq (mSet 1 (mBin uPlus (mBin uPlus (mName 1) (mBin uTimesT (ret (.str "Z")) (mCall fInt1 (mCons (mIsV (allE c) (subE_NothingToUndo c) (mName 0)) (ret []))))) (mBin uTimesT (ret (.str "M")) (mCall fInt1 (mCons (mIsV (allE c) (subE_TooMany c) (mName 0)) (ret [])))))) (seq (mRet (mBin uPlus (mBin uPlus (mName 1) (mBin uTimesT (ret (.str "S")) (mCall fInt1 (mCons (mIsV (allE c) (subE_Unstable c) (mName 0)) (ret []))))) (mBin uTimesT (ret (.str "R")) (mCall fInt1 (mCons (mIsV (allE c) (subE_Refused c) (mName 0)) (ret [])))))) (ret .nx)))))))))
noncomputable def F__law_own (c : CA) : FD := runM false 2 1 (m__law_own c)
theorem ok__law_own {c : CA} (T : TF c K mg w) : FnG P w K mg base CX0 1 T.f__law_own T.d__law_own ["_law_error"] (spM K false (F__law_own c)) :=
  okM T.F__law_own sc__law_own fun cdv B fr s J0 Z hr hg =>
    have nd := sc__law_own.nd
    have hu64 := hr.units
    have hu1 := Nat.lt_of_le_of_lt (Nat.add_le_add_left (by decide : 1 ≤ 64) _) hu64
    (b_cons (s_set 1 nd (e_plus (e_timesT e_str (e_ty call_int1 cs_int T.z_int (a_cons (e_isV (cv := (.ref (c.ad "InvalidMachine"))) T.iv_InvalidMachine T.z_isinstance (pe_glob (v := .ref (c.ad "InvalidMachine")) rfl T.xg_InvalidMachine rfl) (fun _ h => h) (e_name 0)) a_nil))) (e_timesT e_str (e_ty call_int1 cs_int T.z_int (a_cons (e_isV (cv := (.ref (c.ad "InvalidText"))) T.iv_InvalidText T.z_isinstance (pe_glob (v := .ref (c.ad "InvalidText")) rfl T.xg_InvalidText rfl) (fun _ h => h) (e_name 0)) a_nil))))) (b_cons (s_set 1 nd (e_plus (e_plus (e_name 1) (e_timesT e_str (e_ty call_int1 cs_int T.z_int (a_cons (e_isV (cv := (.ref (c.ad "InvalidPattern"))) T.iv_InvalidPattern T.z_isinstance (pe_glob (v := .ref (c.ad "InvalidPattern")) rfl T.xg_InvalidPattern rfl) (fun _ h => h) (e_name 0)) a_nil)))) (e_timesT e_str (e_ty call_int1 cs_int T.z_int (a_cons (e_isV (cv := (.ref (c.ad "InvalidSquare"))) T.iv_InvalidSquare T.z_isinstance (pe_glob (v := .ref (c.ad "InvalidSquare")) rfl T.xg_InvalidSquare rfl) (fun _ h => h) (e_name 0)) a_nil))))) (b_cons (s_set 1 nd (e_plus (e_plus (e_name 1) (e_timesT e_str (e_ty call_int1 cs_int T.z_int (a_cons (e_isV (cv := (.ref (c.ad "InvalidCosts"))) T.iv_InvalidCosts T.z_isinstance (pe_glob (v := .ref (c.ad "InvalidCosts")) rfl T.xg_InvalidCosts rfl) (fun _ h => h) (e_name 0)) a_nil)))) (e_timesT e_str (e_ty call_int1 cs_int T.z_int (a_cons (e_isV (cv := (.ref (c.ad "InvalidRow"))) T.iv_InvalidRow T.z_isinstance (pe_glob (v := .ref (c.ad "InvalidRow")) rfl T.xg_InvalidRow rfl) (fun _ h => h) (e_name 0)) a_nil))))) (b_cons (s_set 1 nd (e_plus (e_plus (e_name 1) (e_timesT e_str (e_ty call_int1 cs_int T.z_int (a_cons (e_isV (cv := (.ref (c.ad "InvalidPaper"))) T.iv_InvalidPaper T.z_isinstance (pe_glob (v := .ref (c.ad "InvalidPaper")) rfl T.xg_InvalidPaper rfl) (fun _ h => h) (e_name 0)) a_nil)))) (e_timesT e_str (e_ty call_int1 cs_int T.z_int (a_cons (e_isV (cv := (.ref (c.ad "InvalidOperation"))) T.iv_InvalidOperation T.z_isinstance (pe_glob (v := .ref (c.ad "InvalidOperation")) rfl T.xg_InvalidOperation rfl) (fun _ h => h) (e_name 0)) a_nil))))) (b_cons (s_set 1 nd (e_plus (e_plus (e_name 1) (e_timesT e_str (e_ty call_int1 cs_int T.z_int (a_cons (e_isV (cv := (.ref (c.ad "ParseError"))) T.iv_ParseError T.z_isinstance (pe_glob (v := .ref (c.ad "ParseError")) rfl T.xg_ParseError rfl) (fun _ h => h) (e_name 0)) a_nil)))) (e_timesT e_str (e_ty call_int1 cs_int T.z_int (a_cons (e_isV (cv := (.ref (c.ad "UnknownName"))) T.iv_UnknownName T.z_isinstance (pe_glob (v := .ref (c.ad "UnknownName")) rfl T.xg_UnknownName rfl) (fun _ h => h) (e_name 0)) a_nil))))) (b_cons (s_set 1 nd (e_plus (e_plus (e_name 1) (e_timesT e_str (e_ty call_int1 cs_int T.z_int (a_cons (e_isV (cv := (.ref (c.ad "NotTaken"))) T.iv_NotTaken T.z_isinstance (pe_glob (v := .ref (c.ad "NotTaken")) rfl T.xg_NotTaken rfl) (fun _ h => h) (e_name 0)) a_nil)))) (e_timesT e_str (e_ty call_int1 cs_int T.z_int (a_cons (e_isV (cv := (.ref (c.ad "InvalidNumber"))) T.iv_InvalidNumber T.z_isinstance (pe_glob (v := .ref (c.ad "InvalidNumber")) rfl T.xg_InvalidNumber rfl) (fun _ h => h) (e_name 0)) a_nil))))) (b_cons (s_set 1 nd (e_plus (e_plus (e_name 1) (e_timesT e_str (e_ty call_int1 cs_int T.z_int (a_cons (e_isV (cv := (.ref (c.ad "NothingToUndo"))) T.iv_NothingToUndo T.z_isinstance (pe_glob (v := .ref (c.ad "NothingToUndo")) rfl T.xg_NothingToUndo rfl) (fun _ h => h) (e_name 0)) a_nil)))) (e_timesT e_str (e_ty call_int1 cs_int T.z_int (a_cons (e_isV (cv := (.ref (c.ad "TooMany"))) T.iv_TooMany T.z_isinstance (pe_glob (v := .ref (c.ad "TooMany")) rfl T.xg_TooMany rfl) (fun _ h => h) (e_name 0)) a_nil))))) (b_cons (s_ret (e_plus (e_plus (e_name 1) (e_timesT e_str (e_ty call_int1 cs_int T.z_int (a_cons (e_isV (cv := (.ref (c.ad "Unstable"))) T.iv_Unstable T.z_isinstance (pe_glob (v := .ref (c.ad "Unstable")) rfl T.xg_Unstable rfl) (fun _ h => h) (e_name 0)) a_nil)))) (e_timesT e_str (e_ty call_int1 cs_int T.z_int (a_cons (e_isV (cv := (.ref (c.ad "Refused"))) T.iv_Refused T.z_isinstance (pe_glob (v := .ref (c.ad "Refused")) rfl T.xg_Refused rfl) (fun _ h => h) (e_name 0)) a_nil))))) b_nil))))))))
noncomputable def mh__law_own (c : CA) (C : Addr) : M Oc :=
  (mSetT 1 (mBin fCat (mBin uTimesT (ret (.str "m")) (mCall1 fInt1 (ret (.bl (decide (C ∈ subE_InvalidMachine c)))))) (mBin uTimesT (ret (.str "t")) (mCall1 fInt1 (ret (.bl (decide (C ∈ subE_InvalidText c))))))) (mSetT 1 (mBin fCat (mBin fCat (mName 1) (mBin uTimesT (ret (.str "p")) (mCall1 fInt1 (ret (.bl (decide (C ∈ subE_InvalidPattern c))))))) (mBin uTimesT (ret (.str "s")) (mCall1 fInt1 (ret (.bl (decide (C ∈ subE_InvalidSquare c))))))) (mSetT 1 (mBin fCat (mBin fCat (mName 1) (mBin uTimesT (ret (.str "c")) (mCall1 fInt1 (ret (.bl (decide (C ∈ subE_InvalidCosts c))))))) (mBin uTimesT (ret (.str "r")) (mCall1 fInt1 (ret (.bl (decide (C ∈ subE_InvalidRow c))))))) (mSetT 1 (mBin fCat (mBin fCat (mName 1) (mBin uTimesT (ret (.str "q")) (mCall1 fInt1 (ret (.bl (decide (C ∈ subE_InvalidPaper c))))))) (mBin uTimesT (ret (.str "o")) (mCall1 fInt1 (ret (.bl (decide (C ∈ subE_InvalidOperation c))))))) (mSetT 1 (mBin fCat (mBin fCat (mName 1) (mBin uTimesT (ret (.str "x")) (mCall1 fInt1 (ret (.bl (decide (C ∈ subE_ParseError c))))))) (mBin uTimesT (ret (.str "U")) (mCall1 fInt1 (ret (.bl (decide (C ∈ subE_UnknownName c))))))) (mSetT 1 (mBin fCat (mBin fCat (mName 1) (mBin uTimesT (ret (.str "T")) (mCall1 fInt1 (ret (.bl (decide (C ∈ subE_NotTaken c))))))) (mBin uTimesT (ret (.str "N")) (mCall1 fInt1 (ret (.bl (decide (C ∈ subE_InvalidNumber c))))))) (mSetT 1 (mBin fCat (mBin fCat (mName 1) (mBin uTimesT (ret (.str "Z")) (mCall1 fInt1 (ret (.bl (decide (C ∈ subE_NothingToUndo c))))))) (mBin uTimesT (ret (.str "M")) (mCall1 fInt1 (ret (.bl (decide (C ∈ subE_TooMany c))))))) (mRet (mBin fCat (mBin fCat (mName 1) (mBin uTimesT (ret (.str "S")) (mCall1 fInt1 (ret (.bl (decide (C ∈ subE_Unstable c))))))) (mBin uTimesT (ret (.str "R")) (mCall1 fInt1 (ret (.bl (decide (C ∈ subE_Refused c)))))))))))))))
noncomputable def Fh__law_own (c : CA) : Addr → FD := runE (allE c) 2 1 (mh__law_own c)
theorem okh__law_own {c : CA} (T : TF c K mg w) : FnQ P w K mg base CX0 1 T.f__law_own T.d__law_own ["_law_error"] (spE K (Fh__law_own c)) :=
  okE (j := 1) T.F__law_own sc__law_own rfl (by decide) fun C hC y cdv B fr s J0 Z y1 y2 y3 hy hr hg =>
    (.set (p_bin pinS_stay op_add_str os_cat (p_bin pinS_stay op_timesT os_timesT (EF.p e_str) (p_ty1 pinS_stay call_int1 cs_int T.z_int (p_isP hy (T.iv_InvalidMachine.cls C hC) y1 y2 y3 (T.iv_InvalidMachine.kit C hC) T.z_isinstance (pe_glob (v := .ref (c.ad "InvalidMachine")) rfl T.xg_InvalidMachine rfl) (fun _ h => h) rfl (.inl rfl)))) (p_bin pinS_stay op_timesT os_timesT (EF.p e_str) (p_ty1 pinS_stay call_int1 cs_int T.z_int (p_isP hy (T.iv_InvalidText.cls C hC) y1 y2 y3 (T.iv_InvalidText.kit C hC) T.z_isinstance (pe_glob (v := .ref (c.ad "InvalidText")) rfl T.xg_InvalidText rfl) (fun _ h => h) rfl (.inl rfl))))) (.set (p_bin pinS_stay op_add_str os_cat (p_bin pinS_stay op_add_str os_cat (EF.p (e_name 1)) (p_bin pinS_stay op_timesT os_timesT (EF.p e_str) (p_ty1 pinS_stay call_int1 cs_int T.z_int (p_isP hy (T.iv_InvalidPattern.cls C hC) y1 y2 y3 (T.iv_InvalidPattern.kit C hC) T.z_isinstance (pe_glob (v := .ref (c.ad "InvalidPattern")) rfl T.xg_InvalidPattern rfl) (fun _ h => h) rfl (.inl rfl))))) (p_bin pinS_stay op_timesT os_timesT (EF.p e_str) (p_ty1 pinS_stay call_int1 cs_int T.z_int (p_isP hy (T.iv_InvalidSquare.cls C hC) y1 y2 y3 (T.iv_InvalidSquare.kit C hC) T.z_isinstance (pe_glob (v := .ref (c.ad "InvalidSquare")) rfl T.xg_InvalidSquare rfl) (fun _ h => h) rfl (.inl rfl))))) (.set (p_bin pinS_stay op_add_str os_cat (p_bin pinS_stay op_add_str os_cat (EF.p (e_name 1)) (p_bin pinS_stay op_timesT os_timesT (EF.p e_str) (p_ty1 pinS_stay call_int1 cs_int T.z_int (p_isP hy (T.iv_InvalidCosts.cls C hC) y1 y2 y3 (T.iv_InvalidCosts.kit C hC) T.z_isinstance (pe_glob (v := .ref (c.ad "InvalidCosts")) rfl T.xg_InvalidCosts rfl) (fun _ h => h) rfl (.inl rfl))))) (p_bin pinS_stay op_timesT os_timesT (EF.p e_str) (p_ty1 pinS_stay call_int1 cs_int T.z_int (p_isP hy (T.iv_InvalidRow.cls C hC) y1 y2 y3 (T.iv_InvalidRow.kit C hC) T.z_isinstance (pe_glob (v := .ref (c.ad "InvalidRow")) rfl T.xg_InvalidRow rfl) (fun _ h => h) rfl (.inl rfl))))) (.set (p_bin pinS_stay op_add_str os_cat (p_bin pinS_stay op_add_str os_cat (EF.p (e_name 1)) (p_bin pinS_stay op_timesT os_timesT (EF.p e_str) (p_ty1 pinS_stay call_int1 cs_int T.z_int (p_isP hy (T.iv_InvalidPaper.cls C hC) y1 y2 y3 (T.iv_InvalidPaper.kit C hC) T.z_isinstance (pe_glob (v := .ref (c.ad "InvalidPaper")) rfl T.xg_InvalidPaper rfl) (fun _ h => h) rfl (.inl rfl))))) (p_bin pinS_stay op_timesT os_timesT (EF.p e_str) (p_ty1 pinS_stay call_int1 cs_int T.z_int (p_isP hy (T.iv_InvalidOperation.cls C hC) y1 y2 y3 (T.iv_InvalidOperation.kit C hC) T.z_isinstance (pe_glob (v := .ref (c.ad "InvalidOperation")) rfl T.xg_InvalidOperation rfl) (fun _ h => h) rfl (.inl rfl))))) (.set (p_bin pinS_stay op_add_str os_cat (p_bin pinS_stay op_add_str os_cat (EF.p (e_name 1)) (p_bin pinS_stay op_timesT os_timesT (EF.p e_str) (p_ty1 pinS_stay call_int1 cs_int T.z_int (p_isP hy (T.iv_ParseError.cls C hC) y1 y2 y3 (T.iv_ParseError.kit C hC) T.z_isinstance (pe_glob (v := .ref (c.ad "ParseError")) rfl T.xg_ParseError rfl) (fun _ h => h) rfl (.inl rfl))))) (p_bin pinS_stay op_timesT os_timesT (EF.p e_str) (p_ty1 pinS_stay call_int1 cs_int T.z_int (p_isP hy (T.iv_UnknownName.cls C hC) y1 y2 y3 (T.iv_UnknownName.kit C hC) T.z_isinstance (pe_glob (v := .ref (c.ad "UnknownName")) rfl T.xg_UnknownName rfl) (fun _ h => h) rfl (.inl rfl))))) (.set (p_bin pinS_stay op_add_str os_cat (p_bin pinS_stay op_add_str os_cat (EF.p (e_name 1)) (p_bin pinS_stay op_timesT os_timesT (EF.p e_str) (p_ty1 pinS_stay call_int1 cs_int T.z_int (p_isP hy (T.iv_NotTaken.cls C hC) y1 y2 y3 (T.iv_NotTaken.kit C hC) T.z_isinstance (pe_glob (v := .ref (c.ad "NotTaken")) rfl T.xg_NotTaken rfl) (fun _ h => h) rfl (.inl rfl))))) (p_bin pinS_stay op_timesT os_timesT (EF.p e_str) (p_ty1 pinS_stay call_int1 cs_int T.z_int (p_isP hy (T.iv_InvalidNumber.cls C hC) y1 y2 y3 (T.iv_InvalidNumber.kit C hC) T.z_isinstance (pe_glob (v := .ref (c.ad "InvalidNumber")) rfl T.xg_InvalidNumber rfl) (fun _ h => h) rfl (.inl rfl))))) (.set (p_bin pinS_stay op_add_str os_cat (p_bin pinS_stay op_add_str os_cat (EF.p (e_name 1)) (p_bin pinS_stay op_timesT os_timesT (EF.p e_str) (p_ty1 pinS_stay call_int1 cs_int T.z_int (p_isP hy (T.iv_NothingToUndo.cls C hC) y1 y2 y3 (T.iv_NothingToUndo.kit C hC) T.z_isinstance (pe_glob (v := .ref (c.ad "NothingToUndo")) rfl T.xg_NothingToUndo rfl) (fun _ h => h) rfl (.inl rfl))))) (p_bin pinS_stay op_timesT os_timesT (EF.p e_str) (p_ty1 pinS_stay call_int1 cs_int T.z_int (p_isP hy (T.iv_TooMany.cls C hC) y1 y2 y3 (T.iv_TooMany.kit C hC) T.z_isinstance (pe_glob (v := .ref (c.ad "TooMany")) rfl T.xg_TooMany rfl) (fun _ h => h) rfl (.inl rfl))))) (.ret (p_bin pinS_stay op_add_str os_cat (p_bin pinS_stay op_add_str os_cat (EF.p (e_name 1)) (p_bin pinS_stay op_timesT os_timesT (EF.p e_str) (p_ty1 pinS_stay call_int1 cs_int T.z_int (p_isP hy (T.iv_Unstable.cls C hC) y1 y2 y3 (T.iv_Unstable.kit C hC) T.z_isinstance (pe_glob (v := .ref (c.ad "Unstable")) rfl T.xg_Unstable rfl) (fun _ h => h) rfl (.inl rfl))))) (p_bin pinS_stay op_timesT os_timesT (EF.p e_str) (p_ty1 pinS_stay call_int1 cs_int T.z_int (p_isP hy (T.iv_Refused.cls C hC) y1 y2 y3 (T.iv_Refused.kit C hC) T.z_isinstance (pe_glob (v := .ref (c.ad "Refused")) rfl T.xg_Refused rfl) (fun _ h => h) rfl (.inl rfl)))))))))))))
abbrev s__law_whole : Stmt := topS 23
theorem sc__law_whole : FnScope ["_law_error", "_law_found"] ["_law_error"] (defScope s__law_whole) := ⟨rfl, rfl, rfl, by decide +kernel, rfl, by decide +kernel, by decide +kernel⟩
noncomputable def m__law_whole (c : CA) : M Oc :=
  (seq (mSet 1 (mBin uPlus (mBin uPlus (mFn (F__law_own c) (mCons (mName 0) (ret []))) (ret (.str " "))) (mBin uTimesT (ret (.str "base ")) (mCall fInt1 (mCons (mIsV (allE c) (subE_PriceError c) (mName 0)) (ret [])))))) (seq (mSet 1 (mBin uPlus (mBin uPlus (mName 1) (mBin uTimesT (ret (.str "value ")) (mCall fInt1 (mCons (mIsV (allE c) (subE_ValueError c) (mName 0)) (ret []))))) (mBin uTimesT (ret (.str "key ")) (mCall fInt1 (mCons (mIsV (allE c) (subE_KeyError c) (mName 0)) (ret [])))))) (seq (mSet 1 (mBin uPlus (mBin uPlus (mName 1) (mBin uTimesT (ret (.str "index ")) (mCall fInt1 (mCons (mIsV (allE c) (subE_IndexError c) (mName 0)) (ret []))))) (mBin uTimesT (ret (.str "lookup ")) (mCall fInt1 (mCons (mIsV (allE c) (subE_LookupError c) (mName 0)) (ret [])))))) (seq (mSet 1 (mBin uPlus (mName 1) (mBin uTimesT (ret (.str "runtime ")) (mCall fInt1 (mCons (mIsV (allE c) (subE_RuntimeError c) (mName 0)) (ret [])))))) (seq (mSet 1 (mBin uPlus (mName 1) (mBin uTimesT (ret (.str "overflow ")) (mCall fInt1 (mCons (mIsV (allE c) (subE_OverflowError c) (mName 0)) (ret [])))))) (seq (mRet (mBin uPlus (mName 1) (mBin uTimesT (ret (.str "arithmetic ")) (mCall fInt1 (mCons (mIsV (allE c) (subE_ArithmeticError c) (mName 0)) (ret [])))))) (ret .nx)))))))
noncomputable def F__law_whole (c : CA) : FD := runM false 2 1 (m__law_whole c)
theorem ok__law_whole {c : CA} (T : TF c K mg w) : FnG P w K mg base CX0 2 T.f__law_whole T.d__law_whole ["_law_error"] (spM K false (F__law_whole c)) :=
  okM T.F__law_whole sc__law_whole fun cdv B fr s J0 Z hr hg =>
    have nd := sc__law_whole.nd
    have hu64 := hr.units
    have hu1 := Nat.lt_of_le_of_lt (Nat.add_le_add_left (by decide : 1 ≤ 64) _) hu64
    (b_cons (s_set 1 nd (e_plus (e_plus (e_fn (ok__law_own T) (hr.mono (by decide)) hg T.m__law_own T.F__law_own.kp T.b__law_own (a_cons (e_name 0) a_nil)) e_str) (e_timesT e_str (e_ty call_int1 cs_int T.z_int (a_cons (e_isV (cv := (.ref (c.ad "PriceError"))) T.iv_PriceError T.z_isinstance (pe_glob (v := .ref (c.ad "PriceError")) rfl T.xg_PriceError rfl) (fun _ h => h) (e_name 0)) a_nil))))) (b_cons (s_set 1 nd (e_plus (e_plus (e_name 1) (e_timesT e_str (e_ty call_int1 cs_int T.z_int (a_cons (e_isV (cv := (.type "ValueError")) T.iv_ValueError T.z_isinstance (pe_bltn (v := .ty "ValueError") rfl T.z_ValueError bt_ValueError rfl) (fun _ h => h) (e_name 0)) a_nil)))) (e_timesT e_str (e_ty call_int1 cs_int T.z_int (a_cons (e_isV (cv := (.type "KeyError")) T.iv_KeyError T.z_isinstance (pe_bltn (v := .ty "KeyError") rfl T.z_KeyError bt_KeyError rfl) (fun _ h => h) (e_name 0)) a_nil))))) (b_cons (s_set 1 nd (e_plus (e_plus (e_name 1) (e_timesT e_str (e_ty call_int1 cs_int T.z_int (a_cons (e_isV (cv := (.type "IndexError")) T.iv_IndexError T.z_isinstance (pe_bltn (v := .ty "IndexError") rfl T.z_IndexError bt_IndexError rfl) (fun _ h => h) (e_name 0)) a_nil)))) (e_timesT e_str (e_ty call_int1 cs_int T.z_int (a_cons (e_isV (cv := (.type "LookupError")) T.iv_LookupError T.z_isinstance (pe_bltn (v := .ty "LookupError") rfl T.z_LookupError bt_LookupError rfl) (fun _ h => h) (e_name 0)) a_nil))))) (b_cons (s_set 1 nd (e_plus (e_name 1) (e_timesT e_str (e_ty call_int1 cs_int T.z_int (a_cons (e_isV (cv := (.type "RuntimeError")) T.iv_RuntimeError T.z_isinstance (pe_bltn (v := .ty "RuntimeError") rfl T.z_RuntimeError bt_RuntimeError rfl) (fun _ h => h) (e_name 0)) a_nil))))) (b_cons (s_set 1 nd (e_plus (e_name 1) (e_timesT e_str (e_ty call_int1 cs_int T.z_int (a_cons (e_isV (cv := (.type "OverflowError")) T.iv_OverflowError T.z_isinstance (pe_bltn (v := .ty "OverflowError") rfl T.z_OverflowError bt_OverflowError rfl) (fun _ h => h) (e_name 0)) a_nil))))) (b_cons (s_ret (e_plus (e_name 1) (e_timesT e_str (e_ty call_int1 cs_int T.z_int (a_cons (e_isV (cv := (.type "ArithmeticError")) T.iv_ArithmeticError T.z_isinstance (pe_bltn (v := .ty "ArithmeticError") rfl T.z_ArithmeticError bt_ArithmeticError rfl) (fun _ h => h) (e_name 0)) a_nil))))) b_nil))))))
abbrev s__law_messages : Stmt := topS 24
theorem sc__law_messages : FnScope ["_law_text", "_law_found"] ["_law_text"] (defScope s__law_messages) := ⟨rfl, rfl, rfl, by decide +kernel, rfl, by decide +kernel, by decide +kernel⟩
noncomputable def m__law_messages (c : CA) : M Oc :=
  (seq (mSet 1 (frz (mLst (mCons (mFn (F__law_whole c) (mCons (mMkP (c.ad "InvalidMachine") (mCons (mName 0) (ret []))) (ret []))) (mCons (mFn (F__law_whole c) (mCons (mMkP (c.ad "InvalidText") (mCons (mName 0) (ret []))) (ret []))) (mCons (mFn (F__law_whole c) (mCons (mMkP (c.ad "InvalidPattern") (mCons (mName 0) (ret []))) (ret []))) (ret []))))))) (seq (mSet 1 (mBin uPlus (mName 1) (frz (mLst (mCons (mFn (F__law_whole c) (mCons (mMkP (c.ad "InvalidSquare") (mCons (mName 0) (ret []))) (ret []))) (mCons (mFn (F__law_whole c) (mCons (mMkP (c.ad "InvalidCosts") (mCons (mName 0) (ret []))) (ret []))) (mCons (mFn (F__law_whole c) (mCons (mMkP (c.ad "InvalidRow") (mCons (mName 0) (ret []))) (ret []))) (ret [])))))))) (seq (mSet 1 (mBin uPlus (mName 1) (frz (mLst (mCons (mFn (F__law_whole c) (mCons (mMkP (c.ad "InvalidPaper") (mCons (mName 0) (ret []))) (ret []))) (mCons (mFn (F__law_whole c) (mCons (mMkP (c.ad "InvalidOperation") (mCons (mName 0) (ret []))) (ret []))) (ret []))))))) (seq (mRet (mBin uPlus (mName 1) (frz (mLst (mCons (mFn (F__law_whole c) (mCons (mMkP (c.ad "PriceError") (mCons (mName 0) (ret []))) (ret []))) (ret [])))))) (ret .nx)))))
noncomputable def F__law_messages (c : CA) : FD := runM false 2 1 (m__law_messages c)
theorem ok__law_messages {c : CA} (T : TF c K mg w) : FnG P w K mg base CX0 3 T.f__law_messages T.d__law_messages ["_law_text"] (spM K false (F__law_messages c)) :=
  okM T.F__law_messages sc__law_messages fun cdv B fr s J0 Z hr hg =>
    have nd := sc__law_messages.nd
    have hu64 := hr.units
    have hu1 := Nat.lt_of_le_of_lt (Nat.add_le_add_left (by decide : 1 ≤ 64) _) hu64
    (b_cons (s_set 1 nd (EO.f (eo_lst (a_cons (e_fn (ok__law_whole T) (hr.mono (by decide)) hg T.m__law_whole T.F__law_whole.kp T.b__law_whole (a_cons (e_mkP PySem.F.excBase_ValueError T.xi_InvalidMachine T.xg_InvalidMachine T.xk_InvalidMachine (a_cons (e_name 0) a_nil)) a_nil)) (a_cons (e_fn (ok__law_whole T) (hr.mono (by decide)) hg T.m__law_whole T.F__law_whole.kp T.b__law_whole (a_cons (e_mkP PySem.F.excBase_ValueError T.xi_InvalidText T.xg_InvalidText T.xk_InvalidText (a_cons (e_name 0) a_nil)) a_nil)) (a_cons (e_fn (ok__law_whole T) (hr.mono (by decide)) hg T.m__law_whole T.F__law_whole.kp T.b__law_whole (a_cons (e_mkP PySem.F.excBase_ValueError T.xi_InvalidPattern T.xg_InvalidPattern T.xk_InvalidPattern (a_cons (e_name 0) a_nil)) a_nil)) a_nil)))))) (b_cons (s_set 1 nd (e_plus (e_name 1) (EO.f (eo_lst (a_cons (e_fn (ok__law_whole T) (hr.mono (by decide)) hg T.m__law_whole T.F__law_whole.kp T.b__law_whole (a_cons (e_mkP PySem.F.excBase_ValueError T.xi_InvalidSquare T.xg_InvalidSquare T.xk_InvalidSquare (a_cons (e_name 0) a_nil)) a_nil)) (a_cons (e_fn (ok__law_whole T) (hr.mono (by decide)) hg T.m__law_whole T.F__law_whole.kp T.b__law_whole (a_cons (e_mkP PySem.F.excBase_ValueError T.xi_InvalidCosts T.xg_InvalidCosts T.xk_InvalidCosts (a_cons (e_name 0) a_nil)) a_nil)) (a_cons (e_fn (ok__law_whole T) (hr.mono (by decide)) hg T.m__law_whole T.F__law_whole.kp T.b__law_whole (a_cons (e_mkP PySem.F.excBase_ValueError T.xi_InvalidRow T.xg_InvalidRow T.xk_InvalidRow (a_cons (e_name 0) a_nil)) a_nil)) a_nil))))))) (b_cons (s_set 1 nd (e_plus (e_name 1) (EO.f (eo_lst (a_cons (e_fn (ok__law_whole T) (hr.mono (by decide)) hg T.m__law_whole T.F__law_whole.kp T.b__law_whole (a_cons (e_mkP PySem.F.excBase_ValueError T.xi_InvalidPaper T.xg_InvalidPaper T.xk_InvalidPaper (a_cons (e_name 0) a_nil)) a_nil)) (a_cons (e_fn (ok__law_whole T) (hr.mono (by decide)) hg T.m__law_whole T.F__law_whole.kp T.b__law_whole (a_cons (e_mkP PySem.F.excBase_ValueError T.xi_InvalidOperation T.xg_InvalidOperation T.xk_InvalidOperation (a_cons (e_name 0) a_nil)) a_nil)) a_nil)))))) (b_cons (s_ret (e_plus (e_name 1) (EO.f (eo_lst (a_cons (e_fn (ok__law_whole T) (hr.mono (by decide)) hg T.m__law_whole T.F__law_whole.kp T.b__law_whole (a_cons (e_mkP PySem.F.excBase_ValueError T.xi_PriceError T.xg_PriceError T.xk_PriceError (a_cons (e_name 0) a_nil)) a_nil)) a_nil))))) b_nil))))
abbrev s__law_kept : Stmt := topS 25
theorem sc__law_kept : FnScope ["_law_value", "_law_index", "_law_parse", "_law_unknown", "_law_untaken", "_law_number", "_law_undo", "_law_limit", "_law_unstable", "_law_refused", "_law_found"] ["_law_value", "_law_index"] (defScope s__law_kept) := ⟨rfl, rfl, rfl, by decide +kernel, rfl, by decide +kernel, by decide +kernel⟩
noncomputable def m__law_kept (c : CA) : M Oc :=
  (seq (mPar3 2 3 4 (mXd (mMkV (c.ad "ParseError") "number" (mCons (mName 1) (ret [])))) (mXd (mMkV (c.ad "UnknownName") "word" (mCons (mName 0) (ret [])))) (mXd (mMkV (c.ad "NotTaken") "untaken" (mCons (mName 0) (ret []))))) (seq (mPar3 5 6 7 (mXd (mMkV (c.ad "InvalidNumber") "value" (mCons (mName 0) (ret [])))) (mXd (mMkV (c.ad "NothingToUndo") "many" (mCons (mName 0) (ret [])))) (mXd (mMkV (c.ad "TooMany") "limit" (mCons (mName 0) (ret []))))) (seq (mPar 8 9 (mXd (mMkV (c.ad "Unstable") "part" (mCons (mName 0) (ret [])))) (mXd (mMkV (c.ad "Refused") "pledge" (mCons (mName 0) (ret []))))) (seq (mSet 10 (frz (mLst (mCons (mTup (mCons (mFn (F__law_whole c) (mCons (mName 2) (ret []))) (mCons (mXv (c.ad "ParseError") "number" (mName 2)) (ret [])))) (mCons (mTup (mCons (mFn (F__law_whole c) (mCons (mName 3) (ret []))) (mCons (mXv (c.ad "UnknownName") "word" (mName 3)) (ret [])))) (ret [])))))) (seq (mSet 10 (mBin uPlus (mName 10) (frz (mLst (mCons (mTup (mCons (mFn (F__law_whole c) (mCons (mName 4) (ret []))) (mCons (mXv (c.ad "NotTaken") "untaken" (mName 4)) (ret [])))) (mCons (mTup (mCons (mFn (F__law_whole c) (mCons (mName 5) (ret []))) (mCons (mXv (c.ad "InvalidNumber") "value" (mName 5)) (ret [])))) (ret []))))))) (seq (mSet 10 (mBin uPlus (mName 10) (frz (mLst (mCons (mTup (mCons (mFn (F__law_whole c) (mCons (mName 6) (ret []))) (mCons (mXv (c.ad "NothingToUndo") "many" (mName 6)) (ret [])))) (mCons (mTup (mCons (mFn (F__law_whole c) (mCons (mName 7) (ret []))) (mCons (mXv (c.ad "TooMany") "limit" (mName 7)) (ret [])))) (ret []))))))) (seq (mRet (mBin uPlus (mName 10) (frz (mLst (mCons (mTup (mCons (mFn (F__law_whole c) (mCons (mName 8) (ret []))) (mCons (mXv (c.ad "Unstable") "part" (mName 8)) (ret [])))) (mCons (mTup (mCons (mFn (F__law_whole c) (mCons (mName 9) (ret []))) (mCons (mXv (c.ad "Refused") "pledge" (mName 9)) (ret [])))) (ret []))))))) (ret .nx))))))))
noncomputable def F__law_kept (c : CA) : FD := runM false 11 2 (m__law_kept c)
theorem ok__law_kept {c : CA} (T : TF c K mg w) : FnG P w K mg base CX0 3 T.f__law_kept T.d__law_kept ["_law_value", "_law_index"] (spM K false (F__law_kept c)) :=
  okM T.F__law_kept sc__law_kept fun cdv B fr s J0 Z hr hg =>
    have nd := sc__law_kept.nd
    have hu64 := hr.units
    have hu1 := Nat.lt_of_le_of_lt (Nat.add_le_add_left (by decide : 1 ≤ 64) _) hu64
    (b_cons (s_par3 2 3 4 rfl nd (x_d (e_mkV T.oe_ParseError T.oi_ParseError T.ot_ParseError (okI_ParseError T) (hr.mono (by decide)) hg T.b_ParseError_init T.xg_ParseError (a_cons (e_name 1) a_nil))) (x_d (e_mkV T.oe_UnknownName T.oi_UnknownName T.ot_UnknownName (okI_UnknownName T) (hr.mono (by decide)) hg T.b_UnknownName_init T.xg_UnknownName (a_cons (e_name 0) a_nil))) (x_d (e_mkV T.oe_NotTaken T.oi_NotTaken T.ot_NotTaken (okI_NotTaken T) (hr.mono (by decide)) hg T.b_NotTaken_init T.xg_NotTaken (a_cons (e_name 0) a_nil)))) (b_cons (s_par3 5 6 7 rfl nd (x_d (e_mkV T.oe_InvalidNumber T.oi_InvalidNumber T.ot_InvalidNumber (okI_InvalidNumber T) (hr.mono (by decide)) hg T.b_InvalidNumber_init T.xg_InvalidNumber (a_cons (e_name 0) a_nil))) (x_d (e_mkV T.oe_NothingToUndo T.oi_NothingToUndo T.ot_NothingToUndo (okI_NothingToUndo T) (hr.mono (by decide)) hg T.b_NothingToUndo_init T.xg_NothingToUndo (a_cons (e_name 0) a_nil))) (x_d (e_mkV T.oe_TooMany T.oi_TooMany T.ot_TooMany (okI_TooMany T) (hr.mono (by decide)) hg T.b_TooMany_init T.xg_TooMany (a_cons (e_name 0) a_nil)))) (b_cons (s_par 8 9 rfl nd (x_d (e_mkV T.oe_Unstable T.oi_Unstable T.ot_Unstable (okI_Unstable T) (hr.mono (by decide)) hg T.b_Unstable_init T.xg_Unstable (a_cons (e_name 0) a_nil))) (x_d (e_mkV T.oe_Refused T.oi_Refused T.ot_Refused (okI_Refused T) (hr.mono (by decide)) hg T.b_Refused_init T.xg_Refused (a_cons (e_name 0) a_nil)))) (b_cons (s_set 10 nd (EO.f (eo_lst (a_cons (e_tup (a_cons (e_fn (ok__law_whole T) (hr.mono (by decide)) hg T.m__law_whole T.F__law_whole.kp T.b__law_whole (a_cons (e_name 2) a_nil)) (a_cons (e_xv T.xf_ParseError.1 T.xf_ParseError.2 (e_name 2)) a_nil))) (a_cons (e_tup (a_cons (e_fn (ok__law_whole T) (hr.mono (by decide)) hg T.m__law_whole T.F__law_whole.kp T.b__law_whole (a_cons (e_name 3) a_nil)) (a_cons (e_xv T.xf_UnknownName.1 T.xf_UnknownName.2 (e_name 3)) a_nil))) a_nil))))) (b_cons (s_set 10 nd (e_plus (e_name 10) (EO.f (eo_lst (a_cons (e_tup (a_cons (e_fn (ok__law_whole T) (hr.mono (by decide)) hg T.m__law_whole T.F__law_whole.kp T.b__law_whole (a_cons (e_name 4) a_nil)) (a_cons (e_xv T.xf_NotTaken.1 T.xf_NotTaken.2 (e_name 4)) a_nil))) (a_cons (e_tup (a_cons (e_fn (ok__law_whole T) (hr.mono (by decide)) hg T.m__law_whole T.F__law_whole.kp T.b__law_whole (a_cons (e_name 5) a_nil)) (a_cons (e_xv T.xf_InvalidNumber.1 T.xf_InvalidNumber.2 (e_name 5)) a_nil))) a_nil)))))) (b_cons (s_set 10 nd (e_plus (e_name 10) (EO.f (eo_lst (a_cons (e_tup (a_cons (e_fn (ok__law_whole T) (hr.mono (by decide)) hg T.m__law_whole T.F__law_whole.kp T.b__law_whole (a_cons (e_name 6) a_nil)) (a_cons (e_xv T.xf_NothingToUndo.1 T.xf_NothingToUndo.2 (e_name 6)) a_nil))) (a_cons (e_tup (a_cons (e_fn (ok__law_whole T) (hr.mono (by decide)) hg T.m__law_whole T.F__law_whole.kp T.b__law_whole (a_cons (e_name 7) a_nil)) (a_cons (e_xv T.xf_TooMany.1 T.xf_TooMany.2 (e_name 7)) a_nil))) a_nil)))))) (b_cons (s_ret (e_plus (e_name 10) (EO.f (eo_lst (a_cons (e_tup (a_cons (e_fn (ok__law_whole T) (hr.mono (by decide)) hg T.m__law_whole T.F__law_whole.kp T.b__law_whole (a_cons (e_name 8) a_nil)) (a_cons (e_xv T.xf_Unstable.1 T.xf_Unstable.2 (e_name 8)) a_nil))) (a_cons (e_tup (a_cons (e_fn (ok__law_whole T) (hr.mono (by decide)) hg T.m__law_whole T.F__law_whole.kp T.b__law_whole (a_cons (e_name 9) a_nil)) (a_cons (e_xv T.xf_Refused.1 T.xf_Refused.2 (e_name 9)) a_nil))) a_nil)))))) b_nil)))))))
abbrev s__law_caught : Stmt := topS 26
theorem sc__law_caught : FnScope ["_law_way", "_law_value", "e"] ["_law_way", "_law_value"] (defScope s__law_caught) := ⟨rfl, rfl, rfl, by decide +kernel, rfl, by decide +kernel, by decide +kernel⟩
noncomputable def m__law_caught (c : CA) : M Oc :=
  (seq (mTryA c.ad ["InvalidCosts", "NotTaken", "ParseError", "Unstable"] (tabOf [("InvalidCosts", "PriceError"), ("NotTaken", "NotTaken"), ("ParseError", "ParseError"), ("ParseError", "PriceError"), ("Unstable", "Unstable")]) 2 (seq (mIf (mT2 (fEq false) (mName 0) (ret (.int 0))) (seq (mRaise c.ad "InvalidCosts") (ret .nx)) (ret .nx)) (seq (mIf (mT2 (fEq false) (mName 0) (ret (.int 1))) (seq (mRaiseP c.ad "Unstable" "part" (mCons (mName 1) (ret []))) (ret .nx)) (ret .nx)) (seq (mIf (mT2 (fEq false) (mName 0) (ret (.int 2))) (seq (mRaiseP c.ad "NotTaken" "untaken" (mCons (mName 1) (ret []))) (ret .nx)) (ret .nx)) (seq (mRaiseP c.ad "ParseError" "number" (mCons (ret .non) (ret []))) (ret .nx))))) (("ParseError", (mhF "number" (fun x => (mBin fCat (ret (.str "parse ")) (mCall1 fReprD (ret x)))))) :: (("PriceError", (mhN c.ad (fun C => (mBin fCat (ret (.str "base ")) (mFn (Fh__law_own c C) (ret [.any])))))) :: (("Refused", (mhF "pledge" (fun x => (mBin fCat (ret (.str "refused ")) (mCall1 fReprD (ret x)))))) :: (("Unstable", (mhF "part" (fun x => (mBin fCat (ret (.str "unstable ")) (mCall1 fReprD (ret x)))))) :: (("NotTaken", (mhF "untaken" (fun x => (mBin fCat (ret (.str "untaken ")) (mCall1 fReprD (ret x)))))) :: [])))))) (ret .nx))
noncomputable def F__law_caught (c : CA) : FD := runM false 3 2 (m__law_caught c)
theorem ok__law_caught {c : CA} (T : TF c K mg w) : FnG P w K mg base CX0 3 T.f__law_caught T.d__law_caught ["_law_way", "_law_value"] (spM K false (F__law_caught c)) :=
  okM T.F__law_caught sc__law_caught fun cdv B fr s J0 Z hr hg =>
    have nd := sc__law_caught.nd
    have hu64 := hr.units
    have hu1 := Nat.lt_of_le_of_lt (Nat.add_le_add_left (by decide : 1 ≤ 64) _) hu64
    (b_cons (s_tryA (adr := c.ad) (names := ["InvalidCosts", "NotTaken", "ParseError", "Unstable"]) (tab := (tabOf [("InvalidCosts", "PriceError"), ("NotTaken", "NotTaken"), ("ParseError", "ParseError"), ("ParseError", "PriceError"), ("Unstable", "Unstable")])) (i := 2) rfl rfl nd rfl rfl outsP_wn (fun pn xe W1 ho => (b_cons (s_if (t_eq hu64 (e_name 0) e_int) (b_cons (s_raiseY PySem.F.excBase_ValueError T.xi_InvalidCosts T.xg_InvalidCosts T.xk_InvalidCosts (raises_own T.xr_InvalidCosts.1 T.xr_InvalidCosts.2) rfl ho) b_nil) b_nil) (b_cons (s_if (t_eq hu64 (e_name 0) e_int) (b_cons (s_raiseP T.oe_Unstable T.oi_Unstable T.ot_Unstable (okI_Unstable T) (hr.mono (by decide)) hg T.b_Unstable_init T.xg_Unstable rfl ho (a_cons (e_name 1) a_nil)) b_nil) b_nil) (b_cons (s_if (t_eq hu64 (e_name 0) e_int) (b_cons (s_raiseP T.oe_NotTaken T.oi_NotTaken T.ot_NotTaken (okI_NotTaken T) (hr.mono (by decide)) hg T.b_NotTaken_init T.xg_NotTaken rfl ho (a_cons (e_name 1) a_nil)) b_nil) b_nil) (b_cons (s_raiseP T.oe_ParseError T.oi_ParseError T.ot_ParseError (okI_ParseError T) (hr.mono (by decide)) hg T.b_ParseError_init T.xg_ParseError rfl ho (a_cons e_none a_nil)) b_nil))))) (.cons ⟨rfl, by decide, .inl T.xg_ParseError⟩ (List.forall_mem_cons.mpr ⟨T.xm_InvalidCosts_ParseError.trans (by decide +kernel), List.forall_mem_cons.mpr ⟨T.xm_NotTaken_ParseError.trans (by decide +kernel), List.forall_mem_cons.mpr ⟨T.xm_ParseError_ParseError.trans (by decide +kernel), List.forall_mem_cons.mpr ⟨T.xm_Unstable_ParseError.trans (by decide +kernel), List.forall_mem_nil _⟩⟩⟩⟩) (suite_f (fun x => (mBin fCat (ret (.str "parse ")) (mCall1 fReprD (ret x)))) (List.forall_mem_cons.mpr ⟨fun ht => absurd ht (by decide +kernel), List.forall_mem_cons.mpr ⟨fun ht => absurd ht (by decide +kernel), List.forall_mem_cons.mpr ⟨fun _ a0 oe0 pn0 dd0 v0 x hz0 hv0 => (p_bin pinE_stay op_add_str os_cat (EF.p e_str) (p_blt1 pinE_stay (call_reprD T.sys hg hu64) cs_reprD T.z_repr (p_xf rfl rfl T.xf_ParseError.1 T.xf_ParseError.2 hz0 hv0))), List.forall_mem_cons.mpr ⟨fun ht => absurd ht (by decide +kernel), List.forall_mem_nil _⟩⟩⟩⟩)) (.cons ⟨rfl, by decide, .inl T.xg_PriceError⟩ (List.forall_mem_cons.mpr ⟨T.xm_InvalidCosts_PriceError.trans (by decide +kernel), List.forall_mem_cons.mpr ⟨T.xm_NotTaken_PriceError.trans (by decide +kernel), List.forall_mem_cons.mpr ⟨T.xm_ParseError_PriceError.trans (by decide +kernel), List.forall_mem_cons.mpr ⟨T.xm_Unstable_PriceError.trans (by decide +kernel), List.forall_mem_nil _⟩⟩⟩⟩) (suite_n (fun C => (mBin fCat (ret (.str "base ")) (mFn (Fh__law_own c C) (ret [.any])))) (List.forall_mem_cons.mpr ⟨fun _ a0 oe0 pn0 hz1 hv0 => (p_bin pinS_stay op_add_str os_cat (EF.p e_str) (p_fnE List.mem_cons_self hz1.1 hz1.2 hv0 (okh__law_own T) (⟨(hr.mono (by decide : 1 ≤ _)).dp, (hr.mono (by decide : 1 ≤ _)).un⟩) hg T.m__law_own T.F__law_own.kp T.b__law_own rfl (.inl rfl))), List.forall_mem_cons.mpr ⟨fun ht => absurd ht (by decide +kernel), List.forall_mem_cons.mpr ⟨fun _ a0 oe0 pn0 hz1 hv0 => (p_bin pinS_stay op_add_str os_cat (EF.p e_str) (p_fnE List.mem_cons_self hz1.1 hz1.2 hv0 (okh__law_own T) (⟨(hr.mono (by decide : 1 ≤ _)).dp, (hr.mono (by decide : 1 ≤ _)).un⟩) hg T.m__law_own T.F__law_own.kp T.b__law_own rfl (.inl rfl))), List.forall_mem_cons.mpr ⟨fun ht => absurd ht (by decide +kernel), List.forall_mem_nil _⟩⟩⟩⟩)) (.cons ⟨rfl, by decide, .inl T.xg_Refused⟩ (List.forall_mem_cons.mpr ⟨T.xm_InvalidCosts_Refused.trans (by decide +kernel), List.forall_mem_cons.mpr ⟨T.xm_NotTaken_Refused.trans (by decide +kernel), List.forall_mem_cons.mpr ⟨T.xm_ParseError_Refused.trans (by decide +kernel), List.forall_mem_cons.mpr ⟨T.xm_Unstable_Refused.trans (by decide +kernel), List.forall_mem_nil _⟩⟩⟩⟩) (suite_f (fun x => (mBin fCat (ret (.str "refused ")) (mCall1 fReprD (ret x)))) (List.forall_mem_cons.mpr ⟨fun ht => absurd ht (by decide +kernel), List.forall_mem_cons.mpr ⟨fun ht => absurd ht (by decide +kernel), List.forall_mem_cons.mpr ⟨fun ht => absurd ht (by decide +kernel), List.forall_mem_cons.mpr ⟨fun ht => absurd ht (by decide +kernel), List.forall_mem_nil _⟩⟩⟩⟩)) (.cons ⟨rfl, by decide, .inl T.xg_Unstable⟩ (List.forall_mem_cons.mpr ⟨T.xm_InvalidCosts_Unstable.trans (by decide +kernel), List.forall_mem_cons.mpr ⟨T.xm_NotTaken_Unstable.trans (by decide +kernel), List.forall_mem_cons.mpr ⟨T.xm_ParseError_Unstable.trans (by decide +kernel), List.forall_mem_cons.mpr ⟨T.xm_Unstable_Unstable.trans (by decide +kernel), List.forall_mem_nil _⟩⟩⟩⟩) (suite_f (fun x => (mBin fCat (ret (.str "unstable ")) (mCall1 fReprD (ret x)))) (List.forall_mem_cons.mpr ⟨fun ht => absurd ht (by decide +kernel), List.forall_mem_cons.mpr ⟨fun ht => absurd ht (by decide +kernel), List.forall_mem_cons.mpr ⟨fun ht => absurd ht (by decide +kernel), List.forall_mem_cons.mpr ⟨fun _ a0 oe0 pn0 dd0 v0 x hz0 hv0 => (p_bin pinE_stay op_add_str os_cat (EF.p e_str) (p_blt1 pinE_stay (call_reprD T.sys hg hu64) cs_reprD T.z_repr (p_xf rfl rfl T.xf_Unstable.1 T.xf_Unstable.2 hz0 hv0))), List.forall_mem_nil _⟩⟩⟩⟩)) (.cons ⟨rfl, by decide, .inl T.xg_NotTaken⟩ (List.forall_mem_cons.mpr ⟨T.xm_InvalidCosts_NotTaken.trans (by decide +kernel), List.forall_mem_cons.mpr ⟨T.xm_NotTaken_NotTaken.trans (by decide +kernel), List.forall_mem_cons.mpr ⟨T.xm_ParseError_NotTaken.trans (by decide +kernel), List.forall_mem_cons.mpr ⟨T.xm_Unstable_NotTaken.trans (by decide +kernel), List.forall_mem_nil _⟩⟩⟩⟩) (suite_f (fun x => (mBin fCat (ret (.str "untaken ")) (mCall1 fReprD (ret x)))) (List.forall_mem_cons.mpr ⟨fun ht => absurd ht (by decide +kernel), List.forall_mem_cons.mpr ⟨fun _ a0 oe0 pn0 dd0 v0 x hz0 hv0 => (p_bin pinE_stay op_add_str os_cat (EF.p e_str) (p_blt1 pinE_stay (call_reprD T.sys hg hu64) cs_reprD T.z_repr (p_xf rfl rfl T.xf_NotTaken.1 T.xf_NotTaken.2 hz0 hv0))), List.forall_mem_cons.mpr ⟨fun ht => absurd ht (by decide +kernel), List.forall_mem_cons.mpr ⟨fun ht => absurd ht (by decide +kernel), List.forall_mem_nil _⟩⟩⟩⟩)) .nil)))))) b_nil)
abbrev s__law_right : Stmt := topS 27
theorem sc__law_right : FnScope ["_law_dice_here", "_law_odd", "_law_value", "_law_index", "_law_due", "_law_told", "_law_way", "_law_letter"] ["_law_dice_here"] (defScope s__law_right) := ⟨rfl, rfl, rfl, by decide +kernel, rfl, by decide +kernel, by decide +kernel⟩
noncomputable def m__law_right (c : CA) : M Oc :=
  (seq (mSet 1 (frz (mLst (mCons (ret .non) (mCons (ret (.bl true)) (mCons (mNeg (ret (.int 7))) (mCons (mBin uMul (mBin uPow (ret (.int 10)) (ret (.int 45))) (mBin uPow (ret (.int 10)) (ret (.int 45)))) (mCons (ret (.str "")) (mCons (ret (.str "b(a)#")) (mCons (mTup (mCons (ret (.str "links")) (mCons (ret (.str "put")) (ret [])))) (mCons (frz (mLst (mCons (ret (.int 1)) (mCons (frz (mLst (mCons (ret (.int 2)) (ret [])))) (ret []))))) (mCons (frz (mDisp (mPairs (ret (.str "a")) (mTup (ret [])) (ret [])))) (mCons (mTup (mCons (mTup (mCons (mTup (mCons (ret (.str "a")) (ret []))) (ret []))) (ret []))) (ret [])))))))))))))) (seq (mAsg (stTup 2 (stCons (stName 2) (stCons (stName 3) stNil))) (mTup (mCons (isDi 0 (mFn (F__law_pick c) (mCons (mName 1) (ret [])))) (mCons (isDi 0 (mFn (F__law_pick c) (mCons (frz (mLst (mCons (ret .non) (mCons (ret (.int 0)) (mCons (ret (.int 1)) (mCons (isDi 0 (mFn (F__law_roll c) (mCons (mBin uPow (ret (.int 10)) (ret (.int 30))) (ret [])))) (ret []))))))) (ret [])))) (ret []))))) (seq (mSet 4 (mBin uPlus (frz (mLc [7] (mIter (ret (.str "mtpscrqo"))) (stName 7) (ret true) (mBin uPlus (mName 7) (ret (.str " base value "))))) (frz (mLst (mCons (ret (.str " base value ")) (ret [])))))) (seq (mIf (mT2 (fEq true) (mFn (F__law_messages c) (mCons (isDi 0 (mFn (F__law_pick c) (mCons (frz (mLst (mCons (ret (.str "")) (mCons (ret (.str "no")) (mCons (ret (.str "no such thing")) (ret [])))))) (ret [])))) (ret []))) (mName 4)) (seq (mRet (ret (.bl false))) (ret .nx)) (ret .nx)) (seq (mSet 4 (frz (mLst (mCons (mTup (mCons (ret (.str "x base value ")) (mCons (mName 3) (ret [])))) (mCons (mTup (mCons (ret (.str "U key lookup ")) (mCons (mName 2) (ret [])))) (mCons (mTup (mCons (ret (.str "T lookup ")) (mCons (mName 2) (ret [])))) (mCons (mTup (mCons (ret (.str "N index lookup ")) (mCons (mName 2) (ret [])))) (ret [])))))))) (seq (mSet 4 (mBin uPlus (mName 4) (frz (mLst (mCons (mTup (mCons (ret (.str "Z runtime ")) (mCons (mName 2) (ret [])))) (mCons (mTup (mCons (ret (.str "M overflow arithmetic ")) (mCons (mName 2) (ret [])))) (mCons (mTup (mCons (ret (.str "S arithmetic ")) (mCons (mName 2) (ret [])))) (ret [])))))))) (seq (mIf (mT2 (fEq true) (mCall fReprD (mCons (mFn (F__law_kept c) (mCons (mName 2) (mCons (mName 3) (ret [])))) (ret []))) (mCall fReprD (mCons (mBin uPlus (mName 4) (frz (mLst (mCons (mTup (mCons (ret (.str "R arithmetic ")) (mCons (mName 2) (ret [])))) (ret []))))) (ret [])))) (seq (mRet (ret (.bl false))) (ret .nx)) (ret .nx)) (seq (mSet 5 (frz (mLc [6] (mWk fRng1 (mCons (ret (.int 4)) (ret []))) (stName 6) (ret true) (mFn (F__law_caught c) (mCons (mName 6) (mCons (mName 2) (ret []))))))) (seq (mRet (mBin (fEq false) (mName 5) (frz (mLst (mCons (ret (.str "base c")) (mCons (mBin uPlus (ret (.str "unstable ")) (mCall fReprD (mCons (mName 2) (ret [])))) (mCons (mBin uPlus (ret (.str "untaken ")) (mCall fReprD (mCons (mName 2) (ret [])))) (mCons (ret (.str "parse None")) (ret []))))))))) (ret .nx))))))))))
noncomputable def F__law_right (c : CA) : FD := runM true 8 1 (m__law_right c)
theorem ok__law_right {c : CA} (T : TF c K mg w) : FnG P w K mg base CX0 4 T.f__law_right T.d__law_right ["_law_dice_here"] (spM K true (F__law_right c)) :=
  okM T.F__law_right sc__law_right fun cdv B fr s J0 Z hr hg =>
    have nd := sc__law_right.nd
    have hu64 := hr.units
    have hu1 := Nat.lt_of_le_of_lt (Nat.add_le_add_left (by decide : 1 ≤ 64) _) hu64
    (b_cons (s_set 1 nd (EO.f (eo_lst (a_cons e_none (a_cons e_bool (a_cons (e_neg e_int) (a_cons (e_mul (e_pow e_int e_int) (e_pow e_int e_int)) (a_cons e_str (a_cons e_str (a_cons (e_tup (a_cons e_str (a_cons e_str a_nil))) (a_cons (EO.f (eo_lst (a_cons e_int (a_cons (EO.f (eo_lst (a_cons e_int a_nil))) a_nil)))) (a_cons (EO.f (eo_disp (pp_cons e_str (e_tup a_nil) pp_nil))) (a_cons (e_tup (a_cons (e_tup (a_cons (e_tup (a_cons e_str a_nil)) a_nil)) a_nil)) a_nil))))))))))))) (b_cons (s_asg (e_tup (a_cons (e_fd 0 (ok__law_pick T) (hr.mono (by decide)) hg T.m__law_pick T.F__law_pick.kp T.b__law_pick (a_cons (e_name 1) a_nil)) (a_cons (e_fd 0 (ok__law_pick T) (hr.mono (by decide)) hg T.m__law_pick T.F__law_pick.kp T.b__law_pick (a_cons (EO.f (eo_lst (a_cons e_none (a_cons e_int (a_cons e_int (a_cons (e_fd 0 (ok__law_roll T) (hr.mono (by decide)) hg T.m__law_roll T.F__law_roll.kp T.b__law_roll (a_cons (e_pow e_int e_int) a_nil)) a_nil)))))) a_nil)) a_nil))) (g_tup rfl (gs_cons (g_name 2 nd) (gs_cons (g_name 3 nd) gs_nil)))) (b_cons (s_set 4 nd (e_plus (EO.f (eo_lc (own := [("_law_letter", 7)]) rfl nd (ei_any e_str) (blkOk_by rfl) (fun _ _ _ _ _ => (g_name 7 nd)) (fun _ _ _ _ _ => ts_nil) (fun _ _ _ _ _ => (e_plus (e_name 7) e_str)))) (EO.f (eo_lst (a_cons e_str a_nil))))) (b_cons (s_if (t_ne hu64 (e_fn (ok__law_messages T) (hr.mono (by decide)) hg T.m__law_messages T.F__law_messages.kp T.b__law_messages (a_cons (e_fd 0 (ok__law_pick T) (hr.mono (by decide)) hg T.m__law_pick T.F__law_pick.kp T.b__law_pick (a_cons (EO.f (eo_lst (a_cons e_str (a_cons e_str (a_cons e_str a_nil))))) a_nil)) a_nil)) (e_name 4)) (b_cons (s_ret e_bool) b_nil) b_nil) (b_cons (s_set 4 nd (EO.f (eo_lst (a_cons (e_tup (a_cons e_str (a_cons (e_name 3) a_nil))) (a_cons (e_tup (a_cons e_str (a_cons (e_name 2) a_nil))) (a_cons (e_tup (a_cons e_str (a_cons (e_name 2) a_nil))) (a_cons (e_tup (a_cons e_str (a_cons (e_name 2) a_nil))) a_nil))))))) (b_cons (s_set 4 nd (e_plus (e_name 4) (EO.f (eo_lst (a_cons (e_tup (a_cons e_str (a_cons (e_name 2) a_nil))) (a_cons (e_tup (a_cons e_str (a_cons (e_name 2) a_nil))) (a_cons (e_tup (a_cons e_str (a_cons (e_name 2) a_nil))) a_nil))))))) (b_cons (s_if (t_ne hu64 (e_reprD T.sys hg hu64 T.z_repr (a_cons (e_fn (ok__law_kept T) (hr.mono (by decide)) hg T.m__law_kept T.F__law_kept.kp T.b__law_kept (a_cons (e_name 2) (a_cons (e_name 3) a_nil))) a_nil)) (e_reprD T.sys hg hu64 T.z_repr (a_cons (e_plus (e_name 4) (EO.f (eo_lst (a_cons (e_tup (a_cons e_str (a_cons (e_name 2) a_nil))) a_nil)))) a_nil))) (b_cons (s_ret e_bool) b_nil) b_nil) (b_cons (s_setLc (own := [("_law_way", 6)]) 5 rfl nd (ei_rng1 T.z_range (a_cons e_int a_nil)) (blkOk_by rfl) (fun _ _ _ _ _ => (g_name 6 nd)) (fun _ _ _ _ _ => ts_nil) (fun _ _ _ _ _ => (e_fn (ok__law_caught T) (hr.mono (by decide)) hg T.m__law_caught T.F__law_caught.kp T.b__law_caught (a_cons (e_name 6) (a_cons (e_name 2) a_nil))))) (b_cons (s_ret (e_eq hu64 (e_name 5) (EO.f (eo_lst (a_cons e_str (a_cons (e_plus e_str (e_reprD T.sys hg hu64 T.z_repr (a_cons (e_name 2) a_nil))) (a_cons (e_plus e_str (e_reprD T.sys hg hu64 T.z_repr (a_cons (e_name 2) a_nil))) (a_cons e_str a_nil)))))))) b_nil)))))))))
abbrev s_law : Stmt := topS 28
theorem sc_law : FnScope ["_law_script", "_law_spot", "_law_dice_here", "_law_turn"] ["_law_script"] (defScope s_law) := ⟨rfl, rfl, rfl, by decide +kernel, rfl, by decide +kernel, by decide +kernel⟩
noncomputable def m_law (c : CA) : M Oc :=
  (seq (mFor (stName 1) (mWk fRng1 (mCons (mCall fMax2 (mCons (ret (.int 1)) (mCons (mCall fMin2 (mCons (ret (.int 4)) (mCons (mCall fLen (mCons (mName 0) (ret []))) (ret [])))) (ret [])))) (ret []))) (seq (mSetO 2 (mFnO (F__law_dice c) (mCons (mName 0) (mCons (mName 1) (ret []))))) (seq (mFor (stName 3) (mWk fRng1 (mCons (ret (.int 3)) (ret []))) (seq (mIf (mtNot (mTru (mFnQ 2 (F__law_right c) (ret [])))) (seq (mRet (ret (.bl false))) (ret .nx)) (ret .nx)) (ret .nx))) (ret .nx)))) (seq (mRet (ret (.bl true))) (ret .nx)))
noncomputable def F_law (c : CA) : FD := runM false 4 1 (m_law c)
theorem ok_law {c : CA} (T : TF c K mg w) : FnG P w K mg base CX0 5 T.f_law T.d_law ["_law_script"] (spM K false (F_law c)) :=
  okM T.F_law sc_law fun cdv B fr s J0 Z hr hg =>
    have nd := sc_law.nd
    have hu64 := hr.units
    have hu1 := Nat.lt_of_le_of_lt (Nat.add_le_add_left (by decide : 1 ≤ 64) _) hu64
    (b_cons (s_for rfl .never (ei_rng1 T.z_range (a_cons (e_blt (call_max2 rfl) cs_max2 T.z_max (a_cons e_int (a_cons (e_blt (call_min2 rfl) cs_min2 T.z_min (a_cons e_int (a_cons (e_blt call_len cs_len T.z_len (a_cons (e_name 0) a_nil)) a_nil))) a_nil))) a_nil)) (g_name 1 nd) (b_cons (s_setO 2 nd (eo_fn (ok__law_dice T) (hr.mono (by decide)) hg T.m__law_dice T.F__law_dice.kp T.b__law_dice (a_cons (e_name 0) (a_cons (e_name 1) a_nil)))) (b_cons (s_for rfl .never (ei_rng1 T.z_range (a_cons e_int a_nil)) (g_name 3 nd) (b_cons (s_if (t_not (t_e (e_fq 2 (ok__law_right T) (hr.mono (by decide)) hg T.m__law_right T.F__law_right.kp T.b__law_right a_nil))) (b_cons (s_ret e_bool) b_nil) b_nil) b_nil)) b_nil))) (b_cons (s_ret e_bool) b_nil))
end
end K402
set_option Elab.async false
set_option linter.all false
set_option maxRecDepth 100000
set_option maxHeartbeats 4000000
/-! Mh: the head by one run in the kernel; what the walk wants is read off the heap by names. -/
namespace Mh
open PySem PySem.Spec PyProof.Rows L2 He
/-! checks by names -/
section
variable {K : PySem.W.Frag} {h : Heap} {mg : Str → Option Value}
theorem glo_of (X : K.In h) (G : h.Ns mainGlobals mg) {x : Str} (c : kGlo x K = true) : mg x = some (.ref (ga K x)) := PySem.W.mg_of X G (eqO_ok c)
end
/-! defs -/
theorem df_fun {K : PySem.W.Frag} {d : Df} (e : seeF K (d.pl.ad K) = d.val) (c : d.good K = true) : Fun K d.name d.qual d.st (d.pl.ad K) (fdOf K (d.pl.ad K)) := by
  obtain ⟨c1, c2⟩ := ba c
  unfold seeF at e
  unfold fdOf at c1 ⊢
  split at e
  · rename_i oc od fd osl q
    rw [q] at c1
    have c1 : PySem.W.codeIn K fd.code d.qual = true := c1
    obtain ⟨x1, x2, x3, x4, x5, x6, x7, x8, x9, x10, x11, x12, x13, x14, x15⟩ := fd
    injection e with e
    simp only [Prod.mk.injEq] at e
    obtain ⟨y1, y2, y3, y4, y5, y6, y7, y8, y9⟩ := e
    subst y1 y2 y3 y4 y5 y6 y7 y8 y9
    exact ⟨⟨oc, od, _, _, _, _, _, _, osl, rfl, q, c1⟩, c2⟩
  · cases e
theorem bindsLaw {K : PySem.W.Frag} {x qual p : Str} {st : Stmt} {f : Addr} {fd : FuncData} (F : Fun K x qual st f fd)
    (h : ∀ (kV doc pm : Value) (an : Option Addr) (cdv ct v : Value), bindArgs (PySem.W.fnOf x qual (defArgs st) (defBody st) (defScope st) .none kV doc pm an cdv ct) ⟨[v], []⟩ = pure [(p, v)]) (s : Shared) (v : Value) : BindsTo s fd ⟨[v], []⟩ [(p, v)] := by
  obtain ⟨oc, od, kV, doc, pm, an, cdv, ct, osl, rfl, lk, hcd⟩ := F.ex
  exact .of_eq (h ..)
/-! the hook -/
section
variable {cs : List Ck} {ds : List Df} {K : PySem.W.Frag}
theorem SaysH.ck (c : SaysH cs ds K) (i : Nat) {f : Ck} (h : cs[i]? = some f) : f K = true :=
  List.all_eq_true.mp (ba (show ((cs.all fun c => c K) && ds.all fun d => d.good K) = true from congrArg (fun z : Ah => z.1) c)).1 f (List.mem_of_getElem? h)
theorem SaysH.df (c : SaysH cs ds K) (i : Nat) {d : Df} (h : ds[i]? = some d) : Fun K d.name d.qual d.st (d.pl.ad K) (fdOf K (d.pl.ad K)) := by
  have c2 := (ba (show ((cs.all fun c => c K) && ds.all fun d => d.good K) = true from congrArg (fun z : Ah => z.1) c)).2
  have e : (ds.map fun d => seeF K (d.pl.ad K)) = ds.map Df.val := congrArg (fun z : Ah => z.2) c
  have e2 := congrArg (fun l => l[i]?) e
  simp only [List.getElem?_map, h, Option.map_some, Option.some.injEq] at e2
  exact df_fun e2 (List.all_eq_true.mp c2 d (List.mem_of_getElem? h))
end
/-! the law's end -/
theorem walkH {l : PySem.W.OpenLaw} {n k : Nat} {q : Program} {loose : List Str} {XP : (Str → Option Value) → Heap → Prop} {d : DefRec} {cs : List Ck} {ds : List Df} {YP : World → Heap → Prop} {x : Str}
    (hY : ∀ w h, YP w h → ∃ K : PySem.W.Frag, K.In h ∧ SaysH cs ds K) (hn : l.most = some n) (hn2 : n ≤ sizeLine) (hdf : d.params.defaults = []) (hr : Room k callerA)
    (F : ∀ (w : World) (mg : Str → Option Value) (fa : Addr) (h : Heap) (K : PySem.W.Frag), K.In h → SaysH cs ds K → h.Ns mainGlobals mg → mg d.name = some (.ref fa) →
      ∃ (fd : FuncData) (sp : Sp), (∀ (s : Shared) (u : Value), BindsTo s fd ⟨[u], []⟩ [(x, u)]) ∧
        (∀ (J : Hp) (a : Addr) (ns : List Int), ns.length ≤ n → Only J → SqL K J a (ns.map V.int) → sp [.ref a] J (fun v _ => v = .bl true) fun _ _ _ => False) ∧
        ∀ b0 : Heap, K.In b0 → b0.Ns mainGlobals mg → Lp.FnG l.prog w K mg b0 CX0 k fa fd [x] sp) :
    PySem.W.WalkO q loose XP YP l.row.toRowW d [] (fun f vs => PySem.call f vs) :=
  Att.attach_call hn hdf fun w s0 s1 mg mb fa o pm cd doc a vs ns G Y ho hd hcd hmg hobj hints hlen hgen => by
    obtain ⟨K, KX, c⟩ := hY w _ Y
    obtain ⟨fd, sp, hb, hsp, hF⟩ := F w mg fa _ K KX c G.T.g hmg
    exact Lp.law_callG KX G.T.g G.T.b G.T.builtins G.T.nolimit hgen hobj hints (Nat.le_trans hlen hn2) hr hF hb (fun J hO hS => hsp J a ns hlen hO hS) fun J e s' h => h
end Mh
set_option Elab.async false
set_option linter.all false
set_option maxRecDepth 100000
set_option maxHeartbeats 4000000
namespace Mh
open PySem PySem.Spec PyProof.Rows L2 He
end Mh
set_option Elab.async false
set_option linter.all false
set_option maxRecDepth 100000
set_option maxHeartbeats 4000000
/-! Mh: what is read off the heap of the text's own errors. -/
namespace Mh
open PySem PySem.Spec PyProof.Rows L2 He
section
variable {K : PySem.W.Frag} {h : Heap} {mg : Str → Option Value}
theorem kexc_glo (X : K.In h) (G : h.Ns mainGlobals mg) {x : Str} (c : kExc x K = true) : mg x = some (.ref (ga K x)) := glo_of X G (ba c).1
theorem kexc_keep {x : Str} (c : kExc x K = true) : PySem.W.keepIn K (.ref (ga K x)) = true := (ba (ba c).2).1
theorem kexc_in {x : Str} (c : kExc x K = true) : PySem.W.excIn K (ga K x) Mo.bmV "ValueError.__new__" = true := (ba (ba (ba c).2).2).1
theorem kexc_r {x : Str} (c : kExc x K = true) : PySem.W.subIn K (.ref (ga K x)) (.type "BaseException") = some true ∧ PySem.W.typeIn K (.ref (ga K x)) = some (.type "type") := by
  obtain ⟨c1, c2⟩ := ba (ba (ba (ba c).2).2).2
  exact ⟨of_decide_eq_true c1, of_decide_eq_true c2⟩
theorem kexm_ok {n y : Str} {b : Bool} (c : kExm n y b K = true) : PySem.W.exmOne K (.ref (ga K n)) (.ref (ga K y)) = some b := of_decide_eq_true c
end
end Mh
set_option Elab.async false
set_option linter.all false
set_option maxRecDepth 100000
set_option maxHeartbeats 4000000
/-! Mh: what is read off the heap of errors that keep a field. -/
namespace Mh
open PySem PySem.Spec PyProof.Rows L2 He
section
variable {K : PySem.W.Frag} {h : Heap} {mg : Str → Option Value} {n f : Str}
theorem koex_glo (X : K.In h) (G : h.Ns mainGlobals mg) {newId : String} {bmB : List Value} (c : kOex n newId bmB K = true) : mg n = some (.ref (ga K n)) := glo_of X G (ba c).1
theorem koex_L (c : kOex n "LookupError.__new__" Mo.bmL K = true) : OexG K (ga K n) "LookupError" "LookupError.__new__" "LookupError.__init__" Mo.bmL := Mo.oex_L (ba c).2
theorem koex_I (c : kOex n "IndexError.__new__" Mo.bmI K = true) : OexG K (ga K n) "IndexError" "IndexError.__new__" "IndexError.__init__" Mo.bmI := Mo.oex_I (ba c).2
theorem koex_O (c : kOex n "OverflowError.__new__" Mo.bmO K = true) : OexG K (ga K n) "OverflowError" "OverflowError.__new__" "OverflowError.__init__" Mo.bmO := Mo.oex_O (ba c).2
theorem koex_V (c : kOex n "ValueError.__new__" Mo.bmV K = true) : OexG K (ga K n) "ValueError" "ValueError.__new__" "ValueError.__init__" Mo.bmV := Mo.oex_V (ba c).2
theorem ktak_ok (c : kTak n f K = true) : PySem.W.takerIn K (ga K n) f = some none := of_decide_eq_true c
theorem kini_ok (c : kIni n K = true) : PySem.W.findIn K (.ref (ga K n)) "__init__" = some (some (.ref (ma K (ga K n) "__init__"))) := of_decide_eq_true (ba c).1
theorem kini_fn (c : kIni n K = true) : PySem.W.typeIn K (.ref (ma K (ga K n) "__init__")) = some (.type "function") := of_decide_eq_true (ba c).2
theorem kxf_ok (c : kXf n f K = true) : XfC K (ga K n) ∧ PySem.W.findIn K (.ref (ga K n)) f = some none := ⟨xfB_ok (ba c).1, of_decide_eq_true (ba c).2⟩
end
end Mh
set_option Elab.async false
set_option linter.all false
set_option maxRecDepth 100000
set_option maxHeartbeats 4000000
/-! Mh: what is read off the heap of classmethods, subscripts, == and isinstance with anything. -/
namespace Mh
open PySem PySem.Spec PyProof.Rows L2 He
end Mh
set_option Elab.async false
set_option linter.all false
set_option maxRecDepth 100000
set_option maxHeartbeats 4000000
/-! Mh: an own `**` out of its check. -/
namespace Mh
open PySem PySem.Spec PyProof.Rows L2 He
end Mh
set_option Elab.async false
set_option linter.all false
set_option maxRecDepth 100000
set_option maxHeartbeats 4000000
/-! Mh: what is read off the heap of errors as values. -/
namespace Mh
open PySem PySem.Spec PyProof.Rows L2 He
section
variable {K : PySem.W.Frag} {n f : Str} {ns subs : List Str} {y : Str} {t : String}
theorem excCB_ok {D : Addr} (c : excCB K D = true) : ExcC K D := by
  obtain ⟨c1, c⟩ := ba c
  obtain ⟨c2, c⟩ := ba c
  obtain ⟨c3, c⟩ := ba c
  obtain ⟨c4, c⟩ := ba c
  obtain ⟨c5, c⟩ := ba c
  obtain ⟨c6, c⟩ := ba c
  obtain ⟨c7, c8⟩ := ba c
  exact ⟨of_decide_eq_true c1, of_decide_eq_true c2, of_decide_eq_true c3, c4, of_decide_eq_true c5, of_decide_eq_true c6, of_decide_eq_true c7, of_decide_eq_true c8⟩
theorem kivR_ok (a : kEcl ns K = true) (c : kIvR ns subs y K = true) : Mo.IsVC K (ns.map (ga K)) (subs.map (ga K)) (.ref (ga K y)) := by
  refine ⟨fun D h => ?_, fun D h => ?_⟩
  · obtain ⟨n, m, rfl⟩ := List.mem_map.mp h
    exact excCB_ok (List.all_eq_true.mp a n m)
  · obtain ⟨n, m, rfl⟩ := List.mem_map.mp h
    exact of_decide_eq_true (List.all_eq_true.mp c n m)
theorem kivT_ok (a : kEcl ns K = true) (c : kIvT ns subs t K = true) : Mo.IsVC K (ns.map (ga K)) (subs.map (ga K)) (.type t) := by
  refine ⟨fun D h => ?_, fun D h => ?_⟩
  · obtain ⟨n, m, rfl⟩ := List.mem_map.mp h
    exact excCB_ok (List.all_eq_true.mp a n m)
  · obtain ⟨n, m, rfl⟩ := List.mem_map.mp h
    exact of_decide_eq_true (List.all_eq_true.mp c n m)
theorem kndp_ok (c : kNdp ns K = true) : (ns.map (ga K)).Nodup := of_decide_eq_true c
theorem ksys_ok (c : kSys K = true) : Mo.SysK K := by
  unfold kSys at c
  cases e : K.lookup sysModules with
  | none => rw [e] at c; cases c
  | some o => rw [e] at c; exact ⟨o, e, of_decide_eq_true c⟩
theorem koex_R (c : kOex n "RuntimeError.__new__" Mo.bmR K = true) : OexG K (ga K n) "RuntimeError" "RuntimeError.__new__" "RuntimeError.__init__" Mo.bmR := Mo.oex_R (ba c).2
theorem koex_A (c : kOex n "ArithmeticError.__new__" Mo.bmA K = true) : OexG K (ga K n) "ArithmeticError" "ArithmeticError.__new__" "ArithmeticError.__init__" Mo.bmA := Mo.oex_A (ba c).2
theorem koex_K (c : kOex n "LookupError.__new__" Mo.bmK K = true) : OexG K (ga K n) "KeyError" "LookupError.__new__" "KeyError.__init__" Mo.bmK := Mo.oex_K (ba c).2
end
end Mh
set_option Elab.async false
set_option linter.all false
set_option maxRecDepth 100000
set_option maxHeartbeats 0
namespace K402
open PySem PySem.Spec L2 Mo Mh He PyProof.Rows
open Lp (FnG)
noncomputable def facts {K : PySem.W.Frag} {h : Heap} {mg : Str → Option Value} (X : K.In h) (G : h.Ns mainGlobals mg) (c : SaysH hCs hDs K) (w : World) : TF ⟨w, fun n => ga K n⟩ K mg w := {
    ww := rfl
    z_ArithmeticError := free_ok X G (x := "ArithmeticError") (c.ck 0 (f := kFree "ArithmeticError") rfl)
    z_IndexError := free_ok X G (x := "IndexError") (c.ck 1 (f := kFree "IndexError") rfl)
    z_KeyError := free_ok X G (x := "KeyError") (c.ck 2 (f := kFree "KeyError") rfl)
    z_LookupError := free_ok X G (x := "LookupError") (c.ck 3 (f := kFree "LookupError") rfl)
    z_OverflowError := free_ok X G (x := "OverflowError") (c.ck 4 (f := kFree "OverflowError") rfl)
    z_RuntimeError := free_ok X G (x := "RuntimeError") (c.ck 5 (f := kFree "RuntimeError") rfl)
    z_ValueError := free_ok X G (x := "ValueError") (c.ck 6 (f := kFree "ValueError") rfl)
    z_abs := free_ok X G (x := "abs") (c.ck 7 (f := kFree "abs") rfl)
    z_int := free_ok X G (x := "int") (c.ck 8 (f := kFree "int") rfl)
    z_isinstance := free_ok X G (x := "isinstance") (c.ck 9 (f := kFree "isinstance") rfl)
    z_len := free_ok X G (x := "len") (c.ck 10 (f := kFree "len") rfl)
    z_max := free_ok X G (x := "max") (c.ck 11 (f := kFree "max") rfl)
    z_min := free_ok X G (x := "min") (c.ck 12 (f := kFree "min") rfl)
    z_range := free_ok X G (x := "range") (c.ck 13 (f := kFree "range") rfl)
    z_repr := free_ok X G (x := "repr") (c.ck 14 (f := kFree "repr") rfl)
    xg_InvalidCosts := kexc_glo X G (x := "InvalidCosts") (c.ck 15 (f := kExc "InvalidCosts") rfl)
    xk_InvalidCosts := kexc_keep (x := "InvalidCosts") (c.ck 15 (f := kExc "InvalidCosts") rfl)
    xi_InvalidCosts := kexc_in (x := "InvalidCosts") (c.ck 15 (f := kExc "InvalidCosts") rfl)
    xr_InvalidCosts := kexc_r (x := "InvalidCosts") (c.ck 15 (f := kExc "InvalidCosts") rfl)
    xg_InvalidMachine := kexc_glo X G (x := "InvalidMachine") (c.ck 16 (f := kExc "InvalidMachine") rfl)
    xk_InvalidMachine := kexc_keep (x := "InvalidMachine") (c.ck 16 (f := kExc "InvalidMachine") rfl)
    xi_InvalidMachine := kexc_in (x := "InvalidMachine") (c.ck 16 (f := kExc "InvalidMachine") rfl)
    xr_InvalidMachine := kexc_r (x := "InvalidMachine") (c.ck 16 (f := kExc "InvalidMachine") rfl)
    xg_InvalidOperation := kexc_glo X G (x := "InvalidOperation") (c.ck 17 (f := kExc "InvalidOperation") rfl)
    xk_InvalidOperation := kexc_keep (x := "InvalidOperation") (c.ck 17 (f := kExc "InvalidOperation") rfl)
    xi_InvalidOperation := kexc_in (x := "InvalidOperation") (c.ck 17 (f := kExc "InvalidOperation") rfl)
    xr_InvalidOperation := kexc_r (x := "InvalidOperation") (c.ck 17 (f := kExc "InvalidOperation") rfl)
    xg_InvalidPaper := kexc_glo X G (x := "InvalidPaper") (c.ck 18 (f := kExc "InvalidPaper") rfl)
    xk_InvalidPaper := kexc_keep (x := "InvalidPaper") (c.ck 18 (f := kExc "InvalidPaper") rfl)
    xi_InvalidPaper := kexc_in (x := "InvalidPaper") (c.ck 18 (f := kExc "InvalidPaper") rfl)
    xr_InvalidPaper := kexc_r (x := "InvalidPaper") (c.ck 18 (f := kExc "InvalidPaper") rfl)
    xg_InvalidPattern := kexc_glo X G (x := "InvalidPattern") (c.ck 19 (f := kExc "InvalidPattern") rfl)
    xk_InvalidPattern := kexc_keep (x := "InvalidPattern") (c.ck 19 (f := kExc "InvalidPattern") rfl)
    xi_InvalidPattern := kexc_in (x := "InvalidPattern") (c.ck 19 (f := kExc "InvalidPattern") rfl)
    xr_InvalidPattern := kexc_r (x := "InvalidPattern") (c.ck 19 (f := kExc "InvalidPattern") rfl)
    xg_InvalidRow := kexc_glo X G (x := "InvalidRow") (c.ck 20 (f := kExc "InvalidRow") rfl)
    xk_InvalidRow := kexc_keep (x := "InvalidRow") (c.ck 20 (f := kExc "InvalidRow") rfl)
    xi_InvalidRow := kexc_in (x := "InvalidRow") (c.ck 20 (f := kExc "InvalidRow") rfl)
    xr_InvalidRow := kexc_r (x := "InvalidRow") (c.ck 20 (f := kExc "InvalidRow") rfl)
    xg_InvalidSquare := kexc_glo X G (x := "InvalidSquare") (c.ck 21 (f := kExc "InvalidSquare") rfl)
    xk_InvalidSquare := kexc_keep (x := "InvalidSquare") (c.ck 21 (f := kExc "InvalidSquare") rfl)
    xi_InvalidSquare := kexc_in (x := "InvalidSquare") (c.ck 21 (f := kExc "InvalidSquare") rfl)
    xr_InvalidSquare := kexc_r (x := "InvalidSquare") (c.ck 21 (f := kExc "InvalidSquare") rfl)
    xg_InvalidText := kexc_glo X G (x := "InvalidText") (c.ck 22 (f := kExc "InvalidText") rfl)
    xk_InvalidText := kexc_keep (x := "InvalidText") (c.ck 22 (f := kExc "InvalidText") rfl)
    xi_InvalidText := kexc_in (x := "InvalidText") (c.ck 22 (f := kExc "InvalidText") rfl)
    xr_InvalidText := kexc_r (x := "InvalidText") (c.ck 22 (f := kExc "InvalidText") rfl)
    xg_PriceError := kexc_glo X G (x := "PriceError") (c.ck 23 (f := kExc "PriceError") rfl)
    xk_PriceError := kexc_keep (x := "PriceError") (c.ck 23 (f := kExc "PriceError") rfl)
    xi_PriceError := kexc_in (x := "PriceError") (c.ck 23 (f := kExc "PriceError") rfl)
    xr_PriceError := kexc_r (x := "PriceError") (c.ck 23 (f := kExc "PriceError") rfl)
    xg_InvalidNumber := koex_glo X G (n := "InvalidNumber") (c.ck 24 (f := kOex "InvalidNumber" "IndexError.__new__" [.type "IndexError", .type "LookupError", .type "Exception", .type "BaseException", .type "object"]) rfl)
    f_InvalidNumber_init := (ma K (ga K "InvalidNumber") "__init__")
    d_InvalidNumber_init := fdOf K (ma K (ga K "InvalidNumber") "__init__")
    F_InvalidNumber_init := (c.df 0 (d := ⟨.m "InvalidNumber" "__init__", "__init__", "InvalidNumber.__init__", (inClass (tS 13) 0)⟩) rfl)
    b_InvalidNumber_init := (c.df 0 (d := ⟨.m "InvalidNumber" "__init__", "__init__", "InvalidNumber.__init__", (inClass (tS 13) 0)⟩) rfl).binds (ps := ["self", "value"]) fun _ _ _ _ _ _ us hl => match us, hl with | [_, _], _ => rfl
    oe_InvalidNumber := koex_I (n := "InvalidNumber") (c.ck 24 (f := kOex "InvalidNumber" "IndexError.__new__" [.type "IndexError", .type "LookupError", .type "Exception", .type "BaseException", .type "object"]) rfl)
    on_InvalidNumber := ktak_ok (n := "InvalidNumber") (f := "value") (c.ck 25 (f := kTak "InvalidNumber" "value") rfl)
    oi_InvalidNumber := kini_ok (n := "InvalidNumber") (c.ck 26 (f := kIni "InvalidNumber") rfl)
    ot_InvalidNumber := kini_fn (n := "InvalidNumber") (c.ck 26 (f := kIni "InvalidNumber") rfl)
    xf_InvalidNumber := kxf_ok (n := "InvalidNumber") (f := "value") (c.ck 27 (f := kXf "InvalidNumber" "value") rfl)
    xg_NotTaken := koex_glo X G (n := "NotTaken") (c.ck 28 (f := kOex "NotTaken" "LookupError.__new__" [.type "LookupError", .type "Exception", .type "BaseException", .type "object"]) rfl)
    f_NotTaken_init := (ma K (ga K "NotTaken") "__init__")
    d_NotTaken_init := fdOf K (ma K (ga K "NotTaken") "__init__")
    F_NotTaken_init := (c.df 1 (d := ⟨.m "NotTaken" "__init__", "__init__", "NotTaken.__init__", (inClass (tS 12) 0)⟩) rfl)
    b_NotTaken_init := (c.df 1 (d := ⟨.m "NotTaken" "__init__", "__init__", "NotTaken.__init__", (inClass (tS 12) 0)⟩) rfl).binds (ps := ["self", "untaken"]) fun _ _ _ _ _ _ us hl => match us, hl with | [_, _], _ => rfl
    oe_NotTaken := koex_L (n := "NotTaken") (c.ck 28 (f := kOex "NotTaken" "LookupError.__new__" [.type "LookupError", .type "Exception", .type "BaseException", .type "object"]) rfl)
    on_NotTaken := ktak_ok (n := "NotTaken") (f := "untaken") (c.ck 29 (f := kTak "NotTaken" "untaken") rfl)
    oi_NotTaken := kini_ok (n := "NotTaken") (c.ck 30 (f := kIni "NotTaken") rfl)
    ot_NotTaken := kini_fn (n := "NotTaken") (c.ck 30 (f := kIni "NotTaken") rfl)
    xf_NotTaken := kxf_ok (n := "NotTaken") (f := "untaken") (c.ck 31 (f := kXf "NotTaken" "untaken") rfl)
    xg_NothingToUndo := koex_glo X G (n := "NothingToUndo") (c.ck 32 (f := kOex "NothingToUndo" "RuntimeError.__new__" [.type "RuntimeError", .type "Exception", .type "BaseException", .type "object"]) rfl)
    f_NothingToUndo_init := (ma K (ga K "NothingToUndo") "__init__")
    d_NothingToUndo_init := fdOf K (ma K (ga K "NothingToUndo") "__init__")
    F_NothingToUndo_init := (c.df 2 (d := ⟨.m "NothingToUndo" "__init__", "__init__", "NothingToUndo.__init__", (inClass (tS 14) 0)⟩) rfl)
    b_NothingToUndo_init := (c.df 2 (d := ⟨.m "NothingToUndo" "__init__", "__init__", "NothingToUndo.__init__", (inClass (tS 14) 0)⟩) rfl).binds (ps := ["self", "many"]) fun _ _ _ _ _ _ us hl => match us, hl with | [_, _], _ => rfl
    oe_NothingToUndo := koex_R (n := "NothingToUndo") (c.ck 32 (f := kOex "NothingToUndo" "RuntimeError.__new__" [.type "RuntimeError", .type "Exception", .type "BaseException", .type "object"]) rfl)
    on_NothingToUndo := ktak_ok (n := "NothingToUndo") (f := "many") (c.ck 33 (f := kTak "NothingToUndo" "many") rfl)
    oi_NothingToUndo := kini_ok (n := "NothingToUndo") (c.ck 34 (f := kIni "NothingToUndo") rfl)
    ot_NothingToUndo := kini_fn (n := "NothingToUndo") (c.ck 34 (f := kIni "NothingToUndo") rfl)
    xf_NothingToUndo := kxf_ok (n := "NothingToUndo") (f := "many") (c.ck 35 (f := kXf "NothingToUndo" "many") rfl)
    xg_ParseError := koex_glo X G (n := "ParseError") (c.ck 36 (f := kOex "ParseError" "ValueError.__new__" [.type "ValueError", .type "Exception", .type "BaseException", .type "object"]) rfl)
    f_ParseError_init := (ma K (ga K "ParseError") "__init__")
    d_ParseError_init := fdOf K (ma K (ga K "ParseError") "__init__")
    F_ParseError_init := (c.df 3 (d := ⟨.m "ParseError" "__init__", "__init__", "ParseError.__init__", (inClass (tS 10) 0)⟩) rfl)
    b_ParseError_init := (c.df 3 (d := ⟨.m "ParseError" "__init__", "__init__", "ParseError.__init__", (inClass (tS 10) 0)⟩) rfl).binds (ps := ["self", "number"]) fun _ _ _ _ _ _ us hl => match us, hl with | [_, _], _ => rfl
    oe_ParseError := koex_V (n := "ParseError") (c.ck 36 (f := kOex "ParseError" "ValueError.__new__" [.type "ValueError", .type "Exception", .type "BaseException", .type "object"]) rfl)
    on_ParseError := ktak_ok (n := "ParseError") (f := "number") (c.ck 37 (f := kTak "ParseError" "number") rfl)
    oi_ParseError := kini_ok (n := "ParseError") (c.ck 38 (f := kIni "ParseError") rfl)
    ot_ParseError := kini_fn (n := "ParseError") (c.ck 38 (f := kIni "ParseError") rfl)
    xf_ParseError := kxf_ok (n := "ParseError") (f := "number") (c.ck 39 (f := kXf "ParseError" "number") rfl)
    xg_Refused := koex_glo X G (n := "Refused") (c.ck 40 (f := kOex "Refused" "ArithmeticError.__new__" [.type "ArithmeticError", .type "Exception", .type "BaseException", .type "object"]) rfl)
    f_Refused_init := (ma K (ga K "Refused") "__init__")
    d_Refused_init := fdOf K (ma K (ga K "Refused") "__init__")
    F_Refused_init := (c.df 4 (d := ⟨.m "Refused" "__init__", "__init__", "Refused.__init__", (inClass (tS 17) 0)⟩) rfl)
    b_Refused_init := (c.df 4 (d := ⟨.m "Refused" "__init__", "__init__", "Refused.__init__", (inClass (tS 17) 0)⟩) rfl).binds (ps := ["self", "pledge"]) fun _ _ _ _ _ _ us hl => match us, hl with | [_, _], _ => rfl
    oe_Refused := koex_A (n := "Refused") (c.ck 40 (f := kOex "Refused" "ArithmeticError.__new__" [.type "ArithmeticError", .type "Exception", .type "BaseException", .type "object"]) rfl)
    on_Refused := ktak_ok (n := "Refused") (f := "pledge") (c.ck 41 (f := kTak "Refused" "pledge") rfl)
    oi_Refused := kini_ok (n := "Refused") (c.ck 42 (f := kIni "Refused") rfl)
    ot_Refused := kini_fn (n := "Refused") (c.ck 42 (f := kIni "Refused") rfl)
    xf_Refused := kxf_ok (n := "Refused") (f := "pledge") (c.ck 43 (f := kXf "Refused" "pledge") rfl)
    xg_TooMany := koex_glo X G (n := "TooMany") (c.ck 44 (f := kOex "TooMany" "OverflowError.__new__" [.type "OverflowError", .type "ArithmeticError", .type "Exception", .type "BaseException", .type "object"]) rfl)
    f_TooMany_init := (ma K (ga K "TooMany") "__init__")
    d_TooMany_init := fdOf K (ma K (ga K "TooMany") "__init__")
    F_TooMany_init := (c.df 5 (d := ⟨.m "TooMany" "__init__", "__init__", "TooMany.__init__", (inClass (tS 15) 0)⟩) rfl)
    b_TooMany_init := (c.df 5 (d := ⟨.m "TooMany" "__init__", "__init__", "TooMany.__init__", (inClass (tS 15) 0)⟩) rfl).binds (ps := ["self", "limit"]) fun _ _ _ _ _ _ us hl => match us, hl with | [_, _], _ => rfl
    oe_TooMany := koex_O (n := "TooMany") (c.ck 44 (f := kOex "TooMany" "OverflowError.__new__" [.type "OverflowError", .type "ArithmeticError", .type "Exception", .type "BaseException", .type "object"]) rfl)
    on_TooMany := ktak_ok (n := "TooMany") (f := "limit") (c.ck 45 (f := kTak "TooMany" "limit") rfl)
    oi_TooMany := kini_ok (n := "TooMany") (c.ck 46 (f := kIni "TooMany") rfl)
    ot_TooMany := kini_fn (n := "TooMany") (c.ck 46 (f := kIni "TooMany") rfl)
    xf_TooMany := kxf_ok (n := "TooMany") (f := "limit") (c.ck 47 (f := kXf "TooMany" "limit") rfl)
    xg_UnknownName := koex_glo X G (n := "UnknownName") (c.ck 48 (f := kOex "UnknownName" "LookupError.__new__" [.type "KeyError", .type "LookupError", .type "Exception", .type "BaseException", .type "object"]) rfl)
    f_UnknownName_init := (ma K (ga K "UnknownName") "__init__")
    d_UnknownName_init := fdOf K (ma K (ga K "UnknownName") "__init__")
    F_UnknownName_init := (c.df 6 (d := ⟨.m "UnknownName" "__init__", "__init__", "UnknownName.__init__", (inClass (tS 11) 0)⟩) rfl)
    b_UnknownName_init := (c.df 6 (d := ⟨.m "UnknownName" "__init__", "__init__", "UnknownName.__init__", (inClass (tS 11) 0)⟩) rfl).binds (ps := ["self", "word"]) fun _ _ _ _ _ _ us hl => match us, hl with | [_, _], _ => rfl
    oe_UnknownName := koex_K (n := "UnknownName") (c.ck 48 (f := kOex "UnknownName" "LookupError.__new__" [.type "KeyError", .type "LookupError", .type "Exception", .type "BaseException", .type "object"]) rfl)
    on_UnknownName := ktak_ok (n := "UnknownName") (f := "word") (c.ck 49 (f := kTak "UnknownName" "word") rfl)
    oi_UnknownName := kini_ok (n := "UnknownName") (c.ck 50 (f := kIni "UnknownName") rfl)
    ot_UnknownName := kini_fn (n := "UnknownName") (c.ck 50 (f := kIni "UnknownName") rfl)
    xf_UnknownName := kxf_ok (n := "UnknownName") (f := "word") (c.ck 51 (f := kXf "UnknownName" "word") rfl)
    xg_Unstable := koex_glo X G (n := "Unstable") (c.ck 52 (f := kOex "Unstable" "ArithmeticError.__new__" [.type "ArithmeticError", .type "Exception", .type "BaseException", .type "object"]) rfl)
    f_Unstable_init := (ma K (ga K "Unstable") "__init__")
    d_Unstable_init := fdOf K (ma K (ga K "Unstable") "__init__")
    F_Unstable_init := (c.df 7 (d := ⟨.m "Unstable" "__init__", "__init__", "Unstable.__init__", (inClass (tS 16) 0)⟩) rfl)
    b_Unstable_init := (c.df 7 (d := ⟨.m "Unstable" "__init__", "__init__", "Unstable.__init__", (inClass (tS 16) 0)⟩) rfl).binds (ps := ["self", "part"]) fun _ _ _ _ _ _ us hl => match us, hl with | [_, _], _ => rfl
    oe_Unstable := koex_A (n := "Unstable") (c.ck 52 (f := kOex "Unstable" "ArithmeticError.__new__" [.type "ArithmeticError", .type "Exception", .type "BaseException", .type "object"]) rfl)
    on_Unstable := ktak_ok (n := "Unstable") (f := "part") (c.ck 53 (f := kTak "Unstable" "part") rfl)
    oi_Unstable := kini_ok (n := "Unstable") (c.ck 54 (f := kIni "Unstable") rfl)
    ot_Unstable := kini_fn (n := "Unstable") (c.ck 54 (f := kIni "Unstable") rfl)
    xf_Unstable := kxf_ok (n := "Unstable") (f := "part") (c.ck 55 (f := kXf "Unstable" "part") rfl)
    xm_InvalidCosts_NotTaken := kexm_ok (n := "InvalidCosts") (y := "NotTaken") (b := false) (c.ck 56 (f := kExm "InvalidCosts" "NotTaken" false) rfl)
    xm_InvalidCosts_ParseError := kexm_ok (n := "InvalidCosts") (y := "ParseError") (b := false) (c.ck 57 (f := kExm "InvalidCosts" "ParseError" false) rfl)
    xm_InvalidCosts_PriceError := kexm_ok (n := "InvalidCosts") (y := "PriceError") (b := true) (c.ck 58 (f := kExm "InvalidCosts" "PriceError" true) rfl)
    xm_InvalidCosts_Refused := kexm_ok (n := "InvalidCosts") (y := "Refused") (b := false) (c.ck 59 (f := kExm "InvalidCosts" "Refused" false) rfl)
    xm_InvalidCosts_Unstable := kexm_ok (n := "InvalidCosts") (y := "Unstable") (b := false) (c.ck 60 (f := kExm "InvalidCosts" "Unstable" false) rfl)
    xm_NotTaken_NotTaken := kexm_ok (n := "NotTaken") (y := "NotTaken") (b := true) (c.ck 61 (f := kExm "NotTaken" "NotTaken" true) rfl)
    xm_NotTaken_ParseError := kexm_ok (n := "NotTaken") (y := "ParseError") (b := false) (c.ck 62 (f := kExm "NotTaken" "ParseError" false) rfl)
    xm_NotTaken_PriceError := kexm_ok (n := "NotTaken") (y := "PriceError") (b := false) (c.ck 63 (f := kExm "NotTaken" "PriceError" false) rfl)
    xm_NotTaken_Refused := kexm_ok (n := "NotTaken") (y := "Refused") (b := false) (c.ck 64 (f := kExm "NotTaken" "Refused" false) rfl)
    xm_NotTaken_Unstable := kexm_ok (n := "NotTaken") (y := "Unstable") (b := false) (c.ck 65 (f := kExm "NotTaken" "Unstable" false) rfl)
    xm_ParseError_NotTaken := kexm_ok (n := "ParseError") (y := "NotTaken") (b := false) (c.ck 66 (f := kExm "ParseError" "NotTaken" false) rfl)
    xm_ParseError_ParseError := kexm_ok (n := "ParseError") (y := "ParseError") (b := true) (c.ck 67 (f := kExm "ParseError" "ParseError" true) rfl)
    xm_ParseError_PriceError := kexm_ok (n := "ParseError") (y := "PriceError") (b := true) (c.ck 68 (f := kExm "ParseError" "PriceError" true) rfl)
    xm_ParseError_Refused := kexm_ok (n := "ParseError") (y := "Refused") (b := false) (c.ck 69 (f := kExm "ParseError" "Refused" false) rfl)
    xm_ParseError_Unstable := kexm_ok (n := "ParseError") (y := "Unstable") (b := false) (c.ck 70 (f := kExm "ParseError" "Unstable" false) rfl)
    xm_Unstable_NotTaken := kexm_ok (n := "Unstable") (y := "NotTaken") (b := false) (c.ck 71 (f := kExm "Unstable" "NotTaken" false) rfl)
    xm_Unstable_ParseError := kexm_ok (n := "Unstable") (y := "ParseError") (b := false) (c.ck 72 (f := kExm "Unstable" "ParseError" false) rfl)
    xm_Unstable_PriceError := kexm_ok (n := "Unstable") (y := "PriceError") (b := false) (c.ck 73 (f := kExm "Unstable" "PriceError" false) rfl)
    xm_Unstable_Refused := kexm_ok (n := "Unstable") (y := "Refused") (b := false) (c.ck 74 (f := kExm "Unstable" "Refused" false) rfl)
    xm_Unstable_Unstable := kexm_ok (n := "Unstable") (y := "Unstable") (b := true) (c.ck 75 (f := kExm "Unstable" "Unstable" true) rfl)
    iv_ArithmeticError := kivT_ok (ns := ["PriceError", "InvalidMachine", "InvalidText", "InvalidPattern", "InvalidSquare", "InvalidCosts", "InvalidRow", "InvalidPaper", "InvalidOperation", "ParseError", "UnknownName", "NotTaken", "InvalidNumber", "NothingToUndo", "TooMany", "Unstable", "Refused"]) (subs := ["TooMany", "Unstable", "Refused"]) (t := "ArithmeticError") (c.ck 76 (f := kEcl ["PriceError", "InvalidMachine", "InvalidText", "InvalidPattern", "InvalidSquare", "InvalidCosts", "InvalidRow", "InvalidPaper", "InvalidOperation", "ParseError", "UnknownName", "NotTaken", "InvalidNumber", "NothingToUndo", "TooMany", "Unstable", "Refused"]) rfl) (c.ck 77 (f := kIvT ["PriceError", "InvalidMachine", "InvalidText", "InvalidPattern", "InvalidSquare", "InvalidCosts", "InvalidRow", "InvalidPaper", "InvalidOperation", "ParseError", "UnknownName", "NotTaken", "InvalidNumber", "NothingToUndo", "TooMany", "Unstable", "Refused"] ["TooMany", "Unstable", "Refused"] "ArithmeticError") rfl)
    iv_IndexError := kivT_ok (ns := ["PriceError", "InvalidMachine", "InvalidText", "InvalidPattern", "InvalidSquare", "InvalidCosts", "InvalidRow", "InvalidPaper", "InvalidOperation", "ParseError", "UnknownName", "NotTaken", "InvalidNumber", "NothingToUndo", "TooMany", "Unstable", "Refused"]) (subs := ["InvalidNumber"]) (t := "IndexError") (c.ck 76 (f := kEcl ["PriceError", "InvalidMachine", "InvalidText", "InvalidPattern", "InvalidSquare", "InvalidCosts", "InvalidRow", "InvalidPaper", "InvalidOperation", "ParseError", "UnknownName", "NotTaken", "InvalidNumber", "NothingToUndo", "TooMany", "Unstable", "Refused"]) rfl) (c.ck 78 (f := kIvT ["PriceError", "InvalidMachine", "InvalidText", "InvalidPattern", "InvalidSquare", "InvalidCosts", "InvalidRow", "InvalidPaper", "InvalidOperation", "ParseError", "UnknownName", "NotTaken", "InvalidNumber", "NothingToUndo", "TooMany", "Unstable", "Refused"] ["InvalidNumber"] "IndexError") rfl)
    iv_InvalidCosts := kivR_ok (ns := ["PriceError", "InvalidMachine", "InvalidText", "InvalidPattern", "InvalidSquare", "InvalidCosts", "InvalidRow", "InvalidPaper", "InvalidOperation", "ParseError", "UnknownName", "NotTaken", "InvalidNumber", "NothingToUndo", "TooMany", "Unstable", "Refused"]) (subs := ["InvalidCosts"]) (y := "InvalidCosts") (c.ck 76 (f := kEcl ["PriceError", "InvalidMachine", "InvalidText", "InvalidPattern", "InvalidSquare", "InvalidCosts", "InvalidRow", "InvalidPaper", "InvalidOperation", "ParseError", "UnknownName", "NotTaken", "InvalidNumber", "NothingToUndo", "TooMany", "Unstable", "Refused"]) rfl) (c.ck 79 (f := kIvR ["PriceError", "InvalidMachine", "InvalidText", "InvalidPattern", "InvalidSquare", "InvalidCosts", "InvalidRow", "InvalidPaper", "InvalidOperation", "ParseError", "UnknownName", "NotTaken", "InvalidNumber", "NothingToUndo", "TooMany", "Unstable", "Refused"] ["InvalidCosts"] "InvalidCosts") rfl)
    iv_InvalidMachine := kivR_ok (ns := ["PriceError", "InvalidMachine", "InvalidText", "InvalidPattern", "InvalidSquare", "InvalidCosts", "InvalidRow", "InvalidPaper", "InvalidOperation", "ParseError", "UnknownName", "NotTaken", "InvalidNumber", "NothingToUndo", "TooMany", "Unstable", "Refused"]) (subs := ["InvalidMachine"]) (y := "InvalidMachine") (c.ck 76 (f := kEcl ["PriceError", "InvalidMachine", "InvalidText", "InvalidPattern", "InvalidSquare", "InvalidCosts", "InvalidRow", "InvalidPaper", "InvalidOperation", "ParseError", "UnknownName", "NotTaken", "InvalidNumber", "NothingToUndo", "TooMany", "Unstable", "Refused"]) rfl) (c.ck 80 (f := kIvR ["PriceError", "InvalidMachine", "InvalidText", "InvalidPattern", "InvalidSquare", "InvalidCosts", "InvalidRow", "InvalidPaper", "InvalidOperation", "ParseError", "UnknownName", "NotTaken", "InvalidNumber", "NothingToUndo", "TooMany", "Unstable", "Refused"] ["InvalidMachine"] "InvalidMachine") rfl)
    iv_InvalidNumber := kivR_ok (ns := ["PriceError", "InvalidMachine", "InvalidText", "InvalidPattern", "InvalidSquare", "InvalidCosts", "InvalidRow", "InvalidPaper", "InvalidOperation", "ParseError", "UnknownName", "NotTaken", "InvalidNumber", "NothingToUndo", "TooMany", "Unstable", "Refused"]) (subs := ["InvalidNumber"]) (y := "InvalidNumber") (c.ck 76 (f := kEcl ["PriceError", "InvalidMachine", "InvalidText", "InvalidPattern", "InvalidSquare", "InvalidCosts", "InvalidRow", "InvalidPaper", "InvalidOperation", "ParseError", "UnknownName", "NotTaken", "InvalidNumber", "NothingToUndo", "TooMany", "Unstable", "Refused"]) rfl) (c.ck 81 (f := kIvR ["PriceError", "InvalidMachine", "InvalidText", "InvalidPattern", "InvalidSquare", "InvalidCosts", "InvalidRow", "InvalidPaper", "InvalidOperation", "ParseError", "UnknownName", "NotTaken", "InvalidNumber", "NothingToUndo", "TooMany", "Unstable", "Refused"] ["InvalidNumber"] "InvalidNumber") rfl)
    iv_InvalidOperation := kivR_ok (ns := ["PriceError", "InvalidMachine", "InvalidText", "InvalidPattern", "InvalidSquare", "InvalidCosts", "InvalidRow", "InvalidPaper", "InvalidOperation", "ParseError", "UnknownName", "NotTaken", "InvalidNumber", "NothingToUndo", "TooMany", "Unstable", "Refused"]) (subs := ["InvalidOperation"]) (y := "InvalidOperation") (c.ck 76 (f := kEcl ["PriceError", "InvalidMachine", "InvalidText", "InvalidPattern", "InvalidSquare", "InvalidCosts", "InvalidRow", "InvalidPaper", "InvalidOperation", "ParseError", "UnknownName", "NotTaken", "InvalidNumber", "NothingToUndo", "TooMany", "Unstable", "Refused"]) rfl) (c.ck 82 (f := kIvR ["PriceError", "InvalidMachine", "InvalidText", "InvalidPattern", "InvalidSquare", "InvalidCosts", "InvalidRow", "InvalidPaper", "InvalidOperation", "ParseError", "UnknownName", "NotTaken", "InvalidNumber", "NothingToUndo", "TooMany", "Unstable", "Refused"] ["InvalidOperation"] "InvalidOperation") rfl)
    iv_InvalidPaper := kivR_ok (ns := ["PriceError", "InvalidMachine", "InvalidText", "InvalidPattern", "InvalidSquare", "InvalidCosts", "InvalidRow", "InvalidPaper", "InvalidOperation", "ParseError", "UnknownName", "NotTaken", "InvalidNumber", "NothingToUndo", "TooMany", "Unstable", "Refused"]) (subs := ["InvalidPaper"]) (y := "InvalidPaper") (c.ck 76 (f := kEcl ["PriceError", "InvalidMachine", "InvalidText", "InvalidPattern", "InvalidSquare", "InvalidCosts", "InvalidRow", "InvalidPaper", "InvalidOperation", "ParseError", "UnknownName", "NotTaken", "InvalidNumber", "NothingToUndo", "TooMany", "Unstable", "Refused"]) rfl) (c.ck 83 (f := kIvR ["PriceError", "InvalidMachine", "InvalidText", "InvalidPattern", "InvalidSquare", "InvalidCosts", "InvalidRow", "InvalidPaper", "InvalidOperation", "ParseError", "UnknownName", "NotTaken", "InvalidNumber", "NothingToUndo", "TooMany", "Unstable", "Refused"] ["InvalidPaper"] "InvalidPaper") rfl)
    iv_InvalidPattern := kivR_ok (ns := ["PriceError", "InvalidMachine", "InvalidText", "InvalidPattern", "InvalidSquare", "InvalidCosts", "InvalidRow", "InvalidPaper", "InvalidOperation", "ParseError", "UnknownName", "NotTaken", "InvalidNumber", "NothingToUndo", "TooMany", "Unstable", "Refused"]) (subs := ["InvalidPattern"]) (y := "InvalidPattern") (c.ck 76 (f := kEcl ["PriceError", "InvalidMachine", "InvalidText", "InvalidPattern", "InvalidSquare", "InvalidCosts", "InvalidRow", "InvalidPaper", "InvalidOperation", "ParseError", "UnknownName", "NotTaken", "InvalidNumber", "NothingToUndo", "TooMany", "Unstable", "Refused"]) rfl) (c.ck 84 (f := kIvR ["PriceError", "InvalidMachine", "InvalidText", "InvalidPattern", "InvalidSquare", "InvalidCosts", "InvalidRow", "InvalidPaper", "InvalidOperation", "ParseError", "UnknownName", "NotTaken", "InvalidNumber", "NothingToUndo", "TooMany", "Unstable", "Refused"] ["InvalidPattern"] "InvalidPattern") rfl)
    iv_InvalidRow := kivR_ok (ns := ["PriceError", "InvalidMachine", "InvalidText", "InvalidPattern", "InvalidSquare", "InvalidCosts", "InvalidRow", "InvalidPaper", "InvalidOperation", "ParseError", "UnknownName", "NotTaken", "InvalidNumber", "NothingToUndo", "TooMany", "Unstable", "Refused"]) (subs := ["InvalidRow"]) (y := "InvalidRow") (c.ck 76 (f := kEcl ["PriceError", "InvalidMachine", "InvalidText", "InvalidPattern", "InvalidSquare", "InvalidCosts", "InvalidRow", "InvalidPaper", "InvalidOperation", "ParseError", "UnknownName", "NotTaken", "InvalidNumber", "NothingToUndo", "TooMany", "Unstable", "Refused"]) rfl) (c.ck 85 (f := kIvR ["PriceError", "InvalidMachine", "InvalidText", "InvalidPattern", "InvalidSquare", "InvalidCosts", "InvalidRow", "InvalidPaper", "InvalidOperation", "ParseError", "UnknownName", "NotTaken", "InvalidNumber", "NothingToUndo", "TooMany", "Unstable", "Refused"] ["InvalidRow"] "InvalidRow") rfl)
    iv_InvalidSquare := kivR_ok (ns := ["PriceError", "InvalidMachine", "InvalidText", "InvalidPattern", "InvalidSquare", "InvalidCosts", "InvalidRow", "InvalidPaper", "InvalidOperation", "ParseError", "UnknownName", "NotTaken", "InvalidNumber", "NothingToUndo", "TooMany", "Unstable", "Refused"]) (subs := ["InvalidSquare"]) (y := "InvalidSquare") (c.ck 76 (f := kEcl ["PriceError", "InvalidMachine", "InvalidText", "InvalidPattern", "InvalidSquare", "InvalidCosts", "InvalidRow", "InvalidPaper", "InvalidOperation", "ParseError", "UnknownName", "NotTaken", "InvalidNumber", "NothingToUndo", "TooMany", "Unstable", "Refused"]) rfl) (c.ck 86 (f := kIvR ["PriceError", "InvalidMachine", "InvalidText", "InvalidPattern", "InvalidSquare", "InvalidCosts", "InvalidRow", "InvalidPaper", "InvalidOperation", "ParseError", "UnknownName", "NotTaken", "InvalidNumber", "NothingToUndo", "TooMany", "Unstable", "Refused"] ["InvalidSquare"] "InvalidSquare") rfl)
    iv_InvalidText := kivR_ok (ns := ["PriceError", "InvalidMachine", "InvalidText", "InvalidPattern", "InvalidSquare", "InvalidCosts", "InvalidRow", "InvalidPaper", "InvalidOperation", "ParseError", "UnknownName", "NotTaken", "InvalidNumber", "NothingToUndo", "TooMany", "Unstable", "Refused"]) (subs := ["InvalidText"]) (y := "InvalidText") (c.ck 76 (f := kEcl ["PriceError", "InvalidMachine", "InvalidText", "InvalidPattern", "InvalidSquare", "InvalidCosts", "InvalidRow", "InvalidPaper", "InvalidOperation", "ParseError", "UnknownName", "NotTaken", "InvalidNumber", "NothingToUndo", "TooMany", "Unstable", "Refused"]) rfl) (c.ck 87 (f := kIvR ["PriceError", "InvalidMachine", "InvalidText", "InvalidPattern", "InvalidSquare", "InvalidCosts", "InvalidRow", "InvalidPaper", "InvalidOperation", "ParseError", "UnknownName", "NotTaken", "InvalidNumber", "NothingToUndo", "TooMany", "Unstable", "Refused"] ["InvalidText"] "InvalidText") rfl)
    iv_KeyError := kivT_ok (ns := ["PriceError", "InvalidMachine", "InvalidText", "InvalidPattern", "InvalidSquare", "InvalidCosts", "InvalidRow", "InvalidPaper", "InvalidOperation", "ParseError", "UnknownName", "NotTaken", "InvalidNumber", "NothingToUndo", "TooMany", "Unstable", "Refused"]) (subs := ["UnknownName"]) (t := "KeyError") (c.ck 76 (f := kEcl ["PriceError", "InvalidMachine", "InvalidText", "InvalidPattern", "InvalidSquare", "InvalidCosts", "InvalidRow", "InvalidPaper", "InvalidOperation", "ParseError", "UnknownName", "NotTaken", "InvalidNumber", "NothingToUndo", "TooMany", "Unstable", "Refused"]) rfl) (c.ck 88 (f := kIvT ["PriceError", "InvalidMachine", "InvalidText", "InvalidPattern", "InvalidSquare", "InvalidCosts", "InvalidRow", "InvalidPaper", "InvalidOperation", "ParseError", "UnknownName", "NotTaken", "InvalidNumber", "NothingToUndo", "TooMany", "Unstable", "Refused"] ["UnknownName"] "KeyError") rfl)
    iv_LookupError := kivT_ok (ns := ["PriceError", "InvalidMachine", "InvalidText", "InvalidPattern", "InvalidSquare", "InvalidCosts", "InvalidRow", "InvalidPaper", "InvalidOperation", "ParseError", "UnknownName", "NotTaken", "InvalidNumber", "NothingToUndo", "TooMany", "Unstable", "Refused"]) (subs := ["UnknownName", "NotTaken", "InvalidNumber"]) (t := "LookupError") (c.ck 76 (f := kEcl ["PriceError", "InvalidMachine", "InvalidText", "InvalidPattern", "InvalidSquare", "InvalidCosts", "InvalidRow", "InvalidPaper", "InvalidOperation", "ParseError", "UnknownName", "NotTaken", "InvalidNumber", "NothingToUndo", "TooMany", "Unstable", "Refused"]) rfl) (c.ck 89 (f := kIvT ["PriceError", "InvalidMachine", "InvalidText", "InvalidPattern", "InvalidSquare", "InvalidCosts", "InvalidRow", "InvalidPaper", "InvalidOperation", "ParseError", "UnknownName", "NotTaken", "InvalidNumber", "NothingToUndo", "TooMany", "Unstable", "Refused"] ["UnknownName", "NotTaken", "InvalidNumber"] "LookupError") rfl)
    iv_NotTaken := kivR_ok (ns := ["PriceError", "InvalidMachine", "InvalidText", "InvalidPattern", "InvalidSquare", "InvalidCosts", "InvalidRow", "InvalidPaper", "InvalidOperation", "ParseError", "UnknownName", "NotTaken", "InvalidNumber", "NothingToUndo", "TooMany", "Unstable", "Refused"]) (subs := ["NotTaken"]) (y := "NotTaken") (c.ck 76 (f := kEcl ["PriceError", "InvalidMachine", "InvalidText", "InvalidPattern", "InvalidSquare", "InvalidCosts", "InvalidRow", "InvalidPaper", "InvalidOperation", "ParseError", "UnknownName", "NotTaken", "InvalidNumber", "NothingToUndo", "TooMany", "Unstable", "Refused"]) rfl) (c.ck 90 (f := kIvR ["PriceError", "InvalidMachine", "InvalidText", "InvalidPattern", "InvalidSquare", "InvalidCosts", "InvalidRow", "InvalidPaper", "InvalidOperation", "ParseError", "UnknownName", "NotTaken", "InvalidNumber", "NothingToUndo", "TooMany", "Unstable", "Refused"] ["NotTaken"] "NotTaken") rfl)
    iv_NothingToUndo := kivR_ok (ns := ["PriceError", "InvalidMachine", "InvalidText", "InvalidPattern", "InvalidSquare", "InvalidCosts", "InvalidRow", "InvalidPaper", "InvalidOperation", "ParseError", "UnknownName", "NotTaken", "InvalidNumber", "NothingToUndo", "TooMany", "Unstable", "Refused"]) (subs := ["NothingToUndo"]) (y := "NothingToUndo") (c.ck 76 (f := kEcl ["PriceError", "InvalidMachine", "InvalidText", "InvalidPattern", "InvalidSquare", "InvalidCosts", "InvalidRow", "InvalidPaper", "InvalidOperation", "ParseError", "UnknownName", "NotTaken", "InvalidNumber", "NothingToUndo", "TooMany", "Unstable", "Refused"]) rfl) (c.ck 91 (f := kIvR ["PriceError", "InvalidMachine", "InvalidText", "InvalidPattern", "InvalidSquare", "InvalidCosts", "InvalidRow", "InvalidPaper", "InvalidOperation", "ParseError", "UnknownName", "NotTaken", "InvalidNumber", "NothingToUndo", "TooMany", "Unstable", "Refused"] ["NothingToUndo"] "NothingToUndo") rfl)
    iv_OverflowError := kivT_ok (ns := ["PriceError", "InvalidMachine", "InvalidText", "InvalidPattern", "InvalidSquare", "InvalidCosts", "InvalidRow", "InvalidPaper", "InvalidOperation", "ParseError", "UnknownName", "NotTaken", "InvalidNumber", "NothingToUndo", "TooMany", "Unstable", "Refused"]) (subs := ["TooMany"]) (t := "OverflowError") (c.ck 76 (f := kEcl ["PriceError", "InvalidMachine", "InvalidText", "InvalidPattern", "InvalidSquare", "InvalidCosts", "InvalidRow", "InvalidPaper", "InvalidOperation", "ParseError", "UnknownName", "NotTaken", "InvalidNumber", "NothingToUndo", "TooMany", "Unstable", "Refused"]) rfl) (c.ck 92 (f := kIvT ["PriceError", "InvalidMachine", "InvalidText", "InvalidPattern", "InvalidSquare", "InvalidCosts", "InvalidRow", "InvalidPaper", "InvalidOperation", "ParseError", "UnknownName", "NotTaken", "InvalidNumber", "NothingToUndo", "TooMany", "Unstable", "Refused"] ["TooMany"] "OverflowError") rfl)
    iv_ParseError := kivR_ok (ns := ["PriceError", "InvalidMachine", "InvalidText", "InvalidPattern", "InvalidSquare", "InvalidCosts", "InvalidRow", "InvalidPaper", "InvalidOperation", "ParseError", "UnknownName", "NotTaken", "InvalidNumber", "NothingToUndo", "TooMany", "Unstable", "Refused"]) (subs := ["ParseError"]) (y := "ParseError") (c.ck 76 (f := kEcl ["PriceError", "InvalidMachine", "InvalidText", "InvalidPattern", "InvalidSquare", "InvalidCosts", "InvalidRow", "InvalidPaper", "InvalidOperation", "ParseError", "UnknownName", "NotTaken", "InvalidNumber", "NothingToUndo", "TooMany", "Unstable", "Refused"]) rfl) (c.ck 93 (f := kIvR ["PriceError", "InvalidMachine", "InvalidText", "InvalidPattern", "InvalidSquare", "InvalidCosts", "InvalidRow", "InvalidPaper", "InvalidOperation", "ParseError", "UnknownName", "NotTaken", "InvalidNumber", "NothingToUndo", "TooMany", "Unstable", "Refused"] ["ParseError"] "ParseError") rfl)
    iv_PriceError := kivR_ok (ns := ["PriceError", "InvalidMachine", "InvalidText", "InvalidPattern", "InvalidSquare", "InvalidCosts", "InvalidRow", "InvalidPaper", "InvalidOperation", "ParseError", "UnknownName", "NotTaken", "InvalidNumber", "NothingToUndo", "TooMany", "Unstable", "Refused"]) (subs := ["PriceError", "InvalidMachine", "InvalidText", "InvalidPattern", "InvalidSquare", "InvalidCosts", "InvalidRow", "InvalidPaper", "InvalidOperation", "ParseError"]) (y := "PriceError") (c.ck 76 (f := kEcl ["PriceError", "InvalidMachine", "InvalidText", "InvalidPattern", "InvalidSquare", "InvalidCosts", "InvalidRow", "InvalidPaper", "InvalidOperation", "ParseError", "UnknownName", "NotTaken", "InvalidNumber", "NothingToUndo", "TooMany", "Unstable", "Refused"]) rfl) (c.ck 94 (f := kIvR ["PriceError", "InvalidMachine", "InvalidText", "InvalidPattern", "InvalidSquare", "InvalidCosts", "InvalidRow", "InvalidPaper", "InvalidOperation", "ParseError", "UnknownName", "NotTaken", "InvalidNumber", "NothingToUndo", "TooMany", "Unstable", "Refused"] ["PriceError", "InvalidMachine", "InvalidText", "InvalidPattern", "InvalidSquare", "InvalidCosts", "InvalidRow", "InvalidPaper", "InvalidOperation", "ParseError"] "PriceError") rfl)
    iv_Refused := kivR_ok (ns := ["PriceError", "InvalidMachine", "InvalidText", "InvalidPattern", "InvalidSquare", "InvalidCosts", "InvalidRow", "InvalidPaper", "InvalidOperation", "ParseError", "UnknownName", "NotTaken", "InvalidNumber", "NothingToUndo", "TooMany", "Unstable", "Refused"]) (subs := ["Refused"]) (y := "Refused") (c.ck 76 (f := kEcl ["PriceError", "InvalidMachine", "InvalidText", "InvalidPattern", "InvalidSquare", "InvalidCosts", "InvalidRow", "InvalidPaper", "InvalidOperation", "ParseError", "UnknownName", "NotTaken", "InvalidNumber", "NothingToUndo", "TooMany", "Unstable", "Refused"]) rfl) (c.ck 95 (f := kIvR ["PriceError", "InvalidMachine", "InvalidText", "InvalidPattern", "InvalidSquare", "InvalidCosts", "InvalidRow", "InvalidPaper", "InvalidOperation", "ParseError", "UnknownName", "NotTaken", "InvalidNumber", "NothingToUndo", "TooMany", "Unstable", "Refused"] ["Refused"] "Refused") rfl)
    iv_RuntimeError := kivT_ok (ns := ["PriceError", "InvalidMachine", "InvalidText", "InvalidPattern", "InvalidSquare", "InvalidCosts", "InvalidRow", "InvalidPaper", "InvalidOperation", "ParseError", "UnknownName", "NotTaken", "InvalidNumber", "NothingToUndo", "TooMany", "Unstable", "Refused"]) (subs := ["NothingToUndo"]) (t := "RuntimeError") (c.ck 76 (f := kEcl ["PriceError", "InvalidMachine", "InvalidText", "InvalidPattern", "InvalidSquare", "InvalidCosts", "InvalidRow", "InvalidPaper", "InvalidOperation", "ParseError", "UnknownName", "NotTaken", "InvalidNumber", "NothingToUndo", "TooMany", "Unstable", "Refused"]) rfl) (c.ck 96 (f := kIvT ["PriceError", "InvalidMachine", "InvalidText", "InvalidPattern", "InvalidSquare", "InvalidCosts", "InvalidRow", "InvalidPaper", "InvalidOperation", "ParseError", "UnknownName", "NotTaken", "InvalidNumber", "NothingToUndo", "TooMany", "Unstable", "Refused"] ["NothingToUndo"] "RuntimeError") rfl)
    iv_TooMany := kivR_ok (ns := ["PriceError", "InvalidMachine", "InvalidText", "InvalidPattern", "InvalidSquare", "InvalidCosts", "InvalidRow", "InvalidPaper", "InvalidOperation", "ParseError", "UnknownName", "NotTaken", "InvalidNumber", "NothingToUndo", "TooMany", "Unstable", "Refused"]) (subs := ["TooMany"]) (y := "TooMany") (c.ck 76 (f := kEcl ["PriceError", "InvalidMachine", "InvalidText", "InvalidPattern", "InvalidSquare", "InvalidCosts", "InvalidRow", "InvalidPaper", "InvalidOperation", "ParseError", "UnknownName", "NotTaken", "InvalidNumber", "NothingToUndo", "TooMany", "Unstable", "Refused"]) rfl) (c.ck 97 (f := kIvR ["PriceError", "InvalidMachine", "InvalidText", "InvalidPattern", "InvalidSquare", "InvalidCosts", "InvalidRow", "InvalidPaper", "InvalidOperation", "ParseError", "UnknownName", "NotTaken", "InvalidNumber", "NothingToUndo", "TooMany", "Unstable", "Refused"] ["TooMany"] "TooMany") rfl)
    iv_UnknownName := kivR_ok (ns := ["PriceError", "InvalidMachine", "InvalidText", "InvalidPattern", "InvalidSquare", "InvalidCosts", "InvalidRow", "InvalidPaper", "InvalidOperation", "ParseError", "UnknownName", "NotTaken", "InvalidNumber", "NothingToUndo", "TooMany", "Unstable", "Refused"]) (subs := ["UnknownName"]) (y := "UnknownName") (c.ck 76 (f := kEcl ["PriceError", "InvalidMachine", "InvalidText", "InvalidPattern", "InvalidSquare", "InvalidCosts", "InvalidRow", "InvalidPaper", "InvalidOperation", "ParseError", "UnknownName", "NotTaken", "InvalidNumber", "NothingToUndo", "TooMany", "Unstable", "Refused"]) rfl) (c.ck 98 (f := kIvR ["PriceError", "InvalidMachine", "InvalidText", "InvalidPattern", "InvalidSquare", "InvalidCosts", "InvalidRow", "InvalidPaper", "InvalidOperation", "ParseError", "UnknownName", "NotTaken", "InvalidNumber", "NothingToUndo", "TooMany", "Unstable", "Refused"] ["UnknownName"] "UnknownName") rfl)
    iv_Unstable := kivR_ok (ns := ["PriceError", "InvalidMachine", "InvalidText", "InvalidPattern", "InvalidSquare", "InvalidCosts", "InvalidRow", "InvalidPaper", "InvalidOperation", "ParseError", "UnknownName", "NotTaken", "InvalidNumber", "NothingToUndo", "TooMany", "Unstable", "Refused"]) (subs := ["Unstable"]) (y := "Unstable") (c.ck 76 (f := kEcl ["PriceError", "InvalidMachine", "InvalidText", "InvalidPattern", "InvalidSquare", "InvalidCosts", "InvalidRow", "InvalidPaper", "InvalidOperation", "ParseError", "UnknownName", "NotTaken", "InvalidNumber", "NothingToUndo", "TooMany", "Unstable", "Refused"]) rfl) (c.ck 99 (f := kIvR ["PriceError", "InvalidMachine", "InvalidText", "InvalidPattern", "InvalidSquare", "InvalidCosts", "InvalidRow", "InvalidPaper", "InvalidOperation", "ParseError", "UnknownName", "NotTaken", "InvalidNumber", "NothingToUndo", "TooMany", "Unstable", "Refused"] ["Unstable"] "Unstable") rfl)
    iv_ValueError := kivT_ok (ns := ["PriceError", "InvalidMachine", "InvalidText", "InvalidPattern", "InvalidSquare", "InvalidCosts", "InvalidRow", "InvalidPaper", "InvalidOperation", "ParseError", "UnknownName", "NotTaken", "InvalidNumber", "NothingToUndo", "TooMany", "Unstable", "Refused"]) (subs := ["PriceError", "InvalidMachine", "InvalidText", "InvalidPattern", "InvalidSquare", "InvalidCosts", "InvalidRow", "InvalidPaper", "InvalidOperation", "ParseError"]) (t := "ValueError") (c.ck 76 (f := kEcl ["PriceError", "InvalidMachine", "InvalidText", "InvalidPattern", "InvalidSquare", "InvalidCosts", "InvalidRow", "InvalidPaper", "InvalidOperation", "ParseError", "UnknownName", "NotTaken", "InvalidNumber", "NothingToUndo", "TooMany", "Unstable", "Refused"]) rfl) (c.ck 100 (f := kIvT ["PriceError", "InvalidMachine", "InvalidText", "InvalidPattern", "InvalidSquare", "InvalidCosts", "InvalidRow", "InvalidPaper", "InvalidOperation", "ParseError", "UnknownName", "NotTaken", "InvalidNumber", "NothingToUndo", "TooMany", "Unstable", "Refused"] ["PriceError", "InvalidMachine", "InvalidText", "InvalidPattern", "InvalidSquare", "InvalidCosts", "InvalidRow", "InvalidPaper", "InvalidOperation", "ParseError"] "ValueError") rfl)
    dj := kndp_ok (ns := ["PriceError", "InvalidMachine", "InvalidText", "InvalidPattern", "InvalidSquare", "InvalidCosts", "InvalidRow", "InvalidPaper", "InvalidOperation", "ParseError", "UnknownName", "NotTaken", "InvalidNumber", "NothingToUndo", "TooMany", "Unstable", "Refused"]) (c.ck 101 (f := kNdp ["PriceError", "InvalidMachine", "InvalidText", "InvalidPattern", "InvalidSquare", "InvalidCosts", "InvalidRow", "InvalidPaper", "InvalidOperation", "ParseError", "UnknownName", "NotTaken", "InvalidNumber", "NothingToUndo", "TooMany", "Unstable", "Refused"]) rfl)
    sys := ksys_ok (c.ck 102 (f := kSys) rfl)
    f__law_dice := (ga K "_law_dice")
    d__law_dice := fdOf K (ga K "_law_dice")
    F__law_dice := (c.df 8 (d := ⟨.g "_law_dice", "_law_dice", "_law_dice", (tS 19)⟩) rfl)
    b__law_dice := (c.df 8 (d := ⟨.g "_law_dice", "_law_dice", "_law_dice", (tS 19)⟩) rfl).binds (ps := ["_law_script", "_law_spot"]) fun _ _ _ _ _ _ us hl => match us, hl with | [_, _], _ => rfl
    m__law_dice := glo_of X G (x := "_law_dice") (c.ck 103 (f := kGlo "_law_dice") rfl)
    f__law_roll := (ga K "_law_roll")
    d__law_roll := fdOf K (ga K "_law_roll")
    F__law_roll := (c.df 9 (d := ⟨.g "_law_roll", "_law_roll", "_law_roll", (tS 20)⟩) rfl)
    b__law_roll := (c.df 9 (d := ⟨.g "_law_roll", "_law_roll", "_law_roll", (tS 20)⟩) rfl).binds (ps := ["_law_dice_here", "_law_total"]) fun _ _ _ _ _ _ us hl => match us, hl with | [_, _], _ => rfl
    m__law_roll := glo_of X G (x := "_law_roll") (c.ck 104 (f := kGlo "_law_roll") rfl)
    f__law_pick := (ga K "_law_pick")
    d__law_pick := fdOf K (ga K "_law_pick")
    F__law_pick := (c.df 10 (d := ⟨.g "_law_pick", "_law_pick", "_law_pick", (tS 21)⟩) rfl)
    b__law_pick := (c.df 10 (d := ⟨.g "_law_pick", "_law_pick", "_law_pick", (tS 21)⟩) rfl).binds (ps := ["_law_dice_here", "_law_items"]) fun _ _ _ _ _ _ us hl => match us, hl with | [_, _], _ => rfl
    m__law_pick := glo_of X G (x := "_law_pick") (c.ck 105 (f := kGlo "_law_pick") rfl)
    f__law_own := (ga K "_law_own")
    d__law_own := fdOf K (ga K "_law_own")
    F__law_own := (c.df 11 (d := ⟨.g "_law_own", "_law_own", "_law_own", (tS 22)⟩) rfl)
    b__law_own := (c.df 11 (d := ⟨.g "_law_own", "_law_own", "_law_own", (tS 22)⟩) rfl).binds (ps := ["_law_error"]) fun _ _ _ _ _ _ us hl => match us, hl with | [_], _ => rfl
    m__law_own := glo_of X G (x := "_law_own") (c.ck 106 (f := kGlo "_law_own") rfl)
    f__law_whole := (ga K "_law_whole")
    d__law_whole := fdOf K (ga K "_law_whole")
    F__law_whole := (c.df 12 (d := ⟨.g "_law_whole", "_law_whole", "_law_whole", (tS 23)⟩) rfl)
    b__law_whole := (c.df 12 (d := ⟨.g "_law_whole", "_law_whole", "_law_whole", (tS 23)⟩) rfl).binds (ps := ["_law_error"]) fun _ _ _ _ _ _ us hl => match us, hl with | [_], _ => rfl
    m__law_whole := glo_of X G (x := "_law_whole") (c.ck 107 (f := kGlo "_law_whole") rfl)
    f__law_messages := (ga K "_law_messages")
    d__law_messages := fdOf K (ga K "_law_messages")
    F__law_messages := (c.df 13 (d := ⟨.g "_law_messages", "_law_messages", "_law_messages", (tS 24)⟩) rfl)
    b__law_messages := (c.df 13 (d := ⟨.g "_law_messages", "_law_messages", "_law_messages", (tS 24)⟩) rfl).binds (ps := ["_law_text"]) fun _ _ _ _ _ _ us hl => match us, hl with | [_], _ => rfl
    m__law_messages := glo_of X G (x := "_law_messages") (c.ck 108 (f := kGlo "_law_messages") rfl)
    f__law_kept := (ga K "_law_kept")
    d__law_kept := fdOf K (ga K "_law_kept")
    F__law_kept := (c.df 14 (d := ⟨.g "_law_kept", "_law_kept", "_law_kept", (tS 25)⟩) rfl)
    b__law_kept := (c.df 14 (d := ⟨.g "_law_kept", "_law_kept", "_law_kept", (tS 25)⟩) rfl).binds (ps := ["_law_value", "_law_index"]) fun _ _ _ _ _ _ us hl => match us, hl with | [_, _], _ => rfl
    m__law_kept := glo_of X G (x := "_law_kept") (c.ck 109 (f := kGlo "_law_kept") rfl)
    f__law_caught := (ga K "_law_caught")
    d__law_caught := fdOf K (ga K "_law_caught")
    F__law_caught := (c.df 15 (d := ⟨.g "_law_caught", "_law_caught", "_law_caught", (tS 26)⟩) rfl)
    b__law_caught := (c.df 15 (d := ⟨.g "_law_caught", "_law_caught", "_law_caught", (tS 26)⟩) rfl).binds (ps := ["_law_way", "_law_value"]) fun _ _ _ _ _ _ us hl => match us, hl with | [_, _], _ => rfl
    m__law_caught := glo_of X G (x := "_law_caught") (c.ck 110 (f := kGlo "_law_caught") rfl)
    f__law_right := (ga K "_law_right")
    d__law_right := fdOf K (ga K "_law_right")
    F__law_right := (c.df 16 (d := ⟨.g "_law_right", "_law_right", "_law_right", (tS 27)⟩) rfl)
    b__law_right := (c.df 16 (d := ⟨.g "_law_right", "_law_right", "_law_right", (tS 27)⟩) rfl).binds (ps := ["_law_dice_here"]) fun _ _ _ _ _ _ us hl => match us, hl with | [_], _ => rfl
    m__law_right := glo_of X G (x := "_law_right") (c.ck 111 (f := kGlo "_law_right") rfl)
    f_law := (ga K "law")
    d_law := fdOf K (ga K "law")
    F_law := (c.df 17 (d := ⟨.g "law", "law", "law", (tS 28)⟩) rfl)
    b_law := (c.df 17 (d := ⟨.g "law", "law", "law", (tS 28)⟩) rfl).binds (ps := ["_law_script"]) fun _ _ _ _ _ _ us hl => match us, hl with | [_], _ => rfl
    m_law := glo_of X G (x := "law") (c.ck 112 (f := kGlo "law") rfl) }
end K402
set_option Elab.async false
set_option linter.all false
set_option maxRecDepth 100000
set_option maxHeartbeats 4000000
set_option exponentiation.threshold 9000
/-! Pw, part one: the program's words, as its text stands at 075f9ef. -/
namespace Pw
open PySem PySem.Spec L2 Mo Lw
@[simp] theorem tru_bl {b : Bool} : truD (.bl b) = some b := rfl
def Tr (F : FD) (ds : List D) : Prop := ∀ c, F ds c = some (.bl true, c)
@[simp] theorem ev_chain {f f' : D → D → Option D} {ma mb mc : M D} {g : G} {Q : D → G → Prop} : Ev (mChain f f' ma mb mc) g Q ↔ Ev ma g fun x g1 => Ev mb g1 fun y g2 => ∃ b, f x y = some (.bl b) ∧ if b = true then Ev mc g2 fun z g3 => Ev (lift (f' y z)) g3 Q else Q (.bl false) g2 := by
  unfold mChain
  simp only [ev_bind]
  refine ⟨fun h => h.mono fun x g1 h => h.mono fun y g2 h => ?_, fun h => h.mono fun x g1 h => h.mono fun y g2 ⟨b, e, h⟩ => ?_⟩
  · split at h
    · rename_i e
      exact ⟨true, e, by rw [if_pos rfl]; exact ev_bind.mp h⟩
    · rename_i e
      exact ⟨false, e, by rw [if_neg Bool.false_ne_true]; exact ev_ret.mp h⟩
    · exact (ev_bad.mp h).elim
  · rw [e]
    cases b with
    | true => exact ev_bind.mpr (by rw [if_pos rfl] at h; exact h)
    | false => exact ev_ret.mpr (by rw [if_neg Bool.false_ne_true] at h; exact h)
def zed : List Str := ["z"]
theorem fEq_str {neg : Bool} {x y : Str} (h : PyData.strOk x = true) (h2 : PyData.strOk y = true) : fEq neg (.str x) (.str y) = some (.bl (if neg then !(x == y) else (x == y))) := by
  unfold fEq
  show (if (SeqAt.shaped (.str x) && SeqAt.shaped (.str y)) = true then some (D.bl (if neg then !PyData.eqv (.str x) (.str y) else PyData.eqv (.str x) (.str y))) else none) = _
  have s : ∀ {z : Str}, PyData.strOk z = true → SeqAt.shaped (.str z) = true := fun {z} h => by simp [SeqAt.shaped, PyData.canLay0, PyData.depth, h]
  rw [s h, s h2]
  rfl
end Pw
set_option Elab.async false
set_option linter.all false
set_option maxRecDepth 100000
set_option maxHeartbeats 4000000
set_option exponentiation.threshold 9000
/-! Pw, part two: what makes a machine. -/
namespace Pw
open PySem PySem.Spec L2 Mo Lw
@[simp] theorem arc_0 {x : Arc} : uIx (arcD x) (.int 0) = some (.str x.a) := rfl
@[simp] theorem arc_1 {x : Arc} : uIx (arcD x) (.int 1) = some (.str x.l) := rfl
@[simp] theorem arc_2 {x : Arc} : uIx (arcD x) (.int 2) = some (.str x.b) := rfl
/-- an arc whose words are known -/
structure ArcW (x : Arc) : Prop where
  a : x.a ∈ namePool
  l : x.l ∈ lets
  b : x.b ∈ namePool
  p0 : 0 ≤ x.p
  p9 : x.p ≤ 9
theorem PlOk.w {p : Pl} {n : Nat} (h : PlOk p n) : ∀ x ∈ p.arcs, ArcW x := fun x m => by
  obtain ⟨names, no, _, _, _, ok⟩ := h.all
  obtain ⟨h1, h2, h3, h4, h5⟩ := ok.at' x m
  exact ⟨no.mem _ h1, h2, no.mem _ h3, h4, h5⟩
theorem PlOk.nd {p : Pl} {n : Nat} (h : PlOk p n) : p.arcs.Pairwise fun x y => ¬ sameA x y.a y.l y.b := by
  obtain ⟨names, no, _, _, _, ok⟩ := h.all
  exact ok.nd
theorem sortU_mem {xs : List Str} {x : Str} : x ∈ sortU xs ↔ x ∈ xs := (List.mergeSort_perm (nub xs) leS).mem_iff.trans mem_nub
theorem sortU_nodup {xs : List Str} : (sortU xs).Nodup := (List.mergeSort_perm (nub xs) leS).symm.nodup (nodup_nub xs)
theorem mem_ends {xs : List Arc} {s : Str} : s ∈ endsOf xs ↔ s ∈ xs.map (·.a) ∨ s ∈ xs.map (·.b) := by
  unfold endsOf
  simp only [List.mem_flatMap, List.mem_map, List.mem_cons, List.not_mem_nil, or_false]
  constructor
  · rintro ⟨x, m, rfl | rfl⟩
    · exact .inl ⟨x, m, rfl⟩
    · exact .inr ⟨x, m, rfl⟩
  · rintro (⟨x, m, rfl⟩ | ⟨x, m, rfl⟩)
    · exact ⟨x, m, .inl rfl⟩
    · exact ⟨x, m, .inr rfl⟩
theorem nodup_len : ∀ {xs ys : List Str}, xs.Nodup → (∀ x ∈ xs, x ∈ ys) → xs.length ≤ ys.length
  | [], _, _, _ => Nat.zero_le _
  | x :: xs, ys, nd, h => by
    obtain ⟨h1, h2⟩ := List.nodup_cons.mp nd
    have m := h x List.mem_cons_self
    have := nodup_len (ys := ys.erase x) h2 fun y my => (List.mem_erase_of_ne fun e : y = x => h1 (e ▸ my)).mpr (h y (List.mem_cons_of_mem _ my))
    rw [List.length_erase_of_mem m] at this
    have p := List.length_pos_of_mem m
    simp
    omega
theorem states_le {p : Pl} {n : Nat} (h : PlOk p n) : p.states.length ≤ n ∧ p.states.length ≤ 24 ∧ ∀ x ∈ p.states, x ∈ namePool := by
  obtain ⟨names, no, nl, hf, hl, ok⟩ := h.all
  have sub : ∀ x ∈ p.states, x ∈ names := fun x m => by
    have m2 := sortU_mem.mp m
    unfold Pl.all at m2
    rcases List.mem_append.mp m2 with m2 | m2
    · rcases List.mem_append.mp m2 with m2 | m2
      · exact hf x m2
      · exact hl x m2
    · rcases mem_ends.mp m2 with m2 | m2
      · obtain ⟨y, my, rfl⟩ := List.mem_map.mp m2
        exact (ok.at' y my).1
      · obtain ⟨y, my, rfl⟩ := List.mem_map.mp m2
        exact (ok.at' y my).2.2.1
  have le : p.states.length ≤ names.length := nodup_len sortU_nodup sub
  exact ⟨Nat.le_trans le nl, Nat.le_trans le no.len, fun x m => no.mem x (sub x m)⟩
end Pw
set_option Elab.async false
set_option linter.all false
set_option maxRecDepth 100000
set_option maxHeartbeats 4000000
set_option exponentiation.threshold 9000
/-! Pw, part three: lines; a machine is made. -/
namespace Pw
open PySem PySem.Spec L2 Mo Lw
/-! ### sorted arcs, kept again -/
end Pw
set_option Elab.async false
set_option linter.all false
set_option maxRecDepth 100000
set_option maxHeartbeats 4000000
set_option exponentiation.threshold 9000
/-! Pw, part four: a machine is made. -/
namespace Pw
open PySem PySem.Spec L2 Mo Lw
/-- what a machine holds -/
def flds (p : Pl) (ys : List Arc) (zs : List Str) : List (Str × D) := [("_firsts", .tup (sL p.fs)), ("_lasts", .tup (sL p.ls)), ("_arcs", .dt (ys.map arcT)), ("_states", .tup (sL p.states)), ("_letters", .tup (sL p.letters)), ("_lines", .tup (sL zs))]
/-- a machine of plain parts -/
structure Mach (C : Addr) (p : Pl) (n : Nat) (d : D) : Prop where
  ok : PlOk p n
  ex : ∃ ys zs, ys.Perm p.arcs ∧ d = .ins C (flds p ys zs)
def MadeS (C : Addr) (F : FD) : Prop := ∀ (p : Pl) (n : Nat) (c : C3), PlOk p n → ∃ d, F [p.d] c = some (d, c) ∧ Mach C p n d
/-! ### what is read of it -/
end Pw
set_option Elab.async false
set_option linter.all false
set_option maxRecDepth 100000
set_option maxHeartbeats 4000000
set_option exponentiation.threshold 9000
/-! Pw, part five: rows, checked. -/
namespace Pw
open PySem PySem.Spec L2 Mo Lw
def iL (ns : List Int) : List D := ns.map .int
theorem iL_len {ns : List Int} : (iL ns).length = ns.length := List.length_map _
structure RowOk (p : Pl) (cap : Int) (row : List Int) : Prop where
  len : row.length = p.states.length
  at' : ∀ i ∈ row, -1 ≤ i ∧ i ≤ cap + 1
end Pw
set_option Elab.async false
set_option linter.all false
set_option maxRecDepth 100000
set_option maxHeartbeats 4000000
/-! Lw, part seven: least numbers; steps along arcs. -/
namespace Lw
open PySem PySem.Spec L2 Mo
def IsMin (S : Int → Prop) (v : Int) : Prop := (S v ∧ ∀ s, S s → v ≤ s) ∨ ((∀ s, ¬ S s) ∧ v = -1)
/-- the entry of a state in a row -/
def Ent (ss : List Str) (row : List Int) (s : Str) (e : Int) : Prop := (s, e) ∈ ss.zip row
/-! ### the least of two rows -/
end Lw
set_option Elab.async false
set_option linter.all false
set_option maxRecDepth 100000
set_option maxHeartbeats 4000000
set_option exponentiation.threshold 9000
/-! Pw, part six: the next row. -/
namespace Pw
open PySem PySem.Spec L2 Mo Lw
/-- the price of an arc -/
def arcAt (ys : List Arc) (a l b : Str) : Option Int := (ys.find? fun x => decide (sameA x a l b)).map (·.p)
def inD (ys : List Arc) (l b : Str) (z : Nat × Str) : D := .tup [.int (0 + (z.1 : Nat)), .int ((arcAt ys z.2 l b).getD 0)]
end Pw
set_option Elab.async false
set_option linter.all false
set_option maxRecDepth 100000
set_option maxHeartbeats 4000000
set_option exponentiation.threshold 9000
/-! Qw, part one: what enters by the letters of a text. -/
set_option Elab.async false
set_option linter.all false
set_option maxRecDepth 100000
set_option maxHeartbeats 4000000
set_option exponentiation.threshold 9000
/-! Qw, part two: rows lowered, and rows along a text. -/
set_option Elab.async false
set_option linter.all false
set_option maxRecDepth 100000
set_option maxHeartbeats 4000000
set_option exponentiation.threshold 9000
/-! Qw, part three: rows along a text, and where they end. -/
set_option Elab.async false
set_option linter.all false
set_option maxRecDepth 100000
set_option maxHeartbeats 4000000
set_option exponentiation.threshold 9000
/-! Qw, part four: rows_along, ends_along. -/
namespace Qw
open PySem PySem.Spec L2 Mo Lw Pw
theorem signs_len (t : Str) : (signsS t).length = t.length := by
  simp [signsS, Str.length]
end Qw
set_option Elab.async false
set_option linter.all false
set_option maxRecDepth 100000
set_option maxHeartbeats 4000000
/-! Lw, part eight: the laws' own steps. -/
namespace Lw
open PySem PySem.Spec L2 Mo
/-! ### dicts from texts to numbers -/
def lk (fd : List (Str × Int)) (b : Str) : Option Int := (fd.find? fun z => decide (z.1 = b)).map (·.2)
end Lw
set_option Elab.async false
set_option linter.all false
set_option maxRecDepth 100000
set_option maxHeartbeats 4000000
/-! Lw, part nine: reach, the laws' row after a letter. -/
namespace Lw
open PySem PySem.Spec L2 Mo
def lets4 : List Str := ["a", "b", "c", "z"]
end Lw
set_option Elab.async false
set_option linter.all false
set_option maxRecDepth 100000
set_option maxHeartbeats 4000000
set_option exponentiation.threshold 9000
/-! Pw, part seven: the laws' own row after a letter; prices in rows. -/
namespace Pw
open PySem PySem.Spec L2 Mo Lw
/-! ### prices in rows -/
def nD (z : Nat × Str) : D := .int (0 + (z.1 : Nat))
end Pw
set_option Elab.async false
set_option linter.all false
set_option maxRecDepth 100000
set_option maxHeartbeats 4000000
/-! Lw, part ten: repr of numbers and rows. -/
namespace Lw
open PySem PySem.Spec L2 Mo
theorem low_int {i : Int} {c : Nat} (m : c ∈ (PyData.int i).shown.cps.toList) : c < 0x110000 := by
  by_cases h : c ≠ 45 ∧ (c < 48 ∨ 57 < c)
  · exact absurd m (PyProof.Rows.shown_int_free' h i)
  · omega
theorem mem_shownAll : ∀ {xs : List PyData} {t : Str}, t ∈ PyData.shownAll xs → ∃ x ∈ xs, t = x.shown
  | [], t, h => by rw [PyData.shownAll_nil] at h; cases h
  | x :: r, t, h => by
    rw [PyData.shownAll_cons, List.mem_cons] at h
    rcases h with rfl | h
    · exact ⟨x, List.mem_cons_self, rfl⟩
    · obtain ⟨y, m, e⟩ := mem_shownAll h
      exact ⟨y, List.mem_cons_of_mem _ m, e⟩
theorem strOk_of {s : Str} (h : ∀ c ∈ s.cps.toList, c < 0x110000) : PyData.strOk s = true := by
  unfold PyData.strOk
  rw [← Array.all_toList]
  exact List.all_eq_true.mpr fun c m => decide_eq_true (h c m)
end Lw
set_option Elab.async false
set_option linter.all false
set_option maxRecDepth 100000
set_option maxHeartbeats 4000000
set_option exponentiation.threshold 9000
/-! Pw, part eight: rows compared. -/
namespace Pw
open PySem PySem.Spec L2 Mo Lw
theorem ok_int (i : Int) : PyData.strOk (PyData.int i).shown = true := strOk_of fun c m => low_int m
theorem ne_self {s : Str} (h : PyData.strOk s = true) : fEq true (.str s) (.str s) = some (.bl false) := by
  rw [fEq_str h h]
  simp
/-! ### the least of two rows -/
end Pw
set_option Elab.async false
set_option linter.all false
set_option maxRecDepth 100000
set_option maxHeartbeats 4000000
set_option exponentiation.threshold 9000
/-! Pw, part nine: a pair, a row, all rows. -/
namespace Pw
open PySem PySem.Spec L2 Mo Lw
def PairS (C : Addr) (F : FD) : Prop := ∀ (p : Pl) (n : Nat) (d : D) (cap : Int) (l : Str) (xs ys : List Int), Mach C p n d → 0 ≤ cap → cap ≤ 200 → RowOk p cap xs → RowOk p cap ys → l ∈ lets ++ zed → Tr F [d, .int cap, .str l, .tup (iL xs), .tup (iL ys)]
def RowRightS (C : Addr) (F : FD) : Prop := ∀ (p : Pl) (n : Nat) (d : D) (cap : Int) (row : List Int), Mach C p n d → 0 ≤ cap → cap ≤ 200 → RowOk p cap row → Tr F [p.d, d, .int cap, .tup (iL row)]
end Pw
set_option Elab.async false
set_option linter.all false
set_option maxRecDepth 100000
set_option maxHeartbeats 4000000
set_option exponentiation.threshold 9000
/-! Pw, part ten: all rows. -/
namespace Pw
open PySem PySem.Spec L2 Mo Lw
def rD (r : List Int) : D := .tup (iL r)
structure AllOk (k : Nat) (cap : Int) (rows : List (List Int)) : Prop where
  ne : rows ≠ []
  few : rows.length ≤ 5 ^ k
  at' : ∀ r ∈ rows, r.length = k ∧ ∀ i ∈ r, -1 ≤ i ∧ i ≤ cap + 1
def AllS (F : FD) : Prop := ∀ (k : Nat) (cap : Int) (c : C3), k ≤ 3 → 0 ≤ cap → cap ≤ 2 → ∃ rows, F [.int k, .int cap] c = some (.lst (rows.map rD), c) ∧ AllOk k cap rows
end Pw
set_option Elab.async false
set_option linter.all false
set_option maxRecDepth 100000
set_option maxHeartbeats 4000000
set_option exponentiation.threshold 9000
/-! Pw, part eleven: the law. -/
namespace Pw
open PySem PySem.Spec L2 Mo Lw
def PickT (F : FD) : Prop := ∀ (c : C3) (N : Nat), Di c N → N ≤ 1000000 → ∃ l c', F [.str "ab"] c = some (.str l, c') ∧ l ∈ lets ∧ Di c' (N + 1)
theorem uIn_ff {β : Type} (xs : List β) : uIn false (.bl false) (.lst (xs.map fun _ => .bl true)) = some (.bl false) := by
  have e : fIn false (.bl false) (.lst (xs.map fun _ => .bl true)) = some (.bl false) := by
    show (if (flatD (.bl false) && (xs.map fun _ => D.bl true).all flatD) = true then some (D.bl (Mo.inD (.bl false) (xs.map fun _ => D.bl true))) else none) = _
    have h1 : (xs.map fun _ => D.bl true).all flatD = true := by
      rw [List.all_map]
      exact List.all_eq_true.mpr fun _ _ => rfl
    have h2 : Mo.inD (.bl false) (xs.map fun _ => D.bl true) = false := by
      show ((xs.map fun _ => D.bl true).map flV).any (fun y => eqV y (flV (.bl false))) = false
      rw [List.map_map, List.any_map]
      exact List.any_eq_false.mpr fun _ _ => by simp [flV, eqV]
    rw [h1, h2]
    rfl
  show (fDIn false (.bl false) (.lst (xs.map fun _ => .bl true))).or ((fIn false (.bl false) (.lst (xs.map fun _ => .bl true))).or (fInS false (.bl false) (.lst (xs.map fun _ => .bl true)))) = _
  rw [e]
  rfl
/-- a drawn row -/
theorem ev_drawn {Fr : FD} (hr : RollS Fr) {cap : Int} (h0 : 0 ≤ cap) (h2 : cap ≤ 200) {a1 a2 a3 a5 a6 a7 a8 a9 a10 : Sl} {k : Nat} (hk : k ≤ 3) {c : C3} {N : Nat} (hd : Di c N) (hN : N ≤ 10000) {Q : List D → G → Prop}
    (q : ∀ row c', row.length = k → (∀ i ∈ row, -1 ≤ i ∧ i ≤ cap + 1) → Di c' (N + 3) → Q (iL row) ⟨[.di, a1, a2, a3, .v (.int cap), a5, a6, a7, a8, a9, a10, .un], c'⟩) :
    Ev (lcGo [11] (stName 11) (ret true) (mBin uSub (isDi 0 (mFn Fr (mCons (mBin uPlus (mName 4) (ret (.int 3))) (ret [])))) (ret (.int 1))) (rngD 0 k) []) ⟨[.di, a1, a2, a3, .v (.int cap), a5, a6, a7, a8, a9, a10, .un], c⟩ Q := by
  obtain ⟨I, hI⟩ : ∃ I : List D → List D → G → Prop, ∀ ds acc g, I ds acc g ↔ ∃ (row : List Int) (c' : C3), g = ⟨[.di, a1, a2, a3, .v (.int cap), a5, a6, a7, a8, a9, a10, .un], c'⟩ ∧ acc = iL row ∧ row.length + ds.length = k ∧ (∀ i ∈ row, -1 ≤ i ∧ i ≤ cap + 1) ∧ Di c' (N + row.length) := ⟨_, fun _ _ _ => Iff.rfl⟩
  refine ev_lcGo I ?_ ?_ _ _ _ ((hI _ _ _).mpr ⟨[], c, rfl, rfl, by rw [rngD_len]; simp, fun i m => (nomatch m), hd⟩)
  · intro d r acc g hi
    obtain ⟨row, c', rfl, rfl, hl, ha, hd'⟩ := (hI _ _ _).mp hi
    simp at hl
    obtain ⟨x, c2, e, x0, x1, hd2⟩ := hr c' _ (cap + 3) hd' (by omega) (by omega) (by omega)
    refine ⟨_, rfl, ?_⟩
    simp [ev_name_v, e]
    refine ⟨by rw [iL_len, sizeLine_eq]; omega, (hI _ _ _).mpr ⟨row ++ [x - 1], c2, rfl, ?_, by simp; omega, fun i m => ?_, ?_⟩⟩
    · unfold iL
      rw [List.map_append]
      rfl
    · rcases List.mem_append.mp m with m | m
      · exact ha i m
      · cases List.mem_singleton.mp m
        omega
    · rw [List.length_append, List.length_singleton, ← Nat.add_assoc]
      exact hd2
  · intro acc g hi
    obtain ⟨row, c', rfl, rfl, hl, ha, hd'⟩ := (hI _ _ _).mp hi
    simp at hl
    exact q row c' hl ha (hd'.mono (by omega))
def mRight (Fd Fm Fs Fa Fw Fp Fv Fr : FD) : M Oc := (seq (mSet 1 (isDi 0 (mFn Fd (mCons (ret (.int 3)) (mCons (ret (.int 2)) (ret [])))))) (seq (mAsg (stTup 2 (stCons (stName 2) (stCons (stName 3) stNil))) (mTup (mCons (mFn Fm (mCons (mName 1) (ret []))) (mCons (mCall fLen (mCons (mFn Fs (mCons (mName 1) (ret []))) (ret []))) (ret []))))) (seq (mFor (stName 4) (mWk fRng1 (mCons (ret (.int 3)) (ret []))) (seq (mSet 6 (mFn Fa (mCons (mName 3) (mCons (mName 4) (ret []))))) (seq (mIf (mT2 (uIn false) (ret (.bl false)) (frz (mLc [7] (mIter (mName 6)) (stName 7) (ret true) (mFn Fw (mCons (mName 1) (mCons (mName 2) (mCons (mName 4) (mCons (mName 7) (ret []))))))))) (seq (mRet (ret (.bl false))) (ret .nx)) (ret .nx)) (seq (mFor (stName 5) (mWk fRng1 (mCons (ret (.int 30)) (ret []))) (seq (mPar 9 10 (mXd (isDi 0 (mFn Fp (mCons (mName 6) (ret []))))) (mXd (isDi 0 (mFn Fp (mCons (mName 6) (ret [])))))) (seq (mIf (mtNot (mTru (mFn Fv (mCons (mName 2) (mCons (mName 4) (mCons (isDi 0 (mFn Fp (mCons (ret (.str "ab")) (ret [])))) (mCons (mName 9) (mCons (mName 10) (ret []))))))))) (seq (mRet (ret (.bl false))) (ret .nx)) (ret .nx)) (ret .nx)))) (ret .nx))))) (seq (mSet 4 (mBin uPlus (ret (.int 3)) (isDi 0 (mFn Fr (mCons (ret (.int 198)) (ret [])))))) (seq (mFor (stName 5) (mWk fRng1 (mCons (ret (.int 12)) (ret []))) (seq (mSet 7 (mCall fTuple (mCons (frz (mLc [11] (mWk fRng1 (mCons (mName 3) (ret []))) (stName 11) (ret true) (mBin uSub (isDi 0 (mFn Fr (mCons (mBin uPlus (mName 4) (ret (.int 3))) (ret [])))) (ret (.int 1))))) (ret [])))) (seq (mSet 8 (mCall fTuple (mCons (frz (mLc [11] (mWk fRng1 (mCons (mName 3) (ret []))) (stName 11) (ret true) (mBin uSub (isDi 0 (mFn Fr (mCons (mBin uPlus (mName 4) (ret (.int 3))) (ret [])))) (ret (.int 1))))) (ret [])))) (seq (mIf (mtOr (mtNot (mTru (mFn Fw (mCons (mName 1) (mCons (mName 2) (mCons (mName 4) (mCons (mName 7) (ret [])))))))) (mtNot (mTru (mFn Fv (mCons (mName 2) (mCons (mName 4) (mCons (ret (.str "a")) (mCons (mName 7) (mCons (mName 8) (ret [])))))))))) (seq (mRet (ret (.bl false))) (ret .nx)) (ret .nx)) (ret .nx))))) (seq (mRet (ret (.bl true))) (ret .nx)))))))
def RightS (F : FD) : Prop := ∀ c : C3, Di c 0 → ∃ c', F [] c = some (.bl true, c')
theorem right_spec {C : Addr} {Fd Fm Fs Fa Fw Fp Fv Fr : FD} (hd : DrawnS Fd) (hm : MadeS C Fm) (hs : StatesS Fs) (ha : AllS Fa) (hw : RowRightS C Fw) (hp : PickS Fp) (hpt : PickT Fp) (hv : PairS C Fv) (hr : RollS Fr) : RightS (runM true 12 1 (mRight Fd Fm Fs Fa Fw Fp Fv Fr)) := fun c h => by
  suffices hh : ∃ d c', runM true 12 1 (mRight Fd Fm Fs Fa Fw Fp Fv Fr) [] c = some (d, c') ∧ d = .bl true by
    obtain ⟨d, c', e, rfl⟩ := hh
    exact ⟨c', e⟩
  refine run_ev rfl ?_
  obtain ⟨p, c1, e1, ok, d1⟩ := hd c 0 3 2 h (by omega) (by omega) (by omega) (by omega) (by omega)
  obtain ⟨d, e2, mach⟩ := hm p 3 c1 ok
  have e3 := hs p 3 c1 ok
  have k3 := (states_le ok).1
  have r3 : fRng1 [.int 3] = some (rngD 0 3) := rng1_nat (n := 3) (by omega)
  have r30 : fRng1 [.int 30] = some (rngD 0 30) := rng1_nat (n := 30) (by omega)
  have r12 : fRng1 [.int 12] = some (rngD 0 12) := rng1_nat (n := 12) (by omega)
  have rk := rng1_nat (n := p.states.length) (by omega)
  have hz : 2 ≤ sizeLine := by rw [sizeLine_eq]; omega
  simp [mRight, ev_name_v, e1, e2, e3, sL_len, hz, r3, r30, r12]
  refine ⟨_, rfl, ?_⟩
  simp
  obtain ⟨I, hI⟩ : ∃ I : List D → G → Prop, ∀ ds g, I ds g ↔ ∃ (s4 s5 s6 s8 s9 s10 : Sl) (c' : C3) (B : Nat), g = ⟨[.di, .v p.d, .v d, .v (.int p.states.length), s4, s5, s6, .un, s8, s9, s10, .un], c'⟩ ∧ (∀ e ∈ ds, ∃ cap : Int, e = .int cap ∧ 0 ≤ cap ∧ cap ≤ 2) ∧ Di c' B ∧ B + 90 * ds.length ≤ 1270 := ⟨_, fun _ _ => Iff.rfl⟩
  refine ev_loop I ?_ ?_ _ _ ((hI _ _).mpr ⟨_, _, _, _, _, _, c1, 1000, rfl, fun e m => ?_, d1, by rw [rngD_len]; omega⟩)
  · intro dc r g hi
    obtain ⟨s4, s5, s6, s8, s9, s10, c', B, rfl, hc, hdi, hB⟩ := (hI _ _).mp hi
    obtain ⟨cap, rfl, cap0, cap2⟩ := hc dc List.mem_cons_self
    have hc' : ∀ e ∈ r, ∃ cap : Int, e = .int cap ∧ 0 ≤ cap ∧ cap ≤ 2 := fun e m => hc e (List.mem_cons_of_mem _ m)
    simp only [List.length_cons] at hB
    refine ⟨_, rfl, ?_⟩
    obtain ⟨rows, f1, ra⟩ := ha p.states.length cap c' k3 cap0 cap2
    have rok : ∀ r ∈ rows, RowOk p cap r := fun r m => ⟨(ra.at' r m).1, (ra.at' r m).2⟩
    have r125 : rows.length ≤ 125 := Nat.le_trans ra.few (by
      have : p.states.length = 0 ∨ p.states.length = 1 ∨ p.states.length = 2 ∨ p.states.length = 3 := by omega
      rcases this with e | e | e | e <;> rw [e] <;> decide)
    simp [ev_name_v, f1, noOwn, plainSl]
    refine ev_lcPure rows rD (fun _ => true) (fun _ => .bl true) (fun r m => ⟨_, rfl, ?_⟩) (by rw [sizeLine_eq]; omega) ?_
    · have e := hw p 3 d cap r mach cap0 (by omega) (rok r m) c'
      have e' : Fw [p.d, d, .int cap, rD r] c' = some (.bl true, c') := e
      simp [ev_name_v, e']
    · rw [filter_tt]
      simp [uIn_ff, r30]
      obtain ⟨I2, hI2⟩ : ∃ I : List D → G → Prop, ∀ ds g, I ds g ↔ ∃ (s5 s8 s9 s10 : Sl) (c' : C3) (B : Nat), g = ⟨[.di, .v p.d, .v d, .v (.int p.states.length), .v (.int cap), s5, .v (.lst (rows.map rD)), .un, s8, s9, s10, .un], c'⟩ ∧ Di c' B ∧ B + 3 * ds.length + 90 * r.length ≤ 1270 := ⟨_, fun _ _ => Iff.rfl⟩
      refine ev_loop I2 ?_ ?_ _ _ ((hI2 _ _).mpr ⟨_, _, _, _, c', B, rfl, hdi, by rw [rngD_len]; omega⟩)
      · intro d2 r2 g hi
        obtain ⟨s5, s8, s9, s10, c2, B2, rfl, hdi2, hB2⟩ := (hI2 _ _).mp hi
        simp only [List.length_cons] at hB2
        refine ⟨_, rfl, ?_⟩
        have rne : rows.map rD ≠ [] := fun z => ra.ne (List.map_eq_nil_iff.mp z)
        have rle : (rows.map rD).length ≤ 1000000 := by rw [List.length_map]; omega
        obtain ⟨x1, c3, g1, m1, hd3⟩ := hp c2 B2 (rows.map rD) hdi2 (by omega) rne rle
        obtain ⟨x2, c4, g2, m2, hd4⟩ := hp c3 _ (rows.map rD) hd3 (by omega) rne rle
        obtain ⟨l, c5, g3, ml, hd5⟩ := hpt c4 _ hd4 (by omega)
        obtain ⟨y1, my1, rfl⟩ := List.mem_map.mp m1
        obtain ⟨y2, my2, rfl⟩ := List.mem_map.mp m2
        have g4 : Fv [d, .int cap, .str l, rD y1, rD y2] c5 = some (.bl true, c5) := hv p 3 d cap l y1 y2 mach cap0 (by omega) (rok y1 my1) (rok y2 my2) (List.mem_append_left _ ml) c5
        simp [ev_name_v, g1, g2, g3, g4]
        exact (hI2 _ _).mpr ⟨_, _, _, _, c5, B2 + 1 + 1 + 1, rfl, hd5, by omega⟩
      · intro g hi
        obtain ⟨s5, s8, s9, s10, c2, B2, rfl, hdi2, hB2⟩ := (hI2 _ _).mp hi
        simp at hB2 ⊢
        exact (hI _ _).mpr ⟨_, _, _, _, _, _, c2, B2, rfl, hc', hdi2, by omega⟩
  · intro g hi
    obtain ⟨s4, s5, s6, s8, s9, s10, c', B, rfl, hc, hdi, hB⟩ := (hI _ _).mp hi
    simp only [List.length_nil] at hB
    obtain ⟨x, c2, f1, x0, x1, hd2⟩ := hr c' B 198 hdi (by omega) (by omega) (by omega)
    simp [ev_name_v, f1, r12]
    obtain ⟨I3, hI3⟩ : ∃ I : List D → G → Prop, ∀ ds g, I ds g ↔ ∃ (s5 s6 s7 s8 s9 s10 : Sl) (c' : C3) (B : Nat), g = ⟨[.di, .v p.d, .v d, .v (.int p.states.length), .v (.int (3 + x)), s5, s6, s7, s8, s9, s10, .un], c'⟩ ∧ Di c' B ∧ B + 6 * ds.length ≤ 1400 := ⟨_, fun _ _ => Iff.rfl⟩
    refine ev_loop I3 ?_ ?_ _ _ ((hI3 _ _).mpr ⟨_, _, _, _, _, _, c2, B + 1, rfl, hd2, by rw [rngD_len]; omega⟩)
    · intro d2 r2 g hi
      obtain ⟨s5, s6, s7, s8, s9, s10, c3, B3, rfl, hd3, hB3⟩ := (hI3 _ _).mp hi
      simp only [List.length_cons] at hB3
      refine ⟨_, rfl, ?_⟩
      simp [ev_name_v, rk, noOwn, plainSl]
      refine ev_drawn hr (by omega) (by omega) k3 hd3 (by omega) fun row c4 l1 b1 hd4 => ?_
      have ok1 : RowOk p (3 + x) row := ⟨l1, b1⟩
      simp [ev_name_v, rk, fTuple, noOwn, plainSl]
      refine ev_drawn hr (by omega) (by omega) k3 hd4 (by omega) fun more c5 l2 b2 hd5 => ?_
      have ok2 : RowOk p (3 + x) more := ⟨l2, b2⟩
      have g1 := hw p 3 d (3 + x) row mach (by omega) (by omega) ok1 c5
      have g2 := hv p 3 d (3 + x) "a" row more mach (by omega) (by omega) ok1 ok2 (List.mem_append_left _ List.mem_cons_self) c5
      simp [ev_name_v, fTuple, g1, g2]
      exact (hI3 _ _).mpr ⟨_, _, _, _, _, _, c5, B3 + 3 + 3, rfl, hd5, by omega⟩
    · intro g hi
      obtain ⟨s5, s6, s7, s8, s9, s10, c3, B3, rfl, hd3, hB3⟩ := (hI3 _ _).mp hi
      simp
  · obtain ⟨i, mi, rfl⟩ := List.mem_map.mp m
    have := List.mem_range.mp mi
    exact ⟨_, rfl, by omega, by omega⟩
end Pw
set_option Elab.async false
set_option linter.all false
set_option maxRecDepth 100000
set_option maxHeartbeats 4000000
set_option exponentiation.threshold 9000
namespace Lp
open PySem PySem.Spec L2
/-! ### numbers as texts -/
end Lp
set_option Elab.async false
set_option linter.all false
set_option maxRecDepth 100000
set_option maxHeartbeats 4000000
set_option exponentiation.threshold 9000
/-! Qw, part five: texts judged; the first row; the row of a text. -/
namespace Qw
open PySem PySem.Spec L2 Mo Lw Pw
/-- a text of letters, not too long -/
structure TxtOk (t : Str) : Prop where
  az : ∀ c ∈ t.cps.toList, 97 ≤ c ∧ c ≤ 122
  len : t.length ≤ 4000
end Qw
set_option Elab.async false
set_option linter.all false
set_option maxRecDepth 100000
set_option maxHeartbeats 4000000
set_option exponentiation.threshold 9000
/-! Qw, part six: the written machines. -/
set_option Elab.async false
set_option linter.all false
set_option maxRecDepth 100000
set_option maxHeartbeats 4000000
set_option exponentiation.threshold 9000
/-! Qw, part seven: written or drawn machines. -/
namespace Qw
open PySem PySem.Spec L2 Mo Lw Pw
theorem PlOk.mono {p : Pl} {n m : Nat} (h : PlOk p n) (le : n ≤ m) : PlOk p m := by
  obtain ⟨names, h1, h2, h3⟩ := h.all
  exact ⟨h.fs, h.ls, ⟨names, h1, Nat.le_trans h2 le, h3⟩, h.few⟩
end Qw
set_option Elab.async false
set_option linter.all false
set_option maxRecDepth 100000
set_option maxHeartbeats 4000000
set_option exponentiation.threshold 9000
/-! Qw, part eight: ways along texts, and rows that tell the least of them. -/
namespace Qw
open PySem PySem.Spec L2 Mo Lw Pw
/-- a way from a to b along the letters costs v -/
def Wy (xs : List Arc) : Str → List Str → Str → Int → Prop
  | a, [], b, v => a = b ∧ v = 0
  | a, l :: ls, b, v => ∃ x ∈ xs, x.a = a ∧ x.l = l ∧ ∃ w, Wy xs x.b ls b w ∧ v = x.p + w
/-- from a first state -/
def Fw (p : Pl) (ls : List Str) (b : Str) (v : Int) : Prop := ∃ f ∈ p.fs, Wy p.arcs f ls b v
/-- the row tells the least prices -/
structure RowSem (p : Pl) (ls : List Str) (row : List Int) : Prop where
  len : row.length = p.states.length
  at' : ∀ (i : Nat) s v, p.states[i]? = some s → row[i]? = some v → IsMin (Fw p ls s) v
end Qw
set_option Elab.async false
set_option linter.all false
set_option maxRecDepth 100000
set_option maxHeartbeats 4000000
set_option exponentiation.threshold 9000
/-! Qw, part nine: the law's own rows and prices, letter by letter. -/
namespace Qw
open PySem PySem.Spec L2 Mo Lw Pw
def LetOk (t : Str) : Prop := ∀ l ∈ signsS t, l ∈ lets4
theorem RowSem.of {p : Pl} {ls : List Str} {f : Str → Int} (h : ∀ s, IsMin (Fw p ls s) (f s)) : RowSem p ls (p.states.map f) := ⟨List.length_map _, fun i s v h1 h2 => by
  rw [List.getElem?_map, h1] at h2
  cases h2
  exact h s⟩
end Qw
set_option Elab.async false
set_option linter.all false
set_option maxRecDepth 100000
set_option maxHeartbeats 4000000
set_option exponentiation.threshold 9000
/-! Qw, part ten: all ways along a text. -/
set_option Elab.async false
set_option linter.all false
set_option maxRecDepth 100000
set_option maxHeartbeats 4000000
set_option exponentiation.threshold 9000
/-! Qw, part eleven: the row that all ways force. -/
set_option Elab.async false
set_option linter.all false
set_option maxRecDepth 100000
set_option maxHeartbeats 4000000
set_option exponentiation.threshold 9000
/-! Qw, part twelve: a row is right. -/
namespace Qw
open PySem PySem.Spec L2 Mo Lw Pw
structure TxG (t : Str) : Prop where
  lets : LetOk t
  len : t.length ≤ 1000
theorem sign_az {q : Nat} (h : (⟨#[q]⟩ : Str) ∈ lets4) : 97 ≤ q ∧ q ≤ 122 := by
  have ca : ("a" : Str) = ⟨#[97]⟩ := by decide +kernel
  have cb : ("b" : Str) = ⟨#[98]⟩ := by decide +kernel
  have cc : ("c" : Str) = ⟨#[99]⟩ := by decide +kernel
  have cz : ("z" : Str) = ⟨#[122]⟩ := by decide +kernel
  unfold lets4 at h
  rw [ca, cb, cc, cz] at h
  simp at h
  omega
theorem TxG.ok {t : Str} (h : TxG t) : TxtOk t := ⟨fun q m => sign_az (h.lets _ (List.mem_map.mpr ⟨q, m, rfl⟩)), by have := h.len; omega⟩
theorem TxG.str {t : Str} (h : TxG t) : PyData.strOk t = true := strOk_of fun q m => by have := h.ok.az q m; omega
end Qw
set_option Elab.async false
set_option linter.all false
set_option maxRecDepth 100000
set_option maxHeartbeats 4000000
set_option exponentiation.threshold 9000
/-! Qw, part thirteen: the texts that are asked. -/
namespace Qw
open PySem PySem.Spec L2 Mo Lw Pw
theorem signs_app (t u : Str) : signsS (t ++ u) = signsS t ++ signsS u := by
  unfold signsS
  rw [PyProof.Rows.cps_toList_append, List.map_append]
theorem uPlus_str {x y : Str} (h : x.length + y.length ≤ 1000) : uPlus (.str x) (.str y) = some (.str (x ++ y)) := by
  have key : uAdd (.str x) (.str y) = some (.str (x ++ y)) := by
    show (none : Option D).or ((fCat (.str x) (.str y)).or _) = _
    have e1 : fCat (.str x) (.str y) = some (.str (x ++ y)) := if_pos (by rw [sizeLine_eq]; omega)
    rw [e1]
    rfl
  show (uAdd (.str x) (.str y)).or _ = _
  rw [key]
  rfl
/-! ### a drawn text -/
end Qw
set_option Elab.async false
set_option linter.all false
set_option maxRecDepth 100000
set_option maxHeartbeats 4000000
set_option exponentiation.threshold 9000
/-! k02: what the law's words about an error come to. -/
namespace K402
open PySem PySem.Spec L2 Mo Lw
abbrev errs : List Str := ["PriceError", "InvalidMachine", "InvalidText", "InvalidPattern", "InvalidSquare", "InvalidCosts", "InvalidRow", "InvalidPaper", "InvalidOperation", "ParseError", "UnknownName", "NotTaken", "InvalidNumber", "NothingToUndo", "TooMany", "Unstable", "Refused"]
theorem inj_nd {α β : Type} {f : α → β} : ∀ {l : List α}, (l.map f).Nodup → ∀ x ∈ l, ∀ y ∈ l, f x = f y → x = y
  | [], _, x, hx, _, _, _ => absurd hx (List.not_mem_nil)
  | a :: l, h, x, hx, y, hy, e => by
    rw [List.map_cons, List.nodup_cons] at h
    rcases List.mem_cons.mp hx with e1 | h1
    · rcases List.mem_cons.mp hy with e2 | h2
      · rw [e1, e2]
      · exact absurd (by rw [← e1, e]; exact List.mem_map_of_mem h2) h.1
    · rcases List.mem_cons.mp hy with e2 | h2
      · exact absurd (by rw [← e2, ← e]; exact List.mem_map_of_mem h1) h.1
      · exact inj_nd h.2 x h1 y h2 e
theorem dec_ad {c : CA} (hd : (errs.map c.ad).Nodup) {n : Str} (hn : n ∈ errs) {ys : List Str} (hy : ∀ y ∈ ys, y ∈ errs) : decide (c.ad n ∈ ys.map c.ad) = decide (n ∈ ys) := by
  by_cases h : n ∈ ys
  · rw [decide_eq_true h, decide_eq_true (List.mem_map_of_mem h)]
  · rw [decide_eq_false h, decide_eq_false fun z => ?_]
    obtain ⟨y, m, e⟩ := List.mem_map.mp z
    exact h (inj_nd hd n hn y (hy y m) e.symm ▸ m)
theorem ev_isV {all subs : List Addr} {ma : M D} {g : G} {Q : D → G → Prop} : Ev (mIsV all subs ma) g Q ↔ Ev ma g fun x g' => ∃ C fs, x = .exv C fs ∧ C ∈ all ∧ Q (.bl (decide (C ∈ subs))) g' := by
  unfold mIsV
  rw [ev_bind]
  refine ⟨fun h => h.mono fun x g' h => ?_, fun h => h.mono fun x g' ⟨C, fs, e, hC, q⟩ => ?_⟩
  · cases x <;> first | (exact (ev_bad.mp h).elim) | skip
    rename_i C fs
    dsimp only at h
    split at h
    · rename_i hC
      exact ⟨C, fs, rfl, hC, ev_ret.mp h⟩
    · exact (ev_bad.mp h).elim
  · subst e
    dsimp only
    rw [if_pos hC]
    exact ev_ret.mpr q
theorem ev_isVn {A S : List Addr} {a : Addr} {fs : List (Str × D)} {b : Bool} (hA : a ∈ A) (q : decide (a ∈ S) = b) {s : List Sl} {c : C3} {Q : D → G → Prop} (h : s[0]? = some (.v (.exv a fs))) : Ev (mIsV A S (mName 0)) ⟨s, c⟩ Q ↔ Q (.bl b) ⟨s, c⟩ := by
  rw [ev_isV, ev_name_v h]
  refine ⟨fun ⟨C, fs', e, _, q1⟩ => ?_, fun h => ⟨a, fs, rfl, hA, by rw [q]; exact h⟩⟩
  cases e
  rw [q] at q1
  exact q1
def bT (w : Str) (b : Bool) : Str := if b = true then w else Str.empty
theorem tm {w : Str} {b : Bool} (h1 : uTimesT (.str w) (.int 1) = some (.str w)) (h0 : uTimesT (.str w) (.int 0) = some (.str Str.empty)) : uTimesT (.str w) (.int (if b = true then 1 else 0)) = some (.str (bT w b)) := by
  cases b
  · exact h0
  · exact h1
theorem len_bT {w : Str} {b : Bool} : (bT w b).length ≤ w.length := by
  unfold bT
  split
  · exact Nat.le_refl _
  · exact Nat.zero_le _
theorem len_app {x y : Str} : (x ++ y).length = x.length + y.length := by
  rw [← Qw.signs_len, Qw.signs_app, List.length_append, Qw.signs_len, Qw.signs_len]
@[simp] theorem ev_setT {j : Nat} {m : M D} {k : M Oc} {g : G} {Q : Oc → G → Prop} : Ev (mSetT j m k) g Q ↔ Ev m g fun d g' => Ev k (g'.set j (.v d)) Q := by
  unfold mSetT
  rw [ev_bind]
  rfl
@[simp] theorem ev_call1 {f : List D → Option D} {m : M D} {g : G} {Q : D → G → Prop} : Ev (mCall1 f m) g Q ↔ Ev m g fun d g' => Ev (lift (f [d])) g' Q := by
  unfold mCall1
  rw [ev_bind]
def mOwn (A S1 S2 S3 S4 S5 S6 S7 S8 S9 S10 S11 S12 S13 S14 S15 S16 : List Addr) : M Oc :=
  (seq (mSet 1 (mBin uPlus (mBin uTimesT (ret (.str "m")) (mCall fInt1 (mCons (mIsV A S1 (mName 0)) (ret [])))) (mBin uTimesT (ret (.str "t")) (mCall fInt1 (mCons (mIsV A S2 (mName 0)) (ret [])))))) (seq (mSet 1 (mBin uPlus (mBin uPlus (mName 1) (mBin uTimesT (ret (.str "p")) (mCall fInt1 (mCons (mIsV A S3 (mName 0)) (ret []))))) (mBin uTimesT (ret (.str "s")) (mCall fInt1 (mCons (mIsV A S4 (mName 0)) (ret [])))))) (seq (mSet 1 (mBin uPlus (mBin uPlus (mName 1) (mBin uTimesT (ret (.str "c")) (mCall fInt1 (mCons (mIsV A S5 (mName 0)) (ret []))))) (mBin uTimesT (ret (.str "r")) (mCall fInt1 (mCons (mIsV A S6 (mName 0)) (ret [])))))) (seq (mSet 1 (mBin uPlus (mBin uPlus (mName 1) (mBin uTimesT (ret (.str "q")) (mCall fInt1 (mCons (mIsV A S7 (mName 0)) (ret []))))) (mBin uTimesT (ret (.str "o")) (mCall fInt1 (mCons (mIsV A S8 (mName 0)) (ret [])))))) (seq (mSet 1 (mBin uPlus (mBin uPlus (mName 1) (mBin uTimesT (ret (.str "x")) (mCall fInt1 (mCons (mIsV A S9 (mName 0)) (ret []))))) (mBin uTimesT (ret (.str "U")) (mCall fInt1 (mCons (mIsV A S10 (mName 0)) (ret [])))))) (seq (mSet 1 (mBin uPlus (mBin uPlus (mName 1) (mBin uTimesT (ret (.str "T")) (mCall fInt1 (mCons (mIsV A S11 (mName 0)) (ret []))))) (mBin uTimesT (ret (.str "N")) (mCall fInt1 (mCons (mIsV A S12 (mName 0)) (ret [])))))) (seq (mSet 1 (mBin uPlus (mBin uPlus (mName 1) (mBin uTimesT (ret (.str "Z")) (mCall fInt1 (mCons (mIsV A S13 (mName 0)) (ret []))))) (mBin uTimesT (ret (.str "M")) (mCall fInt1 (mCons (mIsV A S14 (mName 0)) (ret [])))))) (seq (mRet (mBin uPlus (mBin uPlus (mName 1) (mBin uTimesT (ret (.str "S")) (mCall fInt1 (mCons (mIsV A S15 (mName 0)) (ret []))))) (mBin uTimesT (ret (.str "R")) (mCall fInt1 (mCons (mIsV A S16 (mName 0)) (ret [])))))) (ret .nx)))))))))
def ownC (b1 b2 b3 b4 b5 b6 b7 b8 b9 b10 b11 b12 b13 b14 b15 b16 : Bool) : Str := ((((((((((((((bT "m" b1 ++ bT "t" b2) ++ bT "p" b3) ++ bT "s" b4) ++ bT "c" b5) ++ bT "r" b6) ++ bT "q" b7) ++ bT "o" b8) ++ bT "x" b9) ++ bT "U" b10) ++ bT "T" b11) ++ bT "N" b12) ++ bT "Z" b13) ++ bT "M" b14) ++ bT "S" b15) ++ bT "R" b16
theorem QwMs {x y : Str} (h : x.length + y.length ≤ 1000) : uPlus (.str x) (.str y) = some (.str (x ++ y)) := Qw.uPlus_str h
theorem fCat_s {x y : Str} (h : x.length + y.length ≤ 1000) : fCat (.str x) (.str y) = some (.str (x ++ y)) := if_pos (by rw [sizeLine_eq]; omega)
theorem own_ev {A S1 S2 S3 S4 S5 S6 S7 S8 S9 S10 S11 S12 S13 S14 S15 S16 : List Addr} {b1 b2 b3 b4 b5 b6 b7 b8 b9 b10 b11 b12 b13 b14 b15 b16 : Bool} {a : Addr} {fs : List (Str × D)} {c0 : C3} (hA : a ∈ A) (q1 : decide (a ∈ S1) = b1) (q2 : decide (a ∈ S2) = b2) (q3 : decide (a ∈ S3) = b3) (q4 : decide (a ∈ S4) = b4) (q5 : decide (a ∈ S5) = b5) (q6 : decide (a ∈ S6) = b6) (q7 : decide (a ∈ S7) = b7) (q8 : decide (a ∈ S8) = b8) (q9 : decide (a ∈ S9) = b9) (q10 : decide (a ∈ S10) = b10) (q11 : decide (a ∈ S11) = b11) (q12 : decide (a ∈ S12) = b12) (q13 : decide (a ∈ S13) = b13) (q14 : decide (a ∈ S14) = b14) (q15 : decide (a ∈ S15) = b15) (q16 : decide (a ∈ S16) = b16) : Ev (mOwn A S1 S2 S3 S4 S5 S6 S7 S8 S9 S10 S11 S12 S13 S14 S15 S16) ⟨[.v (.exv a fs), .un], c0⟩ (RetP fun d c' => d = .str (ownC b1 b2 b3 b4 b5 b6 b7 b8 b9 b10 b11 b12 b13 b14 b15 b16) ∧ c' = c0) := by
  have t1 := tm (w := "m") (b := b1) (by rfl) (by rfl)
  have l1 : (bT "m" b1).length ≤ 1 := len_bT
  obtain ⟨w1, hw1⟩ : ∃ w, w = bT "m" b1 := ⟨_, rfl⟩
  rw [← hw1] at t1 l1
  have t2 := tm (w := "t") (b := b2) (by rfl) (by rfl)
  have l2 : (bT "t" b2).length ≤ 1 := len_bT
  obtain ⟨w2, hw2⟩ : ∃ w, w = bT "t" b2 := ⟨_, rfl⟩
  rw [← hw2] at t2 l2
  have t3 := tm (w := "p") (b := b3) (by rfl) (by rfl)
  have l3 : (bT "p" b3).length ≤ 1 := len_bT
  obtain ⟨w3, hw3⟩ : ∃ w, w = bT "p" b3 := ⟨_, rfl⟩
  rw [← hw3] at t3 l3
  have t4 := tm (w := "s") (b := b4) (by rfl) (by rfl)
  have l4 : (bT "s" b4).length ≤ 1 := len_bT
  obtain ⟨w4, hw4⟩ : ∃ w, w = bT "s" b4 := ⟨_, rfl⟩
  rw [← hw4] at t4 l4
  have t5 := tm (w := "c") (b := b5) (by rfl) (by rfl)
  have l5 : (bT "c" b5).length ≤ 1 := len_bT
  obtain ⟨w5, hw5⟩ : ∃ w, w = bT "c" b5 := ⟨_, rfl⟩
  rw [← hw5] at t5 l5
  have t6 := tm (w := "r") (b := b6) (by rfl) (by rfl)
  have l6 : (bT "r" b6).length ≤ 1 := len_bT
  obtain ⟨w6, hw6⟩ : ∃ w, w = bT "r" b6 := ⟨_, rfl⟩
  rw [← hw6] at t6 l6
  have t7 := tm (w := "q") (b := b7) (by rfl) (by rfl)
  have l7 : (bT "q" b7).length ≤ 1 := len_bT
  obtain ⟨w7, hw7⟩ : ∃ w, w = bT "q" b7 := ⟨_, rfl⟩
  rw [← hw7] at t7 l7
  have t8 := tm (w := "o") (b := b8) (by rfl) (by rfl)
  have l8 : (bT "o" b8).length ≤ 1 := len_bT
  obtain ⟨w8, hw8⟩ : ∃ w, w = bT "o" b8 := ⟨_, rfl⟩
  rw [← hw8] at t8 l8
  have t9 := tm (w := "x") (b := b9) (by rfl) (by rfl)
  have l9 : (bT "x" b9).length ≤ 1 := len_bT
  obtain ⟨w9, hw9⟩ : ∃ w, w = bT "x" b9 := ⟨_, rfl⟩
  rw [← hw9] at t9 l9
  have t10 := tm (w := "U") (b := b10) (by rfl) (by rfl)
  have l10 : (bT "U" b10).length ≤ 1 := len_bT
  obtain ⟨w10, hw10⟩ : ∃ w, w = bT "U" b10 := ⟨_, rfl⟩
  rw [← hw10] at t10 l10
  have t11 := tm (w := "T") (b := b11) (by rfl) (by rfl)
  have l11 : (bT "T" b11).length ≤ 1 := len_bT
  obtain ⟨w11, hw11⟩ : ∃ w, w = bT "T" b11 := ⟨_, rfl⟩
  rw [← hw11] at t11 l11
  have t12 := tm (w := "N") (b := b12) (by rfl) (by rfl)
  have l12 : (bT "N" b12).length ≤ 1 := len_bT
  obtain ⟨w12, hw12⟩ : ∃ w, w = bT "N" b12 := ⟨_, rfl⟩
  rw [← hw12] at t12 l12
  have t13 := tm (w := "Z") (b := b13) (by rfl) (by rfl)
  have l13 : (bT "Z" b13).length ≤ 1 := len_bT
  obtain ⟨w13, hw13⟩ : ∃ w, w = bT "Z" b13 := ⟨_, rfl⟩
  rw [← hw13] at t13 l13
  have t14 := tm (w := "M") (b := b14) (by rfl) (by rfl)
  have l14 : (bT "M" b14).length ≤ 1 := len_bT
  obtain ⟨w14, hw14⟩ : ∃ w, w = bT "M" b14 := ⟨_, rfl⟩
  rw [← hw14] at t14 l14
  have t15 := tm (w := "S") (b := b15) (by rfl) (by rfl)
  have l15 : (bT "S" b15).length ≤ 1 := len_bT
  obtain ⟨w15, hw15⟩ : ∃ w, w = bT "S" b15 := ⟨_, rfl⟩
  rw [← hw15] at t15 l15
  have t16 := tm (w := "R") (b := b16) (by rfl) (by rfl)
  have l16 : (bT "R" b16).length ≤ 1 := len_bT
  obtain ⟨w16, hw16⟩ : ∃ w, w = bT "R" b16 := ⟨_, rfl⟩
  rw [← hw16] at t16 l16
  have e2 : uPlus (.str (w1)) (.str w2) = some (.str ((w1) ++ w2)) := QwMs (by (try simp only [len_app]); omega)
  have e3 : uPlus (.str ((w1) ++ w2)) (.str w3) = some (.str (((w1) ++ w2) ++ w3)) := QwMs (by (try simp only [len_app]); omega)
  have e4 : uPlus (.str (((w1) ++ w2) ++ w3)) (.str w4) = some (.str ((((w1) ++ w2) ++ w3) ++ w4)) := QwMs (by (try simp only [len_app]); omega)
  have e5 : uPlus (.str ((((w1) ++ w2) ++ w3) ++ w4)) (.str w5) = some (.str (((((w1) ++ w2) ++ w3) ++ w4) ++ w5)) := QwMs (by (try simp only [len_app]); omega)
  have e6 : uPlus (.str (((((w1) ++ w2) ++ w3) ++ w4) ++ w5)) (.str w6) = some (.str ((((((w1) ++ w2) ++ w3) ++ w4) ++ w5) ++ w6)) := QwMs (by (try simp only [len_app]); omega)
  have e7 : uPlus (.str ((((((w1) ++ w2) ++ w3) ++ w4) ++ w5) ++ w6)) (.str w7) = some (.str (((((((w1) ++ w2) ++ w3) ++ w4) ++ w5) ++ w6) ++ w7)) := QwMs (by (try simp only [len_app]); omega)
  have e8 : uPlus (.str (((((((w1) ++ w2) ++ w3) ++ w4) ++ w5) ++ w6) ++ w7)) (.str w8) = some (.str ((((((((w1) ++ w2) ++ w3) ++ w4) ++ w5) ++ w6) ++ w7) ++ w8)) := QwMs (by (try simp only [len_app]); omega)
  have e9 : uPlus (.str ((((((((w1) ++ w2) ++ w3) ++ w4) ++ w5) ++ w6) ++ w7) ++ w8)) (.str w9) = some (.str (((((((((w1) ++ w2) ++ w3) ++ w4) ++ w5) ++ w6) ++ w7) ++ w8) ++ w9)) := QwMs (by (try simp only [len_app]); omega)
  have e10 : uPlus (.str (((((((((w1) ++ w2) ++ w3) ++ w4) ++ w5) ++ w6) ++ w7) ++ w8) ++ w9)) (.str w10) = some (.str ((((((((((w1) ++ w2) ++ w3) ++ w4) ++ w5) ++ w6) ++ w7) ++ w8) ++ w9) ++ w10)) := QwMs (by (try simp only [len_app]); omega)
  have e11 : uPlus (.str ((((((((((w1) ++ w2) ++ w3) ++ w4) ++ w5) ++ w6) ++ w7) ++ w8) ++ w9) ++ w10)) (.str w11) = some (.str (((((((((((w1) ++ w2) ++ w3) ++ w4) ++ w5) ++ w6) ++ w7) ++ w8) ++ w9) ++ w10) ++ w11)) := QwMs (by (try simp only [len_app]); omega)
  have e12 : uPlus (.str (((((((((((w1) ++ w2) ++ w3) ++ w4) ++ w5) ++ w6) ++ w7) ++ w8) ++ w9) ++ w10) ++ w11)) (.str w12) = some (.str ((((((((((((w1) ++ w2) ++ w3) ++ w4) ++ w5) ++ w6) ++ w7) ++ w8) ++ w9) ++ w10) ++ w11) ++ w12)) := QwMs (by (try simp only [len_app]); omega)
  have e13 : uPlus (.str ((((((((((((w1) ++ w2) ++ w3) ++ w4) ++ w5) ++ w6) ++ w7) ++ w8) ++ w9) ++ w10) ++ w11) ++ w12)) (.str w13) = some (.str (((((((((((((w1) ++ w2) ++ w3) ++ w4) ++ w5) ++ w6) ++ w7) ++ w8) ++ w9) ++ w10) ++ w11) ++ w12) ++ w13)) := QwMs (by (try simp only [len_app]); omega)
  have e14 : uPlus (.str (((((((((((((w1) ++ w2) ++ w3) ++ w4) ++ w5) ++ w6) ++ w7) ++ w8) ++ w9) ++ w10) ++ w11) ++ w12) ++ w13)) (.str w14) = some (.str ((((((((((((((w1) ++ w2) ++ w3) ++ w4) ++ w5) ++ w6) ++ w7) ++ w8) ++ w9) ++ w10) ++ w11) ++ w12) ++ w13) ++ w14)) := QwMs (by (try simp only [len_app]); omega)
  have e15 : uPlus (.str ((((((((((((((w1) ++ w2) ++ w3) ++ w4) ++ w5) ++ w6) ++ w7) ++ w8) ++ w9) ++ w10) ++ w11) ++ w12) ++ w13) ++ w14)) (.str w15) = some (.str (((((((((((((((w1) ++ w2) ++ w3) ++ w4) ++ w5) ++ w6) ++ w7) ++ w8) ++ w9) ++ w10) ++ w11) ++ w12) ++ w13) ++ w14) ++ w15)) := QwMs (by (try simp only [len_app]); omega)
  have e16 : uPlus (.str (((((((((((((((w1) ++ w2) ++ w3) ++ w4) ++ w5) ++ w6) ++ w7) ++ w8) ++ w9) ++ w10) ++ w11) ++ w12) ++ w13) ++ w14) ++ w15)) (.str w16) = some (.str ((((((((((((((((w1) ++ w2) ++ w3) ++ w4) ++ w5) ++ w6) ++ w7) ++ w8) ++ w9) ++ w10) ++ w11) ++ w12) ++ w13) ++ w14) ++ w15) ++ w16)) := QwMs (by (try simp only [len_app]); omega)
  have k1 : ∀ {s : List Sl} {c : C3} {Q : D → G → Prop}, s[0]? = some (.v (.exv a fs)) → (Ev (mIsV A S1 (mName 0)) ⟨s, c⟩ Q ↔ Q (.bl b1) ⟨s, c⟩) := fun h => ev_isVn hA q1 h
  have k2 : ∀ {s : List Sl} {c : C3} {Q : D → G → Prop}, s[0]? = some (.v (.exv a fs)) → (Ev (mIsV A S2 (mName 0)) ⟨s, c⟩ Q ↔ Q (.bl b2) ⟨s, c⟩) := fun h => ev_isVn hA q2 h
  have k3 : ∀ {s : List Sl} {c : C3} {Q : D → G → Prop}, s[0]? = some (.v (.exv a fs)) → (Ev (mIsV A S3 (mName 0)) ⟨s, c⟩ Q ↔ Q (.bl b3) ⟨s, c⟩) := fun h => ev_isVn hA q3 h
  have k4 : ∀ {s : List Sl} {c : C3} {Q : D → G → Prop}, s[0]? = some (.v (.exv a fs)) → (Ev (mIsV A S4 (mName 0)) ⟨s, c⟩ Q ↔ Q (.bl b4) ⟨s, c⟩) := fun h => ev_isVn hA q4 h
  have k5 : ∀ {s : List Sl} {c : C3} {Q : D → G → Prop}, s[0]? = some (.v (.exv a fs)) → (Ev (mIsV A S5 (mName 0)) ⟨s, c⟩ Q ↔ Q (.bl b5) ⟨s, c⟩) := fun h => ev_isVn hA q5 h
  have k6 : ∀ {s : List Sl} {c : C3} {Q : D → G → Prop}, s[0]? = some (.v (.exv a fs)) → (Ev (mIsV A S6 (mName 0)) ⟨s, c⟩ Q ↔ Q (.bl b6) ⟨s, c⟩) := fun h => ev_isVn hA q6 h
  have k7 : ∀ {s : List Sl} {c : C3} {Q : D → G → Prop}, s[0]? = some (.v (.exv a fs)) → (Ev (mIsV A S7 (mName 0)) ⟨s, c⟩ Q ↔ Q (.bl b7) ⟨s, c⟩) := fun h => ev_isVn hA q7 h
  have k8 : ∀ {s : List Sl} {c : C3} {Q : D → G → Prop}, s[0]? = some (.v (.exv a fs)) → (Ev (mIsV A S8 (mName 0)) ⟨s, c⟩ Q ↔ Q (.bl b8) ⟨s, c⟩) := fun h => ev_isVn hA q8 h
  have k9 : ∀ {s : List Sl} {c : C3} {Q : D → G → Prop}, s[0]? = some (.v (.exv a fs)) → (Ev (mIsV A S9 (mName 0)) ⟨s, c⟩ Q ↔ Q (.bl b9) ⟨s, c⟩) := fun h => ev_isVn hA q9 h
  have k10 : ∀ {s : List Sl} {c : C3} {Q : D → G → Prop}, s[0]? = some (.v (.exv a fs)) → (Ev (mIsV A S10 (mName 0)) ⟨s, c⟩ Q ↔ Q (.bl b10) ⟨s, c⟩) := fun h => ev_isVn hA q10 h
  have k11 : ∀ {s : List Sl} {c : C3} {Q : D → G → Prop}, s[0]? = some (.v (.exv a fs)) → (Ev (mIsV A S11 (mName 0)) ⟨s, c⟩ Q ↔ Q (.bl b11) ⟨s, c⟩) := fun h => ev_isVn hA q11 h
  have k12 : ∀ {s : List Sl} {c : C3} {Q : D → G → Prop}, s[0]? = some (.v (.exv a fs)) → (Ev (mIsV A S12 (mName 0)) ⟨s, c⟩ Q ↔ Q (.bl b12) ⟨s, c⟩) := fun h => ev_isVn hA q12 h
  have k13 : ∀ {s : List Sl} {c : C3} {Q : D → G → Prop}, s[0]? = some (.v (.exv a fs)) → (Ev (mIsV A S13 (mName 0)) ⟨s, c⟩ Q ↔ Q (.bl b13) ⟨s, c⟩) := fun h => ev_isVn hA q13 h
  have k14 : ∀ {s : List Sl} {c : C3} {Q : D → G → Prop}, s[0]? = some (.v (.exv a fs)) → (Ev (mIsV A S14 (mName 0)) ⟨s, c⟩ Q ↔ Q (.bl b14) ⟨s, c⟩) := fun h => ev_isVn hA q14 h
  have k15 : ∀ {s : List Sl} {c : C3} {Q : D → G → Prop}, s[0]? = some (.v (.exv a fs)) → (Ev (mIsV A S15 (mName 0)) ⟨s, c⟩ Q ↔ Q (.bl b15) ⟨s, c⟩) := fun h => ev_isVn hA q15 h
  have k16 : ∀ {s : List Sl} {c : C3} {Q : D → G → Prop}, s[0]? = some (.v (.exv a fs)) → (Ev (mIsV A S16 (mName 0)) ⟨s, c⟩ Q ↔ Q (.bl b16) ⟨s, c⟩) := fun h => ev_isVn hA q16 h
  unfold mOwn
  simp [ev_name_v, k1, k2, k3, k4, k5, k6, k7, k8, k9, k10, k11, k12, k13, k14, k15, k16, t1, t2, t3, t4, t5, t6, t7, t8, t9, t10, t11, t12, t13, t14, t15, t16, e2, e3, e4, e5, e6, e7, e8, e9, e10, e11, e12, e13, e14, e15, e16]
  rw [hw1, hw2, hw3, hw4, hw5, hw6, hw7, hw8, hw9, hw10, hw11, hw12, hw13, hw14, hw15, hw16]
  rfl
def ownT (n : Str) : Str := ownC (decide (n ∈ (["InvalidMachine"] : List Str))) (decide (n ∈ (["InvalidText"] : List Str))) (decide (n ∈ (["InvalidPattern"] : List Str))) (decide (n ∈ (["InvalidSquare"] : List Str))) (decide (n ∈ (["InvalidCosts"] : List Str))) (decide (n ∈ (["InvalidRow"] : List Str))) (decide (n ∈ (["InvalidPaper"] : List Str))) (decide (n ∈ (["InvalidOperation"] : List Str))) (decide (n ∈ (["ParseError"] : List Str))) (decide (n ∈ (["UnknownName"] : List Str))) (decide (n ∈ (["NotTaken"] : List Str))) (decide (n ∈ (["InvalidNumber"] : List Str))) (decide (n ∈ (["NothingToUndo"] : List Str))) (decide (n ∈ (["TooMany"] : List Str))) (decide (n ∈ (["Unstable"] : List Str))) (decide (n ∈ (["Refused"] : List Str)))
theorem own_spec {c : CA} (hd : (errs.map c.ad).Nodup) {n : Str} (hn : n ∈ errs) (fs : List (Str × D)) (c0 : C3) : F__law_own c [.exv (c.ad n) fs] c0 = some (.str (ownT n), c0) := by
  obtain ⟨d, c', e, h1, h2⟩ := run_ev (dice := false) (n := 2) (k := 1) (m := m__law_own c) (ds := [.exv (c.ad n) fs]) (c := c0) rfl (own_ev (A := allE c) (List.mem_map_of_mem hn) (dec_ad hd hn (ys := ["InvalidMachine"]) (by decide)) (dec_ad hd hn (ys := ["InvalidText"]) (by decide)) (dec_ad hd hn (ys := ["InvalidPattern"]) (by decide)) (dec_ad hd hn (ys := ["InvalidSquare"]) (by decide)) (dec_ad hd hn (ys := ["InvalidCosts"]) (by decide)) (dec_ad hd hn (ys := ["InvalidRow"]) (by decide)) (dec_ad hd hn (ys := ["InvalidPaper"]) (by decide)) (dec_ad hd hn (ys := ["InvalidOperation"]) (by decide)) (dec_ad hd hn (ys := ["ParseError"]) (by decide)) (dec_ad hd hn (ys := ["UnknownName"]) (by decide)) (dec_ad hd hn (ys := ["NotTaken"]) (by decide)) (dec_ad hd hn (ys := ["InvalidNumber"]) (by decide)) (dec_ad hd hn (ys := ["NothingToUndo"]) (by decide)) (dec_ad hd hn (ys := ["TooMany"]) (by decide)) (dec_ad hd hn (ys := ["Unstable"]) (by decide)) (dec_ad hd hn (ys := ["Refused"]) (by decide)))
  subst h1 h2
  exact e
def mOwnH (a : Addr) (S1 S2 S3 S4 S5 S6 S7 S8 S9 S10 S11 S12 S13 S14 S15 S16 : List Addr) : M Oc :=
  (mSetT 1 (mBin fCat (mBin uTimesT (ret (.str "m")) (mCall1 fInt1 (ret (.bl (decide (a ∈ S1)))))) (mBin uTimesT (ret (.str "t")) (mCall1 fInt1 (ret (.bl (decide (a ∈ S2))))))) (mSetT 1 (mBin fCat (mBin fCat (mName 1) (mBin uTimesT (ret (.str "p")) (mCall1 fInt1 (ret (.bl (decide (a ∈ S3))))))) (mBin uTimesT (ret (.str "s")) (mCall1 fInt1 (ret (.bl (decide (a ∈ S4))))))) (mSetT 1 (mBin fCat (mBin fCat (mName 1) (mBin uTimesT (ret (.str "c")) (mCall1 fInt1 (ret (.bl (decide (a ∈ S5))))))) (mBin uTimesT (ret (.str "r")) (mCall1 fInt1 (ret (.bl (decide (a ∈ S6))))))) (mSetT 1 (mBin fCat (mBin fCat (mName 1) (mBin uTimesT (ret (.str "q")) (mCall1 fInt1 (ret (.bl (decide (a ∈ S7))))))) (mBin uTimesT (ret (.str "o")) (mCall1 fInt1 (ret (.bl (decide (a ∈ S8))))))) (mSetT 1 (mBin fCat (mBin fCat (mName 1) (mBin uTimesT (ret (.str "x")) (mCall1 fInt1 (ret (.bl (decide (a ∈ S9))))))) (mBin uTimesT (ret (.str "U")) (mCall1 fInt1 (ret (.bl (decide (a ∈ S10))))))) (mSetT 1 (mBin fCat (mBin fCat (mName 1) (mBin uTimesT (ret (.str "T")) (mCall1 fInt1 (ret (.bl (decide (a ∈ S11))))))) (mBin uTimesT (ret (.str "N")) (mCall1 fInt1 (ret (.bl (decide (a ∈ S12))))))) (mSetT 1 (mBin fCat (mBin fCat (mName 1) (mBin uTimesT (ret (.str "Z")) (mCall1 fInt1 (ret (.bl (decide (a ∈ S13))))))) (mBin uTimesT (ret (.str "M")) (mCall1 fInt1 (ret (.bl (decide (a ∈ S14))))))) (mRet (mBin fCat (mBin fCat (mName 1) (mBin uTimesT (ret (.str "S")) (mCall1 fInt1 (ret (.bl (decide (a ∈ S15))))))) (mBin uTimesT (ret (.str "R")) (mCall1 fInt1 (ret (.bl (decide (a ∈ S16)))))))))))))))
theorem ownh_ev {S1 S2 S3 S4 S5 S6 S7 S8 S9 S10 S11 S12 S13 S14 S15 S16 : List Addr} {b1 b2 b3 b4 b5 b6 b7 b8 b9 b10 b11 b12 b13 b14 b15 b16 : Bool} {a : Addr} {fs : List (Str × D)} {c0 : C3}  (q1 : decide (a ∈ S1) = b1) (q2 : decide (a ∈ S2) = b2) (q3 : decide (a ∈ S3) = b3) (q4 : decide (a ∈ S4) = b4) (q5 : decide (a ∈ S5) = b5) (q6 : decide (a ∈ S6) = b6) (q7 : decide (a ∈ S7) = b7) (q8 : decide (a ∈ S8) = b8) (q9 : decide (a ∈ S9) = b9) (q10 : decide (a ∈ S10) = b10) (q11 : decide (a ∈ S11) = b11) (q12 : decide (a ∈ S12) = b12) (q13 : decide (a ∈ S13) = b13) (q14 : decide (a ∈ S14) = b14) (q15 : decide (a ∈ S15) = b15) (q16 : decide (a ∈ S16) = b16) : Ev (mOwnH a S1 S2 S3 S4 S5 S6 S7 S8 S9 S10 S11 S12 S13 S14 S15 S16) ⟨[.v .any, .un], c0⟩ (RetP fun d c' => d = .str (ownC b1 b2 b3 b4 b5 b6 b7 b8 b9 b10 b11 b12 b13 b14 b15 b16) ∧ c' = c0) := by
  have t1 := tm (w := "m") (b := b1) (by rfl) (by rfl)
  have l1 : (bT "m" b1).length ≤ 1 := len_bT
  obtain ⟨w1, hw1⟩ : ∃ w, w = bT "m" b1 := ⟨_, rfl⟩
  rw [← hw1] at t1 l1
  have t2 := tm (w := "t") (b := b2) (by rfl) (by rfl)
  have l2 : (bT "t" b2).length ≤ 1 := len_bT
  obtain ⟨w2, hw2⟩ : ∃ w, w = bT "t" b2 := ⟨_, rfl⟩
  rw [← hw2] at t2 l2
  have t3 := tm (w := "p") (b := b3) (by rfl) (by rfl)
  have l3 : (bT "p" b3).length ≤ 1 := len_bT
  obtain ⟨w3, hw3⟩ : ∃ w, w = bT "p" b3 := ⟨_, rfl⟩
  rw [← hw3] at t3 l3
  have t4 := tm (w := "s") (b := b4) (by rfl) (by rfl)
  have l4 : (bT "s" b4).length ≤ 1 := len_bT
  obtain ⟨w4, hw4⟩ : ∃ w, w = bT "s" b4 := ⟨_, rfl⟩
  rw [← hw4] at t4 l4
  have t5 := tm (w := "c") (b := b5) (by rfl) (by rfl)
  have l5 : (bT "c" b5).length ≤ 1 := len_bT
  obtain ⟨w5, hw5⟩ : ∃ w, w = bT "c" b5 := ⟨_, rfl⟩
  rw [← hw5] at t5 l5
  have t6 := tm (w := "r") (b := b6) (by rfl) (by rfl)
  have l6 : (bT "r" b6).length ≤ 1 := len_bT
  obtain ⟨w6, hw6⟩ : ∃ w, w = bT "r" b6 := ⟨_, rfl⟩
  rw [← hw6] at t6 l6
  have t7 := tm (w := "q") (b := b7) (by rfl) (by rfl)
  have l7 : (bT "q" b7).length ≤ 1 := len_bT
  obtain ⟨w7, hw7⟩ : ∃ w, w = bT "q" b7 := ⟨_, rfl⟩
  rw [← hw7] at t7 l7
  have t8 := tm (w := "o") (b := b8) (by rfl) (by rfl)
  have l8 : (bT "o" b8).length ≤ 1 := len_bT
  obtain ⟨w8, hw8⟩ : ∃ w, w = bT "o" b8 := ⟨_, rfl⟩
  rw [← hw8] at t8 l8
  have t9 := tm (w := "x") (b := b9) (by rfl) (by rfl)
  have l9 : (bT "x" b9).length ≤ 1 := len_bT
  obtain ⟨w9, hw9⟩ : ∃ w, w = bT "x" b9 := ⟨_, rfl⟩
  rw [← hw9] at t9 l9
  have t10 := tm (w := "U") (b := b10) (by rfl) (by rfl)
  have l10 : (bT "U" b10).length ≤ 1 := len_bT
  obtain ⟨w10, hw10⟩ : ∃ w, w = bT "U" b10 := ⟨_, rfl⟩
  rw [← hw10] at t10 l10
  have t11 := tm (w := "T") (b := b11) (by rfl) (by rfl)
  have l11 : (bT "T" b11).length ≤ 1 := len_bT
  obtain ⟨w11, hw11⟩ : ∃ w, w = bT "T" b11 := ⟨_, rfl⟩
  rw [← hw11] at t11 l11
  have t12 := tm (w := "N") (b := b12) (by rfl) (by rfl)
  have l12 : (bT "N" b12).length ≤ 1 := len_bT
  obtain ⟨w12, hw12⟩ : ∃ w, w = bT "N" b12 := ⟨_, rfl⟩
  rw [← hw12] at t12 l12
  have t13 := tm (w := "Z") (b := b13) (by rfl) (by rfl)
  have l13 : (bT "Z" b13).length ≤ 1 := len_bT
  obtain ⟨w13, hw13⟩ : ∃ w, w = bT "Z" b13 := ⟨_, rfl⟩
  rw [← hw13] at t13 l13
  have t14 := tm (w := "M") (b := b14) (by rfl) (by rfl)
  have l14 : (bT "M" b14).length ≤ 1 := len_bT
  obtain ⟨w14, hw14⟩ : ∃ w, w = bT "M" b14 := ⟨_, rfl⟩
  rw [← hw14] at t14 l14
  have t15 := tm (w := "S") (b := b15) (by rfl) (by rfl)
  have l15 : (bT "S" b15).length ≤ 1 := len_bT
  obtain ⟨w15, hw15⟩ : ∃ w, w = bT "S" b15 := ⟨_, rfl⟩
  rw [← hw15] at t15 l15
  have t16 := tm (w := "R") (b := b16) (by rfl) (by rfl)
  have l16 : (bT "R" b16).length ≤ 1 := len_bT
  obtain ⟨w16, hw16⟩ : ∃ w, w = bT "R" b16 := ⟨_, rfl⟩
  rw [← hw16] at t16 l16
  have e2 : fCat (.str (w1)) (.str w2) = some (.str ((w1) ++ w2)) := fCat_s (by (try simp only [len_app]); omega)
  have e3 : fCat (.str ((w1) ++ w2)) (.str w3) = some (.str (((w1) ++ w2) ++ w3)) := fCat_s (by (try simp only [len_app]); omega)
  have e4 : fCat (.str (((w1) ++ w2) ++ w3)) (.str w4) = some (.str ((((w1) ++ w2) ++ w3) ++ w4)) := fCat_s (by (try simp only [len_app]); omega)
  have e5 : fCat (.str ((((w1) ++ w2) ++ w3) ++ w4)) (.str w5) = some (.str (((((w1) ++ w2) ++ w3) ++ w4) ++ w5)) := fCat_s (by (try simp only [len_app]); omega)
  have e6 : fCat (.str (((((w1) ++ w2) ++ w3) ++ w4) ++ w5)) (.str w6) = some (.str ((((((w1) ++ w2) ++ w3) ++ w4) ++ w5) ++ w6)) := fCat_s (by (try simp only [len_app]); omega)
  have e7 : fCat (.str ((((((w1) ++ w2) ++ w3) ++ w4) ++ w5) ++ w6)) (.str w7) = some (.str (((((((w1) ++ w2) ++ w3) ++ w4) ++ w5) ++ w6) ++ w7)) := fCat_s (by (try simp only [len_app]); omega)
  have e8 : fCat (.str (((((((w1) ++ w2) ++ w3) ++ w4) ++ w5) ++ w6) ++ w7)) (.str w8) = some (.str ((((((((w1) ++ w2) ++ w3) ++ w4) ++ w5) ++ w6) ++ w7) ++ w8)) := fCat_s (by (try simp only [len_app]); omega)
  have e9 : fCat (.str ((((((((w1) ++ w2) ++ w3) ++ w4) ++ w5) ++ w6) ++ w7) ++ w8)) (.str w9) = some (.str (((((((((w1) ++ w2) ++ w3) ++ w4) ++ w5) ++ w6) ++ w7) ++ w8) ++ w9)) := fCat_s (by (try simp only [len_app]); omega)
  have e10 : fCat (.str (((((((((w1) ++ w2) ++ w3) ++ w4) ++ w5) ++ w6) ++ w7) ++ w8) ++ w9)) (.str w10) = some (.str ((((((((((w1) ++ w2) ++ w3) ++ w4) ++ w5) ++ w6) ++ w7) ++ w8) ++ w9) ++ w10)) := fCat_s (by (try simp only [len_app]); omega)
  have e11 : fCat (.str ((((((((((w1) ++ w2) ++ w3) ++ w4) ++ w5) ++ w6) ++ w7) ++ w8) ++ w9) ++ w10)) (.str w11) = some (.str (((((((((((w1) ++ w2) ++ w3) ++ w4) ++ w5) ++ w6) ++ w7) ++ w8) ++ w9) ++ w10) ++ w11)) := fCat_s (by (try simp only [len_app]); omega)
  have e12 : fCat (.str (((((((((((w1) ++ w2) ++ w3) ++ w4) ++ w5) ++ w6) ++ w7) ++ w8) ++ w9) ++ w10) ++ w11)) (.str w12) = some (.str ((((((((((((w1) ++ w2) ++ w3) ++ w4) ++ w5) ++ w6) ++ w7) ++ w8) ++ w9) ++ w10) ++ w11) ++ w12)) := fCat_s (by (try simp only [len_app]); omega)
  have e13 : fCat (.str ((((((((((((w1) ++ w2) ++ w3) ++ w4) ++ w5) ++ w6) ++ w7) ++ w8) ++ w9) ++ w10) ++ w11) ++ w12)) (.str w13) = some (.str (((((((((((((w1) ++ w2) ++ w3) ++ w4) ++ w5) ++ w6) ++ w7) ++ w8) ++ w9) ++ w10) ++ w11) ++ w12) ++ w13)) := fCat_s (by (try simp only [len_app]); omega)
  have e14 : fCat (.str (((((((((((((w1) ++ w2) ++ w3) ++ w4) ++ w5) ++ w6) ++ w7) ++ w8) ++ w9) ++ w10) ++ w11) ++ w12) ++ w13)) (.str w14) = some (.str ((((((((((((((w1) ++ w2) ++ w3) ++ w4) ++ w5) ++ w6) ++ w7) ++ w8) ++ w9) ++ w10) ++ w11) ++ w12) ++ w13) ++ w14)) := fCat_s (by (try simp only [len_app]); omega)
  have e15 : fCat (.str ((((((((((((((w1) ++ w2) ++ w3) ++ w4) ++ w5) ++ w6) ++ w7) ++ w8) ++ w9) ++ w10) ++ w11) ++ w12) ++ w13) ++ w14)) (.str w15) = some (.str (((((((((((((((w1) ++ w2) ++ w3) ++ w4) ++ w5) ++ w6) ++ w7) ++ w8) ++ w9) ++ w10) ++ w11) ++ w12) ++ w13) ++ w14) ++ w15)) := fCat_s (by (try simp only [len_app]); omega)
  have e16 : fCat (.str (((((((((((((((w1) ++ w2) ++ w3) ++ w4) ++ w5) ++ w6) ++ w7) ++ w8) ++ w9) ++ w10) ++ w11) ++ w12) ++ w13) ++ w14) ++ w15)) (.str w16) = some (.str ((((((((((((((((w1) ++ w2) ++ w3) ++ w4) ++ w5) ++ w6) ++ w7) ++ w8) ++ w9) ++ w10) ++ w11) ++ w12) ++ w13) ++ w14) ++ w15) ++ w16)) := fCat_s (by (try simp only [len_app]); omega)
  unfold mOwnH
  simp [ev_name_v, q1, q2, q3, q4, q5, q6, q7, q8, q9, q10, q11, q12, q13, q14, q15, q16, t1, t2, t3, t4, t5, t6, t7, t8, t9, t10, t11, t12, t13, t14, t15, t16, e2, e3, e4, e5, e6, e7, e8, e9, e10, e11, e12, e13, e14, e15, e16]
  rw [hw1, hw2, hw3, hw4, hw5, hw6, hw7, hw8, hw9, hw10, hw11, hw12, hw13, hw14, hw15, hw16]
  rfl
theorem ownh_spec {c : CA} (hd : (errs.map c.ad).Nodup) {n : Str} (hn : n ∈ errs) (c0 : C3) : Fh__law_own c (c.ad n) [.any] c0 = some (.str (ownT n), c0) := by
  obtain ⟨d, c', e, h1, h2⟩ := run_ev (dice := false) (n := 2) (k := 1) (m := mh__law_own c (c.ad n)) (ds := [.any]) (c := c0) rfl (ownh_ev (a := c.ad n) (fs := []) (dec_ad hd hn (ys := ["InvalidMachine"]) (by decide)) (dec_ad hd hn (ys := ["InvalidText"]) (by decide)) (dec_ad hd hn (ys := ["InvalidPattern"]) (by decide)) (dec_ad hd hn (ys := ["InvalidSquare"]) (by decide)) (dec_ad hd hn (ys := ["InvalidCosts"]) (by decide)) (dec_ad hd hn (ys := ["InvalidRow"]) (by decide)) (dec_ad hd hn (ys := ["InvalidPaper"]) (by decide)) (dec_ad hd hn (ys := ["InvalidOperation"]) (by decide)) (dec_ad hd hn (ys := ["ParseError"]) (by decide)) (dec_ad hd hn (ys := ["UnknownName"]) (by decide)) (dec_ad hd hn (ys := ["NotTaken"]) (by decide)) (dec_ad hd hn (ys := ["InvalidNumber"]) (by decide)) (dec_ad hd hn (ys := ["NothingToUndo"]) (by decide)) (dec_ad hd hn (ys := ["TooMany"]) (by decide)) (dec_ad hd hn (ys := ["Unstable"]) (by decide)) (dec_ad hd hn (ys := ["Refused"]) (by decide)))
  subst h1 h2
  have hC : c.ad n ∈ allE c := List.mem_map_of_mem hn
  show (if c.ad n ∈ allE c then _ else none) = _
  rw [if_pos hC]
  exact e
def mWhole (Fo : FD) (A S1 S2 S3 S4 S5 S6 S7 S8 : List Addr) : M Oc :=
  (seq (mSet 1 (mBin uPlus (mBin uPlus (mFn Fo (mCons (mName 0) (ret []))) (ret (.str " "))) (mBin uTimesT (ret (.str "base ")) (mCall fInt1 (mCons (mIsV A S1 (mName 0)) (ret [])))))) (seq (mSet 1 (mBin uPlus (mBin uPlus (mName 1) (mBin uTimesT (ret (.str "value ")) (mCall fInt1 (mCons (mIsV A S2 (mName 0)) (ret []))))) (mBin uTimesT (ret (.str "key ")) (mCall fInt1 (mCons (mIsV A S3 (mName 0)) (ret [])))))) (seq (mSet 1 (mBin uPlus (mBin uPlus (mName 1) (mBin uTimesT (ret (.str "index ")) (mCall fInt1 (mCons (mIsV A S4 (mName 0)) (ret []))))) (mBin uTimesT (ret (.str "lookup ")) (mCall fInt1 (mCons (mIsV A S5 (mName 0)) (ret [])))))) (seq (mSet 1 (mBin uPlus (mName 1) (mBin uTimesT (ret (.str "runtime ")) (mCall fInt1 (mCons (mIsV A S6 (mName 0)) (ret [])))))) (seq (mSet 1 (mBin uPlus (mName 1) (mBin uTimesT (ret (.str "overflow ")) (mCall fInt1 (mCons (mIsV A S7 (mName 0)) (ret [])))))) (seq (mRet (mBin uPlus (mName 1) (mBin uTimesT (ret (.str "arithmetic ")) (mCall fInt1 (mCons (mIsV A S8 (mName 0)) (ret [])))))) (ret .nx)))))))
def wholeC (t : Str) (b1 b2 b3 b4 b5 b6 b7 b8 : Bool) : Str := ((((((((t ++ " ") ++ bT "base " b1) ++ bT "value " b2) ++ bT "key " b3) ++ bT "index " b4) ++ bT "lookup " b5) ++ bT "runtime " b6) ++ bT "overflow " b7) ++ bT "arithmetic " b8
theorem whole_ev {A S1 S2 S3 S4 S5 S6 S7 S8 : List Addr} {b1 b2 b3 b4 b5 b6 b7 b8 : Bool} {a : Addr} {fs : List (Str × D)} {c0 : C3} (hA : a ∈ A) (q1 : decide (a ∈ S1) = b1) (q2 : decide (a ∈ S2) = b2) (q3 : decide (a ∈ S3) = b3) (q4 : decide (a ∈ S4) = b4) (q5 : decide (a ∈ S5) = b5) (q6 : decide (a ∈ S6) = b6) (q7 : decide (a ∈ S7) = b7) (q8 : decide (a ∈ S8) = b8) {Fo : FD} {t : Str} (ht : Fo [.exv a fs] c0 = some (.str t, c0)) (hl : t.length ≤ 20) : Ev (mWhole Fo A S1 S2 S3 S4 S5 S6 S7 S8) ⟨[.v (.exv a fs), .un], c0⟩ (RetP fun d c' => d = .str (wholeC t b1 b2 b3 b4 b5 b6 b7 b8) ∧ c' = c0) := by
  have e0 : uPlus (.str t) (.str " ") = some (.str (t ++ " ")) := QwMs (by have : (" " : Str).length = 1 := rfl; omega)
  have l0 : (t ++ " ").length ≤ 30 := by rw [len_app]; have : (" " : Str).length = 1 := rfl; omega
  obtain ⟨u, hu⟩ : ∃ u, u = t ++ (" " : Str) := ⟨_, rfl⟩
  rw [← hu] at e0 l0
  have t1 := tm (w := "base ") (b := b1) (by rfl) (by rfl)
  have l1 : (bT "base " b1).length ≤ 5 := len_bT
  obtain ⟨w1, hw1⟩ : ∃ w, w = bT "base " b1 := ⟨_, rfl⟩
  rw [← hw1] at t1 l1
  have t2 := tm (w := "value ") (b := b2) (by rfl) (by rfl)
  have l2 : (bT "value " b2).length ≤ 6 := len_bT
  obtain ⟨w2, hw2⟩ : ∃ w, w = bT "value " b2 := ⟨_, rfl⟩
  rw [← hw2] at t2 l2
  have t3 := tm (w := "key ") (b := b3) (by rfl) (by rfl)
  have l3 : (bT "key " b3).length ≤ 4 := len_bT
  obtain ⟨w3, hw3⟩ : ∃ w, w = bT "key " b3 := ⟨_, rfl⟩
  rw [← hw3] at t3 l3
  have t4 := tm (w := "index ") (b := b4) (by rfl) (by rfl)
  have l4 : (bT "index " b4).length ≤ 6 := len_bT
  obtain ⟨w4, hw4⟩ : ∃ w, w = bT "index " b4 := ⟨_, rfl⟩
  rw [← hw4] at t4 l4
  have t5 := tm (w := "lookup ") (b := b5) (by rfl) (by rfl)
  have l5 : (bT "lookup " b5).length ≤ 7 := len_bT
  obtain ⟨w5, hw5⟩ : ∃ w, w = bT "lookup " b5 := ⟨_, rfl⟩
  rw [← hw5] at t5 l5
  have t6 := tm (w := "runtime ") (b := b6) (by rfl) (by rfl)
  have l6 : (bT "runtime " b6).length ≤ 8 := len_bT
  obtain ⟨w6, hw6⟩ : ∃ w, w = bT "runtime " b6 := ⟨_, rfl⟩
  rw [← hw6] at t6 l6
  have t7 := tm (w := "overflow ") (b := b7) (by rfl) (by rfl)
  have l7 : (bT "overflow " b7).length ≤ 9 := len_bT
  obtain ⟨w7, hw7⟩ : ∃ w, w = bT "overflow " b7 := ⟨_, rfl⟩
  rw [← hw7] at t7 l7
  have t8 := tm (w := "arithmetic ") (b := b8) (by rfl) (by rfl)
  have l8 : (bT "arithmetic " b8).length ≤ 11 := len_bT
  obtain ⟨w8, hw8⟩ : ∃ w, w = bT "arithmetic " b8 := ⟨_, rfl⟩
  rw [← hw8] at t8 l8
  have e1 : uPlus (.str (u)) (.str w1) = some (.str ((u) ++ w1)) := QwMs (by (try simp only [len_app]); omega)
  have e2 : uPlus (.str ((u) ++ w1)) (.str w2) = some (.str (((u) ++ w1) ++ w2)) := QwMs (by (try simp only [len_app]); omega)
  have e3 : uPlus (.str (((u) ++ w1) ++ w2)) (.str w3) = some (.str ((((u) ++ w1) ++ w2) ++ w3)) := QwMs (by (try simp only [len_app]); omega)
  have e4 : uPlus (.str ((((u) ++ w1) ++ w2) ++ w3)) (.str w4) = some (.str (((((u) ++ w1) ++ w2) ++ w3) ++ w4)) := QwMs (by (try simp only [len_app]); omega)
  have e5 : uPlus (.str (((((u) ++ w1) ++ w2) ++ w3) ++ w4)) (.str w5) = some (.str ((((((u) ++ w1) ++ w2) ++ w3) ++ w4) ++ w5)) := QwMs (by (try simp only [len_app]); omega)
  have e6 : uPlus (.str ((((((u) ++ w1) ++ w2) ++ w3) ++ w4) ++ w5)) (.str w6) = some (.str (((((((u) ++ w1) ++ w2) ++ w3) ++ w4) ++ w5) ++ w6)) := QwMs (by (try simp only [len_app]); omega)
  have e7 : uPlus (.str (((((((u) ++ w1) ++ w2) ++ w3) ++ w4) ++ w5) ++ w6)) (.str w7) = some (.str ((((((((u) ++ w1) ++ w2) ++ w3) ++ w4) ++ w5) ++ w6) ++ w7)) := QwMs (by (try simp only [len_app]); omega)
  have e8 : uPlus (.str ((((((((u) ++ w1) ++ w2) ++ w3) ++ w4) ++ w5) ++ w6) ++ w7)) (.str w8) = some (.str (((((((((u) ++ w1) ++ w2) ++ w3) ++ w4) ++ w5) ++ w6) ++ w7) ++ w8)) := QwMs (by (try simp only [len_app]); omega)
  have k1 : ∀ {s : List Sl} {c : C3} {Q : D → G → Prop}, s[0]? = some (.v (.exv a fs)) → (Ev (mIsV A S1 (mName 0)) ⟨s, c⟩ Q ↔ Q (.bl b1) ⟨s, c⟩) := fun h => ev_isVn hA q1 h
  have k2 : ∀ {s : List Sl} {c : C3} {Q : D → G → Prop}, s[0]? = some (.v (.exv a fs)) → (Ev (mIsV A S2 (mName 0)) ⟨s, c⟩ Q ↔ Q (.bl b2) ⟨s, c⟩) := fun h => ev_isVn hA q2 h
  have k3 : ∀ {s : List Sl} {c : C3} {Q : D → G → Prop}, s[0]? = some (.v (.exv a fs)) → (Ev (mIsV A S3 (mName 0)) ⟨s, c⟩ Q ↔ Q (.bl b3) ⟨s, c⟩) := fun h => ev_isVn hA q3 h
  have k4 : ∀ {s : List Sl} {c : C3} {Q : D → G → Prop}, s[0]? = some (.v (.exv a fs)) → (Ev (mIsV A S4 (mName 0)) ⟨s, c⟩ Q ↔ Q (.bl b4) ⟨s, c⟩) := fun h => ev_isVn hA q4 h
  have k5 : ∀ {s : List Sl} {c : C3} {Q : D → G → Prop}, s[0]? = some (.v (.exv a fs)) → (Ev (mIsV A S5 (mName 0)) ⟨s, c⟩ Q ↔ Q (.bl b5) ⟨s, c⟩) := fun h => ev_isVn hA q5 h
  have k6 : ∀ {s : List Sl} {c : C3} {Q : D → G → Prop}, s[0]? = some (.v (.exv a fs)) → (Ev (mIsV A S6 (mName 0)) ⟨s, c⟩ Q ↔ Q (.bl b6) ⟨s, c⟩) := fun h => ev_isVn hA q6 h
  have k7 : ∀ {s : List Sl} {c : C3} {Q : D → G → Prop}, s[0]? = some (.v (.exv a fs)) → (Ev (mIsV A S7 (mName 0)) ⟨s, c⟩ Q ↔ Q (.bl b7) ⟨s, c⟩) := fun h => ev_isVn hA q7 h
  have k8 : ∀ {s : List Sl} {c : C3} {Q : D → G → Prop}, s[0]? = some (.v (.exv a fs)) → (Ev (mIsV A S8 (mName 0)) ⟨s, c⟩ Q ↔ Q (.bl b8) ⟨s, c⟩) := fun h => ev_isVn hA q8 h
  unfold mWhole
  simp [ev_name_v, k1, k2, k3, k4, k5, k6, k7, k8, t1, t2, t3, t4, t5, t6, t7, t8, e1, e2, e3, e4, e5, e6, e7, e8, ht, e0]
  rw [hw1, hw2, hw3, hw4, hw5, hw6, hw7, hw8]
  rw [hu]
  rfl
def wholeT (n : Str) : Str := wholeC (ownT n) (decide (n ∈ (["PriceError", "InvalidMachine", "InvalidText", "InvalidPattern", "InvalidSquare", "InvalidCosts", "InvalidRow", "InvalidPaper", "InvalidOperation", "ParseError"] : List Str))) (decide (n ∈ (["PriceError", "InvalidMachine", "InvalidText", "InvalidPattern", "InvalidSquare", "InvalidCosts", "InvalidRow", "InvalidPaper", "InvalidOperation", "ParseError"] : List Str))) (decide (n ∈ (["UnknownName"] : List Str))) (decide (n ∈ (["InvalidNumber"] : List Str))) (decide (n ∈ (["UnknownName", "NotTaken", "InvalidNumber"] : List Str))) (decide (n ∈ (["NothingToUndo"] : List Str))) (decide (n ∈ (["TooMany"] : List Str))) (decide (n ∈ (["TooMany", "Unstable", "Refused"] : List Str)))
theorem own_len : ∀ n ∈ errs, (ownT n).length ≤ 20 := by decide +kernel
theorem whole_spec {c : CA} (hd : (errs.map c.ad).Nodup) {n : Str} (hn : n ∈ errs) (fs : List (Str × D)) (c0 : C3) : F__law_whole c [.exv (c.ad n) fs] c0 = some (.str (wholeT n), c0) := by
  obtain ⟨d, c', e, h1, h2⟩ := run_ev (dice := false) (n := 2) (k := 1) (m := m__law_whole c) (ds := [.exv (c.ad n) fs]) (c := c0) rfl (whole_ev (A := allE c) (List.mem_map_of_mem hn) (dec_ad hd hn (ys := ["PriceError", "InvalidMachine", "InvalidText", "InvalidPattern", "InvalidSquare", "InvalidCosts", "InvalidRow", "InvalidPaper", "InvalidOperation", "ParseError"]) (by decide)) (dec_ad hd hn (ys := ["PriceError", "InvalidMachine", "InvalidText", "InvalidPattern", "InvalidSquare", "InvalidCosts", "InvalidRow", "InvalidPaper", "InvalidOperation", "ParseError"]) (by decide)) (dec_ad hd hn (ys := ["UnknownName"]) (by decide)) (dec_ad hd hn (ys := ["InvalidNumber"]) (by decide)) (dec_ad hd hn (ys := ["UnknownName", "NotTaken", "InvalidNumber"]) (by decide)) (dec_ad hd hn (ys := ["NothingToUndo"]) (by decide)) (dec_ad hd hn (ys := ["TooMany"]) (by decide)) (dec_ad hd hn (ys := ["TooMany", "Unstable", "Refused"]) (by decide)) (own_spec hd hn fs c0) (own_len n hn))
  subst h1 h2
  exact e
theorem wh_InvalidMachine : wholeT "InvalidMachine" = "m base value " := by decide +kernel
theorem wh_InvalidText : wholeT "InvalidText" = "t base value " := by decide +kernel
theorem wh_InvalidPattern : wholeT "InvalidPattern" = "p base value " := by decide +kernel
theorem wh_InvalidSquare : wholeT "InvalidSquare" = "s base value " := by decide +kernel
theorem wh_InvalidCosts : wholeT "InvalidCosts" = "c base value " := by decide +kernel
theorem wh_InvalidRow : wholeT "InvalidRow" = "r base value " := by decide +kernel
theorem wh_InvalidPaper : wholeT "InvalidPaper" = "q base value " := by decide +kernel
theorem wh_InvalidOperation : wholeT "InvalidOperation" = "o base value " := by decide +kernel
theorem wh_PriceError : wholeT "PriceError" = " base value " := by decide +kernel
theorem wh_ParseError : wholeT "ParseError" = "x base value " := by decide +kernel
theorem wh_UnknownName : wholeT "UnknownName" = "U key lookup " := by decide +kernel
theorem wh_NotTaken : wholeT "NotTaken" = "T lookup " := by decide +kernel
theorem wh_InvalidNumber : wholeT "InvalidNumber" = "N index lookup " := by decide +kernel
theorem wh_NothingToUndo : wholeT "NothingToUndo" = "Z runtime " := by decide +kernel
theorem wh_TooMany : wholeT "TooMany" = "M overflow arithmetic " := by decide +kernel
theorem wh_Unstable : wholeT "Unstable" = "S arithmetic " := by decide +kernel
theorem wh_Refused : wholeT "Refused" = "R arithmetic " := by decide +kernel
theorem ow_InvalidCosts : ownT "InvalidCosts" = "c" := by decide +kernel
end K402
set_option Elab.async false
set_option linter.all false
set_option maxRecDepth 100000
set_option maxHeartbeats 4000000
set_option exponentiation.threshold 9000
/-! k02: repr of what the errors keep. -/
namespace K402
open PySem PySem.Spec L2 Mo Lw Pw
def GoodS (s : Str) : Prop := s.length ≤ 2500 ∧ PyData.strOk s = true
theorem ok_app {x y : Str} (h1 : PyData.strOk x = true) (h2 : PyData.strOk y = true) : PyData.strOk (x ++ y) = true := by
  refine strOk_of fun c m => ?_
  unfold PyData.strOk at h1 h2
  rw [← Array.all_toList] at h1 h2
  rcases PyProof.Rows.mem_cps_append.mp m with m | m
  · exact of_decide_eq_true (List.all_eq_true.mp h1 c m)
  · exact of_decide_eq_true (List.all_eq_true.mp h2 c m)
theorem ok_join : ∀ {ts : List Str}, (∀ t ∈ ts, PyData.strOk t = true) → PyData.strOk (Str.join ", " ts) = true := fun {ts} h => strOk_of fun c m => by
  rcases (PyProof.Rows.mem_join _ c ts).mp m with ⟨t, ht, hc⟩ | ⟨_, hc⟩
  · have := h t ht
    unfold PyData.strOk at this
    rw [← Array.all_toList] at this
    exact of_decide_eq_true (List.all_eq_true.mp this c hc)
  · rw [PyProof.Rows.signs_sep] at hc
    simp at hc
    omega
theorem join_le (ts : List Str) : (Str.join ", " ts).length ≤ piled ts := by
  cases ts with
  | nil => exact Nat.zero_le _
  | cons a r => have := join_length_add (a :: r) (by simp); omega
theorem piled_le {n : Nat} : ∀ {ts : List Str}, (∀ t ∈ ts, t.length ≤ n) → piled ts ≤ ts.length * (n + 2)
  | [], _ => by rw [piled_nil]; exact Nat.zero_le _
  | a :: r, h => by
    have h1 := h a List.mem_cons_self
    have h2 := piled_le fun t m => h t (List.mem_cons_of_mem _ m)
    rw [piled_cons, List.length_cons, Nat.succ_mul]
    omega
/-- data whose repr is told, short and of real signs -/
structure SH (d : D) (x : PyData) : Prop where
  py : pyD d = some x
  sh : x.showable = true
  dp : x.depth ≤ 20
  good : GoodS x.shown
theorem sh_fits {d : D} {x : PyData} (h : SH d x) : fReprD [d] = some (.str x.shown) := by
  show (match pyD d with
    | some x => if x.showable = true ∧ x.depth ≤ 60 ∧ x.shown.length ≤ sizeLine then some (D.str x.shown) else none
    | none => none) = _
  rw [h.py]
  exact if_pos ⟨h.sh, by have := h.dp; omega, by have := h.good.1; rw [sizeLine_eq]; omega⟩
theorem sh_int {i : Int} (h : i.natAbs.log2 < 1920) : SH (.int i) (.int i) := by
  refine ⟨rfl, decide_eq_true h, by simp [PyData.depth], ?_, ok_int i⟩
  have := PyProof.Rows.int_text_len_1921 h
  simp only [PyData.shown]
  exact Nat.le_trans this (by omega)
theorem kept_py : ∀ {l : List (Str × D)}, (∀ p ∈ l, (reprText p.1).length ≤ 100 ∧ PyData.strOk (reprText p.1) = true ∧ ∃ x, SH p.2 x) → ∃ xs, pyDs (l.map fun p => .tup [.str p.1, p.2]) = some xs ∧ PyData.showableAll xs = true ∧ PyData.depthAll xs ≤ 21 ∧ xs.length = l.length ∧
    ∀ t ∈ PyData.shownAll xs, t.length ≤ 3000 ∧ PyData.strOk t = true
  | [], _ => ⟨[], rfl, rfl, Nat.zero_le _, rfl, fun t m => by rw [PyData.shownAll_nil] at m; cases m⟩
  | (w, d) :: l, h => by
    obtain ⟨xs, e1, e2, e3, e4, e5⟩ := kept_py fun p m => h p (List.mem_cons_of_mem _ m)
    obtain ⟨h1, h2, x, hx⟩ := h (w, d) List.mem_cons_self
    dsimp only at h1 h2 hx
    refine ⟨.tuple [.str w, x] :: xs, ?_, ?_, ?_, by rw [List.length_cons, e4]; rfl, fun t m => ?_⟩
    · show pyDs (.tup [.str w, d] :: l.map fun p => .tup [.str p.1, p.2]) = _
      simp only [pyDs, pyD, hx.py, e1, Option.map]
    · simp only [PyData.showableAll, PyData.showable, hx.sh, e2, Bool.and_self]
    · have := hx.dp
      simp only [PyData.depthAll, PyData.depth]
      omega
    · rw [PyData.shownAll_cons, List.mem_cons] at m
      rcases m with rfl | m
      · rw [PyData.shown_tuple]
        have g := hx.good
        have hs : ∀ t ∈ PyData.shownAll [PyData.str w, x], t = reprText w ∨ t = x.shown := fun t m => by
          obtain ⟨y, my, rfl⟩ := mem_shownAll m
          rcases List.mem_cons.mp my with rfl | my
          · exact .inl (PyData.shown_str w)
          · cases List.mem_singleton.mp my
            exact .inr rfl
        refine ⟨?_, ?_⟩
        · have j1 := join_le (PyData.shownAll [PyData.str w, x])
          have j2 : piled (PyData.shownAll [PyData.str w, x]) = ((reprText w).length + 2) + (x.shown.length + 2) := by
            rw [PyData.shownAll_cons, PyData.shownAll_cons, PyData.shownAll_nil, piled_cons, piled_cons, piled_nil, PyData.shown_str]
          have g1 := g.1
          rw [strLen_append, strLen_append]
          have a1 : (("(" : String) : Str).length = 1 := rfl
          have a2 : ((if [PyData.str w, x].length == 1 then ",)" else ")" : String) : Str).length = 1 := rfl
          rw [a1, a2]
          omega
        · refine ok_app (ok_app (by decide +kernel) (ok_join fun t m => ?_)) (by show PyData.strOk ((")" : String) : Str) = true; decide +kernel)
          rcases hs t m with rfl | rfl
          · exact h2
          · exact g.2
      · exact e5 t m
/-- repr of the list of kept things -/
theorem kept_repr {l : List (Str × D)} (hl : l.length ≤ 10) (h : ∀ p ∈ l, (reprText p.1).length ≤ 100 ∧ PyData.strOk (reprText p.1) = true ∧ ∃ x, SH p.2 x) : ∃ z, fReprD [.lst (l.map fun p => .tup [.str p.1, p.2])] = some (.str z) ∧ PyData.strOk z = true := by
  obtain ⟨xs, e1, e2, e3, e4, e5⟩ := kept_py h
  have hp : pyD (.lst (l.map fun p => .tup [.str p.1, p.2])) = some (.list xs) := by
    unfold pyD
    rw [e1]
    rfl
  have hlen : (PyData.shownAll xs).length = l.length := by
    rw [← e4]
    clear e1 e2 e3 e4 e5 hp
    induction xs with
    | nil => rw [PyData.shownAll_nil]; rfl
    | cons a r ih => rw [PyData.shownAll_cons, List.length_cons, List.length_cons, ih]
  refine ⟨(PyData.list xs).shown, ?_, ?_⟩
  · show (match pyD (.lst (l.map fun p => .tup [.str p.1, p.2])) with
      | some x => if x.showable = true ∧ x.depth ≤ 60 ∧ x.shown.length ≤ sizeLine then some (D.str x.shown) else none
      | none => none) = _
    rw [hp]
    refine if_pos ⟨by simp only [PyData.showable, e2], by simp only [PyData.depth]; omega, ?_⟩
    rw [PyData.shown_list, strLen_append, strLen_append]
    have j1 := join_le (PyData.shownAll xs)
    have j2 := piled_le fun t m => (e5 t m).1
    have a1 : (("[" : String) : Str).length = 1 := rfl
    have a2 : (("]" : String) : Str).length = 1 := rfl
    rw [a1, a2, sizeLine_eq]
    have j3 : (PyData.shownAll xs).length * (3000 + 2) ≤ 10 * (3000 + 2) := Nat.mul_le_mul_right _ (by omega)
    omega
  · rw [PyData.shown_list]
    exact ok_app (ok_app (by decide +kernel) (ok_join fun t m => (e5 t m).2)) (by decide +kernel)
/-- what the law keeps -/
def oddL : List D := [.non, .bl true, .int (-7), .int (10 ^ 45 * 10 ^ 45), .str "", .str "b(a)#", .tup [.str "links", .str "put"], .lst [.int 1, .lst [.int 2]], .dk [(.inr "a", .tup [])], .tup [.tup [.tup [.str "a"]]]]
theorem sh_odd : ∀ v ∈ oddL, ∃ x, SH v x := by
  intro v hv
  simp only [oddL, List.mem_cons, List.not_mem_nil, or_false] at hv
  rcases hv with rfl | rfl | rfl | rfl | rfl | rfl | rfl | rfl | rfl | rfl
  · exact ⟨.none, rfl, rfl, by decide +kernel, by unfold GoodS; decide +kernel⟩
  · exact ⟨.bool true, rfl, rfl, by decide +kernel, by unfold GoodS; decide +kernel⟩
  · exact ⟨_, sh_int (by decide +kernel)⟩
  · exact ⟨_, sh_int (by decide +kernel)⟩
  · exact ⟨.str "", rfl, rfl, by decide +kernel, by unfold GoodS; decide +kernel⟩
  · exact ⟨.str "b(a)#", rfl, rfl, by decide +kernel, by unfold GoodS; decide +kernel⟩
  · exact ⟨.tuple [.str "links", .str "put"], rfl, rfl, by decide +kernel, by unfold GoodS; decide +kernel⟩
  · exact ⟨.list [.int 1, .list [.int 2]], rfl, by decide +kernel, by decide +kernel, by unfold GoodS; decide +kernel⟩
  · exact ⟨.dict [(.str "a", .tuple [])], rfl, rfl, by decide +kernel, by unfold GoodS; decide +kernel⟩
  · exact ⟨.tuple [.tuple [.tuple [.str "a"]]], rfl, rfl, by decide +kernel, by unfold GoodS; decide +kernel⟩
end K402
set_option Elab.async false
set_option linter.all false
set_option maxRecDepth 100000
set_option maxHeartbeats 4000000
set_option exponentiation.threshold 9000
/-! k02: messages, kept things, caught errors. -/
namespace K402
open PySem PySem.Spec L2 Mo Lw Pw
theorem ev_mkP1 {C : Addr} {d : D} {i : Nat} {s : List Sl} {c : C3} {Q : D → G → Prop} (h : s[i]? = some (.v d)) : Ev (mMkP C (mCons (mName i) (ret []))) ⟨s, c⟩ Q ↔ Q (.exv C []) ⟨s, c⟩ := by
  unfold mMkP
  rw [ev_bind, ev_cons, ev_name_v h, ev_ret, ev_ret]
theorem ev_mkV1 {C : Addr} {f : Str} {d : D} {i : Nat} {s : List Sl} {c : C3} {Q : D → G → Prop} (h : s[i]? = some (.v d)) : Ev (mMkV C f (mCons (mName i) (ret []))) ⟨s, c⟩ Q ↔ Q (.exv C [(f, d)]) ⟨s, c⟩ := by
  unfold mMkV
  rw [ev_bind, ev_cons, ev_name_v h, ev_ret, ev_ret]
theorem ev_xv1 {C : Addr} {f : Str} {d : D} {i : Nat} {s : List Sl} {c : C3} {Q : D → G → Prop} (h : s[i]? = some (.v (.exv C [(f, d)]))) : Ev (mXv C f (mName i)) ⟨s, c⟩ Q ↔ Q d ⟨s, c⟩ := by
  unfold mXv
  rw [ev_bind, ev_name_v h]
  dsimp only
  rw [if_pos ⟨rfl, rfl⟩, ev_ret]
theorem uPl {xs ys : List D} (h : xs.length + ys.length ≤ 100) : uPlus (.lst xs) (.lst ys) = some (.lst (xs ++ ys)) := uPlus_lst (by rw [sizeLine_eq]; omega)
theorem size_le {k : Nat} (h : k ≤ 100) : k ≤ sizeLine := by rw [sizeLine_eq]; omega
abbrev dueM : List Str := ["m base value ", "t base value ", "p base value ", "s base value ", "c base value ", "r base value ", "q base value ", "o base value ", " base value "]
theorem messages_spec {c : CA} (hd : (errs.map c.ad).Nodup) (t : Str) (c0 : C3) : F__law_messages c [.str t] c0 = some (.lst (sL dueM), c0) := by
  have w_InvalidMachine : ∀ fs c0, F__law_whole c [.exv (c.ad "InvalidMachine") fs] c0 = some (.str "m base value ", c0) := fun fs c0 => by rw [whole_spec hd (by decide), wh_InvalidMachine]
  have w_InvalidText : ∀ fs c0, F__law_whole c [.exv (c.ad "InvalidText") fs] c0 = some (.str "t base value ", c0) := fun fs c0 => by rw [whole_spec hd (by decide), wh_InvalidText]
  have w_InvalidPattern : ∀ fs c0, F__law_whole c [.exv (c.ad "InvalidPattern") fs] c0 = some (.str "p base value ", c0) := fun fs c0 => by rw [whole_spec hd (by decide), wh_InvalidPattern]
  have w_InvalidSquare : ∀ fs c0, F__law_whole c [.exv (c.ad "InvalidSquare") fs] c0 = some (.str "s base value ", c0) := fun fs c0 => by rw [whole_spec hd (by decide), wh_InvalidSquare]
  have w_InvalidCosts : ∀ fs c0, F__law_whole c [.exv (c.ad "InvalidCosts") fs] c0 = some (.str "c base value ", c0) := fun fs c0 => by rw [whole_spec hd (by decide), wh_InvalidCosts]
  have w_InvalidRow : ∀ fs c0, F__law_whole c [.exv (c.ad "InvalidRow") fs] c0 = some (.str "r base value ", c0) := fun fs c0 => by rw [whole_spec hd (by decide), wh_InvalidRow]
  have w_InvalidPaper : ∀ fs c0, F__law_whole c [.exv (c.ad "InvalidPaper") fs] c0 = some (.str "q base value ", c0) := fun fs c0 => by rw [whole_spec hd (by decide), wh_InvalidPaper]
  have w_InvalidOperation : ∀ fs c0, F__law_whole c [.exv (c.ad "InvalidOperation") fs] c0 = some (.str "o base value ", c0) := fun fs c0 => by rw [whole_spec hd (by decide), wh_InvalidOperation]
  have w_PriceError : ∀ fs c0, F__law_whole c [.exv (c.ad "PriceError") fs] c0 = some (.str " base value ", c0) := fun fs c0 => by rw [whole_spec hd (by decide), wh_PriceError]
  suffices h : Ev (m__law_messages c) ⟨ini false 2 [.str t], c0⟩ (RetP fun d c' => d = .lst (sL dueM) ∧ c' = c0) by
    obtain ⟨d, c', e, h1, h2⟩ := run_ev (dice := false) (n := 2) (k := 1) (m := m__law_messages c) (ds := [.str t]) (c := c0) rfl h
    subst h1 h2
    exact e
  unfold m__law_messages
  simp [ev_name_v, ev_mkP1, size_le, uPl, w_InvalidMachine, w_InvalidText, w_InvalidPattern, w_InvalidSquare, w_InvalidCosts, w_InvalidRow, w_InvalidPaper, w_InvalidOperation, w_PriceError, sL]
def keptL (v ix : D) : List (Str × D) := [("x base value ", ix), ("U key lookup ", v), ("T lookup ", v), ("N index lookup ", v), ("Z runtime ", v), ("M overflow arithmetic ", v), ("S arithmetic ", v), ("R arithmetic ", v)]
theorem kept_spec {c : CA} (hd : (errs.map c.ad).Nodup) (v ix : D) (c0 : C3) : F__law_kept c [v, ix] c0 = some (.lst ((keptL v ix).map fun p => .tup [.str p.1, p.2]), c0) := by
  have w_ParseError : ∀ fs c0, F__law_whole c [.exv (c.ad "ParseError") fs] c0 = some (.str "x base value ", c0) := fun fs c0 => by rw [whole_spec hd (by decide), wh_ParseError]
  have w_UnknownName : ∀ fs c0, F__law_whole c [.exv (c.ad "UnknownName") fs] c0 = some (.str "U key lookup ", c0) := fun fs c0 => by rw [whole_spec hd (by decide), wh_UnknownName]
  have w_NotTaken : ∀ fs c0, F__law_whole c [.exv (c.ad "NotTaken") fs] c0 = some (.str "T lookup ", c0) := fun fs c0 => by rw [whole_spec hd (by decide), wh_NotTaken]
  have w_InvalidNumber : ∀ fs c0, F__law_whole c [.exv (c.ad "InvalidNumber") fs] c0 = some (.str "N index lookup ", c0) := fun fs c0 => by rw [whole_spec hd (by decide), wh_InvalidNumber]
  have w_NothingToUndo : ∀ fs c0, F__law_whole c [.exv (c.ad "NothingToUndo") fs] c0 = some (.str "Z runtime ", c0) := fun fs c0 => by rw [whole_spec hd (by decide), wh_NothingToUndo]
  have w_TooMany : ∀ fs c0, F__law_whole c [.exv (c.ad "TooMany") fs] c0 = some (.str "M overflow arithmetic ", c0) := fun fs c0 => by rw [whole_spec hd (by decide), wh_TooMany]
  have w_Unstable : ∀ fs c0, F__law_whole c [.exv (c.ad "Unstable") fs] c0 = some (.str "S arithmetic ", c0) := fun fs c0 => by rw [whole_spec hd (by decide), wh_Unstable]
  have w_Refused : ∀ fs c0, F__law_whole c [.exv (c.ad "Refused") fs] c0 = some (.str "R arithmetic ", c0) := fun fs c0 => by rw [whole_spec hd (by decide), wh_Refused]
  suffices h : Ev (m__law_kept c) ⟨ini false 11 [v, ix], c0⟩ (RetP fun d c' => d = .lst ((keptL v ix).map fun p => .tup [.str p.1, p.2]) ∧ c' = c0) by
    obtain ⟨d, c', e, h1, h2⟩ := run_ev (dice := false) (n := 11) (k := 2) (m := m__law_kept c) (ds := [v, ix]) (c := c0) rfl h
    subst h1 h2
    exact e
  unfold m__law_kept
  simp [ev_name_v, ev_mkV1, ev_xv1, size_le, uPl, w_ParseError, w_UnknownName, w_NotTaken, w_InvalidNumber, w_NothingToUndo, w_TooMany, w_Unstable, w_Refused, keptL]
/-! ### errors that are caught -/
def PickE (tab : Str → Str → Bool) (i : Nat) (E : Exn) (g : G) (hs : List (Str × (Exn → M Oc))) (Q : Oc → G → Prop) : Prop := ∃ o g2, pickA tab i E g hs = some (.ok o g2) ∧ Q o g2
section
variable {tab : Str → Str → Bool} {i : Nat} {E : Exn} {g g1 : G} {hs : List (Str × (Exn → M Oc))} {Q : Oc → G → Prop} {y : Str} {mh : Exn → M Oc} {adr : Str → Addr} {names : List Str} {mb : M Oc}
theorem pick_no (h : tab (nmE E) y = false) (r : PickE tab i E g hs Q) : PickE tab i E g ((y, mh) :: hs) Q := by
  obtain ⟨o, g2, e, q⟩ := r
  refine ⟨o, g2, ?_, q⟩
  simp only [pickA, h, Bool.false_eq_true, if_false]
  exact e
theorem pick_yes (h : tab (nmE E) y = true) (hu : isUn g.s[i]? = true) (hm : Ev (mh E) g fun o g2 => isUn g2.s[i]? = true ∧ Q o g2) : PickE tab i E g ((y, mh) :: hs) Q := by
  obtain ⟨o, g2, e, u, q⟩ := hm
  refine ⟨o, g2, ?_, q⟩
  simp only [pickA, h, hu, if_true, e, u]
theorem ev_tryA (hb : mb g = some (.ex E g1)) (hC : E.C = adr (nmE E) ∧ nmE E ∈ names) (hp : PickE tab i E g1 hs Q) : Ev (mTryA adr names tab i mb hs) g Q := by
  obtain ⟨o, g2, e, q⟩ := hp
  refine ⟨o, g2, ?_, q⟩
  unfold mTryA
  rw [hb]
  dsimp only
  rw [if_pos hC]
  exact e
theorem mhF_p {n f : Str} {x : D} {m : D → M D} : mhF f m (mkP adr n f x) = mRet (m x) := by
  funext g
  show (if f = f then mRet (m x) g else none) = _
  rw [if_pos rfl]
theorem mhN_e {n : Str} {m : Addr → M D} : mhN adr m (mkE adr n) = mRet (m (adr n)) := rfl
end
def CaughtS (F : FD) : Prop := ∀ (v : D) (z : Str) (c0 : C3), fReprD [v] = some (.str z) → z.length ≤ 2500 → F [.int 0, v] c0 = some (.str "base c", c0) ∧ F [.int 1, v] c0 = some (.str ("unstable " ++ z), c0) ∧ F [.int 2, v] c0 = some (.str ("untaken " ++ z), c0) ∧ F [.int 3, v] c0 = some (.str "parse None", c0)
theorem caught_spec {c : CA} (hd : (errs.map c.ad).Nodup) : CaughtS (F__law_caught c) := fun v z c0 hz hl => by
  have l1 : (("unstable " : String) : Str).length = 9 := rfl
  have l2 : (("untaken " : String) : Str).length = 8 := rfl
  have f1 : fCat (.str "unstable ") (.str z) = some (.str ("unstable " ++ z)) := if_pos (by rw [sizeLine_eq, l1]; omega)
  have f2 : fCat (.str "untaken ") (.str z) = some (.str ("untaken " ++ z)) := if_pos (by rw [sizeLine_eq, l2]; omega)
  have f3 : fCat (.str "base ") (.str "c") = some (.str "base c") := by kernel_rfl
  have f4 : fCat (.str "parse ") (.str "None") = some (.str "parse None") := by kernel_rfl
  have f5 : fReprD [.non] = some (.str "None") := by kernel_rfl
  have key : ∀ (i : Int) (t : Str), Ev (m__law_caught c) ⟨ini false 3 [.int i, v], c0⟩ (RetP fun d c' => d = .str t ∧ c' = c0) → F__law_caught c [.int i, v] c0 = some (.str t, c0) := fun i t h => by
    obtain ⟨d, c', e, h1, h2⟩ := run_ev (dice := false) (n := 3) (k := 2) (m := m__law_caught c) (ds := [.int i, v]) (c := c0) rfl h
    subst h1 h2
    exact e
  have ho := ownh_spec hd (n := "InvalidCosts") (by decide) c0
  rw [ow_InvalidCosts] at ho
  refine ⟨key _ _ ?_, key _ _ ?_, key _ _ ?_, key _ _ ?_⟩
  · unfold m__law_caught
    rw [ev_seq]
    refine ev_tryA (E := mkE c.ad "InvalidCosts") (g1 := ⟨[.v (.int 0), .v v, .un], c0⟩) rfl ⟨rfl, (by decide : ("InvalidCosts" : Str) ∈ (["InvalidCosts", "NotTaken", "ParseError", "Unstable"] : List Str))⟩ (pick_no (by kernel_rfl) (pick_yes (by kernel_rfl) rfl ?_))
    rw [mhN_e]
    simp [ho, f3, isUn]
  · unfold m__law_caught
    rw [ev_seq]
    refine ev_tryA (E := mkP c.ad "Unstable" "part" v) (g1 := ⟨[.v (.int 1), .v v, .un], c0⟩) rfl ⟨rfl, (by decide : ("Unstable" : Str) ∈ (["InvalidCosts", "NotTaken", "ParseError", "Unstable"] : List Str))⟩ (pick_no (by kernel_rfl) (pick_no (by kernel_rfl) (pick_no (by kernel_rfl) (pick_yes (by kernel_rfl) rfl ?_))))
    rw [mhF_p]
    simp [hz, f1, isUn]
  · unfold m__law_caught
    rw [ev_seq]
    refine ev_tryA (E := mkP c.ad "NotTaken" "untaken" v) (g1 := ⟨[.v (.int 2), .v v, .un], c0⟩) rfl ⟨rfl, (by decide : ("NotTaken" : Str) ∈ (["InvalidCosts", "NotTaken", "ParseError", "Unstable"] : List Str))⟩ (pick_no (by kernel_rfl) (pick_no (by kernel_rfl) (pick_no (by kernel_rfl) (pick_no (by kernel_rfl) (pick_yes (by kernel_rfl) rfl ?_)))))
    rw [mhF_p]
    simp [hz, f2, isUn]
  · unfold m__law_caught
    rw [ev_seq]
    refine ev_tryA (E := mkP c.ad "ParseError" "number" .non) (g1 := ⟨[.v (.int 3), .v v, .un], c0⟩) rfl ⟨rfl, (by decide : ("ParseError" : Str) ∈ (["InvalidCosts", "NotTaken", "ParseError", "Unstable"] : List Str))⟩ (pick_yes (by kernel_rfl) rfl ?_)
    rw [mhF_p]
    simp [f5, f4, isUn]
end K402
set_option Elab.async false
set_option linter.all false
set_option maxRecDepth 100000
set_option maxHeartbeats 4000000
set_option exponentiation.threshold 9000
namespace K402
open PySem PySem.Spec L2 Mo Lw Pw
noncomputable def mOdd : M D := (frz (mLst (mCons (ret .non) (mCons (ret (.bl true)) (mCons (mNeg (ret (.int 7))) (mCons (mBin uMul (mBin uPow (ret (.int 10)) (ret (.int 45))) (mBin uPow (ret (.int 10)) (ret (.int 45)))) (mCons (ret (.str "")) (mCons (ret (.str "b(a)#")) (mCons (mTup (mCons (ret (.str "links")) (mCons (ret (.str "put")) (ret [])))) (mCons (frz (mLst (mCons (ret (.int 1)) (mCons (frz (mLst (mCons (ret (.int 2)) (ret [])))) (ret []))))) (mCons (frz (mDisp (mPairs (ret (.str "a")) (mTup (ret [])) (ret [])))) (mCons (mTup (mCons (mTup (mCons (mTup (mCons (ret (.str "a")) (ret []))) (ret []))) (ret []))) (ret [])))))))))))))
noncomputable def mDue : M D := (mBin uPlus (frz (mLc [7] (mIter (ret (.str "mtpscrqo"))) (stName 7) (ret true) (mBin uPlus (mName 7) (ret (.str " base value "))))) (frz (mLst (mCons (ret (.str " base value ")) (ret [])))))
noncomputable def mTold (Fc : FD) : M D := (frz (mLc [6] (mWk fRng1 (mCons (ret (.int 4)) (ret []))) (stName 6) (ret true) (mFn Fc (mCons (mName 6) (mCons (mName 2) (ret []))))))
noncomputable def mRight (c : CA) (mo md mt : M D) : M Oc := (seq (mSet 1 mo) (seq (mAsg (stTup 2 (stCons (stName 2) (stCons (stName 3) stNil))) (mTup (mCons (isDi 0 (mFn (F__law_pick c) (mCons (mName 1) (ret [])))) (mCons (isDi 0 (mFn (F__law_pick c) (mCons (frz (mLst (mCons (ret .non) (mCons (ret (.int 0)) (mCons (ret (.int 1)) (mCons (isDi 0 (mFn (F__law_roll c) (mCons (mBin uPow (ret (.int 10)) (ret (.int 30))) (ret [])))) (ret []))))))) (ret [])))) (ret []))))) (seq (mSet 4 md) (seq (mIf (mT2 (fEq true) (mFn (F__law_messages c) (mCons (isDi 0 (mFn (F__law_pick c) (mCons (frz (mLst (mCons (ret (.str "")) (mCons (ret (.str "no")) (mCons (ret (.str "no such thing")) (ret [])))))) (ret [])))) (ret []))) (mName 4)) (seq (mRet (ret (.bl false))) (ret .nx)) (ret .nx)) (seq (mSet 4 (frz (mLst (mCons (mTup (mCons (ret (.str "x base value ")) (mCons (mName 3) (ret [])))) (mCons (mTup (mCons (ret (.str "U key lookup ")) (mCons (mName 2) (ret [])))) (mCons (mTup (mCons (ret (.str "T lookup ")) (mCons (mName 2) (ret [])))) (mCons (mTup (mCons (ret (.str "N index lookup ")) (mCons (mName 2) (ret [])))) (ret [])))))))) (seq (mSet 4 (mBin uPlus (mName 4) (frz (mLst (mCons (mTup (mCons (ret (.str "Z runtime ")) (mCons (mName 2) (ret [])))) (mCons (mTup (mCons (ret (.str "M overflow arithmetic ")) (mCons (mName 2) (ret [])))) (mCons (mTup (mCons (ret (.str "S arithmetic ")) (mCons (mName 2) (ret [])))) (ret [])))))))) (seq (mIf (mT2 (fEq true) (mCall fReprD (mCons (mFn (F__law_kept c) (mCons (mName 2) (mCons (mName 3) (ret [])))) (ret []))) (mCall fReprD (mCons (mBin uPlus (mName 4) (frz (mLst (mCons (mTup (mCons (ret (.str "R arithmetic ")) (mCons (mName 2) (ret [])))) (ret []))))) (ret [])))) (seq (mRet (ret (.bl false))) (ret .nx)) (ret .nx)) (seq (mSet 5 mt) (seq (mRet (mBin (fEq false) (mName 5) (frz (mLst (mCons (ret (.str "base c")) (mCons (mBin uPlus (ret (.str "unstable ")) (mCall fReprD (mCons (mName 2) (ret [])))) (mCons (mBin uPlus (ret (.str "untaken ")) (mCall fReprD (mCons (mName 2) (ret [])))) (mCons (ret (.str "parse None")) (ret []))))))))) (ret .nx))))))))))
theorem right_eq (c : CA) : m__law_right c = mRight c mOdd mDue (mTold (F__law_caught c)) := rfl
theorem ev_is {α : Type} {m : M α} {g g' : G} {a : α} (h : m g = some (.ok a g')) {Q : α → G → Prop} : Ev m g Q ↔ Q a g' := ⟨fun ⟨_, _, e, q⟩ => by rw [h] at e; cases e; exact q, fun q => ⟨a, g', h, q⟩⟩
theorem odd_is (g : G) : mOdd g = some (.ok (.lst oddL) g) := by kernel_rfl
theorem due_is (s0 s1 s2 s3 s4 s5 s6 : Sl) (c : C3) : mDue ⟨[s0, s1, s2, s3, s4, s5, s6, .un], c⟩ = some (.ok (.lst (sL dueM)) ⟨[s0, s1, s2, s3, s4, s5, s6, .un], c⟩) := by kernel_rfl
theorem ev_lc1 {vs : List Nat} {f : D → G → Option G} {mt : M Bool} {me : M D} {d : D} {r acc : List D} {g g1 : G} {Q : List D → G → Prop} (hf : f d g = some g1) (h : Ev mt g1 fun b g2 => b = true ∧ acc.length < sizeLine ∧ Ev me g2 fun y g3 => Ev (lcGo vs f mt me r (acc ++ [y])) (wipeG g3 vs) Q) : Ev (lcGo vs f mt me (d :: r) acc) g Q := by
  obtain ⟨b, g2, e2, rfl, hl, y, g3, e3, a, g4, e4, q⟩ := h
  refine ⟨a, g4, ?_, q⟩
  simp only [lcGo, hf, e2, e3, if_pos hl]
  exact e4
theorem told_ev {Fc : FD} (h : CaughtS Fc) {v : D} {z : Str} (hz : fReprD [v] = some (.str z)) (hl : z.length ≤ 2500) (s0 s1 s3 s4 s5 s7 : Sl) (c : C3) {Q : D → G → Prop}
    (q : Q (.lst (sL ["base c", "unstable " ++ z, "untaken " ++ z, "parse None"])) ⟨[s0, s1, .v v, s3, s4, s5, .un, s7], c⟩) : Ev (mTold Fc) ⟨[s0, s1, .v v, s3, s4, s5, .un, s7], c⟩ Q := by
  obtain ⟨c1, c2, c3, c4⟩ := h v z c hz hl
  have zl : ∀ k, k ≤ 100 → k < sizeLine := fun k h => by rw [sizeLine_eq]; omega
  unfold mTold
  rw [ev_frz, ev_lc]
  rw [ev_wk, ev_cons, ev_ret, ev_ret]
  refine ev_lift (show fRng1 [.int 4] = some [.int 0, .int 1, .int 2, .int 3] by kernel_rfl) ⟨rfl, ?_⟩
  refine ev_lc1 (g1 := ⟨[s0, s1, .v v, s3, s4, s5, .v (.int 0), s7], c⟩) rfl (ev_ret.mpr ⟨rfl, zl _ (by decide), ?_⟩)
  simp only [ev_fn, ev_cons, ev_ret, ev_name_v (i := 6) (d := .int 0) (s := [s0, s1, .v v, s3, s4, s5, .v (.int 0), s7]) rfl, ev_name_v (i := 2) (d := v) (s := [s0, s1, .v v, s3, s4, s5, .v (.int 0), s7]) rfl]
  refine ⟨_, _, c1, ?_⟩
  refine ev_lc1 (g1 := ⟨[s0, s1, .v v, s3, s4, s5, .v (.int 1), s7], c⟩) rfl (ev_ret.mpr ⟨rfl, zl _ (by simp), ?_⟩)
  simp only [ev_fn, ev_cons, ev_ret, ev_name_v (i := 6) (d := .int 1) (s := [s0, s1, .v v, s3, s4, s5, .v (.int 1), s7]) rfl, ev_name_v (i := 2) (d := v) (s := [s0, s1, .v v, s3, s4, s5, .v (.int 1), s7]) rfl]
  refine ⟨_, _, c2, ?_⟩
  refine ev_lc1 (g1 := ⟨[s0, s1, .v v, s3, s4, s5, .v (.int 2), s7], c⟩) rfl (ev_ret.mpr ⟨rfl, zl _ (by simp), ?_⟩)
  simp only [ev_fn, ev_cons, ev_ret, ev_name_v (i := 6) (d := .int 2) (s := [s0, s1, .v v, s3, s4, s5, .v (.int 2), s7]) rfl, ev_name_v (i := 2) (d := v) (s := [s0, s1, .v v, s3, s4, s5, .v (.int 2), s7]) rfl]
  refine ⟨_, _, c3, ?_⟩
  refine ev_lc1 (g1 := ⟨[s0, s1, .v v, s3, s4, s5, .v (.int 3), s7], c⟩) rfl (ev_ret.mpr ⟨rfl, zl _ (by simp), ?_⟩)
  simp only [ev_fn, ev_cons, ev_ret, ev_name_v (i := 6) (d := .int 3) (s := [s0, s1, .v v, s3, s4, s5, .v (.int 3), s7]) rfl, ev_name_v (i := 2) (d := v) (s := [s0, s1, .v v, s3, s4, s5, .v (.int 3), s7]) rfl]
  refine ⟨_, _, c4, ?_⟩
  exact ev_ret.mpr q
def RightS (F : FD) : Prop := ∀ (c0 : C3) (N : Nat), Di c0 N → N ≤ 100000 → ∃ c', F [] c0 = some (.bl true, c') ∧ Di c' (N + 4)
theorem right_spec {c : CA} (hd : (errs.map c.ad).Nodup) (roll : RollS (F__law_roll c)) (pick : PickS (F__law_pick c)) : RightS (F__law_right c) := fun c0 N h0 hN => by
  obtain ⟨v, c1, e1, m1, h1⟩ := pick c0 N oddL h0 (by omega) (by decide) (by decide)
  obtain ⟨r, c2, e2, r0, r1, h2⟩ := roll c1 (N + 1) (10 ^ 30) h1 (by omega) (by decide) (by decide)
  obtain ⟨ix, c3, e3, m3, h3⟩ := pick c2 (N + 1 + 1) [.non, .int 0, .int 1, .int r] h2 (by omega) (by simp) (by simp)
  obtain ⟨tx, c4, e4, m4, h4⟩ := pick c3 (N + 1 + 1 + 1) [.str "", .str "no", .str "no such thing"] h3 (by omega) (by simp) (by decide)
  obtain ⟨t, rfl⟩ : ∃ t, tx = .str t := by
    simp only [List.mem_cons, List.not_mem_nil, or_false] at m4
    rcases m4 with rfl | rfl | rfl <;> exact ⟨_, rfl⟩
  obtain ⟨x, hx⟩ := sh_odd v m1
  have six : ∃ y, SH ix y := by
    simp only [List.mem_cons, List.not_mem_nil, or_false] at m3
    rcases m3 with rfl | rfl | rfl | rfl
    · exact ⟨.none, rfl, rfl, by decide +kernel, by unfold GoodS; decide +kernel⟩
    · exact ⟨_, sh_int (by decide +kernel)⟩
    · exact ⟨_, sh_int (by decide +kernel)⟩
    · refine ⟨_, sh_int ?_⟩
      exact Nat.lt_trans (log_small r0 (Int.lt_trans r1 (by decide))) (by decide)
  have words : ∀ w ∈ (["x base value ", "U key lookup ", "T lookup ", "N index lookup ", "Z runtime ", "M overflow arithmetic ", "S arithmetic ", "R arithmetic "] : List Str), (reprText w).length ≤ 100 ∧ PyData.strOk (reprText w) = true := by decide +kernel
  have hz := sh_fits hx
  obtain ⟨z, hz⟩ : ∃ z, z = x.shown := ⟨_, rfl⟩
  have hv := sh_fits hx
  have gz := hx.good
  rw [← hz] at hv gz
  obtain ⟨k, hk, ok⟩ := kept_repr (l := keptL v ix) (by show 8 ≤ 10; decide) (fun p hp => by
    have hw : p.1 ∈ (["x base value ", "U key lookup ", "T lookup ", "N index lookup ", "Z runtime ", "M overflow arithmetic ", "S arithmetic ", "R arithmetic "] : List Str) := List.mem_map_of_mem (f := (·.1)) hp
    refine ⟨(words _ hw).1, (words _ hw).2, ?_⟩
    simp only [keptL, List.mem_cons, List.not_mem_nil, or_false] at hp
    rcases hp with rfl | rfl | rfl | rfl | rfl | rfl | rfl | rfl
    · exact six
    all_goals exact ⟨x, hx⟩)
  have hm := messages_spec hd t c4
  have ht := kept_spec hd v ix c4
  have hn : fEq true (.lst (sL dueM)) (.lst (sL dueM)) = some (.bl false) := by
    rw [fEq_strs (neg := true) (by unfold OkS; decide +kernel) (by unfold OkS; decide +kernel)]
    simp
  have hk2 := ne_self ok
  have l1 : (("unstable " : String) : Str).length = 9 := rfl
  have l2 : (("untaken " : String) : Str).length = 8 := rfl
  have u1 : uPlus (.str "unstable ") (.str z) = some (.str ("unstable " ++ z)) := by
    have f1 : fCat (.str "unstable ") (.str z) = some (.str ("unstable " ++ z)) := if_pos (by have := gz.1; rw [sizeLine_eq, l1]; omega)
    show ((none : Option D).or ((fCat (.str "unstable ") (.str z)).or _)).or _ = _
    rw [f1]
    rfl
  have u2 : uPlus (.str "untaken ") (.str z) = some (.str ("untaken " ++ z)) := by
    have f1 : fCat (.str "untaken ") (.str z) = some (.str ("untaken " ++ z)) := if_pos (by have := gz.1; rw [sizeLine_eq, l2]; omega)
    show ((none : Option D).or ((fCat (.str "untaken ") (.str z)).or _)).or _ = _
    rw [f1]
    rfl
  have he : fEq false (.lst (sL ["base c", "unstable " ++ z, "untaken " ++ z, "parse None"])) (.lst (sL ["base c", "unstable " ++ z, "untaken " ++ z, "parse None"])) = some (.bl true) := by
    have ok4 : OkS ["base c", "unstable " ++ z, "untaken " ++ z, "parse None"] := fun y hy => by
      simp only [List.mem_cons, List.not_mem_nil, or_false] at hy
      rcases hy with rfl | rfl | rfl | rfl
      · decide +kernel
      · exact ok_app (by decide +kernel) gz.2
      · exact ok_app (by decide +kernel) gz.2
      · decide +kernel
    rw [fEq_strs (neg := false) ok4 ok4]
    simp
  suffices hh : Ev (m__law_right c) ⟨ini true 8 [], c0⟩ (RetP fun d c' => d = .bl true ∧ Di c' (N + 4)) by
    obtain ⟨d, c', e, h1, h2⟩ := run_ev (dice := true) (n := 8) (k := 1) (m := m__law_right c) (ds := []) (c := c0) rfl hh
    subst h1
    exact ⟨c', e, h2⟩
  rw [right_eq]
  unfold mRight
  have kl : fReprD [.lst [.tup [.str "x base value ", ix], .tup [.str "U key lookup ", v], .tup [.str "T lookup ", v], .tup [.str "N index lookup ", v], .tup [.str "Z runtime ", v], .tup [.str "M overflow arithmetic ", v], .tup [.str "S arithmetic ", v], .tup [.str "R arithmetic ", v]]] = some (.str k) := hk
  have kt : F__law_kept c [v, ix] c4 = some (.lst [.tup [.str "x base value ", ix], .tup [.str "U key lookup ", v], .tup [.str "T lookup ", v], .tup [.str "N index lookup ", v], .tup [.str "Z runtime ", v], .tup [.str "M overflow arithmetic ", v], .tup [.str "S arithmetic ", v], .tup [.str "R arithmetic ", v]], c4) := ht
  have du := due_is
  have tl := fun s0 s1 s3 s4 s5 s7 c5 {Q} (q) => told_ev (caught_spec hd) hv gz.1 s0 s1 s3 s4 s5 s7 c5 (Q := Q) q
  have p30 : uPow (.int 10) (.int 30) = some (.int (10 ^ 30)) := pow30
  clear hk ht
  simp [-Int.reducePow, ev_is (odd_is _), ev_name_v, size_le, p30, e1, e2, e3, e4, stTup, stCons, stNil, stName, ev_is (due_is _ _ _ _ _ _ _ _), hm, hn, uPl, kt, kl, hk2]
  refine tl _ _ _ _ _ _ _ ?_
  simp [ev_name_v, hv, u1, u2]
  exact ev_lift he ⟨rfl, h4⟩
theorem lawT (c : CA) (hd : (errs.map c.ad).Nodup) : ∀ ns : List Int, ns.length ≤ 63 → ∃ c', F_law c [.lst (ns.map .int)] (.l []) = some (.bl true, c') := fun ns hnl => by
  have roll : RollS (F__law_roll c) := roll_spec
  have dice : DiceS (F__law_dice c) := dice_spec
  have pick : PickS (F__law_pick c) := pick_spec roll
  have hr : RightS (F__law_right c) := right_spec hd roll pick
  suffices hh : ∃ d c', runM false 4 1 (m_law c) [.lst (ns.map .int)] (.l []) = some (d, c') ∧ d = .bl true by
    obtain ⟨d, c', e, rfl⟩ := hh
    exact ⟨c', e⟩
  refine run_ev rfl ?_
  obtain ⟨k, hk, k3⟩ : ∃ k : Nat, (if 1 < (if (ns.length : Int) < 4 then (ns.length : Int) else 4) then (if (ns.length : Int) < 4 then (ns.length : Int) else 4) else 1) = (k : Int) ∧ k ≤ 4 := by
    refine ⟨max 1 (min 4 ns.length), ?_, by omega⟩
    split <;> split at * <;> omega
  have rk := rng1_nat (n := k) (by omega)
  have r3 : fRng1 [.int 3] = some [.int 0, .int 1, .int 2] := by kernel_rfl
  simp [-List.map_map, m_law, ev_name_v, hk, rk]
  obtain ⟨I, hI'⟩ : ∃ I : List D → G → Prop, ∀ ds g, I ds g ↔ ∃ (x1 x2 x3 : Sl) (c' : C3), g = ⟨[.v (.lst (ns.map .int)), x1, x2, x3], c'⟩ ∧ (∀ e ∈ ds, ∃ i : Int, e = .int i ∧ 0 ≤ i ∧ i < 100) := ⟨_, fun _ _ => Iff.rfl⟩
  refine ev_loop I ?_ ?_ _ _ ((hI' _ _).mpr ⟨_, _, _, _, rfl, fun e m => ?_⟩)
  · intro e r g hi
    obtain ⟨x1, x2, x3, c', rfl, hm⟩ := (hI' _ _).mp hi
    obtain ⟨i, rfl, i0, i1⟩ := hm e List.mem_cons_self
    refine ⟨_, rfl, ?_⟩
    obtain ⟨o, c2, f1, hdo⟩ := dice ns i c' i0 i1
    simp [ev_name_v, f1, r3]
    obtain ⟨L, hL⟩ : ∃ L : List D → G → Prop, ∀ ds g, L ds g ↔ ∃ (x1 x3 : Sl) (o : O) (c' : C3) (N : Nat), g = ⟨[.v (.lst (ns.map .int)), x1, .o o, x3], c'⟩ ∧ Di o N ∧ N + 4 * ds.length ≤ 100 := ⟨_, fun _ _ => Iff.rfl⟩
    refine ev_loop L ?_ ?_ _ _ ((hL _ _).mpr ⟨_, _, _, _, 0, rfl, hdo, by decide⟩)
    · intro e r g hl
      obtain ⟨x1, x3, o, c', N, rfl, hdo, hN⟩ := (hL _ _).mp hl
      rw [List.length_cons] at hN
      refine ⟨_, rfl, ?_⟩
      obtain ⟨o2, f2, hd2⟩ := hr o N hdo (by omega)
      simp [ev_name_v, f2]
      exact (hL _ _).mpr ⟨_, _, _, _, N + 4, rfl, hd2, by omega⟩
    · intro g hl
      obtain ⟨x1, x3, o, c', N, rfl, hdo, hN⟩ := (hL _ _).mp hl
      simp
      exact (hI' _ _).mpr ⟨_, _, _, _, rfl, fun e m => hm e (List.mem_cons_of_mem _ m)⟩
  · intro g hi'
    obtain ⟨x1, x2, x3, c, rfl, hmm⟩ := (hI' _ _).mp hi'
    simp
  · obtain ⟨i, mi, rfl⟩ := List.mem_map.mp m
    have := List.mem_range.mp mi
    exact ⟨_, rfl, by omega, by omega⟩
end K402
set_option Elab.async false
set_option linter.all false
set_option maxRecDepth 100000
set_option maxHeartbeats 0
open PySem PySem.W PySem.Calls PyProof.Rows
theorem PySem.Challenge.cw_lastprices_k02_errors_kept_and_caught_holds : PySem.Challenge.rw_lastprices_k02_errors_kept_and_caught.Holds := by
  w_on; o_law
  refine HandSHeadRun.head_any (r := OpenLaw.row PySem.Challenge.rw_lastprices_k02_errors_kept_and_caught) (q := view (PySem.W.OpenLaw.row PySem.Challenge.rw_lastprices_k02_errors_kept_and_caught).prog [28]) (H := Mh.hookA K402.hAs K402.hCs K402.hDs) (ob := Mh.obS K402.hAs K402.hCs K402.hDs) (M := 60000) (loose := K402.hNs) (d := HandSHeadRun.topDef (PySem.W.OpenLaw.row PySem.Challenge.rw_lastprices_k02_errors_kept_and_caught).prog 28) (kwd := []) Mh.obS_eq
    (by kernel_rfl) (fun s => by kernel_rfl) K402.hRun (by kernel_rfl) (by kernel_rfl) (by kernel_rfl) (by rfl) (by first | assumption | decide +kernel) (by decide +kernel) ⟨rfl, rfl, rfl, rfl, rfl, by decide +kernel⟩ ?hw ?hc
  case hw => w_witness2
  case hc =>
    refine Mh.walkH (l := PySem.Challenge.rw_lastprices_k02_errors_kept_and_caught) (n := 63) (k := 5) (x := "_law_script") (cs := K402.hCs) (ds := K402.hDs) (fun _ _ h => h) rfl (by decide) (by kernel_rfl) ⟨rfl, by decide, by decide⟩ ?F
    intro w mg fa h K KX c G hmg0
    have hmg : mg ("law" : PySem.Str) = some (.ref fa) := by
      have e : (HandSHeadRun.topDef (PySem.W.OpenLaw.row PySem.Challenge.rw_lastprices_k02_errors_kept_and_caught).prog 28).name = ("law" : PySem.Str) := by kernel_rfl
      rw [← e]
      exact hmg0
    have e := hmg.symm.trans (K402.facts KX G c w).m_law
    have e2 : fa = (K402.facts KX G c w).f_law := by cases e; rfl
    subst e2
    exact ⟨_, Mo.spLaw K, Mh.bindsLaw (K402.facts KX G c w).F_law fun _ _ _ _ _ _ _ => rfl, fun J a ns hl _ hS => ⟨a, ns, rfl, hS, hl, fun _ => rfl⟩, fun b0 X0 G0 => Mo.law_end (K402.ok_law (K402.facts KX G c w)) (K402.lawT _ (K402.facts KX G c w).dj)⟩
