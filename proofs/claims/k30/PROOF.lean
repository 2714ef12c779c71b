import PyProof.Rows.All
import Wide.All
import OpenK.AllK
import Wide.FinOn
import HandS.Words
import HandS.Head2
import HandS.HeadHook2
import HandS.Codes
import HandS.Property
import KE.KExcInit
import HandS.ExcField
import HandS.ExcIs
import HandS.ForMost
import HandS.Evl
import HandS.Style
import HandS.IsInst
import HandS.StrMore
import HandS.Flow
import HandS.Wide
import HandS.Zip
import PyProof.ReprRoads
import HandS.Set
import HandS.SetFor
import PyProof.Rows.SortShellAny
import HandS.ExcInit
import HandS.Text
import HandS.Walk
import HandS.Strs
import HandS.WordsDict
import HandS.TupLen
import KE.GoesEnum
import KE.GoesZip
import KE.GoesMore
import HandS.Comp
import HandS.NoneIn
import HandS.Star
import HandS.FStr
import KE.KSortTupG
import HandS.Conv
import HandS.Sort
import HandS.SortInts
import PyProof.Rows.StrMeet
import KE.KMinBuiltin
import HandS.SortKw
import HandS.DictComp
import HandS.TupLe
import KE.KeyNested
import HandS.More
import PyProof.InstNe
import KE.KDictDisplayH
import HandS.TupMul
import PyProof.StrBlock2
import HandS.DictEq
import KE.KDictPairs
import HandS.ListItems
import KE.KDictZip
import KE.KDictList
import KE.KCallOwn
import HandS.DictTup
import KE.KDictCopyH
import HandS.TryMany
import KE.KItemsList
import HandS.TupAny
import HandS.Translate
import HandS.IntHex
import PyProof.FString3
import PyProof.Rows.ZipGen
import PyProof.ListStr
import HandS.Rev
import PyProof.ExcBaseAll.LookupError
import PyProof.ExcBaseAll.RuntimeError
import PyProof.ExcBaseAll.ArithmeticError
import HandS.Deep
import PyProof.ExcBaseAll.IndexError
import PyProof.ExcBaseAll.OverflowError
import PyProof.ExcBaseAll.ValueError
import HandS.MakeKwOnly
import HandS.ClsMeth
import OpenK.KMeth
import HandS.ReplaceLit
import HandS.RaiseMore
import KE.KExcIs
import HandS.HotCalls
import KE.KWords
import PyProof.Rows.RegFStrParts
import PyProof.Rows.ReprOcc
import KE.KIntText
import PyProof.P3Eq
import PySem.Challenge.RW_lastprices_k30_patterns_told
set_option Elab.async false
set_option linter.all false
set_option maxRecDepth 100000
set_option maxHeartbeats 4000000
/-! Mh: checks by names, the hook. -/
namespace Mh
open PySem PySem.Spec PyProof.Rows L2 He
abbrev Ck := PySem.W.Frag → Bool
def kGlo (x : Str) : Ck := fun K => eqO (PySem.W.nsIn K mainGlobals x) (some (some (.ref (ga K x))))
def kFree (x : Str) : Ck := (Fa.free x).ok
def kInt (x : Str) (i : Int) : Ck := fun K => match PySem.W.nsIn K mainGlobals x with
  | some (some (.int j _)) => decide (j = i)
  | _ => false
def kStr (x z : Str) : Ck := fun K => match PySem.W.nsIn K mainGlobals x with
  | some (some (.str j _)) => decide (j = z)
  | _ => false
def kCls (x : Str) : Ck := fun K => (Fa.cls x).ok K && (kGlo x K && PySem.W.keepIn K (.ref (ga K x)))
def kNo (x f : Str) : Ck := (Fa.noat x f).ok
def kMeth (x m : Str) : Ck := (Fa.meth x m).ok
def kMk (x : Str) : Ck := (Fa.mkr x).ok
def kSpec (x m : Str) : Ck := fun K => eqO (PySem.W.findIn K (.ref (ga K x)) m) (some (some (.ref (ma K (ga K x) m)))) && PySem.W.isFn K (.ref (ma K (ga K x) m))
def kIns (x : Str) : Ck := fun K => (Fa.cls x).ok K && (eqO (PySem.W.findIn K (.ref (ga K x)) "__class__") (some (some (.builtin "object.__class__"))) &&
  (eqO (PySem.W.specialIn K (.builtin "object.__class__") "__get__") (some (some (.builtin "getset_descriptor.__get__"))) &&
  (decide (PySem.W.takesIn K (.builtin "object.__class__") = some true) && decide (PySem.W.mroIn K (ga K x) (.type "object") = some true))))
/-- no thing of a plain type is an x -/
def kNotIn (x : Str) : Ck := fun K => ((["NoneType", "bool", "int", "str", "list", "tuple", "dict"] : List String)).all fun n => decide (PySem.W.kitOne K (.type n) (.ref (ga K x)) = some false)
/-- the getter of a property -/
def pg (K : PySem.W.Frag) (C : Addr) (m : Str) : Addr := match PySem.W.recIn K (ma K C m) "property" with
  | some (.ref g :: _) => g
  | _ => 0
def recB (K : PySem.W.Frag) (p : Addr) : Bool := match PySem.W.recIn K p "property" with
  | some (.ref _ :: _) => true
  | _ => false
def kProp (x m : Str) : Ck := fun K => eqO (PySem.W.findIn K (.ref (ga K x)) m) (some (some (.ref (ma K (ga K x) m)))) &&
  (eqO (PySem.W.specialIn K (.ref (ma K (ga K x) m)) "__get__") (some (some (.builtin "property.__get__"))) &&
  (decide (PySem.W.takesIn K (.ref (ma K (ga K x) m)) = some true) && recB K (ma K (ga K x) m)))
def tokOf (K : PySem.W.Frag) (x : Str) : Tok := match PySem.W.nsIn K mainGlobals x with
  | some (some (.int _ t)) => t
  | some (some (.str _ t)) => t
  | _ => 0
inductive Pl where
  | g (x : Str)
  | m (x f : Str)
  | p (x f : Str)
  | c (x f : Str)
/-- the def of a classmethod -/
def cg (K : PySem.W.Frag) (C : Addr) (m : Str) : Addr := match PySem.W.recIn K (ma K C m) "classmethod" with
  | some (.ref g :: _) => g
  | _ => 0
def Pl.ad (K : PySem.W.Frag) : Pl → Addr
  | .g x => ga K x
  | .m x f => ma K (ga K x) f
  | .p x f => pg K (ga K x) f
  | .c x f => cg K (ga K x) f
structure Df where
  pl : Pl
  name : Str
  qual : Str
  st : Stmt
abbrev Vf : Type := Option (Str × Str × Arguments × FuncBody × Scope × Addr × List (Str × Addr) × Value × Addr)
def fdOf (K : PySem.W.Frag) (a : Addr) : FuncData := match K.lookup a with
  | some ⟨_, _, .func fd, _⟩ => fd
  | _ => PySem.W.fnOf "" "" ⟨[], [], none, [], [], none, []⟩ [] ⟨.function, [], false, false, []⟩ .none .none .none .none none .none .none
def seeF (K : PySem.W.Frag) (a : Addr) : Vf := match K.lookup a with
  | some ⟨_, _, .func fd, _⟩ => some (fd.name, fd.qualname, fd.params, fd.body, fd.scope, fd.globals, fd.closure, fd.defaults, fd.builtins)
  | _ => none
def Df.val (d : Df) : Vf := some (d.name, d.qual, defArgs d.st, .stmts (defBody d.st), defScope d.st, mainGlobals, [], .none, builtinsNs)
def Df.good (d : Df) : Ck := fun K => PySem.W.codeIn K (fdOf K (d.pl.ad K)).code d.qual && PySem.W.keepIn K (.ref (d.pl.ad K))
abbrev Ah : Type := Bool × List Vf
def seeH (cs : List Ck) (ds : List Df) (K : PySem.W.Frag) : Ah := ((cs.all fun c => c K) && ds.all fun d => d.good K, ds.map fun d => seeF K (d.pl.ad K))
def valH (ds : List Df) : Ah := (true, ds.map Df.val)
def SaysH (cs : List Ck) (ds : List Df) (K : PySem.W.Frag) : Prop := seeH cs ds K = valH ds
/-! .. over told addresses -/
def obA (as : List Addr) (cs : List Ck) (ds : List Df) (g : Addr → Option Obj) : Ah := seeH cs ds (frG g as)
def hookA (as : List Addr) (cs : List Ck) (ds : List Df) : PySem.W.Hook where
  α := Ah
  obs := fun s => obA as cs ds s.heap.get?
  val := fun _ => valH ds
  says := fun _ h => ∃ K : PySem.W.Frag, K.In h ∧ SaysH cs ds K
  of := fun _ _ e => ⟨_, frG_in, e⟩
  keeps := fun _ _ _ ⟨K, hK, c⟩ k => ⟨K, PySem.W.Frag.In.keeps hK k, c⟩
def obS (as : List Addr) (cs : List Ck) (ds : List Df) (s : PySem.W.SharedT) : Ah := obA as cs ds (HandSHeadRun.getT s)
theorem obS_eq {as : List Addr} {cs : List Ck} {ds : List Df} (s : PySem.W.SharedT) : obS as cs ds s = (hookA as cs ds).obs s.abs := by
  have e : HandSHeadRun.getT s = s.abs.heap.get? := funext (HandSHeadRun.getT_eq s)
  unfold obS
  rw [e] <;> rfl
/-- the run's two looks, each a run of its own -/
theorem runEq {r : PySem.W.OpenRow} {q : Program} {H : PySem.W.Hook} {ob : PySem.W.SharedT → H.α} {M : Nat} {loose : List PySem.Str} {w : World}
    (h1 : ∀ os : OsState, (HandSHeadRun.endF (HandSHeadRun.stepQ (HandSHeadRun.denQ HandSHeadRun.tabQ) r.prog w) M r.prog w os).map (fun s => (HandSHeadRun.looksF r.prog (PySem.W.boot_heap w.params) s.abs, HandSHeadRun.seenQ q loose (importedModules r.prog.main.body) (fun s => PySem.W.xlAt q [] s && PySem.W.recOk r.toRowW.records s) s.abs)) = some (true, PySem.W.openGood q loose))
    (h2 : ∀ os : OsState, (HandSHeadRun.endF (HandSHeadRun.stepQ (HandSHeadRun.denQ HandSHeadRun.tabQ) r.prog w) M r.prog w os).map ob = some (H.val w)) : HandSHeadRun.RunEq r q H ob M loose w := fun os => by
  obtain ⟨s, e, a⟩ := Option.map_eq_some_iff.mp (h1 os)
  have b := h2 os
  rw [e] at b ⊢
  have b := Option.some.inj b
  obtain ⟨a1, a2⟩ := Prod.mk.injEq .. ▸ a
  show some _ = some _
  rw [← b, ← a2, ← a1]
def kBin (x m : Str) : Ck := fun K => kSpec x m K && PySem.W.selfFirst K (ga K x)
def kEq (x : Str) : Ck := fun K => kSpec x "__eq__" K && (eqO (PySem.W.findIn K (.ref (ga K x)) "__ne__") (some (some (.builtin "object.__ne__"))) && decide (PySem.W.mroIn K (ga K x) (.type "object") = some true))
def kCall (x : Str) : Ck := fun K => kSpec x "__call__" K && PySem.W.fnIn K (ma K (ga K x) "__call__")
end Mh
set_option Elab.async false
set_option linter.all false
set_option maxRecDepth 100000
set_option maxHeartbeats 4000000
/-! Mh: checks of the text's own errors. -/
namespace Mh
open PySem PySem.Spec PyProof.Rows L2 He
end Mh
set_option Elab.async false
set_option linter.all false
set_option maxRecDepth 100000
set_option maxHeartbeats 4000000
/-! Mh: checks of the text's own errors that keep a field. -/
namespace Mh
open PySem PySem.Spec PyProof.Rows L2 He
end Mh
set_option Elab.async false
set_option linter.all false
set_option maxRecDepth 100000
set_option maxHeartbeats 4000000
/-! Mh: checks of classmethods, subscripts, == and isinstance with anything. -/
namespace Mh
open PySem PySem.Spec PyProof.Rows L2 He
def tys7 : List String := ["NoneType", "bool", "int", "str", "list", "tuple", "dict"]
def kNtZ (x : Str) (os : List Str) : Ck := fun K => (tys7.all fun n => PySem.W.notFirst K (ga K x) (.type n)) && os.all fun o => PySem.W.notFirst K (ga K x) (.ref (ga K o))
def kIsZ (x : Str) (os : List Str) : Ck := fun K => kIns x K && (kNotIn x K && os.all fun o => kIns o K && decide (PySem.W.kitOne K (.ref (ga K o)) (.ref (ga K x)) = some false))
end Mh
set_option Elab.async false
set_option linter.all false
set_option maxRecDepth 100000
set_option maxHeartbeats 4000000
/-! Mh: the check of an own `**`. -/
namespace Mh
open PySem PySem.Spec PyProof.Rows L2 He
end Mh
set_option Elab.async false
set_option linter.all false
set_option maxRecDepth 100000
set_option maxHeartbeats 4000000
/-! Mh: checks of errors as values: isinstance of them, their classes apart. -/
namespace Mh
open PySem PySem.Spec PyProof.Rows L2 He
end Mh
set_option Elab.async false
set_option linter.all false
set_option maxRecDepth 100000
set_option maxHeartbeats 0
namespace K430
open PySem PySem.Spec L2 Mh He PyProof.Rows
def tS (i : Nat) : Stmt := PySem.Challenge.pw_lastprices_k30_patterns_told.main.body.getD i (.Pass ⟨0, 0, 0, 0⟩)
def hCs0 : List Ck := [kFree "abs",
  kFree "bool",
  kFree "enumerate",
  kFree "int",
  kFree "isinstance",
  kFree "len",
  kFree "list",
  kFree "max",
  kFree "min",
  kFree "range",
  kFree "set",
  kFree "sorted",
  kFree "str",
  kFree "tuple",
  kStr "LETTERS" "abcdefghijklmnopqrstuvwxyz",
  kInt "MAX_DEPTH" 24,
  kInt "MAX_SIGNS" 20000,
  kInt "MAX_TEXT" 100000,
  kStr "OTHER_SIGNS" "()#",
  kCls "LengthReader",
  kCls "Pattern",
  kIsZ "Pattern" [],
  kNtZ "Pattern" [],
  kCls "TextReader",
  kNo "LengthReader" "_number",
  kNo "Pattern" "_letters",
  kNo "Pattern" "_parts",
  kNo "Pattern" "_plain",
  kNo "Pattern" "_text",
  kNo "TextReader" "_number",
  kGlo "_law_roll",
  kGlo "_law_mixed",
  kGlo "_law_pick",
  kGlo "_law_drawn_pattern",
  kGlo "depth_of",
  kGlo "is_formed",
  kGlo "is_pattern",
  kGlo "parts_of",
  kGlo "letters_in",
  kMk "Pattern"]
def hCs1 : List Ck := [kSpec "Pattern" "__str__",
  kSpec "Pattern" "__len__",
  kGlo "weight_of",
  kProp "Pattern" "weight",
  kProp "Pattern" "parts",
  kProp "Pattern" "depth",
  kProp "Pattern" "letters",
  kProp "Pattern" "text",
  kGlo "_law_power",
  kGlo "_law_weight",
  kGlo "_law_parts",
  kGlo "_law_depth",
  kEq "Pattern",
  kSpec "Pattern" "__contains__",
  kGlo "_law_pattern_at",
  kGlo "is_integer",
  kGlo "is_count",
  kGlo "check_positive",
  kMeth "LengthReader" "begun",
  kMeth "TextReader" "begun",
  kMeth "LengthReader" "with_part",
  kMeth "TextReader" "with_part",
  kMeth "LengthReader" "with_run",
  kMeth "TextReader" "with_run",
  kGlo "read_pattern",
  kMk "LengthReader",
  kMeth "Pattern" "length",
  kMk "TextReader",
  kCall "Pattern",
  kMeth "Pattern" "repeated",
  kGlo "_law_told_right",
  kBin "Pattern" "__add__",
  kGlo "_law_right",
  kGlo "_law_dice",
  kGlo "law"]
def hCs : List Ck := hCs0 ++ (hCs1)
def hDs0 : List Df := [⟨.g "_law_roll", "_law_roll", "_law_roll", (tS 31)⟩,
  ⟨.g "_law_mixed", "_law_mixed", "_law_mixed", (tS 33)⟩,
  ⟨.g "_law_pick", "_law_pick", "_law_pick", (tS 32)⟩,
  ⟨.g "_law_drawn_pattern", "_law_drawn_pattern", "_law_drawn_pattern", (tS 35)⟩,
  ⟨.g "depth_of", "depth_of", "depth_of", (tS 16)⟩,
  ⟨.g "is_formed", "is_formed", "is_formed", (tS 15)⟩,
  ⟨.g "is_pattern", "is_pattern", "is_pattern", (tS 27)⟩,
  ⟨.g "parts_of", "parts_of", "parts_of", (tS 17)⟩,
  ⟨.g "letters_in", "letters_in", "letters_in", (tS 18)⟩,
  ⟨.m "Pattern" "__init__", "__init__", "Pattern.__init__", (inClass (tS 28) 0)⟩,
  ⟨.m "Pattern" "__str__", "__str__", "Pattern.__str__", (inClass (tS 28) 16)⟩,
  ⟨.m "Pattern" "__len__", "__len__", "Pattern.__len__", (inClass (tS 28) 14)⟩,
  ⟨.g "weight_of", "weight_of", "weight_of", (tS 19)⟩,
  ⟨.p "Pattern" "weight", "weight", "Pattern.weight", (inClass (tS 28) 5)⟩,
  ⟨.p "Pattern" "parts", "parts", "Pattern.parts", (inClass (tS 28) 4)⟩,
  ⟨.p "Pattern" "depth", "depth", "Pattern.depth", (inClass (tS 28) 3)⟩,
  ⟨.p "Pattern" "letters", "letters", "Pattern.letters", (inClass (tS 28) 2)⟩,
  ⟨.p "Pattern" "text", "text", "Pattern.text", (inClass (tS 28) 1)⟩,
  ⟨.g "_law_power", "_law_power", "_law_power", (tS 37)⟩,
  ⟨.g "_law_weight", "_law_weight", "_law_weight", (tS 36)⟩,
  ⟨.g "_law_parts", "_law_parts", "_law_parts", (tS 38)⟩,
  ⟨.g "_law_depth", "_law_depth", "_law_depth", (tS 39)⟩,
  ⟨.m "Pattern" "__eq__", "__eq__", "Pattern.__eq__", (inClass (tS 28) 15)⟩,
  ⟨.m "Pattern" "__contains__", "__contains__", "Pattern.__contains__", (inClass (tS 28) 13)⟩,
  ⟨.g "_law_pattern_at", "_law_pattern_at", "_law_pattern_at", (tS 34)⟩,
  ⟨.g "is_integer", "is_integer", "is_integer", (tS 4)⟩,
  ⟨.g "is_count", "is_count", "is_count", (tS 5)⟩,
  ⟨.g "check_positive", "check_positive", "check_positive", (tS 12)⟩,
  ⟨.m "LengthReader" "begun", "begun", "LengthReader.begun", (inClass (tS 23) 1)⟩,
  ⟨.m "TextReader" "begun", "begun", "TextReader.begun", (inClass (tS 22) 1)⟩,
  ⟨.m "LengthReader" "with_part", "with_part", "LengthReader.with_part", (inClass (tS 23) 3)⟩,
  ⟨.m "TextReader" "with_part", "with_part", "TextReader.with_part", (inClass (tS 22) 3)⟩,
  ⟨.m "LengthReader" "with_run", "with_run", "LengthReader.with_run", (inClass (tS 23) 2)⟩,
  ⟨.m "TextReader" "with_run", "with_run", "TextReader.with_run", (inClass (tS 22) 2)⟩,
  ⟨.g "read_pattern", "read_pattern", "read_pattern", (tS 20)⟩,
  ⟨.m "LengthReader" "__init__", "__init__", "LengthReader.__init__", (inClass (tS 23) 0)⟩,
  ⟨.m "Pattern" "length", "length", "Pattern.length", (inClass (tS 28) 6)⟩,
  ⟨.m "TextReader" "__init__", "__init__", "TextReader.__init__", (inClass (tS 22) 0)⟩,
  ⟨.m "Pattern" "__call__", "__call__", "Pattern.__call__", (inClass (tS 28) 11)⟩,
  ⟨.m "Pattern" "repeated", "repeated", "Pattern.repeated", (inClass (tS 28) 10)⟩]
def hDs1 : List Df := [⟨.g "_law_told_right", "_law_told_right", "_law_told_right", (tS 40)⟩,
  ⟨.m "Pattern" "__add__", "__add__", "Pattern.__add__", (inClass (tS 28) 12)⟩,
  ⟨.g "_law_right", "_law_right", "_law_right", (tS 41)⟩,
  ⟨.g "_law_dice", "_law_dice", "_law_dice", (tS 30)⟩,
  ⟨.g "law", "law", "law", (tS 42)⟩]
def hDs : List Df := hDs0 ++ (hDs1)
def hNs0 : List Str := [("_wall" : Str),
  ("MAX_TEXT" : Str),
  ("LETTERS" : Str),
  ("is_integer" : Str),
  ("is_count" : Str),
  ("PriceError" : Str),
  ("InvalidPattern" : Str),
  ("InvalidNumber" : Str),
  ("TooMany" : Str),
  ("check_positive" : Str),
  ("OTHER_SIGNS" : Str),
  ("is_formed" : Str),
  ("depth_of" : Str),
  ("parts_of" : Str),
  ("letters_in" : Str),
  ("weight_of" : Str),
  ("read_pattern" : Str),
  ("TextReader" : Str),
  ("LengthReader" : Str),
  ("MAX_SIGNS" : Str),
  ("MAX_DEPTH" : Str),
  ("is_pattern" : Str),
  ("Pattern" : Str),
  ("_law_dice" : Str),
  ("_law_roll" : Str),
  ("_law_pick" : Str),
  ("_law_mixed" : Str),
  ("_law_pattern_at" : Str),
  ("_law_drawn_pattern" : Str),
  ("_law_weight" : Str)]
def hNs1 : List Str := [("_law_power" : Str),
  ("_law_parts" : Str),
  ("_law_depth" : Str),
  ("_law_told_right" : Str),
  ("_law_right" : Str)]
def hNs : List Str := hNs0 ++ (hNs1)
def hAs0 : List Addr := [3,
  28,
  35,
  107,
  114,
  121,
  128,
  135,
  142,
  149,
  187,
  229,
  240,
  374,
  385,
  392,
  399,
  406,
  413,
  420,
  427,
  434,
  441,
  448,
  453,
  460,
  467,
  27,
  34,
  106,
  113,
  120,
  127,
  134,
  141,
  148,
  186,
  228,
  239,
  373]
def hAs1 : List Addr := [384,
  391,
  398,
  405,
  412,
  419,
  426,
  433,
  440,
  447,
  452,
  459,
  466,
  163,
  170,
  177,
  184,
  205,
  212,
  219,
  226,
  254,
  262,
  270,
  278,
  286,
  294,
  301,
  329,
  336,
  343,
  350,
  357,
  364,
  371,
  162,
  169,
  176,
  183,
  204]
def hAs2 : List Addr := [211,
  218,
  225,
  253,
  261,
  269,
  277,
  285,
  293,
  300,
  328,
  335,
  342,
  349,
  356,
  363,
  370,
  260,
  268,
  276,
  284,
  292]
def hAs : List Addr := hAs0 ++ (hAs1 ++ (hAs2))
abbrev hR : PySem.W.OpenRow := (PySem.W.OpenLaw.row PySem.Challenge.rw_lastprices_k30_patterns_told)
theorem hRun1 (w : World) (os : OsState) : (HandSHeadRun.endF (HandSHeadRun.stepQ (HandSHeadRun.denQ HandSHeadRun.tabQ) hR.prog w) 60000 hR.prog w os).map (fun s => (HandSHeadRun.looksF hR.prog (PySem.W.boot_heap w.params) s.abs, HandSHeadRun.seenQ (PySem.W.view hR.prog [42]) hNs (importedModules hR.prog.main.body) (fun s => PySem.W.xlAt (PySem.W.view hR.prog [42]) [] s && PySem.W.recOk hR.toRowW.records s) s.abs)) = some (true, PySem.W.openGood (PySem.W.view hR.prog [42]) hNs) := by kernel_rfl
theorem hRun2 (w : World) (os : OsState) : (HandSHeadRun.endF (HandSHeadRun.stepQ (HandSHeadRun.denQ HandSHeadRun.tabQ) hR.prog w) 60000 hR.prog w os).map (fun s => obS hAs hCs hDs s) = some ((hookA hAs hCs hDs).val w) := by kernel_rfl
theorem hRun (w : World) : HandSHeadRun.RunEq (PySem.W.OpenLaw.row PySem.Challenge.rw_lastprices_k30_patterns_told) (PySem.W.view (PySem.W.OpenLaw.row PySem.Challenge.rw_lastprices_k30_patterns_told).prog [42]) (hookA hAs hCs hDs) (obS hAs hCs hDs) 60000 hNs w := runEq (hRun1 w) (hRun2 w)
end K430
set_option Elab.async false
set_option linter.all false
set_option maxRecDepth 100000
set_option maxHeartbeats 4000000
/-! Lp, part one: a promise that is kept where no repr is under way (A.guards = some []), and the law's end over such promises. -/
namespace Lp
open PySem PySem.Spec PyProof.Rows L2
/-- a def's promise, asked only where no repr is under way -/
structure FnG (P : Program) (w : World) (K : PySem.W.Frag) (mg : Str → Option Value) (base : Heap) (CX : CXT) (k : Nat) (f : Addr) (fd : FuncData) (ps : List Str) (sp : Sp) : Prop where
  len : ∀ vs H Q E, sp vs H Q E → vs.length = ps.length
  go : ∀ (B : Around) (fr : List Env) (st : Shared) (J : Hp) (ar : Args) (ws : List Value) (xs : List V) (R : VK) (Z : XK),
    Room k B → B.guards = some [] → Env0 P w K mg base B fr st J → BindsTo st fd ar (ps.zip ws) → Vals xs ws → sp xs J R Z →
    codeAny (model P w) B (.call (.ref f) ar) (CR CX fr P w J st R Z) st
section
variable {P : Program} {w : World} {K : PySem.W.Frag} {mg : Str → Option Value} {base : Heap} {CX : CXT}
theorem FnG.mono {j k : Nat} {f : Addr} {fd : FuncData} {ps : List Str} {sp : Sp} (F : FnG P w K mg base CX j f fd ps sp) (h : j ≤ k) : FnG P w K mg base CX k f fd ps sp :=
  ⟨F.len, fun B fr st J ar ws xs R Z r => F.go B fr st J ar ws xs R Z (r.mono h)⟩
theorem FnG.of {k : Nat} {f : Addr} {fd : FuncData} {ps : List Str} {sp : Sp} (F : FnOk P w K mg base CX k f fd ps sp) : FnG P w K mg base CX k f fd ps sp :=
  ⟨F.len, fun B fr st J ar ws xs R Z r _ => F.run B fr st J ar ws xs R Z r⟩
/-- the rule for a def, its body walked where no repr is under way -/
theorem okG {x qual : Str} {st : Stmt} {f : Addr} {fd : FuncData} {N ps : List Str} {k : Nat} {sp : Sp} (F : Fun K x qual st f fd) (S : FnScope N ps (defScope st)) (len : ∀ vs H Q E, sp vs H Q E → vs.length = ps.length)
    (body : ∀ (cdv : Value) (B : Around) (fr : List Env) (s : Shared) (J : Hp) (xs : List V) (R : VK) (Z : XK),
      Room k (B.deeper (envOfC qual (defScope st) s.heap.objs.size f cdv)) → (B.deeper (envOfC qual (defScope st) s.heap.objs.size f cdv)).guards = some [] → sp xs J R Z →
      ∃ t, PSs (cxOf CX P w K mg base N qual (defScope st) f cdv B fr s J Z) (defBody st) t ∧ t { nx := fun _ H' => R .non H', rt := R } (start N xs) J) :
    FnG P w K mg base CX (k + 1) f fd ps sp := by
  obtain ⟨oc, od, kV, doc, pm, an, cdv, ct, osl, rfl, lk, hcd⟩ := F.ex
  refine ⟨len, fun B fr s J ar ws xs R Z hr hg e0 hb r hsp => ?_⟩
  have hl := len _ _ _ _ hsp
  have inH : ∀ b o, base.get? b = some o → s.heap.get? b = some o := fun b o e => (e0.bs b o e).1
  have KX : K.In s.heap := e0.mod.kin.keeps inH
  have par : ∀ y ∈ ps.zip ws, (defScope st).names.lookup y.1 = some .local ∨ ((defScope st).names.lookup y.1 = some .cell ∧ ((cellsFrom (s.heap.objs.size + 1) (defScope st).names []).lookup y.1).isSome = true) := fun y hy =>
    (S.par y.1 (List.of_mem_zip (show (y.1, y.2) ∈ ps.zip ws from hy)).1).elim .inl fun q => .inr ⟨q, PySem.W.cellsFrom_some _ _ _ (.inl q)⟩
  refine codeAny_call_function hr.depth (KX _ _ lk) rfl S.co S.gen rfl (PySem.W.codeRec_of KX hcd) (hb _ _ _ _ ?_)
  refine wpAny_newFunctionEnv_cells S.kind par fun en hen s1 c1 => ?_
  subst hen
  refine ⟨(e0.mod.nolimit.keeps inH).keeps c1.toInCall.keep, codeAny_func ?_⟩
  obtain ⟨t, ht, hq⟩ := body cdv B fr s J xs R Z (hr.deeper _) hg hsp
  have I := inv_start (CX := CX) (cd := cdv) (qual := qual) (f := f) (E := Z) S hr.hd e0 hl r c1
  refine wpAny_mono (ht.run [] s1 (start N xs) J _ I hq) (fun fl s2 hs => ?_) fun _ _ z => z
  match fl, hs with
  | .ret u, ⟨v, _, H2, I2, rv, q⟩ => exact ⟨v, H2, I2.os, I2.bare, I2.base, I2.hok, rv, q⟩
  | .next, ⟨_, H2, I2, q⟩ => exact ⟨V.non, H2, I2.os, I2.bare, I2.base, I2.hok, rfl, q⟩
  | .brk, ⟨_, _, _, q⟩ => exact q.elim
  | .cont, ⟨_, _, _, q⟩ => exact q.elim
/-- the same for a def that lets no exception out -/
theorem okN {x qual : Str} {st : Stmt} {f : Addr} {fd : FuncData} {N ps : List Str} {k : Nat} {sp : Sp} (F : Fun K x qual st f fd) (S : FnScope N ps (defScope st)) (len : ∀ vs H Q E, sp vs H Q E → vs.length = ps.length)
    (body : ∀ (cdv : Value) (B : Around) (fr : List Env) (s : Shared) (J : Hp) (xs : List V) (R : VK) (Z : XK),
      Room k (B.deeper (envOfC qual (defScope st) s.heap.objs.size f cdv)) → (B.deeper (envOfC qual (defScope st) s.heap.objs.size f cdv)).guards = some [] → sp xs J R Z →
      ∃ t, PSs (cxOf CX P w K mg base N qual (defScope st) f cdv B fr s J Z).nox (defBody st) t ∧ t { nx := fun _ H' => R .non H', rt := R } (start N xs) J) :
    FnG P w K mg base CX (k + 1) f fd ps sp :=
  okG F S len fun cdv B fr s J xs R Z h1 h2 h3 => by
    obtain ⟨t, a, b⟩ := body cdv B fr s J xs R Z h1 h2 h3
    exact ⟨t, a.nox, b⟩
/-- a call of such a def by its global name -/
theorem callG {X : Cx} {k : Nat} {f : Addr} {fd : FuncData} {ps : List Str} {sp : Sp} {x : Str} {p pos : Pos} {e : Expr} {es : List Expr} {t : TA} {Z : XK} (F : FnG X.prog X.w X.K X.mg X.base CX k f fd ps sp) (hr : Room k X.A) (hgd : X.A.guards = some [])
    (hg : Gl X x) (hm : X.mg x = some (.ref f)) (hk : PySem.W.keepIn X.K (.ref f) = true) (hb : Binds X.K fd ps []) (hx : Passes CX X Z)
    (ha : PA X (e :: es) t) (hdb : (x == ("__debug__" : Str)) = false := by decide) (he : starEach (e :: es) X.env = (false, eval e X.env) :: starEach es X.env := by rfl) (hpl : (backTo pos (starEach es X.env)).any (·.1) = false := by rfl) :
    PE X (.Call (.Name x p) (e :: es) [] pos) (tCall sp [] Z t) := by
  constructor
  intro pins s σ J R I h
  apply wpAny_Call_Name_kw
  refine ld_glob I hg hm ?_ hdb
  refine PySem.W.callWith_K (h₀ := X.base) I.ok.mod.kin hk (thn (ha.run pos pins s σ J _ I h) fun ws s1 z => ?_) he hpl
  obtain ⟨xs, J1, I1, r, q⟩ := z
  refine ⟨I1.kIn, ?_⟩
  have q' : sp xs J1 R Z := by
    have q2 : sp (xs ++ []) J1 R Z := q
    rwa [List.append_nil] at q2
  have bt := hb s1 ws I1.kIn (by rw [List.append_nil, ← r.length]; exact F.len _ _ _ _ q')
  rw [List.append_nil] at bt
  refine wpAny_call (codeAny_mono (F.go X.A X.stack s1 J1 ⟨ws, []⟩ ws xs R Z hr hgd I1.env0 bt r q') fun o s2 w2 => ?_)
  match o, w2 with
  | .error e, w2 => exact hx pins σ J1 s1 e s2 I1 w2
  | .ok (.ret u), w2 => exact I1.after w2
/-- the law's own call -/
theorem law_callG {mb : Str → Option Value} {k : Nat} {fa a : Addr} {fd : FuncData} {x : Str} {sp : Sp} {st : Shared} {vs : List Value} {ns : List Int}
    (KX : K.In st.heap) (hns : st.heap.Ns mainGlobals mg) (hb : st.heap.Ns builtinsNs mb) (hbb : ∀ y : Str, y ≠ "__name__" → mb y = bootBuiltins y) (hlim : st.heap.NoLimit) (hgen : st.gens = #[])
    (ha : st.heap.get? a = some { cls := .type "list", data := .seq vs.toArray }) (hi : IntsAre vs ns) (hl : ns.length ≤ sizeLine) (hr : Room k callerA)
    (F : ∀ b0 : Heap, K.In b0 → b0.Ns mainGlobals mg → FnG P w K mg b0 CX k fa fd [x] sp) (hbind : ∀ (s : Shared) (u : Value), BindsTo s fd ⟨[u], []⟩ [(x, u)])
    (hsp : ∀ J : Hp, Only J → SqL K J a (ns.map V.int) → sp [.ref a] J (fun v _ => v = .bl true) fun _ _ _ => False)
    (hCX : ∀ J e s', CX [] J st (fun _ _ _ => False) e s' → False) :
    codeAny (model P w) callerA (.call (.ref fa) ⟨[.ref a], []⟩) (fun r s' => r = .ok (.ret (.bool true)) ∧ OldK st.heap s'.heap ∧ s'.os = st.os ∧ AllBare s'.gens) st := by
  have rv := vals_ints hi
  have lv := hi.length
  -- J tracks the script at most
  have main : ∀ J : Hp, Only J → SqL K J a (ns.map V.int) → HOk P w J st.heap → (∀ b, J b ≠ none → b = a) → (J a ≠ none → K.lookup a = none) →
      codeAny (model P w) callerA (.call (.ref fa) ⟨[.ref a], []⟩) (fun r s' => r = .ok (.ret (.bool true)) ∧ OldK st.heap s'.heap ∧ s'.os = st.os ∧ AllBare s'.gens) st := by
    intro J hO hS hok hA hK
    have seen : ∀ b, J b = none ∨ b = a := fun b => by
      cases q : J b with
      | none => exact .inl rfl
      | some u => exact .inr (hA b (by rw [q]; exact Option.some_ne_none u))
    have dn : ∀ {b : Addr} {o : Obj} {es : Array DictEntry} {ep : Nat}, st.heap.get? b = some o → o.data = .dict es ep → J b = none := fun {b o es ep} e d => (seen b).elim id fun z => by
      subst z
      rw [ha] at e
      cases e
      exact nomatch (show Data.seq vs.toArray _ = Data.dict es ep from d)
    have nsT : ∀ {b : Addr} {m : Str → Option Value}, st.heap.Ns b m → (hidT st.heap J).Ns b m := fun ⟨o, es, ep, e, d, r⟩ => ⟨o, es, ep, hidT_get e (dn e d), d, r⟩
    have kT : K.In (hidT st.heap J) := fun b o e => hidT_get (KX b o e) ((seen b).elim id fun z => by
      subst z
      cases q : J b with
      | none => rfl
      | some u =>
        have := hK (by rw [q]; exact Option.some_ne_none u)
        rw [e] at this
        cases this)
    obtain ⟨mc, l1, l2⟩ := hlim
    have env : Env0 P w K mg (hidT st.heap J) callerA [] st J :=
      ⟨rfl, ⟨kT, nsT hns, ⟨mb, nsT hb, hbb⟩, ⟨mc, nsT l1, l2⟩⟩, fun b o e => of_hidT e, Nat.le_of_eq (hidT_size _ _), trivial, fun b z => (List.not_mem_nil z).elim, hok, .of_eq hgen⟩
    refine codeAny_mono ((F _ kT (nsT hns)).go callerA [] st J ⟨[.ref a], []⟩ [.ref a] [.ref a] _ _ hr rfl env (hbind st (.ref a)) (.cons rfl .nil) (hsp J hO hS)) fun r s' h => ?_
    match r, h with
    | .error e, h => exact (hCX J e s' h).elim
    | .ok (.ret u), ⟨v, J2, os, bare, un, hok2, r2, q⟩ =>
      have q2 : v = .bl true := q
      subst q2
      have r3 : u = Value.bool true := r2
      subst r3
      refine ⟨rfl, OldK.of_keep fun b o e => ?_, os, bare⟩
      rcases hO b with z | ⟨ob, xs, z⟩
      · exact un.keep b o e z (fun y => (List.not_mem_nil y).elim) (fun y => (List.not_mem_nil y).elim)
      · have f1 := (hok b _ z).1
        have f2 := (hok2 b _ (un.frzs b ob _ z)).1
        rw [e] at f1
        cases f1
        exact f2
  cases hk : K.lookup a with
  | some o =>
    have e := KX a o hk
    rw [ha] at e
    cases e
    refine main (fun _ => none) (fun _ => .inl rfl) (.inr ⟨_, vs.toArray, _, hk, rfl, rfl, rfl, by rw [List.size_toArray, lv]; exact hl, by simpa using rv⟩) (fun b u z => ?_) (fun b z => (z rfl).elim) (fun z => (z rfl).elim)
    cases (show (none : Option HO) = some u from z)
  | none =>
    have on : ∀ {b : Addr} {u : HO}, (if b = a then some (HO.frz { cls := .type "list", data := .seq vs.toArray } (.lst (ns.map V.int))) else none) = some u → b = a ∧ u = HO.frz { cls := .type "list", data := .seq vs.toArray } (.lst (ns.map V.int)) := fun {b u} z => by
      by_cases hb : b = a
      · rw [if_pos hb] at z
        exact ⟨hb, (Option.some.inj z).symm⟩
      · rw [if_neg hb] at z
        cases z
    refine main (fun b => if b = a then some (.frz { cls := .type "list", data := .seq vs.toArray } (.lst (ns.map V.int))) else none) (fun b => ?_) (.inl (.inr ⟨_, if_pos rfl⟩)) (fun b u z => ?_) (fun b z => ?_) fun _ => hk
    · by_cases hb : b = a
      · exact .inr ⟨_, _, if_pos hb⟩
      · exact .inl (if_neg hb)
    · obtain ⟨rfl, rfl⟩ := on z
      exact ⟨ha, by rw [List.length_map]; exact hl, vs, _, rv, ha⟩
    · by_cases hb : b = a
      · exact hb
      · exact (z (if_neg hb)).elim
end
end Lp
set_option Elab.async false
set_option linter.all false
set_option maxRecDepth 100000
set_option maxHeartbeats 4000000
/-! Lp, part two: what an expression gives, as plain data; the list of dice may change, all else stays. -/
namespace Lp
open PySem PySem.Spec L2
/-! ### the heap without the dice and without what is being filled -/
structure Mt where
  d : Option Addr
  o : List Addr
abbrev OA := Mt
abbrev no : Mt := ⟨none, []⟩
abbrev Mt.add (p : Mt) (q : Addr) : Mt := ⟨p.d, q :: p.o⟩
def Hid (p : Mt) (b : Addr) : Prop := p.d = some b ∨ b ∈ p.o
instance {p : Mt} {b : Addr} : Decidable (Hid p b) := inferInstanceAs (Decidable (p.d = some b ∨ b ∈ p.o))
def del (p : Mt) (H : Hp) : Hp := fun b => if Hid p b then none else H b
theorem del_of {p : Mt} {H : Hp} {b : Addr} {o : HO} (h : del p H b = some o) : H b = some o := by
  unfold del at h
  split at h
  · cases h
  · exact h
theorem del_no {p : Mt} {H : Hp} {b : Addr} {o : HO} (h : del p H b = some o) : ¬ Hid p b := fun z => by
  unfold del at h
  rw [if_pos z] at h
  cases h
theorem del_at {p : Mt} {H : Hp} {b : Addr} (h : ¬ Hid p b) : del p H b = H b := if_neg h
/-- what is not there need not be hidden -/
theorem del_add {p : Mt} {H : Hp} {q : Addr} (h : H q = none) : del (p.add q) H = del p H := by
  funext b
  unfold del
  by_cases e : b = q
  · subst e
    rw [if_pos (show Hid (p.add b) b from Or.inr List.mem_cons_self), h]
    split <;> rfl
  · by_cases f : Hid p b
    · rw [if_pos f, if_pos (show Hid (p.add q) b from f.imp id (List.mem_cons_of_mem _))]
    · rw [if_neg f, if_neg (show ¬ Hid (p.add q) b from fun z => f (z.imp id fun y => (List.mem_cons.mp y).resolve_left e))]
def Dice (H : Hp) (a : Addr) : Prop := ∃ l s c : Int, H a = some (.lst [.int l, .int s, .int c])
structure DOk (p : Mt) (H : Hp) : Prop where
  di : ∀ a, p.d = some a → Dice H a
  lv : ∀ a ∈ p.o, H a ≠ none
theorem DOk.ne {p : Mt} {H : Hp} {q : Addr} (d : DOk p H) (h : H q = none) : ¬ Hid p q := fun e => by
  rcases e with e | e
  · obtain ⟨l, s, c, z⟩ := d.di q e
    rw [h] at z
    cases z
  · exact d.lv q e h
structure Go (p : Mt) (H H' : Hp) : Prop where
  ex : ∀ a o, p.d ≠ some a → H a = some o → H' a = some o
  dk : DOk p H'
theorem Go.exd {p : Mt} {H H' : Hp} (g : Go p H H') : ∀ a o, del p H a = some o → del p H' a = some o := fun a o e => by
  have n := del_no e
  rw [del_at n] at e ⊢
  exact g.ex a o (fun z => n (.inl z)) e
theorem Go.refl {p : Mt} {H : Hp} (d : DOk p H) : Go p H H := ⟨fun _ _ _ h => h, d⟩
theorem Go.trans {p : Mt} {H H1 H2 : Hp} (a : Go p H H1) (b : Go p H1 H2) : Go p H H2 := ⟨fun x o n h => b.ex x o n (a.ex x o n h), b.dk⟩
theorem Go.free {p : Mt} {H H' : Hp} {q : Addr} (g : Go p H H') (h : H' q = none) : H q = none := by
  have n := g.dk.ne h
  cases e : H q with
  | none => rfl
  | some o =>
    have z := g.ex q o (fun y => n (.inl y)) e
    rw [h] at z
    cases z
/-- an object that H does not know is written -/
theorem Go.put {p : Mt} {H H' : Hp} {q : Addr} {o : HO} (d : DOk p H) (g : Go p H H') (h : H q = none) : Go p H (upd H' q o) := by
  have n := d.ne h
  refine ⟨fun a u na e => ?_, fun a e => ?_, fun a m => ?_⟩
  · rw [upd_ne (ne_of_none e h)]
    exact g.ex a u na e
  · obtain ⟨l, s, c, z⟩ := g.dk.di a e
    have na : a ≠ q := fun y => n (.inl (by rw [e, y]))
    exact ⟨l, s, c, by rw [upd_ne na]; exact z⟩
  · by_cases na : a = q
    · rw [na, upd_same]
      exact Option.some_ne_none o
    · rw [upd_ne na]
      exact g.dk.lv a m
theorem Go.new {p : Mt} {H : Hp} {q : Addr} {o : HO} (d : DOk p H) (h : H q = none) : Go p H (upd H q o) := Go.put d (.refl d) h
/-- from a wider context to a narrower one, and back where q was not there -/
theorem Go.sub {p : Mt} {H H' : Hp} {q : Addr} (g : Go (p.add q) H H') : Go p H H' := ⟨g.ex, g.dk.di, fun a m => g.dk.lv a (List.mem_cons_of_mem _ m)⟩
theorem Go.sup {p : Mt} {H H' : Hp} {q : Addr} (g : Go p H H') (h : H' q ≠ none) : Go (p.add q) H H' := ⟨g.ex, g.dk.di, fun a m => (List.mem_cons.mp m).elim (fun e => e ▸ h) (g.dk.lv a)⟩
theorem tu_ex {K : PySem.W.Frag} {H H' : Hp} {a : Addr} {xs : List V} (e : ∀ a o, H a = some o → H' a = some o) (h : SqT K H a xs) : SqT K H' a xs := by
  rcases h with (h | ⟨o, h⟩) | h
  · exact .inl (.inl (e _ _ h))
  · exact .inl (.inr ⟨o, e _ _ h⟩)
  · exact .inr h
/-! ### plain data -/
def kD : Key → PyData
  | .inl i => .int i
  | .inr x => .str x
mutual
inductive Rep (K : PySem.W.Frag) (H : Hp) : V → PyData → Prop
  | non : Rep K H .non .none
  | bl (b : Bool) : Rep K H (.bl b) (.bool b)
  | int (i : Int) : Rep K H (.int i) (.int i)
  | str (x : Str) : Rep K H (.str x) (.str x)
  | lst {a : Addr} {xs : List V} {ds : List PyData} : H a = some (.lst xs) → Reps K H xs ds → Rep K H (.ref a) (.list ds)
  | tup {a : Addr} {xs : List V} {ds : List PyData} : SqT K H a xs → Reps K H xs ds → Rep K H (.ref a) (.tuple ds)
  | dic {a : Addr} {kvs : List (Key × V)} {es : List (PyData × PyData)} : H a = some (.dK kvs) → RepKv K H kvs es → Rep K H (.ref a) (.dict es)
inductive Reps (K : PySem.W.Frag) (H : Hp) : List V → List PyData → Prop
  | nil : Reps K H [] []
  | cons {v : V} {vs : List V} {d : PyData} {ds : List PyData} : Rep K H v d → Reps K H vs ds → Reps K H (v :: vs) (d :: ds)
inductive RepKv (K : PySem.W.Frag) (H : Hp) : List (Key × V) → List (PyData × PyData) → Prop
  | nil : RepKv K H [] []
  | cons {k : Key} {v : V} {d : PyData} {kvs : List (Key × V)} {es : List (PyData × PyData)} : Rep K H v d → RepKv K H kvs es → RepKv K H ((k, v) :: kvs) ((kD k, d) :: es)
end
section
variable {K : PySem.W.Frag} {H H' : Hp}
mutual
theorem Rep.mono (e : ∀ a o, H a = some o → H' a = some o) : ∀ {v : V} {d : PyData}, Rep K H v d → Rep K H' v d
  | _, _, .non => .non
  | _, _, .bl b => .bl b
  | _, _, .int i => .int i
  | _, _, .str x => .str x
  | _, _, .lst h r => .lst (e _ _ h) (Reps.mono e r)
  | _, _, .tup h r => .tup (tu_ex e h) (Reps.mono e r)
  | _, _, .dic h r => .dic (e _ _ h) (RepKv.mono e r)
theorem Reps.mono (e : ∀ a o, H a = some o → H' a = some o) : ∀ {vs : List V} {ds : List PyData}, Reps K H vs ds → Reps K H' vs ds
  | _, _, .nil => .nil
  | _, _, .cons h r => .cons (Rep.mono e h) (Reps.mono e r)
theorem RepKv.mono (e : ∀ a o, H a = some o → H' a = some o) : ∀ {vs : List (Key × V)} {ds : List (PyData × PyData)}, RepKv K H vs ds → RepKv K H' vs ds
  | _, _, .nil => .nil
  | _, _, .cons h r => .cons (Rep.mono e h) (RepKv.mono e r)
end
theorem Rep.go {p : OA} {v : V} {d : PyData} (g : Go p H H') (h : Rep K (del p H) v d) : Rep K (del p H') v d := h.mono g.exd
theorem Reps.go {p : OA} {v : List V} {d : List PyData} (g : Go p H H') (h : Reps K (del p H) v d) : Reps K (del p H') v d := h.mono g.exd
theorem del_le {p : OA} {q : Addr} : ∀ a o, del (p.add q) H a = some o → del p H a = some o := fun a o e => by
  have n := del_no e
  rw [del_at n] at e
  rw [del_at (show ¬ Hid p a from fun z => n (Or.imp id (List.mem_cons_of_mem _) z))]
  exact e
theorem Rep.add {p : OA} {v : V} {d : PyData} {q : Addr} (h : Rep K (del p H) v d) (hq : H q = none) : Rep K (del (p.add q) H) v d := by rw [del_add hq]; exact h
theorem Reps.add {p : OA} {v : List V} {d : List PyData} {q : Addr} (h : Reps K (del p H) v d) (hq : H q = none) : Reps K (del (p.add q) H) v d := by rw [del_add hq]; exact h
theorem Rep.sub {p : OA} {v : V} {d : PyData} {q : Addr} (h : Rep K (del (p.add q) H) v d) : Rep K (del p H) v d := h.mono del_le
theorem Reps.sub {p : OA} {v : List V} {d : List PyData} {q : Addr} (h : Reps K (del (p.add q) H) v d) : Reps K (del p H) v d := h.mono del_le
theorem Reps.len {vs : List V} {ds : List PyData} (h : Reps K H vs ds) : vs.length = ds.length := by
  induction vs generalizing ds with
  | nil =>
    cases h
    rfl
  | cons v r ih =>
    cases h with
    | cons a b => exact congrArg (· + 1) (ih b)
theorem Reps.get {vs : List V} {ds : List PyData} (h : Reps K H vs ds) : ∀ {i : Nat} {v : V}, vs[i]? = some v → ∃ d, ds[i]? = some d ∧ Rep K H v d := by
  induction vs generalizing ds with
  | nil => exact fun e => by simp at e
  | cons u r ih =>
    cases h with
    | cons a b =>
      intro i v e
      cases i with
      | zero => exact ⟨_, rfl, by cases e; exact a⟩
      | succ j => exact ih b e
theorem Reps.app {vs us : List V} {ds es : List PyData} (h : Reps K H vs ds) (h2 : Reps K H us es) : Reps K H (vs ++ us) (ds ++ es) := by
  induction vs generalizing ds with
  | nil =>
    cases h
    exact h2
  | cons u r ih =>
    cases h with
    | cons a b => exact .cons a (ih b)
theorem reps_strs {vs : List V} {ns : List Str} (h : Reps K H vs (ns.map PyData.str)) : vs = ns.map V.str := by
  induction ns generalizing vs with
  | nil =>
    cases h
    rfl
  | cons n r ih =>
    cases h with
    | cons a b =>
      cases a
      rw [ih b]
      rfl
end
class Enc (α : Type) where
  toD : α → PyData
abbrev enc {α : Type} [Enc α] (a : α) : PyData := Enc.toD a
instance : Enc PyData := ⟨fun d => d⟩
instance : Enc Int := ⟨.int⟩
instance : Enc Bool := ⟨.bool⟩
instance : Enc Str := ⟨.str⟩
instance : Enc Unit := ⟨fun _ => .none⟩
instance {α : Type} [Enc α] : Enc (List α) := ⟨fun l => .list (l.map enc)⟩
/-! ### readings by the text itself -/
structure SemE (X : Cx) (e : Expr) (σ : St) (H : Hp) (Q : VK) : Prop where
  run : ∀ (pins : List (Addr × Obj)) (s : Shared), Inv X pins σ H s → wpAny (model X.prog X.w) X.A (eval e X.env) (EP X pins σ Q) X.xe s
structure SemT (X : Cx) (e : Expr) (σ : St) (H : Hp) (Q : Bool → Hp → Prop) : Prop where
  run : ∀ (pins : List (Addr × Obj)) (s : Shared), Inv X pins σ H s → wpAny (model X.prog X.w) X.A (isTrue e X.env (eval e X.env)) (TP X pins σ Q) X.xe s
structure SemA (X : Cx) (es : List Expr) (σ : St) (H : Hp) (Q : List V → Hp → Prop) : Prop where
  run : ∀ (pos : Pos) (pins : List (Addr × Obj)) (s : Shared), Inv X pins σ H s → wpAny (model X.prog X.w) X.A (spliced (backTo pos (starEach es X.env))) (AP X pins σ Q) X.xe s
structure SemS (X : Cx) (st : Stmt) (D : Ends) (σ : St) (H : Hp) : Prop where
  run : ∀ (pins : List (Addr × Obj)) (s : Shared), Inv X pins σ H s → wpAny (model X.prog X.w) X.A (exec st X.env) (SP X pins D) X.xe s
structure SemSs (X : Cx) (st : List Stmt) (D : Ends) (σ : St) (H : Hp) : Prop where
  run : ∀ (pins : List (Addr × Obj)) (s : Shared), Inv X pins σ H s → wpAny (model X.prog X.w) X.A (execs st X.env) (SP X pins D) X.xe s
section
variable {X : Cx}
theorem semE {e : Expr} : PE X e (SemE X e) := ⟨fun pins s _ _ _ I h => h.run pins s I⟩
theorem semT {e : Expr} : PT X e (SemT X e) := ⟨fun pins s _ _ _ I h => h.run pins s I⟩
theorem semA {es : List Expr} : PA X es (SemA X es) := ⟨fun pos pins s _ _ _ I h => h.run pos pins s I⟩
theorem semS {st : Stmt} : PS X st (SemS X st) := ⟨fun pins s _ _ _ I h => h.run pins s I⟩
theorem semSs {st : List Stmt} : PSs X st (SemSs X st) := ⟨fun pins s _ _ _ I h => h.run pins s I⟩
theorem of_pe {e : Expr} {t : TE} {σ : St} {H : Hp} {Q : VK} (h : PE X e t) (q : t σ H Q) : SemE X e σ H Q := ⟨fun pins s I => h.run pins s σ H Q I q⟩
theorem of_pt {e : Expr} {t : TT} {σ : St} {H : Hp} {Q : Bool → Hp → Prop} (h : PT X e t) (q : t σ H Q) : SemT X e σ H Q := ⟨fun pins s I => h.run pins s σ H Q I q⟩
theorem of_pa {es : List Expr} {t : TA} {σ : St} {H : Hp} {Q : List V → Hp → Prop} (h : PA X es t) (q : t σ H Q) : SemA X es σ H Q := ⟨fun pos pins s I => h.run pos pins s σ H Q I q⟩
theorem of_ps {st : Stmt} {t : TS} {σ : St} {H : Hp} {D : Ends} (h : PS X st t) (q : t D σ H) : SemS X st D σ H := ⟨fun pins s I => h.run pins s σ H D I q⟩
theorem of_pss {st : List Stmt} {t : TS} {σ : St} {H : Hp} {D : Ends} (h : PSs X st t) (q : t D σ H) : SemSs X st D σ H := ⟨fun pins s I => h.run pins s σ H D I q⟩
end
end Lp
set_option Elab.async false
set_option linter.all false
set_option maxRecDepth 100000
set_option maxHeartbeats 4000000
/-! Lp, part three: judgements on the text itself. JE: an expression gives data of which P holds. -/
namespace Lp
open PySem PySem.Spec L2
def JE {α : Type} [Enc α] (X : Cx) (p : OA) (e : Expr) (σ : St) (H : Hp) (P : α → Prop) : Prop :=
  ∀ H1, Go p H H1 → ∀ Q : VK, (∀ v H2 a, Go p H1 H2 → P a → Rep X.K (del p H2) v (enc a) → Q v H2) → SemE X e σ H1 Q
abbrev JV {α : Type} [Enc α] (X : Cx) (p : OA) (e : Expr) (σ : St) (H : Hp) (a : α) : Prop := JE X p e σ H (fun b : α => b = a)
def JT (X : Cx) (p : OA) (e : Expr) (σ : St) (H : Hp) (P : Bool → Prop) : Prop :=
  ∀ H1, Go p H H1 → ∀ Q : Bool → Hp → Prop, (∀ b H2, Go p H1 H2 → P b → Q b H2) → SemT X e σ H1 Q
abbrev JTV (X : Cx) (p : OA) (e : Expr) (σ : St) (H : Hp) (b : Bool) : Prop := JT X p e σ H (fun c => c = b)
def JA (X : Cx) (p : OA) (es : List Expr) (σ : St) (H : Hp) (P : List PyData → Prop) : Prop :=
  ∀ H1, Go p H H1 → ∀ Q : List V → Hp → Prop, (∀ vs H2 ds, Go p H1 H2 → P ds → Reps X.K (del p H2) vs ds → Q vs H2) → SemA X es σ H1 Q
section
variable {X : Cx} {p : OA} {σ : St} {H H' : Hp} {e a b c : Expr} {es : List Expr} {pos ps : Pos} {α β γ : Type} [Enc α] [Enc β] [Enc γ]
theorem JE.imp {P P' : α → Prop} (h : JE X p e σ H P) (i : ∀ a, P a → P' a) : JE X p e σ H P' := fun H1 g Q q => h H1 g Q fun v H2 a g2 pa r => q v H2 a g2 (i a pa) r
theorem JE.mono {P : α → Prop} (h : JE X p e σ H P) (g : Go p H H') : JE X p e σ H' P := fun H1 g1 Q q => h H1 (g.trans g1) Q q
theorem JT.imp {P P' : Bool → Prop} (h : JT X p e σ H P) (i : ∀ a, P a → P' a) : JT X p e σ H P' := fun H1 g Q q => h H1 g Q fun b H2 g2 pb => q b H2 g2 (i b pb)
theorem JT.mono {P : Bool → Prop} (h : JT X p e σ H P) (g : Go p H H') : JT X p e σ H' P := fun H1 g1 Q q => h H1 (g.trans g1) Q q
theorem JA.mono {P : List PyData → Prop} (h : JA X p es σ H P) (g : Go p H H') : JA X p es σ H' P := fun H1 g1 Q q => h H1 (g.trans g1) Q q
/-! ### names and constants -/
/-! ### ints -/
theorem rep_int {K : PySem.W.Frag} {J : Hp} {v : V} {i : Int} (h : Rep K J v (enc i)) : v = .int i := by cases h; rfl
theorem rep_bool {K : PySem.W.Frag} {J : Hp} {v : V} {i : Bool} (h : Rep K J v (enc i)) : v = .bl i := by cases h; rfl
theorem rep_str {K : PySem.W.Frag} {J : Hp} {v : V} {i : Str} (h : Rep K J v (enc i)) : v = .str i := by cases h; rfl
mutual
theorem Rep.dp {K : PySem.W.Frag} {J : Hp} : ∀ {d : PyData} {v : V}, Rep K J v d → d.canLay0 = true → Dp K J v d
  | .none, _, h, _ => by cases h; exact .non
  | .bool _, _, h, _ => by cases h; exact .bl _
  | .int _, _, h, _ => by cases h; exact .int _
  | .str _, _, h, _ => by cases h; exact .str _
  | .list ds, _, h, c => by
    cases h with
    | lst s r => exact .lst (.inl (.inl s)) (Reps.dp r (by simpa only [PyData.canLay0] using c))
  | .tuple ds, _, h, c => by
    cases h with
    | tup s r => exact .tup s (Reps.dp r (by simpa only [PyData.canLay0] using c))
  | .dict _, _, _, c => by simp only [PyData.canLay0] at c; cases c
theorem Reps.dp {K : PySem.W.Frag} {J : Hp} : ∀ {ds : List PyData} {vs : List V}, Reps K J vs ds → PyData.canLayAll0 ds = true → DpAll K J vs ds
  | [], _, h, _ => by cases h; exact .nil
  | d :: ds, _, h, c => by
    cases h with
    | cons a b =>
      simp only [PyData.canLayAll0, Bool.and_eq_true] at c
      exact .cons (Rep.dp a c.1) (Reps.dp b c.2)
end
theorem Rep.all {K : PySem.W.Frag} {J : Hp} {v : V} {d : PyData} (h : Rep K (del p J) v d) : Rep K J v d := h.mono fun _ _ e => del_of e
theorem Reps.all {K : PySem.W.Frag} {J : Hp} {v : List V} {d : List PyData} (h : Reps K (del p J) v d) : Reps K J v d := h.mono fun _ _ e => del_of e
/-! ### and, or, not; tests -/
theorem t_not {x : Bool} (h : JTV X p a σ H x) : JTV X p (.UnaryOp .Not a pos) σ H (!x) := fun H1 g Q q =>
  of_pt (pt_not semT) (h H1 g _ fun c H2 g2 e => by
    subst e
    exact q _ H2 g2 rfl)
/-! ### argument lists, displays -/
theorem a_nil : JA X p [] σ H (fun ds => ds = []) := fun H1 g Q q => of_pa pa_nil (q [] H1 [] (.refl g.dk) rfl .nil)
theorem a_cons {A : α → Prop} {B : List PyData → Prop} (ha : JE X p e σ H A) (hr : JA X p es σ H B) (hs : starEach (e :: es) X.env = (false, eval e X.env) :: starEach es X.env := by rfl) :
    JA X p (e :: es) σ H (fun ds => ∃ x r, A x ∧ B r ∧ ds = enc x :: r) := fun H1 g Q q =>
  of_pa (pa_cons semE semA hs) (ha H1 g _ fun v H2 x g2 px rx => hr H2 (g.trans g2) _ fun vs H3 r g3 pr rr => q _ H3 _ (g2.trans g3) ⟨x, r, px, pr, rfl⟩ (.cons (rx.go g3) rr))
theorem JA.imp {P P' : List PyData → Prop} (h : JA X p es σ H P) (i : ∀ ds, P ds → P' ds) : JA X p es σ H P' := fun H1 g Q q => h H1 g Q fun v H2 a g2 pa r => q v H2 a g2 (i a pa) r
/-! ### calls of built-ins -/
end
end Lp
set_option Elab.async false
set_option linter.all false
set_option maxRecDepth 100000
set_option maxHeartbeats 4000000
/-! Lp, part four: operators by data, repr, calls of one's own defs, statements, loops. -/
namespace Lp
open PySem PySem.Spec L2
section
variable {X : Cx} {p : OA} {σ : St} {H H' : Hp} {e a b c : Expr} {es : List Expr} {pos ps : Pos} {α β γ : Type} [Enc α] [Enc β] [Enc γ]
/-! ### operators -/
def OpD (X : Cx) (r : R2) (p : OA) (x : α) (y : β) (z : γ) : Prop := ∀ J v w, DOk p J → Rep X.K (del p J) v (enc x) → Rep X.K (del p J) w (enc y) → ∀ Q : VK, (∀ u J2, Go p J J2 → Rep X.K (del p J2) u (enc z) → Q u J2) → r v w J Q
theorem t_cmp {op : CmpOp} {r : R2} {x : α} {y : β} {z : Bool} (ho : OpR X (compareOp op) r) (ha : JV X p a σ H x) (hb : JV X p b σ H y) (d : OpD X r p x y z) (hm : behindInMarks op b = false := by first | exact nomark _ | rfl) : JTV X p (.Compare a [op] [b] pos) σ H z := fun H1 g Q q =>
  of_pt (pt_cmpR ho semE semE hm) (ha H1 g _ fun v H2 i g2 pi rx => hb H2 (g.trans g2) _ fun w H3 j g3 pj ry => by
    subst pi pj
    exact d H3 v w g3.dk (rx.go g3) ry _ fun u J2 g4 ru => ⟨z, rep_bool ru, q z J2 ((g2.trans g3).trans g4) rfl⟩)
/-! ### repr -/
/-! ### more built-ins of ints and texts -/
/-! ### subscripts -/
end
end Lp
set_option Elab.async false
set_option linter.all false
set_option maxRecDepth 100000
set_option maxHeartbeats 4000000
/-! Lp, part five: one's own defs, statements, loops. -/
namespace Lp
open PySem PySem.Spec L2
/-! ### promises of one's own defs -/
section
variable {P : Program} {w : World} {K : PySem.W.Frag} {mg : Str → Option Value} {base : Heap} {β : Type} [Enc β] {Pre : List PyData → Prop} {R : List PyData → β → Prop}
abbrev XX (P : Program) (w : World) (K : PySem.W.Frag) (mg : Str → Option Value) (base : Heap) (N : List Str) (qual : Str) (st : Stmt) (f : Addr) (cdv : Value) (B : Around) (fr : List Env) (s : Shared) (J : Hp) (Z : XK) : Cx :=
  (cxOf CX0 P w K mg base N qual (defScope st) f cdv B fr s J Z).nox
end
section
variable {X : Cx} {p : OA} {σ : St} {H H' : Hp} {e a b c : Expr} {es : List Expr} {pos ps : Pos} {α β γ : Type} [Enc α] [Enc β] [Enc γ] {D : Ends}
/-! ### statements -/
theorem s_set {P : α → Prop} {x : Str} {px : Pos} (i : Nat) (dk : DOk p H) (h : JE X p e σ H P) (nd : X.N.Nodup) (k : ∀ v H1 u, Go p H H1 → P u → Rep X.K (del p H1) v (enc u) → D.nx (σ.set i (some v)) H1) (hi : X.N[i]? = some x := by rfl)
    (hx : Loc X.env.scope x := by exact Or.inl rfl) (hs : swapsWith e (some (.Name x px)) pos.line X.env = pure false := by rfl) (hf : X.fn x = true ∨ X.env.scope.names.lookup x = some .local := by first | exact .inl rfl | exact .inr rfl) : SemS X (.Assign [.Name x px] e pos) D σ H :=
  of_ps (ps_set (i := i) nd hi hx semE hs hf) (h H (.refl dk) _ fun v H1 u g pu r => k v H1 u g pu r)
theorem s_ret {P : α → Prop} (dk : DOk p H) (h : JE X p e σ H P) (k : ∀ v H1 u, Go p H H1 → P u → Rep X.K (del p H1) v (enc u) → D.rt v H1) : SemS X (.Return (some e) pos) D σ H := of_ps (ps_ret semE) (h H (.refl dk) _ k)
theorem s_if {P : Bool → Prop} {th el : List Stmt} (dk : DOk p H) (h : JT X p c σ H P) (h1 : ∀ H1, Go p H H1 → P true → SemSs X th D σ H1) (h2 : ∀ H1, Go p H H1 → P false → SemSs X el D σ H1) : SemS X (.If c th el pos) D σ H :=
  of_ps (ps_if semT semSs semSs) (h H (.refl dk) _ fun u H1 g pu => by
    cases u with
    | true => exact iteT (h1 H1 g pu)
    | false => exact iteF (h2 H1 g pu))
end
end Lp
set_option Elab.async false
set_option linter.all false
set_option maxRecDepth 100000
set_option maxHeartbeats 4000000
/-! Lp, part six: where only bounds are known; the dice's cells. -/
namespace Lp
open PySem PySem.Spec L2
end Lp
set_option Elab.async false
set_option linter.all false
set_option maxRecDepth 100000
set_option maxHeartbeats 4000000
/-! Lp, part seven: comprehensions, zip, isinstance, more of texts. -/
namespace Lp
open PySem PySem.Spec L2
section
variable {X : Cx} {p : OA} {σ : St} {H H' : Hp} {e a b c : Expr} {es : List Expr} {pos ps : Pos} {α β γ : Type} [Enc α] [Enc β] [Enc γ] {D : Ends}
/-! ### tests joined by and, or -/
theorem t_or {x y : Bool} (ha : JTV X p a σ H x) (hb : x = false → JTV X p b σ H y) : JTV X p (.BoolOp .Or [a, b] pos) σ H (x || y) := fun H1 g Q q =>
  of_pt (PW.pt (pw_or semT (pw_or1 semT))) (ha H1 g _ fun u H2 g2 e => by
    subst e
    cases u with
    | false => exact iteF (hb rfl H2 (g.trans g2) Q fun v H3 g3 e => q v H3 (g2.trans g3) e)
    | true => exact iteT (q _ H2 g2 rfl))
/-! ### isinstance -/
def tyN : PyData → String
  | .none => "NoneType"
  | .bool _ => "bool"
  | .int _ => "int"
  | .str _ => "str"
  | .list _ => "list"
  | .tuple _ => "tuple"
  | .dict _ => "dict"
theorem rep_ty {K : PySem.W.Frag} {J : Hp} {v : V} {d : PyData} (h : Rep K J v d) : TyX K J v (.type (tyN d)) := by
  cases h with
  | non => exact .base .non
  | bl b => exact .base (.bl b)
  | int i => exact .base (.int i)
  | str x => exact .base (.str x)
  | lst s r => exact .base (.lst s)
  | tup s r =>
    rcases s with (s | ⟨o, s⟩) | ⟨o, its, n, hk, hc, _⟩
    · exact .base (.tup s)
    · exact .fTuple s
    · exact .kTuple hk hc
  | dic s r => exact .base (.dK s)
/-! ### texts -/
/-! ### xs[::-1], zip -/
end
/-! ### comprehensions -/
section
variable {X : Cx} {p : OA} {σ : St} {H H' : Hp} {it elt c : Expr} {pos : Pos} {D : Ends}
/-- from H, where q is not, to J, where it is -/
structure Gq (p : OA) (q : Addr) (H J : Hp) : Prop where
  no : H q = none
  go : Go p H J
  yes : J q ≠ none
theorem Gq.dk {q : Addr} {H J : Hp} (g : Gq p q H J) : DOk (p.add q) J := (g.go.sup g.yes).dk
end
end Lp
set_option Elab.async false
set_option linter.all false
set_option maxRecDepth 100000
set_option maxHeartbeats 1000000
/-! Lp, part eight: set(a list of texts), sorted of it. -/
namespace Lp
open PySem PySem.Spec PySem.Calls PyProof.Rows L2
/-! ### what a set of texts is -/
def txOf (e : Int × Value) : Str := match e.2 with
  | .str x _ => x
  | _ => Str.empty
def TxE (w : World) (e : Int × Value) : Prop := ∃ x u, e.2 = Value.str x u ∧ e.1 = hashStr w x
/-- at a: the set of the texts of zs, which are different -/
structure TxSet (w : World) (h : Heap) (a : Addr) (zs : List Str) (o : Obj) (es : Array (Int × Value)) (ep : Nat) (t : SetTable) : Prop where
  at_ : h.get? a = some o
  ex : o.ExactSet
  da : o.data = .set es ep t
  el : ∀ e ∈ es.toList, TxE w e
  pm : (es.toList.map txOf).Perm zs
  nd : zs.Nodup
  sm : es.size < scanBound
  fi : t.fits es.size = true
  ri : Ris t.place.toList
  le : w.params.followText "set-order" = true ∨ t.led = true
def TxAt (w : World) (h : Heap) (a : Addr) (zs : List Str) : Prop := ∃ o es ep t, TxSet w h a zs o es ep t
section
variable {P : Program} {w : World} {A : Around} {E : Value → Shared → Prop} {s : Shared} {a : Addr} {zs : List Str}
theorem TxAt.keep {h h1 : Heap} (T : TxAt w h a zs) (k : ∀ o, h.get? a = some o → h1.get? a = some o) : TxAt w h1 a zs := by
  obtain ⟨o, es, ep, t, T⟩ := T
  exact ⟨o, es, ep, t, { T with at_ := k o T.at_ }⟩
theorem tx_elems {l : List (Int × Value)} (g : ∀ e ∈ l, TxE w e) : ElemsOf (strKind P w) l := fun e m => by
  obtain ⟨x, u, e1, e2⟩ := g e m
  refine ⟨⟨x, ?_, e2⟩, by rw [e1] <;> rfl⟩
  rw [e1]
  exact (show Value.isStrOf x (.str x u) = true by simp [Value.isStrOf])
theorem tx_is {e : Int × Value} (g : TxE w e) (k : Str) : (strKind P w).is k e.2 = true ↔ txOf e = k := by
  obtain ⟨x, u, e1, _⟩ := g
  unfold txOf
  rw [e1]
  show Value.isStrOf k (.str x u) = true ↔ x = k
  simp [Value.isStrOf]
theorem TxSet.size {o : Obj} {es : Array (Int × Value)} {ep : Nat} {t : SetTable} (T : TxSet w s.heap a zs o es ep t) : es.size = zs.length := by
  have := T.pm.length_eq
  rw [List.length_map, Array.length_toList] at this
  exact this
/-- the set's table is laid, and laid anew where it is too full -/
theorem tx_tail {gv : Bool → Sem Unit} (hgv : ∀ (b : Bool) (s1 : Shared) (R : Unit → Shared → Prop), R () s1 → wpAny (model P w) A (gv b) R E s1) {o : Obj} {es es1 : Array (Int × Value)} {ep : Nat} {t t1 : SetTable}
    (ho : s.heap.get? a = some o) (hx : o.ExactSet) (hd : o.data = .set es ep t) (g : ∀ e ∈ es1.toList, TxE w e) (pm : (es1.toList.map txOf).Perm zs) (nd : zs.Nodup) (sm : es1.size < scanBound)
    (fi : t1.fits es1.size = true) (ri : Ris t1.place.toList) (le : w.params.followText "set-order" = true ∨ t1.led = true) {dum : Bool} {R : Option Bool → Shared → Prop}
    (q : ∀ h1, Heap.SameBut a s.heap h1 → TxAt w h1 a zs → R (some true) { s with heap := h1 }) :
    wpAny (model P w) A (do
      storeSet a es1 t1
      if (!dum && t1.tooFull) = true then do
        gv (relayAll t1 es1 (SetTable.grown es1.size)).2.2
        storeSet a (relayAll t1 es1 (SetTable.grown es1.size)).1 (relayAll t1 es1 (SetTable.grown es1.size)).2.1
        pure (some true)
      else pure (some true)) R E s := by
  apply wpAny_bind
  refine wpAny_storeSet_of (hz := fits_of_scanBound sm) ho hd ?_
  have at1 := store_at (es' := es1) (t' := t1) ho hd
  have but1 := Heap.SameBut.update s.heap a (Obj.putSet es1 t1)
  by_cases c : (!dum && t1.tooFull) = true
  · rw [if_pos c]
    have p2 := relayAll_perm t1 es1 (SetTable.grown es1.size)
    have f2 := relayAll_fits t1 es1 (SetTable.grown es1.size)
    have r2 := relayAll_ris t1 es1 (SetTable.grown es1.size)
    have l2 := relayAll_led t1 es1 (SetTable.grown es1.size)
    generalize relayAll t1 es1 (SetTable.grown es1.size) = N at p2 f2 r2 l2 ⊢
    have z2 : N.1.size = es1.size := by rw [← Array.length_toList, p2.length_eq, Array.length_toList]
    have sm2 : N.1.size < scanBound := by omega
    apply wpAny_bind
    apply hgv
    apply wpAny_bind
    refine wpAny_storeSet_of (hz := fits_of_scanBound sm2) at1 rfl ?_
    have at2 := store_at (es' := N.1) (t' := N.2.1) at1 rfl
    apply wpAny_pure
    refine q _ (but1.trans (Heap.SameBut.update _ a _)) ⟨_, N.1, _, N.2.1, at2, hx, rfl, fun e m => g e (p2.mem_iff.mp m), (p2.map txOf).trans pm, nd, sm2, f2, r2, ?_⟩
    rcases le with le | le
    · exact .inl le
    · exact .inr (by rw [l2]; exact le)
  · rw [if_neg c]
    exact wpAny_pure (q _ but1 ⟨_, es1, _, t1, at1, hx, rfl, g, pm, nd, sm, fi, ri, le⟩)
/-- one more text -/
theorem tx_add {k : Str} {u : Tok} {Q : Bool → Shared → Prop} (T : TxAt w s.heap a zs) (room : zs.length + 1 < scanBound)
    (q : ∀ b h1 ys, Heap.SameBut a s.heap h1 → TxAt w h1 a ys → (∀ x, x ∈ ys ↔ x ∈ zs ∨ x = k) → ys.length ≤ zs.length + 1 → Q b { s with heap := h1 }) :
    wpAny (model P w) A (setAddHashed a (.str k u) ((strKind P w).hash k)) Q E s := by
  obtain ⟨o, es, ep, t, T⟩ := T
  have zsz := T.size
  have key : (strKind P w).is k (.str k u) = true := (show Value.isStrOf k (.str k u) = true by simp [Value.isStrOf])
  have elm : ElemsOf (strKind P w) es.toList := tx_elems T.el
  have inz : ∀ x, x ∈ zs ↔ ∃ e ∈ es.toList, (strKind P w).is x e.2 = true := fun x => by
    rw [← T.pm.mem_iff, List.mem_map]
    exact ⟨fun ⟨e, m, z⟩ => ⟨e, m, (tx_is (T.el e m) x).mpr z⟩, fun ⟨e, m, z⟩ => ⟨e, m, (tx_is (T.el e m) x).mp z⟩⟩
  unfold setAddHashed setAddHashedIn
  apply wpAny_holding
  apply wpAny_bind
  apply wpAny_setState_of T.at_ T.da T.fi
  dsimp only
  rw [byScan_of (x := Value.str k u) rfl T.sm elm]
  simp only [↓reduceIte]
  unfold setAddByScan
  apply wpAny_bind
  apply wpAny_bind
  apply wpAny_rule
  apply wpAny_bind
  refine wpAny_setScan_of key T.at_ T.da T.fi elm ?_
  cases found : List.findIdx? (fun e => (strKind P w).is k e.2) es.toList with
  | some j =>
    obtain ⟨hj, pj, _⟩ := List.findIdx?_eq_some_iff_getElem.mp found
    have kz : k ∈ zs := (inz k).mpr ⟨es.toList[j], List.getElem_mem hj, pj⟩
    dsimp only
    apply wpAny_pure
    apply wpAny_pure
    exact q _ s.heap zs (Heap.SameBut.refl a s.heap) ⟨o, es, ep, t, T⟩ (fun x => ⟨.inl, fun z => z.elim id fun e => e ▸ kz⟩) (Nat.le_succ _)
  | none =>
    have kz : k ∉ zs := fun m => by
      obtain ⟨e, he, z⟩ := (inz k).mp m
      have := List.findIdx?_eq_none_iff.mp found e he
      rw [z] at this
      cases this
    have way : ∀ (b : Bool) {s1 : Shared} {R : Unit → Shared → Prop}, R () s1 → wpAny (model P w) A (match b with
        | true => rule "set.scan.the-table-gave-way"
        | false => pure ()) R E s1 := fun b _ _ z => by
      cases b
      · exact wpAny_pure z
      · exact wpAny_rule z
    dsimp only
    have p1 := layNew_perm t es ((strKind P w).hash k) (.str k u)
    have f1 := layNew_fits t es ((strKind P w).hash k) (.str k u)
    have r1 := layNew_ris t es ((strKind P w).hash k) (.str k u) T.ri
    have l1 := layNew_led t es ((strKind P w).hash k) (.str k u)
    generalize layNew t es ((strKind P w).hash k) (.str k u) = N at p1 f1 r1 l1 ⊢
    obtain ⟨es1, t1, dum, gave⟩ := N
    dsimp only at p1 f1 r1 l1 ⊢
    rw [Array.toList_push] at p1
    have p2 : es1.toList.Perm (((strKind P w).hash k, Value.str k u) :: es.toList) := p1.trans (List.perm_append_singleton _ _)
    have pm : (es1.toList.map txOf).Perm (k :: zs) := (p2.map txOf).trans (T.pm.cons k)
    have nd : (k :: zs).Nodup := List.nodup_cons.mpr ⟨kz, T.nd⟩
    have g : ∀ e ∈ es1.toList, TxE w e := fun e m => (List.mem_cons.mp (p2.mem_iff.mp m)).elim (fun z => by rw [z]; exact ⟨k, u, rfl, rfl⟩) (T.el e)
    have z1 : es1.size = zs.length + 1 := by rw [← Array.length_toList, p2.length_eq, List.length_cons, Array.length_toList, zsz]
    have sm : es1.size < scanBound := by omega
    have le : w.params.followText "set-order" = true ∨ t1.led = true := T.le.elim .inl fun z => .inr (by rw [l1]; exact z)
    have fin : ∀ b h1, Heap.SameBut a s.heap h1 → TxAt w h1 a (k :: zs) → Q b { s with heap := h1 } := fun b h1 sb T1 =>
      q b h1 (k :: zs) sb T1 (fun x => List.mem_cons.trans Or.comm) (Nat.le_refl _)
    apply wpAny_bind
    apply way
    by_cases c : t1.plain = true
    · rw [if_pos c]
      apply wpAny_bind
      rw [hashByValue_scannable 8 (x := Value.str k u) rfl]
      apply wpAny_pure
      have fi : (if t1.plain = true then { t1 with plain := false } else t1).fits es1.size = true := by
        rw [if_pos c]
        exact SetTable.fits_plain_off f1
      have ri : Ris (if t1.plain = true then { t1 with plain := false } else t1).place.toList := by
        rw [if_pos c]
        exact r1
      have le2 : w.params.followText "set-order" = true ∨ (if t1.plain = true then { t1 with plain := false } else t1).led = true := by
        rw [if_pos c]
        exact le
      rw [if_pos c] at fi ri le2
      refine tx_tail (fun b s1 R z => ?_) T.at_ T.ex T.da g pm nd sm fi ri le2 fun h1 sb T1 => ?_
      · cases b
        · exact wpAny_pure z
        · exact wpAny_rule z
      · dsimp only
        exact wpAny_pure (fin _ h1 sb T1)
    · rw [if_neg c]
      apply wpAny_bind
      apply wpAny_pure
      simp only [↓reduceIte]
      refine tx_tail (fun b s1 R z => ?_) T.at_ T.ex T.da g pm nd sm f1 r1 le fun h1 sb T1 => ?_
      · cases b
        · exact wpAny_pure z
        · exact wpAny_rule z
      · dsimp only
        exact wpAny_pure (fin _ h1 sb T1)
/-- the loop of set(..) over any walk that gives texts -/
theorem tx_loop {I : Addr} {fp wr : List Addr} {G : Array GenState → Array GenState → Prop} {n : Nat} {Pv : Nat → Value → Prop} {St : Nat → Shared → Prop} {R : Result → Shared → Prop}
    (W : WalksS P w A.in1 I fp wr G n Pv St) (S : Addr) (out : S ∉ fp) (xs : List Str) (len : n = xs.length) (sm : xs.length + 1 < scanBound) (val : ∀ i v, Pv i v → ∃ x u, xs[i]? = some x ∧ v = .str x u) :
    ∀ (k i : Nat) (s : Shared), n - i = k → i ≤ n → St i s → (∃ ys, TxAt w s.heap S ys ∧ (∀ x, x ∈ ys ↔ x ∈ xs.take i) ∧ ys.length ≤ i) →
      (∀ s2 ys, Moved (S :: wr) G s s2 → TxAt w s2.heap S ys → (∀ x, x ∈ ys ↔ x ∈ xs) → R (.ok (.ret .none)) s2) →
      codeAny (model P w) A (.builtin "set.update.loop" ⟨[.ref S, .ref I], []⟩) R s := by
  have outw : S ∉ wr := fun z => out (W.sub _ z)
  have wide : ∀ b ∈ wr, b ∈ S :: wr := fun _ => List.mem_cons_of_mem _
  intro k
  induction k with
  | zero =>
    rintro i s hk hi st ⟨ys, T, mem, _⟩ q
    obtain rfl : i = n := by omega
    refine codeAny_builtin F.entry_set_update_loop ?_
    rw [Around.under_plainId F.plain_set_update_loop _]
    apply wpAny_bind
    refine W.done s _ _ st fun s2 mv => ?_
    apply wpAny_pure
    refine q s2 ys (mv.mono wide) (T.keep fun o e => mv.heap S o outw e) fun x => ?_
    rw [mem x, List.take_of_length_le (by omega)]
  | succ k ih =>
    rintro i s hk hi st ⟨ys, T, mem, le⟩ q
    have lt : i < n := by omega
    refine codeAny_builtin F.entry_set_update_loop ?_
    rw [Around.under_plainId F.plain_set_update_loop _]
    apply wpAny_bind
    refine W.item i s _ _ lt st fun v s2 pv st2 mv => ?_
    obtain ⟨x, u, ex, rfl⟩ := val i v pv
    have T2 : TxAt w s2.heap S ys := T.keep fun o e => mv.heap S o outw e
    dsimp only
    apply wpAny_bind
    apply wpAny_holding
    unfold setAdd
    apply wpAny_holding
    apply wpAny_bind
    refine (strKind P w).pyHash (k := x) (show Value.isStrOf x (.str x u) = true by simp [Value.isStrOf]) ?_
    refine tx_add (s := { s2 with toks := s2.toks + 1 }) T2 (by omega) fun b h1 zs sb T3 mem3 le3 => ?_
    have mem4 : ∀ y, y ∈ zs ↔ y ∈ xs.take (i + 1) := fun y => by
      rw [mem3 y, mem y, List.take_add_one, ex]
      simp [List.mem_append]
    apply wpAny_pure
    refine ⟨plainId_quiet F.plain_set_update_loop _, ih (i + 1) _ (by omega) lt (W.frame _ s2 _ _ st2 (Nat.le_succ _) fun c hc o e => ?_) ⟨zs, T3, mem4, by omega⟩ fun s3 ys3 mv3 T4 mem5 => ?_⟩
    · have nc : c ≠ S := fun z => out (z ▸ hc)
      rw [sb.2 c nc]
      exact e
    · refine q s3 ys3 (Moved.trans W.gtrans ((mv.mono wide).then_heap (Nat.le_succ _) fun c o hc e => ?_) mv3) T4 mem5
      have nc : c ≠ S := fun z => hc (z ▸ List.mem_cons_self)
      rw [sb.2 c nc]
      exact e
/-- a set as it is made -/
abbrev newSet (w : World) : Obj := { cls := .type "set", dict := none, data := .set #[] 0 (.fresh 0 0 (!w.params.followText "set-order")) }
theorem tx_new {h : Heap} (e : h.get? a = some (newSet w)) : TxAt w h a [] := by
  refine ⟨_, #[], 0, .fresh 0 0 (!w.params.followText "set-order"), e, ⟨rfl, rfl, rfl⟩, rfl, fun e m => ?_, List.Perm.refl _, List.nodup_nil, by decide, by rfl, List.Pairwise.nil, ?_⟩
  · simp at m
  · show w.params.followText "set-order" = true ∨ (!w.params.followText "set-order") = true
    cases w.params.followText "set-order"
    · exact .inr rfl
    · exact .inl rfl
theorem sa_at : ∀ {us : List Value} {xs : List Str} {i : Nat} {v : Value}, StrsAre us xs → us[i]? = some v → ∃ x u, xs[i]? = some x ∧ v = .str x u
  | _, _, _, _, .nil, h => by simp at h
  | _, _, 0, _, .cons y t r, h => ⟨y, t, rfl, (Option.some.inj h).symm⟩
  | _, _, i + 1, _, .cons y t r, h => sa_at (i := i) r h
set_option maxHeartbeats 4000000 in
/-- set(xs), xs a list of texts -/
theorem call_set_tx {l : Addr} {items : Array Value} {xs : List Str} {Q : Value → Shared → Prop} (hh : A.handled = none) (hl : s.heap.IsList l items) (hi : StrsAre items.toList xs) (sm : xs.length + 1 < scanBound)
    (q : ∀ h1 tk ys, TxAt w h1 s.heap.objs.size ys → (∀ x, x ∈ ys ↔ x ∈ xs) → (∀ b o, s.heap.get? b = some o → h1.get? b = some o) → Q (.ref s.heap.objs.size) { s with heap := h1, toks := tk }) :
    wpAny (model P w) A (call (.type "set") [.ref l]) Q E s := by
  have isz : items.size = xs.length := by
    have := hi.length
    rw [Array.length_toList] at this
    exact this
  have hmade := F.called_set.made
  have hsub := F.called_set.sub
  have h1 := F.called_set.notType
  have h2 := F.called_set.canCreate
  have hct := F.typeCall_set_1 (.ref l)
  obtain ⟨c, tl, hmro⟩ := F.called_set.mro
  apply wpAny_call
  apply codeAny_of_tree
  show wpAny _ _ (callAny (.type "set") _) _ _ _
  apply wpAny_pure
  refine ⟨Code.quiet_builtin _ (by decide +kernel), codeAny_builtin F.entry_type_call ?_⟩
  rw [Around.under_plain (weight_type_call_type "set" [.ref l] []) rfl]
  repeat (any_goals (first | assumption | wp_step))
  refine codeAny_mono (code_set_led1 (.ref l) (E := E) (Q₁ := fun ob s1 => ob = .ref s.heap.objs.size ∧ s1 = { s with heap := s.heap.push (newSet w) }) ⟨rfl, rfl⟩) fun r s1 hr => ?_
  match r, hr with
  | .error e, hr => exact hr
  | .ok (.ret ob), ⟨e1, e2⟩ =>
    subst e1 e2
    have gS : (s.heap.push (newSet w)).get? s.heap.objs.size = some (newSet w) := Heap.get?_push_size _ rfl
    have hT : Shared.TypeIs { s with heap := s.heap.push (newSet w) } (.ref s.heap.objs.size) "set" := ⟨_, gS, rfl⟩
    have hli := F.called_set.init.lookup
    have hbi := F.called_set.init.bind (.ref s.heap.objs.size)
    repeat (any_goals (first | assumption | wp_step))
    refine codeAny_mono (codeAny_call_builtin (R := wants (fun r s2 => r = .none ∧ ∃ h1 tk ys, s2 = { s with heap := h1, toks := tk } ∧ TxAt w h1 s.heap.objs.size ys ∧ (∀ x, x ∈ ys ↔ x ∈ xs) ∧ ∀ b o, s.heap.get? b = some o → h1.get? b = some o) E)
      F.called_set.init.plain F.entry_set_init (check_set_init_1 hT ?_)) fun r2 s2 hr2 => ?_
    · obtain ⟨⟨lc, ldd, lda, lsl⟩, hol, hcl, nl, hdl⟩ := hl
      simp only at hcl hdl
      subst hcl hdl
      have gL : (s.heap.push (newSet w)).get? l = some { cls := .type "list", dict := ldd, data := .seq items nl, slots := lsl } := Heap.get?_push_of_some _ hol
      have i1 := F.sub_list_set
      have i2 := F.sub_list_frozenset
      have i3 : (Value.type "list" == Value.type "dict") = false := by decide
      have isL : (s.heap.push (newSet w)).IsList l items := ⟨_, gL, rfl, nl, rfl⟩
      have ltl : l < s.heap.objs.size := Heap.lt_size hol
      have zS : (s.heap.push (newSet w)).objs.size = s.heap.objs.size + 1 := Heap.size_push ..
      have hand : A.in1.in1.in1.handled = none := by simp [hh]
      unfold Builtin.«set.__init__» noKeywords Builtin.Frozenset.updateFrom
      generalize hPI : pyIter = PI
      wp_walk
      subst hPI
      refine wpAny_pyIter_list isL ?_
      apply wpAny_bind
      apply wpAny_runValue
      have neI : l ≠ (s.heap.push (newSet w)).objs.size := fun m => Nat.ne_of_lt (Nat.lt_succ_of_lt ltl) (m.trans zS)
      have outS : s.heap.objs.size ∉ [(s.heap.push (newSet w)).objs.size, l] := fun m => by
        rcases List.mem_cons.mp m with m | m
        · exact Nat.ne_of_lt (Nat.lt_succ_self _) (m.trans zS)
        · exact Nat.ne_of_gt ltl (List.mem_singleton.mp m)
      refine tx_loop ((Walks.list hand _ l neI items).toS) s.heap.objs.size outS xs isz sm (fun i v hv => ?_) (items.size - 0) 0 _ (by omega) (Nat.zero_le _)
        ⟨⟨_, Heap.get?_push_size _ rfl, rfl, rfl⟩, (isL.push _)⟩ ⟨[], tx_new (Heap.get?_push_of_some _ gS), fun x => by simp, Nat.zero_le _⟩ fun s3 ys mv T mem => ?_
      · have hv' : items.toList[i]? = some v := by rw [Array.getElem?_toList]; exact hv
        exact sa_at hi hv'
      · obtain ⟨h3, g3, d3, tk3, os3⟩ := s3
        obtain rfl : g3 = s.gens := mv.gens
        obtain rfl : d3 = s.drawn := mv.drawn
        obtain rfl : os3 = s.os := mv.os
        apply wpAny_pure
        apply wpAny_pure
        refine ⟨rfl, h3, tk3, ys, rfl, T, mem, fun b o e => ?_⟩
        have lb : b < s.heap.objs.size := Heap.lt_size e
        refine mv.heap b o (fun m => ?_) (Heap.get?_push_of_some _ (Heap.get?_push_of_some _ e))
        rcases List.mem_cons.mp m with m | m
        · exact Nat.ne_of_lt lb m
        · exact Nat.ne_of_lt (Nat.lt_succ_of_lt lb) ((List.mem_singleton.mp m).trans zS)
    · match r2, hr2 with
      | .error e, hr2 => exact hr2
      | .ok (.ret v), ⟨e1, h3, tk, ys, e2, T, mem, kp⟩ =>
        subst e1 e2
        repeat (any_goals (first | assumption | wp_step))
        exact q _ _ _ T mem kp
set_option maxHeartbeats 4000000 in
/-- sorted(such a set) -/
theorem call_sorted_tx {Q : Value → Shared → Prop} (T : TxAt w s.heap a zs) (hh : A.handled = none)
    (q : ∀ s1 p (out : Array Value) c ys, (∀ b o, s.heap.get? b = some o → s1.heap.get? b = some o) → s1.gens = s.gens → s1.os = s.os → s.heap.objs.size ≤ p → s1.heap.get? p = some (seqObj "list" out c) → StrsAre out.toList ys →
      ys.Perm zs → sortedS ys = true → Q (.ref p) s1) : wpAny (model P w) A (call (.builtin "sorted") [.ref a]) Q E s := by
  obtain ⟨o, es, ep, t, T⟩ := T
  have zsz := T.size
  refine Calls.call_function_entry kind_sorted plain_sorted entry_sorted (args_sorted1 _) ?_
  unfold Builtin.«sorted»
  refine wpAny_bind (m := checkCount "sorted" 1 1 _) ?_
  apply wpAny_pure
  apply wpAny_bind
  refine collect_set (A := A.in1) hh ⟨o, T.at_, T.ex.1, T.da⟩ T.fi T.sm T.ri T.le fun s1 vs k1 hz g1 o1 pm => ?_
  have vl : vs.length = zs.length := by rw [pm.length_eq, List.length_map, Array.length_toList, zsz]
  have small : vs.length ≤ sizeLine := by
    rw [vl, ← zsz]
    exact fits_of_scanBound T.sm
  have allTx : ∀ us : List Value, (∀ v ∈ us, ∃ x u, v = Value.str x u) → ∃ xs, StrsAre us xs ∧ xs = us.map fun v => match v with
      | .str x _ => x
      | _ => Str.empty := fun us => by
    induction us with
    | nil => exact fun _ => ⟨[], .nil, rfl⟩
    | cons v r ih =>
      intro h
      obtain ⟨x, u, rfl⟩ := h v List.mem_cons_self
      obtain ⟨xs, i1, i2⟩ := ih fun v m => h v (List.mem_cons_of_mem _ m)
      exact ⟨x :: xs, .cons x u i1, by rw [List.map_cons, ← i2]⟩
  obtain ⟨xs, hS, exs⟩ := allTx vs fun v m => by
    obtain ⟨e, he, z⟩ := List.mem_map.mp (pm.mem_iff.mp m)
    obtain ⟨x, u, e1, _⟩ := T.el e he
    exact ⟨x, u, z.symm.trans e1⟩
  have pz : xs.Perm zs := by
    have p1 := pm.map fun v => match v with
      | Value.str x _ => x
      | _ => Str.empty
    rw [← exs, List.map_map] at p1
    exact p1.trans T.pm
  apply wpAny_bind
  refine wpAny_newList ?_ small
  have gL : (s1.heap.push (seqObj "list" vs.toArray 0)).get? s1.heap.objs.size = some (seqObj "list" vs.toArray 0) := Heap.get?_push_size _ rfl
  apply wpAny_bind
  apply wpAny_holding
  refine wpAny_call_entry slot_list_sort ⟨_, gL, rfl⟩ entry_list_sort (list_sort_treeKAny strKind_oneLt gL hS.keysOf (fun v1 v2 rest e => keyKind_strs (by rw [← e]; exact hS)) small fun st hp hs => ?_) (args_list_sort _)
  obtain ⟨ys, y1, y2, y3⟩ := sorted_out_str hS hp hs
  obtain ⟨c, hc⟩ := sortedHeap_at (vs := vs) (out := (arrOf st).map (·.2)) gL
  refine ⟨_, rfl, ?_⟩
  apply wpAny_pure
  refine ⟨_, rfl, q _ s1.heap.objs.size _ c ys (fun b u e => ?_) g1 o1 hz hc y1 (y2.trans pz) y3⟩
  have e1 := k1 b u e
  have lb := Heap.lt_size e1
  have e2 := Heap.get?_push_of_some (seqObj "list" vs.toArray 0) e1
  refine (sortedHeap_old (Nat.ne_of_lt lb) ?_).trans e2
  rw [Heap.size_push]
  exact Nat.lt_succ_of_lt lb
end
/-! ### as rules of the layer -/
def SetX (w : World) (a : Addr) (zs : List Str) : HO := .ext fun h => TxAt w h a zs
theorem setX_new {P : Program} {w : World} {H : Hp} {h : Heap} {a : Addr} {zs : List Str} (T : TxAt w h a zs) : ObjOk P w H h a (SetX w a zs) :=
  ⟨T, let ⟨o, _, _, _, t⟩ := T; ⟨o, t.at_⟩, fun h1 h2 t k => t.keep k⟩
section
variable {X : Cx}
def rSetX (w : World) : List V → Hp → VK → Prop := fun vs H Q => ∃ (l : Addr) (xs : List Str), vs = [.ref l] ∧ H l = some (.lst (xs.map V.str)) ∧ xs.length ≤ 4000 ∧
  ∀ p ys, H p = none → (∀ x, x ∈ ys ↔ x ∈ xs) → Q (.ref p) (upd H p (SetX w p ys))
theorem cr_setX (hc : X.calm = true) : CallR X (.type "set") (rSetX X.w) := by
  intro pins s σ H vs us Q I r h
  obtain ⟨l, xs, rfl, hl, hz, q⟩ := h
  obtain ⟨its, rv, pl, _⟩ := I.list (.inl (.inl hl))
  rw [Vals.ref1 r]
  refine call_set_tx (P := X.prog) (w := X.w) (I.ok.hd hc) pl.isList rv.strs (by unfold scanBound; omega) fun h1 tk ys T mem k => ?_
  exact ⟨.ref s.heap.objs.size, _, I.laid (t' := tk) k (Nat.le_refl _) (setX_new T), rfl, q _ ys (I.hok.fresh (Nat.le_refl _)) mem⟩
def rSortX (w : World) : List V → Hp → VK → Prop := fun vs H Q => ∃ (a : Addr) (zs : List Str), vs = [.ref a] ∧ H a = some (SetX w a zs) ∧
  ∀ p ys, H p = none → ys.Perm zs → sortedS ys = true → ys.Nodup → Q (.ref p) (upd H p (.lst (ys.map V.str)))
theorem cr_sortX (hc : X.calm = true) : CallR X (.builtin "sorted") (rSortX X.w) := by
  intro pins s σ H vs us Q I r h
  obtain ⟨a, zs, rfl, ha, q⟩ := h
  have T : TxAt X.w s.heap a zs := (I.hok a _ ha).1
  have nd : zs.Nodup := let ⟨_, _, _, _, t⟩ := T; t.nd
  have lz : zs.length ≤ sizeLine := let ⟨_, _, _, _, t⟩ := T; by rw [← t.size]; exact fits_of_scanBound t.sm
  rw [Vals.ref1 r]
  refine call_sorted_tx (P := X.prog) (w := X.w) T (I.ok.hd hc) fun s1 p out c ys k hg ho hp gp hS pm srt => ?_
  have hn : H p = none := I.hok.fresh hp
  obtain ⟨h1, g1, d1, t1, os1⟩ := s1
  obtain rfl : g1 = s.gens := hg
  obtain rfl : os1 = s.os := ho
  have hlen : (ys.map V.str).length ≤ sizeLine := by rw [List.length_map, pm.length_eq]; exact lz
  have J : Inv X pins σ (upd H p (.lst (ys.map V.str))) { heap := h1, gens := s.gens, drawn := d1, toks := t1, os := s.os } :=
    I.call (h' := h1) (g' := s.gens) (d' := d1) (t' := t1) (ch := []) (Un.laid k hp hn) (I.hok.laid k hp ⟨hlen, out.toList, c, vals_of_strs hS, gp⟩) I.bare (fun _ z => nomatch z)
  exact ⟨.ref p, _, J, rfl, q p ys hn pm srt (pm.nodup_iff.mpr nd)⟩
end
end Lp
set_option Elab.async false
set_option linter.all false
set_option maxRecDepth 100000
set_option maxHeartbeats 4000000
/-! Mo, part one: data, how the heap stands for it, the state of a def's body. -/
namespace Mo
open PySem PySem.Spec L2
/-! ### data -/
/-- at a: a dict of texts that others may fill, each of its entries one of m -/
def VagD (w : World) (a : Addr) (m : List (Str × Str)) : HO := .ext fun h => (a == sysModules) = false ∧ ∃ kvs : List (Str × Str), (kvs.map (·.1)).Nodup ∧ (∀ x ∈ kvs, x ∈ m) ∧ ∃ vs, KV (kvs.map fun x => ((Sum.inr x.1 : Key), V.str x.2)) vs ∧ ∀ P : Program, h.DictOf (mixKind P w) a vs
inductive D where
  | non | bl (b : Bool) | int (i : Int) | str (x : Str)
  | lst (xs : List D) | tup (xs : List D)
  | dk (kvs : List (Key × D)) | dt (kvs : List (List Key × D))
  | ins (C : Addr) (fs : List (Str × D))
  | sx (w : World) (xs : List Str)
  | cl (C : Addr)
  | vd (w : World) (m : List (Str × Str))
  | any
  | exv (C : Addr) (fs : List (Str × D))
instance : Inhabited D := ⟨.non⟩
/-- a thing that is still the def's own -/
inductive O where
  | l (xs : List D) | k (kvs : List (Key × D)) | t (kvs : List (List Key × D)) | n (C : Addr) (fs : List (Str × D))
def O.d : O → D
  | .l xs => .lst xs
  | .k kvs => .dk kvs
  | .t kvs => .dt kvs
  | .n C fs => .ins C fs
/-! ### what is hidden -/
structure Mt where
  d : Option Addr
  o : List Addr
abbrev Mt.add (p : Mt) (q : Addr) : Mt := ⟨p.d, q :: p.o⟩
abbrev Mt.rem (p : Mt) (q : Addr) : Mt := ⟨p.d, p.o.filter fun a => decide (a ≠ q)⟩
def Hid (p : Mt) (b : Addr) : Prop := p.d = some b ∨ b ∈ p.o
instance {p : Mt} {b : Addr} : Decidable (Hid p b) := inferInstanceAs (Decidable (p.d = some b ∨ b ∈ p.o))
def del (p : Mt) (H : Hp) : Hp := fun b => if Hid p b then none else H b
section
variable {p p' : Mt} {H H' : Hp} {b q : Addr} {o u : HO}
theorem del_of (h : del p H b = some o) : H b = some o := by
  unfold del at h
  split at h
  · cases h
  · exact h
theorem del_no (h : del p H b = some o) : ¬ Hid p b := fun z => by
  unfold del at h
  rw [if_pos z] at h
  cases h
theorem del_at (h : ¬ Hid p b) : del p H b = H b := if_neg h
theorem del_hid (h : Hid p b) : del p H b = none := if_pos h
end
def isD : HO → Bool
  | .dK _ => true
  | .dT _ => true
  | _ => false
/-- what is read as u: u itself; a dict while it is walked, too -/
def Vw (H : Hp) (a : Addr) (u : HO) : Prop := H a = some u ∨ (isD u = true ∧ ∃ o, H a = some (.frz o u))
section
variable {p p' : Mt} {H H' : Hp} {b q : Addr} {o u : HO}
theorem vw_of (h : Vw (del p H) b o) : Vw H b o := h.elim (fun z => .inl (del_of z)) fun ⟨i, u, z⟩ => .inr ⟨i, u, del_of z⟩
theorem vw_no (h : Vw (del p H) b o) : ¬ Hid p b := h.elim del_no fun ⟨_, _, z⟩ => del_no z
theorem vw_at (h : ¬ Hid p b) (r : Vw H b o) : Vw (del p H) b o := r.elim (fun z => .inl (by rw [del_at h]; exact z)) fun ⟨i, u, z⟩ => .inr ⟨i, u, by rw [del_at h]; exact z⟩
theorem Vw.rd (h : Vw H b o) : Rd H b o := h.elim .inl fun ⟨_, z⟩ => .inr z
theorem Vw.ex (h : Vw H b o) (n : isD o = false) : H b = some o := h.elim id fun ⟨i, _⟩ => by rw [n] at i; cases i
end
theorem sl_of {K : PySem.W.Frag} {p : Mt} {H : Hp} {a : Addr} {xs : List V} (h : SqL K (del p H) a xs) : SqL K H a xs := h.elim (fun z => .inl (z.elim (fun y => .inl (del_of y)) fun ⟨o, y⟩ => .inr ⟨o, del_of y⟩)) .inr
/-- a dict that is walked -/
def isFD : HO → Bool
  | .frz _ u => isD u
  | _ => false
/-- what can be read in H can be read in H' -/
def Le (H H' : Hp) : Prop := ∀ a u, isFD u = false → Vw H a u → Vw H' a u
theorem Le.refl (H : Hp) : Le H H := fun _ _ _ h => h
theorem Le.trans {H H1 H2 : Hp} (a : Le H H1) (b : Le H1 H2) : Le H H2 := fun x u n h => b x u n (a x u n h)
theorem Le.of {H H' : Hp} (h : ∀ a o, H a = some o → H' a = some o) : Le H H' := fun a u _ r => r.elim (fun z => .inl (h a u z)) fun ⟨i, o, z⟩ => .inr ⟨i, o, h a _ z⟩
section
variable {K : PySem.W.Frag} {H H' : Hp} {a : Addr} {xs : List V}
theorem Le.ex {o : HO} (e : Le H H') (h : H a = some o) (n : isD o = false) (f : isFD o = false := by rfl) : H' a = some o := (e a o f (.inl h)).ex n
theorem sl_le (e : Le H H') (h : SqL K H a xs) : SqL K H' a xs := h.elim (fun z => .inl (z.elim (fun y => .inl (e.ex y rfl)) fun ⟨o, y⟩ => .inr ⟨o, e.ex y rfl⟩)) .inr
/-! ### the heap stands for data -/
mutual
inductive Rep (K : PySem.W.Frag) (H : Hp) : V → D → Prop
  | non : Rep K H .non .non
  | bl (b : Bool) : Rep K H (.bl b) (.bl b)
  | int (i : Int) : Rep K H (.int i) (.int i)
  | str (x : Str) : Rep K H (.str x) (.str x)
  | lst {a : Addr} {xs : List V} {ds : List D} : SqL K H a xs → Reps K H xs ds → Rep K H (.ref a) (.lst ds)
  | tup {a : Addr} {xs : List V} {ds : List D} : H a = some (.tup xs) → Reps K H xs ds → Rep K H (.ref a) (.tup ds)
  | dk {a : Addr} {kvs : List (Key × V)} {es : List (Key × D)} : Vw H a (.dK kvs) → RepK K H kvs es → Rep K H (.ref a) (.dk es)
  | dt {a : Addr} {kvs : List (List Key × V)} {es : List (List Key × D)} : Vw H a (.dT kvs) → RepT K H kvs es → Rep K H (.ref a) (.dt es)
  | ins {a C dx : Addr} {fs : List (Str × V)} {es : List (Str × D)} : H a = some (.ins C dx fs) → RepF K H fs es → Rep K H (.ref a) (.ins C es)
  | sx {a : Addr} {w : World} {zs xs : List Str} : H a = some (Lp.SetX w a zs) → (∀ y, y ∈ zs ↔ y ∈ xs) → Rep K H (.ref a) (.sx w xs)
  | cl (C : Addr) : Rep K H (.ref C) (.cl C)
  | vd {a : Addr} {w : World} {m : List (Str × Str)} : H a = some (VagD w a m) → Rep K H (.ref a) (.vd w m)
  | any (a : Addr) : Rep K H (.ref a) .any
  | exn {a C : Addr} : H a = some (L2.exo a C none) → Rep K H (.ref a) (.exv C [])
  | exf {a C dx : Addr} {f : Str} {v : V} {d : D} : H a = some (L2.exo a C (some dx)) → H dx = some (L2.exd dx [(f, v)]) → Rep K H v d → Rep K H (.ref a) (.exv C [(f, d)])
inductive Reps (K : PySem.W.Frag) (H : Hp) : List V → List D → Prop
  | nil : Reps K H [] []
  | cons {v : V} {vs : List V} {d : D} {ds : List D} : Rep K H v d → Reps K H vs ds → Reps K H (v :: vs) (d :: ds)
inductive RepK (K : PySem.W.Frag) (H : Hp) : List (Key × V) → List (Key × D) → Prop
  | nil : RepK K H [] []
  | cons {k : Key} {v : V} {d : D} {kvs : List (Key × V)} {es : List (Key × D)} : Rep K H v d → RepK K H kvs es → RepK K H ((k, v) :: kvs) ((k, d) :: es)
inductive RepT (K : PySem.W.Frag) (H : Hp) : List (List Key × V) → List (List Key × D) → Prop
  | nil : RepT K H [] []
  | cons {k : List Key} {v : V} {d : D} {kvs : List (List Key × V)} {es : List (List Key × D)} : Rep K H v d → RepT K H kvs es → RepT K H ((k, v) :: kvs) ((k, d) :: es)
inductive RepF (K : PySem.W.Frag) (H : Hp) : List (Str × V) → List (Str × D) → Prop
  | nil : RepF K H [] []
  | cons {k : Str} {v : V} {d : D} {kvs : List (Str × V)} {es : List (Str × D)} : Rep K H v d → RepF K H kvs es → RepF K H ((k, v) :: kvs) ((k, d) :: es)
end
mutual
theorem Rep.le (e : Le H H') : ∀ {v : V} {d : D}, Rep K H v d → Rep K H' v d
  | _, _, .non => .non
  | _, _, .bl b => .bl b
  | _, _, .int i => .int i
  | _, _, .str x => .str x
  | _, _, .lst h r => .lst (sl_le e h) (Reps.le e r)
  | _, _, .tup h r => .tup (e.ex h rfl) (Reps.le e r)
  | _, _, .dk h r => .dk (e _ _ rfl h) (RepK.le e r)
  | _, _, .dt h r => .dt (e _ _ rfl h) (RepT.le e r)
  | _, _, .ins h r => .ins (e.ex h rfl) (RepF.le e r)
  | _, _, .sx h r => .sx (e.ex h rfl) r
  | _, _, .cl C => .cl C
  | _, _, .vd h => .vd (e.ex h rfl)
  | _, _, .any a => .any a
  | _, _, .exn h => .exn (e.ex h rfl)
  | _, _, .exf h h2 r => .exf (e.ex h rfl) (e.ex h2 rfl) (Rep.le e r)
theorem Reps.le (e : Le H H') : ∀ {vs : List V} {ds : List D}, Reps K H vs ds → Reps K H' vs ds
  | _, _, .nil => .nil
  | _, _, .cons h r => .cons (Rep.le e h) (Reps.le e r)
theorem RepK.le (e : Le H H') : ∀ {vs : List (Key × V)} {ds : List (Key × D)}, RepK K H vs ds → RepK K H' vs ds
  | _, _, .nil => .nil
  | _, _, .cons h r => .cons (Rep.le e h) (RepK.le e r)
theorem RepT.le (e : Le H H') : ∀ {vs : List (List Key × V)} {ds : List (List Key × D)}, RepT K H vs ds → RepT K H' vs ds
  | _, _, .nil => .nil
  | _, _, .cons h r => .cons (Rep.le e h) (RepT.le e r)
theorem RepF.le (e : Le H H') : ∀ {vs : List (Str × V)} {ds : List (Str × D)}, RepF K H vs ds → RepF K H' vs ds
  | _, _, .nil => .nil
  | _, _, .cons h r => .cons (Rep.le e h) (RepF.le e r)
end
theorem Reps.len {vs : List V} {ds : List D} (h : Reps K H vs ds) : vs.length = ds.length := by
  induction vs generalizing ds with
  | nil =>
    cases h
    rfl
  | cons v r ih =>
    cases h with
    | cons a b => exact congrArg (· + 1) (ih b)
theorem Reps.get {vs : List V} {ds : List D} (h : Reps K H vs ds) : ∀ {i : Nat} {v : V}, vs[i]? = some v → ∃ d, ds[i]? = some d ∧ Rep K H v d := by
  induction vs generalizing ds with
  | nil => exact fun e => by simp at e
  | cons u r ih =>
    cases h with
    | cons a b =>
      intro i v e
      cases i with
      | zero => exact ⟨_, rfl, by cases e; exact a⟩
      | succ j => exact ih b e
theorem Reps.getD {vs : List V} {ds : List D} (h : Reps K H vs ds) : ∀ {i : Nat} {d : D}, ds[i]? = some d → ∃ v, vs[i]? = some v ∧ Rep K H v d := by
  induction vs generalizing ds with
  | nil =>
    cases h
    exact fun e => by simp at e
  | cons u r ih =>
    cases h with
    | cons a b =>
      intro i v e
      cases i with
      | zero => exact ⟨_, rfl, by cases e; exact a⟩
      | succ j => exact ih b e
theorem Reps.app {vs us : List V} {ds es : List D} (h : Reps K H vs ds) (h2 : Reps K H us es) : Reps K H (vs ++ us) (ds ++ es) := by
  induction vs generalizing ds with
  | nil =>
    cases h
    exact h2
  | cons u r ih =>
    cases h with
    | cons a b => exact .cons a (ih b)
end
theorem rep_int {K : PySem.W.Frag} {J : Hp} {v : V} {i : Int} (h : Rep K J v (.int i)) : v = .int i := by cases h; rfl
theorem rep_bl {K : PySem.W.Frag} {J : Hp} {v : V} {i : Bool} (h : Rep K J v (.bl i)) : v = .bl i := by cases h; rfl
theorem rep_str {K : PySem.W.Frag} {J : Hp} {v : V} {i : Str} (h : Rep K J v (.str i)) : v = .str i := by cases h; rfl
/-! ### what an own thing holds -/
def OwnAt (K : PySem.W.Frag) (F H : Hp) (q : Addr) : O → Prop
  | .l xs => ∃ vs, H q = some (.lst vs) ∧ Reps K F vs xs
  | .k kvs => ∃ vs, H q = some (.dK vs) ∧ RepK K F vs kvs
  | .t kvs => ∃ vs, H q = some (.dT vs) ∧ RepT K F vs kvs
  | .n C fs => ∃ dx vs, H q = some (.ins C dx vs) ∧ RepF K F vs fs
theorem OwnAt.le {K : PySem.W.Frag} {F F' H H' : Hp} {q : Addr} {o : O} (h : OwnAt K F H q o) (e : Le F F') (eq : H' q = H q) : OwnAt K F' H' q o := by
  cases o with
  | l xs =>
    obtain ⟨vs, h1, h2⟩ := h
    exact ⟨vs, by rw [eq]; exact h1, h2.le e⟩
  | k xs =>
    obtain ⟨vs, h1, h2⟩ := h
    exact ⟨vs, by rw [eq]; exact h1, h2.le e⟩
  | t xs =>
    obtain ⟨vs, h1, h2⟩ := h
    exact ⟨vs, by rw [eq]; exact h1, h2.le e⟩
  | n C fs =>
    obtain ⟨dx, vs, h1, h2⟩ := h
    exact ⟨dx, vs, by rw [eq]; exact h1, h2.le e⟩
theorem OwnAt.there {K : PySem.W.Frag} {F H : Hp} {q : Addr} {o : O} (h : OwnAt K F H q o) : H q ≠ none := by
  cases o with
  | l xs =>
    obtain ⟨vs, h1, h2⟩ := h
    rw [h1]
    exact Option.some_ne_none _
  | k xs =>
    obtain ⟨vs, h1, h2⟩ := h
    rw [h1]
    exact Option.some_ne_none _
  | t xs =>
    obtain ⟨vs, h1, h2⟩ := h
    rw [h1]
    exact Option.some_ne_none _
  | n C fs =>
    obtain ⟨dx, vs, h1, h2⟩ := h
    rw [h1]
    exact Option.some_ne_none _
/-- an own thing that is shown -/
theorem OwnAt.rep {K : PySem.W.Frag} {F H : Hp} {q : Addr} {o : O} (h : OwnAt K F H q o) (e : F q = H q) : Rep K F (.ref q) o.d := by
  cases o with
  | l xs =>
    obtain ⟨vs, h1, h2⟩ := h
    exact .lst (.inl (.inl (by rw [e]; exact h1))) h2
  | k xs =>
    obtain ⟨vs, h1, h2⟩ := h
    exact .dk (.inl (by rw [e]; exact h1)) h2
  | t xs =>
    obtain ⟨vs, h1, h2⟩ := h
    exact .dt (.inl (by rw [e]; exact h1)) h2
  | n C fs =>
    obtain ⟨dx, vs, h1, h2⟩ := h
    exact .ins (by rw [e]; exact h1) h2
theorem mut_ne {o : Option HO} (h : Mut o) : o ≠ none := fun z => by rw [z] at h; exact h
theorem mut_tup {o : Option HO} {xs : List V} (h : Mut o) : o ≠ some (.tup xs) := fun z => by rw [z] at h; exact h
theorem mut_frz {o : Option HO} {x : Obj} {u : HO} (h : Mut o) : o ≠ some (.frz x u) := fun z => by rw [z] at h; exact h
theorem mut_nf {o : HO} (h : Mut (some o)) : isFD o ≠ true := fun z => by
  cases o <;> first | (cases z; done) | exact h
theorem OwnAt.mut {K : PySem.W.Frag} {F H : Hp} {q : Addr} {o : O} (h : OwnAt K F H q o) : Mut (H q) := by
  cases o with
  | l xs =>
    obtain ⟨vs, h1, h2⟩ := h
    rw [h1]
    trivial
  | k xs =>
    obtain ⟨vs, h1, h2⟩ := h
    rw [h1]
    trivial
  | t xs =>
    obtain ⟨vs, h1, h2⟩ := h
    rw [h1]
    trivial
  | n C fs =>
    obtain ⟨dx, vs, h1, h2⟩ := h
    rw [h1]
    trivial
/-! ### the state -/
/-- what the parameter holds that may be changed (the dice, an object) -/
abbrev C3 := O
inductive Sl where
  | un | v (d : D) | o (o : O) | di
structure G where
  s : List Sl
  c : C3
def G.set (g : G) (i : Nat) (x : Sl) : G := ⟨g.s.set i x, g.c⟩
structure Rl (K : PySem.W.Frag) (J : Hp) (p : Mt) (g : G) (σ : St) (H : Hp) : Prop where
  len : g.s.length = σ.length
  old : ∀ a o, p.d ≠ some a → J a = some o → H a = some o
  dice : ∀ a, p.d = some a → OwnAt K (del p H) H a g.c
  dno : ∀ a, p.d = some a → a ∉ p.o
  lv : ∀ a ∈ p.o, Mut (H a)
  fz : ∀ a o, isFD o = true → H a = some o → J a = some o
  sv : ∀ (i : Nat) d, g.s[i]? = some (.v d) → ∃ v, σ[i]? = some (some v) ∧ Rep K (del p H) v d
  so : ∀ (i : Nat) o, g.s[i]? = some (.o o) → ∃ q, σ[i]? = some (some (.ref q)) ∧ q ∈ p.o ∧ J q = none ∧ OwnAt K (del p H) H q o
  sd : ∀ i : Nat, g.s[i]? = some .di → ∃ a, σ[i]? = some (some (.ref a)) ∧ p.d = some a
  inj : ∀ (i j : Nat) o o' q, g.s[i]? = some (.o o) → g.s[j]? = some (.o o') → σ[i]? = some (some (.ref q)) → σ[j]? = some (some (.ref q)) → i = j
/-- q belongs to no slot -/
def NoSl (g : G) (σ : St) (q : Addr) : Prop := ∀ (i : Nat) o, g.s[i]? = some (.o o) → σ[i]? ≠ some (some (.ref q))
/-- from one state to the next, the slots' values as they are -/
structure Ad (g : G) (σ : St) (p : Mt) (H : Hp) (g' : G) (p' : Mt) (H' : Hp) : Prop where
  dd : p'.d = p.d
  le : Le (del p H) (del p' H')
  ex : ∀ a ∈ p.o, NoSl g σ a → a ∈ p'.o ∧ H' a = H a
  sl : ∀ a, NoSl g σ a → NoSl g' σ a
  th : ∀ a, H a ≠ none → H' a ≠ none
theorem Ad.refl {g : G} {σ : St} {p : Mt} {H : Hp} : Ad g σ p H g p H := ⟨rfl, .refl _, fun _ h _ => ⟨h, rfl⟩, fun _ h => h, fun _ h => h⟩
theorem Ad.gone {g g' : G} {σ : St} {p p' : Mt} {H H' : Hp} {q : Addr} (a : Ad g σ p H g' p' H') (h : H' q = none) : H q = none := by
  cases e : H q with
  | none => rfl
  | some o => exact absurd h (a.th q (by rw [e]; exact Option.some_ne_none _))
theorem upd_th {H : Hp} {q : Addr} {o : HO} : ∀ a, H a ≠ none → upd H q o a ≠ none := fun a h => by
  by_cases e : a = q
  · rw [e, upd_same]
    exact Option.some_ne_none _
  · rw [upd_ne e]
    exact h
theorem Ad.trans {g g1 g2 : G} {σ : St} {p p1 p2 : Mt} {H H1 H2 : Hp} (a : Ad g σ p H g1 p1 H1) (b : Ad g1 σ p1 H1 g2 p2 H2) : Ad g σ p H g2 p2 H2 :=
  ⟨b.dd.trans a.dd, a.le.trans b.le, fun x hx n => by
    obtain ⟨h1, h2⟩ := a.ex x hx n
    obtain ⟨h3, h4⟩ := b.ex x h1 (a.sl x n)
    exact ⟨h3, h4.trans h2⟩, fun x n => b.sl x (a.sl x n), fun x n => b.th x (a.th x n)⟩
section
variable {K : PySem.W.Frag} {J : Hp} {p : Mt} {g : G} {σ : St} {H : Hp} {q : Addr} {o : HO}
theorem Rl.ne (R : Rl K J p g σ H) (h : H q = none) : ¬ Hid p q := fun e => by
  rcases e with e | e
  · exact mut_ne (R.dice q e).mut h
  · exact mut_ne (R.lv q e) h
theorem Rl.jn (R : Rl K J p g σ H) (h : H q = none) : J q = none := by
  cases e : J q with
  | none => rfl
  | some o =>
    have := R.old q o (fun z => R.ne h (.inl z)) e
    rw [h] at this
    cases this
/-- a new object that all may see -/
theorem Rl.new (R : Rl K J p g σ H) (h : H q = none) (nf : isFD o = false := by rfl) : Rl K J p g σ (upd H q o) ∧ Ad g σ p H g p (upd H q o) ∧ del p (upd H q o) q = some o := by
  have n := R.ne h
  have e1 : ∀ a u, H a = some u → upd H q o a = some u := fun a u e => by rw [upd_ne (ne_of_none e h)]; exact e
  have e2 : Le (del p H) (del p (upd H q o)) := .of fun a u e => by
    rw [del_at (del_no e)]
    exact e1 a u (del_of e)
  have e3 : ∀ a, a ∈ p.o → upd H q o a = H a := fun a m => upd_ne fun z => n (.inr (z ▸ m))
  refine ⟨⟨R.len, fun a u na e => e1 a u (R.old a u na e), fun a e => (R.dice a e).le e2 (upd_ne fun z => n (.inl (z ▸ e))), R.dno, fun a m => ?_, fun a o f e => ?_, fun i d e => ?_, fun i d e => ?_, R.sd, R.inj⟩, ⟨rfl, e2, fun a m _ => ⟨m, e3 a m⟩, fun _ h => h, upd_th⟩, by rw [del_at n, upd_same]⟩
  · rw [e3 a m]
    exact R.lv a m
  · by_cases z : a = q
    · rw [z, upd_same] at e
      cases e
      rw [nf] at f
      cases f
    · rw [upd_ne z] at e
      exact R.fz a o f e
  · obtain ⟨v, h1, h2⟩ := R.sv i d e
    exact ⟨v, h1, h2.le e2⟩
  · obtain ⟨x, h1, h2, h3, h4⟩ := R.so i d e
    exact ⟨x, h1, h2, h3, h4.le e2 (e3 x h2)⟩
/-- a new object that is kept hidden -/
theorem Rl.hide (R : Rl K J p g σ H) (h : H q = none) (mu : Mut (some o) := by trivial) : Rl K J (p.add q) g σ (upd H q o) ∧ Ad g σ p H g (p.add q) (upd H q o) ∧ q ∈ (p.add q).o ∧ J q = none ∧ NoSl g σ q ∧ Le (del p H) (del (p.add q) (upd H q o)) := by
  have n := R.ne h
  have e1 : ∀ a u, H a = some u → upd H q o a = some u := fun a u e => by rw [upd_ne (ne_of_none e h)]; exact e
  have e2 : Le (del p H) (del (p.add q) (upd H q o)) := .of fun a u e => by
    have na : a ≠ q := ne_of_none (del_of e) h
    rw [del_at (fun z : Hid (p.add q) a => del_no e (Or.imp id (fun y => (List.mem_cons.mp y).resolve_left na) z))]
    exact e1 a u (del_of e)
  have e3 : ∀ a, a ∈ p.o → upd H q o a = H a := fun a m => upd_ne fun z => n (.inr (z ▸ m))
  have ns : NoSl g σ q := fun i o e z => by
    obtain ⟨x, h1, h2, _⟩ := R.so i o e
    rw [h1] at z
    cases z
    exact n (.inr h2)
  refine ⟨⟨R.len, fun a u na e => e1 a u (R.old a u na e), fun a e => (R.dice a e).le e2 (upd_ne fun z => n (.inl (z ▸ e))), fun a e m => ?_, fun a m => ?_, fun a o f e => ?_, fun i d e => ?_, fun i d e => ?_, R.sd, R.inj⟩, ⟨rfl, e2, fun a m _ => ⟨List.mem_cons_of_mem _ m, e3 a m⟩, fun _ h => h, upd_th⟩, List.mem_cons_self, R.jn h, ns, e2⟩
  · rcases List.mem_cons.mp m with z | m
    · exact n (.inl (by rw [← z]; exact e))
    · exact R.dno a e m
  · rcases List.mem_cons.mp m with z | m
    · rw [z, upd_same]
      exact mu
    · rw [e3 a m]
      exact R.lv a m
  · by_cases z : a = q
    · rw [z, upd_same] at e
      cases e
      exact absurd f (mut_nf mu)
    · rw [upd_ne z] at e
      exact R.fz a o f e
  · obtain ⟨v, h1, h2⟩ := R.sv i d e
    exact ⟨v, h1, h2.le e2⟩
  · obtain ⟨x, h1, h2, h3, h4⟩ := R.so i d e
    exact ⟨x, h1, List.mem_cons_of_mem _ h2, h3, h4.le e2 (e3 x h2)⟩
theorem del_rem {p : Mt} {q : Addr} {H : Hp} : Le (del p H) (del (p.rem q) H) := .of fun a u e => by
  rw [del_at fun z : Hid (p.rem q) a => del_no e (Or.imp id (fun y => (List.mem_filter.mp y).1) z)]
  exact del_of e
/-- what is hidden and no slot's is shown -/
theorem Rl.show_ (R : Rl K J p g σ H) (n : NoSl g σ q) (m : q ∈ p.o) : Rl K J (p.rem q) g σ H ∧ del (p.rem q) H q = H q := by
  refine ⟨⟨R.len, R.old, fun a e => (R.dice a e).le del_rem rfl, fun a e m => R.dno a e (List.mem_filter.mp m).1, fun a m => R.lv a (List.mem_filter.mp m).1, R.fz, fun i d e => ?_, fun i d e => ?_, R.sd, R.inj⟩, del_at fun z => ?_⟩
  · obtain ⟨v, h1, h2⟩ := R.sv i d e
    exact ⟨v, h1, h2.le del_rem⟩
  · obtain ⟨x, h1, h2, h3, h4⟩ := R.so i d e
    refine ⟨x, h1, List.mem_filter.mpr ⟨h2, decide_eq_true fun z => n i d e (by rw [h1, z])⟩, h3, h4.le del_rem rfl⟩
  · rcases z with z | z
    · exact R.dno q z m
    · have := (List.mem_filter.mp z).2
      rw [decide_eq_true_eq] at this
      exact this rfl
end
end Mo
set_option Elab.async false
set_option linter.all false
set_option maxRecDepth 100000
set_option maxHeartbeats 4000000
/-! Mo, part two: what an expression computes, as a function of the state. -/
namespace Mo
open PySem PySem.Spec L2
structure Exn where
  C : Addr
  fs : List (Str × D)
inductive R (α : Type) where
  | ok (a : α) (g : G) | ex (E : Exn) (g : G)
abbrev M (α : Type) := G → Option (R α)
def M.bind {α β : Type} (m : M α) (k : α → M β) : M β := fun g => match m g with
  | some (.ok a g') => k a g'
  | some (.ex E g') => some (.ex E g')
  | none => none
def ret {α : Type} (a : α) : M α := fun g => some (.ok a g)
def bad {α : Type} : M α := fun _ => none
def lift {α : Type} (o : Option α) : M α := fun g => match o with
  | some a => some (.ok a g)
  | none => none
abbrev WW := Exn → G → Mt → St → Hp → Prop
def Post {α : Type} (K : PySem.W.Frag) (W : WW) (J : Hp) (p : Mt) (g : G) (σ : St) (H : Hp) (r : R α) (q : α → G → Mt → Hp → Prop) : Prop := match r with
  | .ok a g' => ∀ p' H', Ad g σ p H g' p' H' → Rl K J p' g' σ H' → q a g' p' H'
  | .ex E g' => ∀ p' H', Ad g σ p H g' p' H' → Rl K J p' g' σ H' → W E g' p' σ H'
theorem Post.adv {α : Type} {K : PySem.W.Frag} {W : WW} {J : Hp} {p p1 : Mt} {g g1 : G} {σ : St} {H H1 : Hp} {r : R α} {q : α → G → Mt → Hp → Prop} (h : Post K W J p g σ H r q) (a : Ad g σ p H g1 p1 H1) : Post K W J p1 g1 σ H1 r q := by
  cases r with
  | ok x g' => exact fun p' H' b R => h p' H' (a.trans b) R
  | ex E g' => exact fun p' H' b R => h p' H' (a.trans b) R
/-! ### readings by the text itself -/
structure SemE (X : Cx) (e : Expr) (σ : St) (H : Hp) (Q : VK) : Prop where
  run : ∀ (pins : List (Addr × Obj)) (s : Shared), Inv X pins σ H s → wpAny (model X.prog X.w) X.A (eval e X.env) (EP X pins σ Q) X.xe s
structure SemT (X : Cx) (e : Expr) (σ : St) (H : Hp) (Q : Bool → Hp → Prop) : Prop where
  run : ∀ (pins : List (Addr × Obj)) (s : Shared), Inv X pins σ H s → wpAny (model X.prog X.w) X.A (isTrue e X.env (eval e X.env)) (TP X pins σ Q) X.xe s
structure SemW (X : Cx) (e : Expr) (σ : St) (H : Hp) (Q : Bool → Hp → Prop) : Prop where
  run : ∀ (whole : Sem Value) (pins : List (Addr × Obj)) (s : Shared), Inv X pins σ H s → wpAny (model X.prog X.w) X.A (isTrue e X.env whole) (TP X pins σ Q) X.xe s
structure SemA (X : Cx) (es : List Expr) (σ : St) (H : Hp) (Q : List V → Hp → Prop) : Prop where
  run : ∀ (pos : Pos) (pins : List (Addr × Obj)) (s : Shared), Inv X pins σ H s → wpAny (model X.prog X.w) X.A (spliced (backTo pos (starEach es X.env))) (AP X pins σ Q) X.xe s
structure SemS (X : Cx) (st : Stmt) (D : Ends) (σ : St) (H : Hp) : Prop where
  run : ∀ (pins : List (Addr × Obj)) (s : Shared), Inv X pins σ H s → wpAny (model X.prog X.w) X.A (exec st X.env) (SP X pins D) X.xe s
structure SemSs (X : Cx) (st : List Stmt) (D : Ends) (σ : St) (H : Hp) : Prop where
  run : ∀ (pins : List (Addr × Obj)) (s : Shared), Inv X pins σ H s → wpAny (model X.prog X.w) X.A (execs st X.env) (SP X pins D) X.xe s
section
variable {X : Cx}
theorem semE {e : Expr} : PE X e (SemE X e) := ⟨fun pins s _ _ _ I h => h.run pins s I⟩
theorem semT {e : Expr} : PT X e (SemT X e) := ⟨fun pins s _ _ _ I h => h.run pins s I⟩
theorem semW {e : Expr} : PW X e (SemW X e) := ⟨fun wh pins s _ _ _ I h => h.run wh pins s I⟩
theorem semA {es : List Expr} : PA X es (SemA X es) := ⟨fun pos pins s _ _ _ I h => h.run pos pins s I⟩
theorem semS {st : Stmt} : PS X st (SemS X st) := ⟨fun pins s _ _ _ I h => h.run pins s I⟩
theorem semSs {st : List Stmt} : PSs X st (SemSs X st) := ⟨fun pins s _ _ _ I h => h.run pins s I⟩
theorem of_pe {e : Expr} {t : TE} {σ : St} {H : Hp} {Q : VK} (h : PE X e t) (q : t σ H Q) : SemE X e σ H Q := ⟨fun pins s I => h.run pins s σ H Q I q⟩
theorem of_pt {e : Expr} {t : TT} {σ : St} {H : Hp} {Q : Bool → Hp → Prop} (h : PT X e t) (q : t σ H Q) : SemT X e σ H Q := ⟨fun pins s I => h.run pins s σ H Q I q⟩
theorem of_pw {e : Expr} {t : TT} {σ : St} {H : Hp} {Q : Bool → Hp → Prop} (h : PW X e t) (q : t σ H Q) : SemW X e σ H Q := ⟨fun wh pins s I => h.run wh pins s σ H Q I q⟩
theorem of_pa {es : List Expr} {t : TA} {σ : St} {H : Hp} {Q : List V → Hp → Prop} (h : PA X es t) (q : t σ H Q) : SemA X es σ H Q := ⟨fun pos pins s I => h.run pos pins s σ H Q I q⟩
theorem of_ps {st : Stmt} {t : TS} {σ : St} {H : Hp} {D : Ends} (h : PS X st t) (q : t D σ H) : SemS X st D σ H := ⟨fun pins s I => h.run pins s σ H D I q⟩
theorem of_pss {st : List Stmt} {t : TS} {σ : St} {H : Hp} {D : Ends} (h : PSs X st t) (q : t D σ H) : SemSs X st D σ H := ⟨fun pins s I => h.run pins s σ H D I q⟩
end
/-! ### judgements -/
def qF (K : PySem.W.Frag) (Q : VK) : D → G → Mt → Hp → Prop := fun d _ p' H' => ∀ v, Rep K (del p' H') v d → Q v H'
def qO (K : PySem.W.Frag) (H : Hp) (σ : St) (Q : VK) : O → G → Mt → Hp → Prop := fun o g' p' H' => ∀ q, q ∈ p'.o → H q = none → NoSl g' σ q → OwnAt K (del p' H') H' q o → Q (.ref q) H'
def qA (K : PySem.W.Frag) (Q : List V → Hp → Prop) : List D → G → Mt → Hp → Prop := fun ds _ p' H' => ∀ vs, Reps K (del p' H') vs ds → Q vs H'
def qT (Q : Bool → Hp → Prop) : Bool → G → Mt → Hp → Prop := fun b _ _ H' => Q b H'
def EF (X : Cx) (W : WW) (e : Expr) (m : M D) : Prop := ∀ J p g σ H, Rl X.K J p g σ H → ∀ r, m g = some r → ∀ Q : VK, Post X.K W J p g σ H r (qF X.K Q) → SemE X e σ H Q
def EO (X : Cx) (W : WW) (e : Expr) (m : M O) : Prop := ∀ J p g σ H, Rl X.K J p g σ H → ∀ r, m g = some r → ∀ Q : VK, Post X.K W J p g σ H r (qO X.K H σ Q) → SemE X e σ H Q
def EA (X : Cx) (W : WW) (es : List Expr) (m : M (List D)) : Prop := ∀ J p g σ H, Rl X.K J p g σ H → ∀ r, m g = some r → ∀ Q : List V → Hp → Prop, Post X.K W J p g σ H r (qA X.K Q) → SemA X es σ H Q
def ET (X : Cx) (W : WW) (e : Expr) (m : M Bool) : Prop := ∀ J p g σ H, Rl X.K J p g σ H → ∀ r, m g = some r → ∀ Q : Bool → Hp → Prop, Post X.K W J p g σ H r (qT Q) → SemT X e σ H Q
def EW (X : Cx) (W : WW) (e : Expr) (m : M Bool) : Prop := ∀ J p g σ H, Rl X.K J p g σ H → ∀ r, m g = some r → ∀ Q : Bool → Hp → Prop, Post X.K W J p g σ H r (qT Q) → SemW X e σ H Q
section
variable {X : Cx} {W : WW} {e a b c : Expr} {es : List Expr} {pos ps : Pos} {α β : Type}
section
variable {J : Hp} {p : Mt} {g : G} {σ : St} {H : Hp} {q : β → G → Mt → Hp → Prop} {r : R β}
/-- the first step of a chain -/
theorem EF.then {m : M D} {k : D → M β} (h : EF X W e m) (R0 : Rl X.K J p g σ H) (hm : m.bind k g = some r) (hp : Post X.K W J p g σ H r q) {Q : VK}
    (hk : ∀ d g1 p1 H1 v, Ad g σ p H g1 p1 H1 → Rl X.K J p1 g1 σ H1 → Rep X.K (del p1 H1) v d → k d g1 = some r → Post X.K W J p1 g1 σ H1 r q → Q v H1) : SemE X e σ H Q := by
  unfold M.bind at hm
  cases e1 : m g with
  | none => rw [e1] at hm; cases hm
  | some r1 =>
    cases r1 with
    | ok d g1 =>
      rw [e1] at hm
      exact h J p g σ H R0 _ e1 Q fun p1 H1 ad R1 v rv => hk d g1 p1 H1 v ad R1 rv hm (hp.adv ad)
    | ex E g1 =>
      rw [e1] at hm
      cases hm
      exact h J p g σ H R0 _ e1 Q hp
theorem EO.then {m : M O} {k : O → M β} (h : EO X W e m) (R0 : Rl X.K J p g σ H) (hm : m.bind k g = some r) (hp : Post X.K W J p g σ H r q) {Q : VK}
    (hk : ∀ o g1 p1 H1 x, Ad g σ p H g1 p1 H1 → Rl X.K J p1 g1 σ H1 → x ∈ p1.o → H x = none → NoSl g1 σ x → OwnAt X.K (del p1 H1) H1 x o → k o g1 = some r → Post X.K W J p1 g1 σ H1 r q → Q (.ref x) H1) : SemE X e σ H Q := by
  unfold M.bind at hm
  cases e1 : m g with
  | none => rw [e1] at hm; cases hm
  | some r1 =>
    cases r1 with
    | ok d g1 =>
      rw [e1] at hm
      exact h J p g σ H R0 _ e1 Q fun p1 H1 ad R1 v h1 h2 h3 h4 => hk d g1 p1 H1 v ad R1 h1 h2 h3 h4 hm (hp.adv ad)
    | ex E g1 =>
      rw [e1] at hm
      cases hm
      exact h J p g σ H R0 _ e1 Q hp
theorem EA.then {m : M (List D)} {k : List D → M β} (h : EA X W es m) (R0 : Rl X.K J p g σ H) (hm : m.bind k g = some r) (hp : Post X.K W J p g σ H r q) {Q : List V → Hp → Prop}
    (hk : ∀ ds g1 p1 H1 vs, Ad g σ p H g1 p1 H1 → Rl X.K J p1 g1 σ H1 → Reps X.K (del p1 H1) vs ds → k ds g1 = some r → Post X.K W J p1 g1 σ H1 r q → Q vs H1) : SemA X es σ H Q := by
  unfold M.bind at hm
  cases e1 : m g with
  | none => rw [e1] at hm; cases hm
  | some r1 =>
    cases r1 with
    | ok d g1 =>
      rw [e1] at hm
      exact h J p g σ H R0 _ e1 Q fun p1 H1 ad R1 v rv => hk d g1 p1 H1 v ad R1 rv hm (hp.adv ad)
    | ex E g1 =>
      rw [e1] at hm
      cases hm
      exact h J p g σ H R0 _ e1 Q hp
theorem ET.then {m : M Bool} {k : Bool → M β} (h : ET X W e m) (R0 : Rl X.K J p g σ H) (hm : m.bind k g = some r) (hp : Post X.K W J p g σ H r q) {Q : Bool → Hp → Prop}
    (hk : ∀ b g1 p1 H1, Ad g σ p H g1 p1 H1 → Rl X.K J p1 g1 σ H1 → k b g1 = some r → Post X.K W J p1 g1 σ H1 r q → Q b H1) : SemT X e σ H Q := by
  unfold M.bind at hm
  cases e1 : m g with
  | none => rw [e1] at hm; cases hm
  | some r1 =>
    cases r1 with
    | ok d g1 =>
      rw [e1] at hm
      exact h J p g σ H R0 _ e1 Q fun p1 H1 ad R1 => hk d g1 p1 H1 ad R1 hm (hp.adv ad)
    | ex E g1 =>
      rw [e1] at hm
      cases hm
      exact h J p g σ H R0 _ e1 Q hp
/-- the end of a chain: the value is known, nothing is new -/
theorem post_lift {o : Option D} {r : R D} (hm : lift o g = some r) {Q : VK} (hp : Post X.K W J p g σ H r (qF X.K Q)) (R0 : Rl X.K J p g σ H) : ∃ d, o = some d ∧ (∀ p' H', Ad g σ p H g p' H' → Rl X.K J p' g σ H' → ∀ v, Rep X.K (del p' H') v d → Q v H') := by
  cases o with
  | none => cases hm
  | some d =>
    cases hm
    exact ⟨d, rfl, hp⟩
end
/-! ### own things shown -/
theorem Ad.shown {K : PySem.W.Frag} {J : Hp} {p p1 : Mt} {g g1 : G} {σ : St} {H H1 : Hp} {x : Addr} (ad : Ad g σ p H g1 p1 H1) (h : H x = none) (R0 : Rl K J p g σ H) : Ad g σ p H g1 (p1.rem x) H1 :=
  ⟨ad.dd, ad.le.trans del_rem, fun a ha n => by
    obtain ⟨h1, h2⟩ := ad.ex a ha n
    exact ⟨List.mem_filter.mpr ⟨h1, decide_eq_true fun z => mut_ne (R0.lv a ha) (z ▸ h)⟩, h2⟩, ad.sl, ad.th⟩
theorem EO.f {m : M O} (h : EO X W e m) : EF X W e (m.bind fun o => ret o.d) := fun J p g σ H R0 r hm Q hp =>
  h.then R0 hm hp fun o g1 p1 H1 x ad R1 h1 h2 h3 h4 hk hq => by
    cases hk
    obtain ⟨R2, e2⟩ := R1.show_ h3 h1
    exact hp (p1.rem x) H1 (ad.shown h2 R0) R2 _ ((h4.le del_rem rfl).rep e2)
/-! ### names, constants -/
def mName (i : Nat) : M D := fun g => match g.s[i]? with
  | some (.v d) => some (.ok d g)
  | some (.o o) => some (.ok o.d (g.set i (.v o.d)))
  | _ => none
end
end Mo
set_option Elab.async false
set_option linter.all false
set_option maxRecDepth 100000
set_option maxHeartbeats 4000000
/-! Mo, part three: names, constants, operators, tests. -/
namespace Mo
open PySem PySem.Spec L2
section
variable {X : Cx} {W : WW} {e a b c : Expr} {es : List Expr} {pos ps : Pos} {α β : Type}
/-! ### names, constants -/
theorem getE_set {l : List Sl} {i j : Nat} {x y : Sl} (h : (l.set i x)[j]? = some y) : (j = i ∧ y = x ∧ i < l.length) ∨ (j ≠ i ∧ l[j]? = some y) := by
  by_cases e : j = i
  · subst e
    by_cases hl : j < l.length
    · rw [List.getElem?_set_self hl] at h
      exact .inl ⟨rfl, (Option.some.inj h).symm, hl⟩
    · rw [List.getElem?_eq_none (by rw [List.length_set]; omega)] at h
      cases h
  · rw [List.getElem?_set_ne (Ne.symm e)] at h
    exact .inr ⟨e, h⟩
/-- an own thing is shown from now on -/
theorem Rl.thaw {K : PySem.W.Frag} {J : Hp} {p : Mt} {g : G} {σ : St} {H : Hp} {i : Nat} {o : O} (R : Rl K J p g σ H) (h : g.s[i]? = some (.o o)) : ∃ q, σ[i]? = some (some (.ref q)) ∧ Rl K J (p.rem q) (g.set i (.v o.d)) σ H ∧ Ad g σ p H (g.set i (.v o.d)) (p.rem q) H ∧ Rep K (del (p.rem q) H) (.ref q) o.d := by
  obtain ⟨q, h1, h2, h3, h4⟩ := R.so i o h
  have hq : del (p.rem q) H q = H q := del_at fun z : Hid (p.rem q) q => by
    rcases z with z | z
    · exact R.dno q z h2
    · have := (List.mem_filter.mp z).2
      rw [decide_eq_true_eq] at this
      exact this rfl
  have rp : Rep K (del (p.rem q) H) (.ref q) o.d := (h4.le del_rem rfl).rep hq
  refine ⟨q, h1, ⟨(List.length_set ..).trans R.len, R.old, fun a e => (R.dice a e).le del_rem rfl, fun a e m => R.dno a e (List.mem_filter.mp m).1, fun a m => R.lv a (List.mem_filter.mp m).1, R.fz, fun j d e => ?_, fun j d e => ?_, fun j e => ?_, fun j k o1 o2 x e1 e2 e3 e4 => ?_⟩, ⟨rfl, del_rem, fun a m n => ⟨List.mem_filter.mpr ⟨m, decide_eq_true fun z => n i o h (by rw [h1, z])⟩, rfl⟩, fun a n j o' e => ?_, fun _ h => h⟩, rp⟩
  · rcases getE_set e with ⟨rfl, e2, _⟩ | ⟨ne, e⟩
    · cases e2
      exact ⟨_, h1, rp⟩
    · obtain ⟨v, x1, x2⟩ := R.sv j d e
      exact ⟨v, x1, x2.le del_rem⟩
  · rcases getE_set e with ⟨rfl, e2, _⟩ | ⟨ne, e⟩
    · cases e2
    · obtain ⟨x, x1, x2, x3, x4⟩ := R.so j d e
      exact ⟨x, x1, List.mem_filter.mpr ⟨x2, decide_eq_true fun z => ne (R.inj j i d o x e h x1 (by rw [h1, z]))⟩, x3, x4.le del_rem rfl⟩
  · rcases getE_set e with ⟨rfl, e2, _⟩ | ⟨ne, e⟩
    · cases e2
    · exact R.sd j e
  · rcases getE_set e1 with ⟨_, z, _⟩ | ⟨_, e1⟩
    · cases z
    · rcases getE_set e2 with ⟨_, z, _⟩ | ⟨_, e2⟩
      · cases z
      · exact R.inj j k o1 o2 x e1 e2 e3 e4
  · rcases getE_set e with ⟨_, z, _⟩ | ⟨_, e⟩
    · cases z
    · exact n j o' e
theorem e_name {x : Str} (i : Nat) (hN : X.N[i]? = some x := by rfl) (hv : Vis X.env.scope x := by first | exact Or.inl rfl | exact Or.inr (Or.inl rfl) | exact Or.inr (Or.inr rfl))
    (hd : (x == ("__debug__" : Str)) = false := by decide) (hcd : (x == ("__classdict__" : Str)) = false := by decide) : EF X W (.Name x pos) (mName i) := fun J p g σ H R0 r hm Q hp => by
  unfold mName at hm
  split at hm
  · rename_i d e
    cases hm
    obtain ⟨v, h1, h2⟩ := R0.sv i d e
    exact of_pe (pv i hN hv hd hcd) ⟨v, h1, hp p H .refl R0 v h2⟩
  · rename_i o e
    cases hm
    obtain ⟨q, h1, R1, ad, rp⟩ := R0.thaw e
    exact of_pe (pv i hN hv hd hcd) ⟨_, h1, hp _ H ad R1 _ rp⟩
  · cases hm
theorem e_const {d : D} {v : V} {t : TE} (h : PE X e t) (ht : ∀ σ H Q, Q v H → t σ H Q) (hr : ∀ H, Rep X.K H v d) : EF X W e (ret d) := fun J p g σ H R0 r hm Q hp => by
  cases hm
  exact of_pe h (ht _ _ _ (hp p H .refl R0 v (hr _)))
theorem e_int {i : Int} {k} : EF X W (.Constant (.int i) k pos) (ret (.int i)) := e_const pe_int (fun _ _ _ h => h) fun _ => .int i
theorem e_str {i : Str} {k} : EF X W (.Constant (.str i) k pos) (ret (.str i)) := e_const pe_str (fun _ _ _ h => h) fun _ => .str i
theorem e_bool {i : Bool} {k} : EF X W (.Constant (.bool i) k pos) (ret (.bl i)) := e_const pe_bl (fun _ _ _ h => h) fun _ => .bl i
theorem e_none {k} : EF X W (.Constant .none k pos) (ret .non) := e_const pe_non (fun _ _ _ h => h) fun _ => .non
theorem e_globI {x : Str} {i : Int} {t : Tok} (hm : X.mg x = some (.int i t)) (hg : Gl X x := by rfl) (hd : (x == ("__debug__" : Str)) = false := by decide) : EF X W (.Name x pos) (ret (.int i)) := e_const (pe_glob (v := .int i) hg hm ⟨t, rfl⟩ hd) (fun _ _ _ h => h) fun _ => .int i
theorem e_globS {x : Str} {i : Str} {t : Tok} (hm : X.mg x = some (.str i t)) (hg : Gl X x := by rfl) (hd : (x == ("__debug__" : Str)) = false := by decide) : EF X W (.Name x pos) (ret (.str i)) := e_const (pe_glob (v := .str i) hg hm ⟨t, rfl⟩ hd) (fun _ _ _ h => h) fun _ => .str i
/-! ### operators by values -/
/-- what an operator's rule does on data -/
def OpS (K : PySem.W.Frag) (r2 : R2) (f : D → D → Option D) : Prop := ∀ J p g σ H v w x y z (Q : VK), Rl K J p g σ H → Rep K (del p H) v x → Rep K (del p H) w y → f x y = some z →
  (∀ p' H', Ad g σ p H g p' H' → Rl K J p' g σ H' → ∀ u, Rep K (del p' H') u z → Q u H') → r2 v w H Q
def mBin (f : D → D → Option D) (ma mb : M D) : M D := ma.bind fun x => mb.bind fun y => lift (f x y)
theorem e_bin {op : Operator} {r2 : R2} {f : D → D → Option D} {ma mb : M D} (ho : OpR X (binaryOp op) r2) (hs : OpS X.K r2 f) (ha : EF X W a ma) (hb : EF X W b mb) : EF X W (.BinOp a op b pos) (mBin f ma mb) := fun J p g σ H R0 r hm Q hp =>
  of_pe (pe_op ho semE semE) (ha.then R0 hm hp fun x g1 p1 H1 v ad1 R1 rv hm1 hp1 => hb.then R1 hm1 hp1 fun y g2 p2 H2 w ad2 R2 rw' hm2 hp2 => by
    obtain ⟨z, hz, hq⟩ := post_lift hm2 hp2 R2
    exact hs J p2 g2 σ H2 v w x y z Q R2 (rv.le ad2.le) rw' hz hq)
theorem e_cmp {op : CmpOp} {r2 : R2} {f : D → D → Option D} {ma mb : M D} (ho : OpR X (compareOp op) r2) (hs : OpS X.K r2 f) (ha : EF X W a ma) (hb : EF X W b mb) (hm : behindInMarks op b = false := by first | exact nomark _ | rfl) : EF X W (.Compare a [op] [b] pos) (mBin f ma mb) := fun J p g σ H R0 r hm' Q hp =>
  of_pe (pe_cmpR ho semE semE hm) (ha.then R0 hm' hp fun x g1 p1 H1 v ad1 R1 rv hm1 hp1 => hb.then R1 hm1 hp1 fun y g2 p2 H2 w ad2 R2 rw' hm2 hp2 => by
    obtain ⟨z, hz, hq⟩ := post_lift hm2 hp2 R2
    exact hs J p2 g2 σ H2 v w x y z Q R2 (rv.le ad2.le) rw' hz hq)
def asB : D → Option Bool
  | .bl b => some b
  | _ => none
/-- the outcome of a test that was told as data -/
def mTst (m : M D) : M Bool := m.bind fun d => lift (asB d)
theorem t_cmp {op : CmpOp} {r2 : R2} {f : D → D → Option D} {ma mb : M D} (ho : OpR X (compareOp op) r2) (hs : OpS X.K r2 f) (ha : EF X W a ma) (hb : EF X W b mb) (hm : behindInMarks op b = false := by first | exact nomark _ | rfl) : ET X W (.Compare a [op] [b] pos) (ma.bind fun x => mb.bind fun y => lift ((f x y).bind asB)) := fun J p g σ H R0 r hm' Q hp =>
  of_pt (pt_cmpR ho semE semE hm) (ha.then R0 hm' hp fun x g1 p1 H1 v ad1 R1 rv hm1 hp1 => hb.then R1 hm1 hp1 fun y g2 p2 H2 w ad2 R2 rw' hm2 hp2 => by
    cases e : f x y with
    | none =>
      rw [e] at hm2
      cases hm2
    | some z =>
      rw [e] at hm2
      cases z <;> first | (cases hm2; done) | skip
      rename_i b0
      obtain rfl : R.ok b0 g2 = r := Option.some.inj hm2
      exact hs J p2 g2 σ H2 v w x y _ _ R2 (rv.le ad2.le) rw' e fun p' H' ad R3 u ru => ⟨_, rep_bl ru, hp2 p' H' ad R3⟩)
theorem OpS.or {K : PySem.W.Frag} {r r' : R2} {f f' : D → D → Option D} (h : OpS K r f) (h' : OpS K r' f') : OpS K (fun x y H Q => r x y H Q ∨ r' x y H Q) (fun x y => (f x y).or (f' x y)) := fun J p g σ H v w x y z Q R0 rv rw' e q => by
  dsimp only at e
  cases e1 : f x y with
  | some z' =>
    rw [e1] at e
    cases e
    exact .inl (h J p g σ H v w x y _ Q R0 rv rw' e1 q)
  | none =>
    rw [e1] at e
    exact .inr (h' J p g σ H v w x y z Q R0 rv rw' e q)
section
variable {K : PySem.W.Frag}
def fI (C : Int → Int → Bool) (f : Int → Int → D) : D → D → Option D
  | .int i, .int j => if C i j then some (f i j) else none
  | _, _ => none
def fI0 (f : Int → Int → D) : D → D → Option D
  | .int i, .int j => some (f i j)
  | _, _ => none
theorem os_I {C : Int → Int → Prop} {c : Int → Int → Bool} {f : Int → Int → Int} (hc : ∀ i j, c i j = true → C i j) : OpS K (rI C fun i j => .int (f i j)) (fI c fun i j => .int (f i j)) := fun J p g σ H v w x y z Q R0 rv rw' e q => by
  cases x <;> first | (cases e; done) | skip
  cases y <;> first | (cases e; done) | skip
  cases rep_int rv
  cases rep_int rw'
  simp only [fI] at e
  split at e
  · rename_i h
    cases e
    exact ⟨_, _, rfl, rfl, hc _ _ h, q p H .refl R0 _ (.int _)⟩
  · cases e
theorem os_I0 {f : Int → Int → Int} : OpS K (rI0 fun i j => .int (f i j)) (fI0 fun i j => .int (f i j)) := fun J p g σ H v w x y z Q R0 rv rw' e q => by
  cases x <;> first | (cases e; done) | skip
  cases y <;> first | (cases e; done) | skip
  cases rep_int rv
  cases rep_int rw'
  cases e
  exact ⟨_, _, rfl, rfl, q p H .refl R0 _ (.int _)⟩
theorem os_IB {f : Int → Int → Bool} : OpS K (rI0 fun i j => .bl (f i j)) (fI0 fun i j => .bl (f i j)) := fun J p g σ H v w x y z Q R0 rv rw' e q => by
  cases x <;> first | (cases e; done) | skip
  cases y <;> first | (cases e; done) | skip
  cases rep_int rv
  cases rep_int rw'
  cases e
  exact ⟨_, _, rfl, rfl, q p H .refl R0 _ (.bl _)⟩
def fCat : D → D → Option D
  | .str i, .str j => if i.length + j.length ≤ sizeLine then some (.str (i ++ j)) else none
  | _, _ => none
theorem os_cat : OpS K (fun x y H Q => ∃ i j, x = .str i ∧ y = .str j ∧ i.length + j.length ≤ sizeLine ∧ Q (.str (i ++ j)) H) fCat := fun J p g σ H v w x y z Q R0 rv rw' e q => by
  cases x <;> first | (cases e; done) | skip
  cases y <;> first | (cases e; done) | skip
  cases rep_str rv
  cases rep_str rw'
  simp only [fCat] at e
  split at e
  · rename_i h
    cases e
    exact ⟨_, _, rfl, rfl, h, q p H .refl R0 _ (.str _)⟩
  · cases e
def fCatT : D → D → Option D
  | .tup xs, .tup ys => if xs ≠ [] ∧ xs.length + ys.length ≤ sizeLine then some (.tup (xs ++ ys)) else none
  | _, _ => none
theorem rep_tup {J : Hp} {v : V} {ds : List D} (h : Rep K J v (.tup ds)) : ∃ a vs, v = .ref a ∧ J a = some (.tup vs) ∧ Reps K J vs ds := by
  cases h with
  | tup s r => exact ⟨_, _, rfl, s, r⟩
theorem rep_lst {J : Hp} {v : V} {ds : List D} (h : Rep K J v (.lst ds)) : ∃ a vs, v = .ref a ∧ SqL K J a vs ∧ Reps K J vs ds := by
  cases h with
  | lst s r => exact ⟨_, _, rfl, s, r⟩
theorem st_del {p : Mt} {H : Hp} {a : Addr} {xs : List V} (h : del p H a = some (.tup xs)) : SqT K H a xs := .inl (.inl (del_of h))
theorem os_catT : OpS K (rCatT K) fCatT := fun J p g σ H v w x y z Q R0 rv rw' e q => by
  cases x <;> first | (cases e; done) | skip
  cases y <;> first | (cases e; done) | skip
  rename_i xs ys
  obtain ⟨a, vs, rfl, sa, ra⟩ := rep_tup rv
  obtain ⟨b, ws, rfl, sb, rb⟩ := rep_tup rw'
  simp only [fCatT] at e
  split at e
  · rename_i h
    cases e
    have la := ra.len
    have lb := rb.len
    refine ⟨a, b, vs, ws, rfl, rfl, st_del sa, st_del sb, fun z => ?_, by rw [la, lb]; exact h.2, fun z => ?_, fun z x hx => ?_⟩
    · rw [z] at la
      exact h.1 (List.eq_nil_of_length_eq_zero la.symm)
    · rw [z] at lb
      rw [List.eq_nil_of_length_eq_zero lb.symm, List.append_nil] at q
      exact q p H .refl R0 _ rv
    · obtain ⟨R1, ad, e1⟩ := R0.new (o := .tup (vs ++ ws)) hx
      exact q p _ ad R1 _ (.tup e1 ((ra.app rb).le ad.le))
  · cases e
/-! the data of plain kinds as the library tells them -/
mutual
def D.py : D → Option PyData
  | .non => some .none
  | .bl b => some (.bool b)
  | .int i => some (.int i)
  | .str x => some (.str x)
  | .lst xs => (D.pys xs).map .list
  | .tup xs => (D.pys xs).map .tuple
  | _ => none
def D.pys : List D → Option (List PyData)
  | [] => some []
  | d :: ds => match D.py d, D.pys ds with
    | some x, some r => some (x :: r)
    | _, _ => none
end
mutual
theorem Rep.dp {H : Hp} {p : Mt} : ∀ {d : D} {v : V} {x : PyData}, Rep K (del p H) v d → d.py = some x → Dp K H v x
  | .non, _, _, h, e => by cases h; simp only [D.py] at e; cases e; exact .non
  | .bl b, _, _, h, e => by cases h; simp only [D.py] at e; cases e; exact .bl b
  | .int b, _, _, h, e => by cases h; simp only [D.py] at e; cases e; exact .int b
  | .str b, _, _, h, e => by cases h; simp only [D.py] at e; cases e; exact .str b
  | .lst ds, _, _, h, e => by
    simp only [D.py] at e
    cases q : D.pys ds with
    | none => rw [q] at e; cases e
    | some r =>
      rw [q] at e
      cases e
      cases h with
      | lst s h => exact .lst (sl_of s) (Reps.dp h q)
  | .tup ds, _, _, h, e => by
    simp only [D.py] at e
    cases q : D.pys ds with
    | none => rw [q] at e; cases e
    | some r =>
      rw [q] at e
      cases e
      cases h with
      | tup s h => exact .tup (st_del s) (Reps.dp h q)
  | .dk _, _, _, _, e => by simp only [D.py] at e; cases e
  | .dt _, _, _, _, e => by simp only [D.py] at e; cases e
  | .ins _ _, _, _, _, e => by simp only [D.py] at e; cases e
  | .sx _ _, _, _, _, e => by simp only [D.py] at e; cases e
  | .vd _ _, _, _, _, e => by simp only [D.py] at e; cases e
  | .any, _, _, _, e => by simp only [D.py] at e; cases e
  | .cl _, _, _, _, e => by simp only [D.py] at e; cases e
theorem Reps.dp {H : Hp} {p : Mt} : ∀ {ds : List D} {vs : List V} {xs : List PyData}, Reps K (del p H) vs ds → D.pys ds = some xs → DpAll K H vs xs
  | [], _, _, h, e => by cases h; simp only [D.pys] at e; cases e; exact .nil
  | d :: ds, _, _, h, e => by
    cases h with
    | cons h1 h2 =>
      simp only [D.pys] at e
      cases q1 : d.py with
      | none => rw [q1] at e; cases e
      | some x =>
        cases q2 : D.pys ds with
        | none => rw [q1, q2] at e; cases e
        | some r =>
          rw [q1, q2] at e
          cases e
          exact .cons (Rep.dp h1 q1) (Reps.dp h2 q2)
end
def fEq (neg : Bool) (x y : D) : Option D := match x.py, y.py with
  | some d, some e => if SeqAt.shaped d && SeqAt.shaped e then some (.bl (if neg then !PyData.eqv d e else PyData.eqv d e)) else none
  | _, _ => none
theorem os_eq : OpS K (rEqD K) (fEq false) := fun J p g σ H v w x y z Q R0 rv rw' e q => by
  simp only [fEq] at e
  split at e
  · rename_i d1 d2 e1 e2
    split at e
    · rename_i h
      rw [Bool.and_eq_true] at h
      cases e
      exact ⟨_, _, rv.dp e1, rw'.dp e2, h.1, h.2, q p H .refl R0 _ (.bl _)⟩
    · cases e
  · cases e
theorem os_ne : OpS K (rNeD K) (fEq true) := fun J p g σ H v w x y z Q R0 rv rw' e q => by
  simp only [fEq] at e
  split at e
  · rename_i d1 d2 e1 e2
    split at e
    · rename_i h
      rw [Bool.and_eq_true] at h
      cases e
      exact ⟨_, _, rv.dp e1, rw'.dp e2, h.1, h.2, q p H .refl R0 _ (.bl _)⟩
    · cases e
  · cases e
def fIs (neg : Bool) : D → D → Option D
  | .non, .non => some (.bl (!neg))
  | _, .non => some (.bl neg)
  | _, _ => none
theorem os_isnot : OpS K (fun x y H Q => y = .non ∧ Q (.bl (!decide (x = .non))) H) (fIs true) := fun J p g σ H v w x y z Q R0 rv rw' e q => by
  cases y <;> first | (cases x <;> cases e; done) | skip
  cases rw'
  refine ⟨rfl, ?_⟩
  have : z = .bl (!decide (v = .non)) := by
    cases rv <;> cases e <;> rfl
  subst this
  exact q p H .refl R0 _ (.bl _)
end
end
end Mo
set_option Elab.async false
set_option linter.all false
set_option maxRecDepth 100000
set_option maxHeartbeats 4000000
/-! Mo, part four: and, or, not; tests; argument lists; displays; calls of built-ins; subscripts. -/
namespace Mo
open PySem PySem.Spec L2
section
variable {X : Cx} {W : WW} {e a b c : Expr} {es : List Expr} {pos ps : Pos} {α β : Type}
/-! ### and, or, not -/
def mAnd (ma mb : M D) : M D := ma.bind fun x => match x with
  | .bl true => mb
  | .bl false => ret (.bl false)
  | _ => bad
def mOr (ma mb : M D) : M D := ma.bind fun x => match x with
  | .bl false => mb
  | .bl true => ret (.bl true)
  | _ => bad
def fNot : D → Option D
  | .bl b => some (.bl (!b))
  | _ => none
def mNot (ma : M D) : M D := ma.bind fun x => lift (fNot x)
theorem e_one {op : BoolOp} {m : M D} (h : EF X W a m) : EF X W (.BoolOp op [a] pos) m := fun J p g σ H R0 r hm Q hp => of_pe (pe_one semE) (h J p g σ H R0 r hm Q hp)
theorem e_and {ma mb : M D} {rest : List Expr} (ha : EF X W a ma) (hb : EF X W (.BoolOp .And (b :: rest) pos) mb) : EF X W (.BoolOp .And (a :: b :: rest) pos) (mAnd ma mb) := fun J p g σ H R0 r hm Q hp =>
  of_pe (pe_and semE semE) (ha.then R0 hm hp fun x g1 p1 H1 v ad1 R1 rv hm1 hp1 => by
    cases x <;> first | (cases hm1; done) | skip
    rename_i k
    cases rep_bl rv
    cases k with
    | true => exact ⟨true, rfl, (if_pos rfl).mpr (hb J p1 g1 σ H1 R1 r hm1 Q hp1)⟩
    | false =>
      cases hm1
      exact ⟨false, rfl, (if_neg Bool.false_ne_true).mpr (hp1 p1 H1 .refl R1 _ (.bl _))⟩)
/-! ### tests -/
def truD : D → Option Bool
  | .non => some false
  | .bl b => some b
  | .int i => some (i != 0)
  | .str y => if y.length ≤ sizeLine then some ((y.length : Int) != 0) else none
  | .lst xs => some (!xs.isEmpty)
  | .tup xs => some (!xs.isEmpty)
  | _ => none
theorem truV {K : PySem.W.Frag} {p : Mt} {H : Hp} {v : V} {d : D} {k : Bool} (h : Rep K (del p H) v d) (e : truD d = some k) : TruV K v H k := by
  have lem : ∀ {vs : List V} {ds : List D}, Reps K (del p H) vs ds → (!ds.isEmpty) = !vs.isEmpty := fun r => by cases r <;> rfl
  cases h <;> simp only [truD] at e <;> first | (cases e; done) | skip
  · cases e; rfl
  · cases e; rfl
  · cases e; rfl
  · split at e
    · rename_i h
      cases e
      exact ⟨h, rfl⟩
    · cases e
  · rename_i s r
    cases e
    exact .inl ⟨_, sl_of s, lem r⟩
  · rename_i s r
    cases e
    exact .inr (.inl ⟨_, st_del s, lem r⟩)
def mTru (m : M D) : M Bool := m.bind fun d => lift (truD d)
theorem t_truth {m : M D} (h : EF X W e m) (he : ∀ whole, isTrue e X.env whole = (do let v ← whole; standAt e.pos; holding [v] (truthy v)) := by intro _; rfl) : ET X W e (mTru m) := fun J p g σ H R0 r hm Q hp =>
  of_pt (pt_truth semE he) (h.then R0 hm hp fun x g1 p1 H1 v ad1 R1 rv hm1 hp1 => by
    cases q : truD x with
    | none =>
      rw [q] at hm1
      cases hm1
    | some k =>
      rw [q] at hm1
      cases hm1
      exact ⟨k, truV rv q, hp1 p1 H1 .refl R1⟩)
def mtNot (m : M Bool) : M Bool := m.bind fun b => ret (!b)
theorem t_not {m : M Bool} (h : ET X W a m) : ET X W (.UnaryOp .Not a pos) (mtNot m) := fun J p g σ H R0 r hm Q hp =>
  of_pt (pt_not semT) (h.then R0 hm hp fun x g1 p1 H1 ad1 R1 hm1 hp1 => by
    cases hm1
    exact hp1 p1 H1 .refl R1)
def mtAnd (ma mb : M Bool) : M Bool := ma.bind fun x => match x with
  | true => mb
  | false => ret false
def mtOr (ma mb : M Bool) : M Bool := ma.bind fun x => match x with
  | false => mb
  | true => ret true
theorem w_and1 {m : M Bool} (h : ET X W a m) : EW X W (.BoolOp .And [a] pos) m := fun J p g σ H R0 r hm Q hp => of_pw (pw_and1 semT) (h J p g σ H R0 r hm Q hp)
theorem w_or1 {m : M Bool} (h : ET X W a m) : EW X W (.BoolOp .Or [a] pos) m := fun J p g σ H R0 r hm Q hp => of_pw (pw_or1 semT) (h J p g σ H R0 r hm Q hp)
theorem w_and {ma mb : M Bool} {rest : List Expr} (ha : ET X W a ma) (hb : EW X W (.BoolOp .And (b :: rest) pos) mb) : EW X W (.BoolOp .And (a :: b :: rest) pos) (mtAnd ma mb) := fun J p g σ H R0 r hm Q hp =>
  of_pw (pw_and semT semW) (ha.then R0 hm hp fun x g1 p1 H1 ad1 R1 hm1 hp1 => by
    cases x with
    | true => exact (if_pos rfl).mpr (hb J p1 g1 σ H1 R1 r hm1 Q hp1)
    | false =>
      cases hm1
      exact (if_neg Bool.false_ne_true).mpr (hp1 p1 H1 .refl R1))
theorem w_or {ma mb : M Bool} {rest : List Expr} (ha : ET X W a ma) (hb : EW X W (.BoolOp .Or (b :: rest) pos) mb) : EW X W (.BoolOp .Or (a :: b :: rest) pos) (mtOr ma mb) := fun J p g σ H R0 r hm Q hp =>
  of_pw (pw_or semT semW) (ha.then R0 hm hp fun x g1 p1 H1 ad1 R1 hm1 hp1 => by
    cases x with
    | false => exact (if_neg Bool.false_ne_true).mpr (hb J p1 g1 σ H1 R1 r hm1 Q hp1)
    | true =>
      cases hm1
      exact (if_pos rfl).mpr (hp1 p1 H1 .refl R1))
theorem t_w {m : M Bool} (h : EW X W e m) : ET X W e m := fun J p g σ H R0 r hm Q hp => of_pt (PW.pt semW) (h J p g σ H R0 r hm Q hp)
def mIf {γ : Type} (mc : M Bool) (ma mb : M γ) : M γ := mc.bind fun x => match x with
  | true => ma
  | false => mb
theorem e_if {mc : M Bool} {ma mb : M D} (hc : ET X W c mc) (ha : EF X W a ma) (hb : EF X W b mb) : EF X W (.IfExp c a b pos) (mIf mc ma mb) := fun J p g σ H R0 r hm Q hp =>
  of_pe (pe_ifExp semT semE semE) (hc.then R0 hm hp fun x g1 p1 H1 ad1 R1 hm1 hp1 => by
    cases x with
    | true => exact (if_pos rfl).mpr (ha J p1 g1 σ H1 R1 r hm1 Q hp1)
    | false => exact (if_neg Bool.false_ne_true).mpr (hb J p1 g1 σ H1 R1 r hm1 Q hp1))
/-! ### unary operators -/
def fNeg : D → Option D
  | .int i => some (.int (-i))
  | _ => none
def mNeg (m : M D) : M D := m.bind fun x => lift (fNeg x)
/-! ### argument lists -/
def mCons (m : M D) (ms : M (List D)) : M (List D) := m.bind fun d => ms.bind fun ds => ret (d :: ds)
theorem a_nil : EA X W [] (ret []) := fun J p g σ H R0 r hm Q hp => by
  cases hm
  exact of_pa pa_nil (hp p H .refl R0 [] .nil)
theorem a_cons {m : M D} {ms : M (List D)} (h : EF X W e m) (hr : EA X W es ms) (hs : starEach (e :: es) X.env = (false, eval e X.env) :: starEach es X.env := by rfl) : EA X W (e :: es) (mCons m ms) := fun J p g σ H R0 r hm Q hp =>
  of_pa (pa_cons semE semA hs) (h.then R0 hm hp fun x g1 p1 H1 v ad1 R1 rv hm1 hp1 => hr.then R1 hm1 hp1 fun ds g2 p2 H2 vs ad2 R2 rs hm2 hp2 => by
    cases hm2
    exact hp2 p2 H2 .refl R2 _ (.cons (rv.le ad2.le) rs))
/-! ### displays -/
def mTup (ms : M (List D)) : M D := ms.bind fun ds => if ds.length ≤ sizeLine then ret (.tup ds) else bad
theorem e_tup {ms : M (List D)} {k : Nat} (h : EA X W es ms) : EF X W (.Tuple es k pos) (mTup ms) := fun J p g σ H R0 r hm Q hp =>
  of_pe (pe_tup semA) (h.then R0 hm hp fun ds g1 p1 H1 vs ad1 R1 rs hm1 hp1 => by
    split at hm1
    · rename_i hz
      cases hm1
      refine ⟨by rw [rs.len]; exact hz, fun l hl => ?_⟩
      obtain ⟨R2, ad2, e2⟩ := R1.new (o := .tup vs) hl
      exact hp1 p1 _ ad2 R2 _ (.tup e2 (rs.le ad2.le))
    · cases hm1)
def mLst (ms : M (List D)) : M O := ms.bind fun ds => if ds.length ≤ sizeLine then ret (.l ds) else bad
theorem eo_lst {ms : M (List D)} (h : EA X W es ms) : EO X W (.List es pos) (mLst ms) := fun J p g σ H R0 r hm Q hp =>
  of_pe (pe_lst semA) (h.then R0 hm hp fun ds g1 p1 H1 vs ad1 R1 rs hm1 hp1 => by
    split at hm1
    · rename_i hz
      cases hm1
      refine ⟨by rw [rs.len]; exact hz, fun l hl => ?_⟩
      obtain ⟨R2, ad2, m2, j2, n2, le2⟩ := R1.hide (o := .lst vs) hl
      exact hp1 (p1.add l) _ ad2 R2 l m2 (ad1.gone hl) n2 ⟨vs, upd_same, rs.le le2⟩
    · cases hm1)
/-! ### calls of built-ins -/
/-- what a call's rule does on data -/
def CS (K : PySem.W.Frag) (rr : List V → Hp → VK → Prop) (f : List D → Option D) : Prop := ∀ J p g σ H vs ds z (Q : VK), Rl K J p g σ H → Reps K (del p H) vs ds → f ds = some z →
  (∀ p' H', Ad g σ p H g p' H' → Rl K J p' g σ H' → ∀ u, Rep K (del p' H') u z → Q u H') → rr vs H Q
def CO (K : PySem.W.Frag) (rr : List V → Hp → VK → Prop) (f : List D → Option O) : Prop := ∀ J p g σ H vs ds z (Q : VK), Rl K J p g σ H → Reps K (del p H) vs ds → f ds = some z →
  (∀ p' H', Ad g σ p H g p' H' → Rl K J p' g σ H' → ∀ q, q ∈ p'.o → H q = none → NoSl g σ q → OwnAt K (del p' H') H' q z → Q (.ref q) H') → rr vs H Q
theorem CS.or {K : PySem.W.Frag} {r r' : List V → Hp → VK → Prop} {f f' : List D → Option D} (h : CS K r f) (h' : CS K r' f') : CS K (fun xs H Q => r xs H Q ∨ r' xs H Q) (fun xs => (f xs).or (f' xs)) := fun J p g σ H vs ds z Q R0 rs e q => by
  dsimp only at e
  cases e1 : f ds with
  | some z' =>
    rw [e1] at e
    cases e
    exact .inl (h J p g σ H vs ds _ Q R0 rs e1 q)
  | none =>
    rw [e1] at e
    exact .inr (h' J p g σ H vs ds z Q R0 rs e q)
def mCall (f : List D → Option D) (ms : M (List D)) : M D := ms.bind fun ds => lift (f ds)
def mCallO (f : List D → Option O) (ms : M (List D)) : M O := ms.bind fun ds => lift (f ds)
section
variable {x : Str} {id : String} {rr : List V → Hp → VK → Prop} {f : List D → Option D} {fo : List D → Option O} {ms : M (List D)}
theorem e_blt (hc : CallR X (.builtin id) rr) (hs : CS X.K rr f) (hm : X.mg x = none) (ha : EA X W (e :: es) ms) (hv : bootBuiltins x = some (.builtin id) := by decide +kernel) (hg : Gl X x := by rfl)
    (hn : x ≠ "__name__" := by decide) (hdb : (x == ("__debug__" : Str)) = false := by decide) (he : starEach (e :: es) X.env = (false, eval e X.env) :: starEach es X.env := by rfl) (hpl : (backTo pos (starEach es X.env)).any (·.1) = false := by rfl) :
    EF X W (.Call (.Name x ps) (e :: es) [] pos) (mCall f ms) := fun J p g σ H R0 r hm' Q hp =>
  of_pe (pe_callB hc hg hm hv semA hn hdb he hpl) (ha.then R0 hm' hp fun ds g1 p1 H1 vs ad1 R1 rs hm1 hp1 => by
    obtain ⟨z, hz, hq⟩ := post_lift hm1 hp1 R1
    exact hs J p1 g1 σ H1 vs ds z Q R1 rs hz hq)
theorem post_liftO {J : Hp} {p p0 : Mt} {g g0 : G} {σ : St} {H H0 : Hp} {o : Option O} {r : R O} (hm : lift o g = some r) {Q : VK} (hp : Post X.K W J p g σ H r (qO X.K H0 σ Q)) (ad : Ad g0 σ p0 H0 g p H) :
    ∃ d, o = some d ∧ (∀ p' H', Ad g σ p H g p' H' → Rl X.K J p' g σ H' → ∀ q, q ∈ p'.o → H q = none → NoSl g σ q → OwnAt X.K (del p' H') H' q d → Q (.ref q) H') := by
  cases o with
  | none => cases hm
  | some d =>
    cases hm
    exact ⟨d, rfl, fun p' H' a R q h1 h2 h3 h4 => hp p' H' a R q h1 (ad.gone h2) h3 h4⟩
theorem e_ty (hc : CallR X (.type id) rr) (hs : CS X.K rr f) (hm : X.mg x = none) (ha : EA X W (e :: es) ms) (hv : bootBuiltins x = some (.type id) := by decide +kernel) (hg : Gl X x := by rfl)
    (hn : x ≠ "__name__" := by decide) (hdb : (x == ("__debug__" : Str)) = false := by decide) (he : starEach (e :: es) X.env = (false, eval e X.env) :: starEach es X.env := by rfl) (hpl : (backTo pos (starEach es X.env)).any (·.1) = false := by rfl) :
    EF X W (.Call (.Name x ps) (e :: es) [] pos) (mCall f ms) := fun J p g σ H R0 r hm' Q hp =>
  of_pe (pe_callTy hc hg hm hv semA hn hdb he hpl) (ha.then R0 hm' hp fun ds g1 p1 H1 vs ad1 R1 rs hm1 hp1 => by
    obtain ⟨z, hz, hq⟩ := post_lift hm1 hp1 R1
    exact hs J p1 g1 σ H1 vs ds z Q R1 rs hz hq)
theorem eo_ty (hc : CallR X (.type id) rr) (hs : CO X.K rr fo) (hm : X.mg x = none) (ha : EA X W (e :: es) ms) (hv : bootBuiltins x = some (.type id) := by decide +kernel) (hg : Gl X x := by rfl)
    (hn : x ≠ "__name__" := by decide) (hdb : (x == ("__debug__" : Str)) = false := by decide) (he : starEach (e :: es) X.env = (false, eval e X.env) :: starEach es X.env := by rfl) (hpl : (backTo pos (starEach es X.env)).any (·.1) = false := by rfl) :
    EO X W (.Call (.Name x ps) (e :: es) [] pos) (mCallO fo ms) := fun J p g σ H R0 r hm' Q hp =>
  of_pe (pe_callTy hc hg hm hv semA hn hdb he hpl) (ha.then R0 hm' hp fun ds g1 p1 H1 vs ad1 R1 rs hm1 hp1 => by
    obtain ⟨z, hz, hq⟩ := post_liftO hm1 hp1 ad1
    exact hs J p1 g1 σ H1 vs ds z Q R1 rs hz hq)
end
end
end Mo
set_option Elab.async false
set_option linter.all false
set_option maxRecDepth 100000
set_option maxHeartbeats 4000000
/-! Mo, part five: statements, loops. -/
namespace Mo
open PySem PySem.Spec L2
inductive Oc where
  | nx | rt (d : D) | rto (o : O) | bk | ct
/-- from one state to a later one -/
structure As (J : Hp) (p : Mt) (H : Hp) (p' : Mt) (H' : Hp) : Prop where
  dd : p'.d = p.d
  le : Le (del p H) (del p' H')
  ex : ∀ a ∈ p.o, J a ≠ none → a ∈ p'.o
  th : ∀ a, H a ≠ none → H' a ≠ none
theorem As.refl {J : Hp} {p : Mt} {H : Hp} : As J p H p H := ⟨rfl, .refl _, fun _ h _ => h, fun _ h => h⟩
theorem As.trans {J : Hp} {p p1 p2 : Mt} {H H1 H2 : Hp} (a : As J p H p1 H1) (b : As J p1 H1 p2 H2) : As J p H p2 H2 :=
  ⟨b.dd.trans a.dd, a.le.trans b.le, fun x h n => b.ex x (a.ex x h n) n, fun x n => b.th x (a.th x n)⟩
theorem Ad.as {K : PySem.W.Frag} {J : Hp} {g g' : G} {σ : St} {p p' : Mt} {H H' : Hp} (a : Ad g σ p H g' p' H') (R : Rl K J p g σ H) : As J p H p' H' :=
  ⟨a.dd, a.le, fun x h n => (a.ex x h fun i o e z => by
    obtain ⟨q, h1, _, h3, _⟩ := R.so i o e
    rw [h1] at z
    cases z
    exact n h3).1, a.th⟩
def PostS (K : PySem.W.Frag) (W : WW) (J : Hp) (p : Mt) (H : Hp) (r : R Oc) (Dd : Ends) : Prop := match r with
  | .ok .nx g' => ∀ σ' p' H', As J p H p' H' → Rl K J p' g' σ' H' → Dd.nx σ' H'
  | .ok .bk g' => ∀ σ' p' H', As J p H p' H' → Rl K J p' g' σ' H' → Dd.bk σ' H'
  | .ok .ct g' => ∀ σ' p' H', As J p H p' H' → Rl K J p' g' σ' H' → Dd.ct σ' H'
  | .ok (.rt d) g' => ∀ σ' p' H' v, As J p H p' H' → Rl K J p' g' σ' H' → Rep K (del p' H') v d → Dd.rt v H'
  | .ok (.rto o) g' => ∀ σ' p' H' q, As J p H p' H' → Rl K J p' g' σ' H' → q ∈ p'.o → J q = none → NoSl g' σ' q → OwnAt K (del p' H') H' q o → Dd.rt (.ref q) H'
  | .ex E g' => ∀ σ' p' H', As J p H p' H' → Rl K J p' g' σ' H' → W E g' p' σ' H'
theorem PostS.adv {K : PySem.W.Frag} {W : WW} {J : Hp} {p p1 : Mt} {H H1 : Hp} {r : R Oc} {Dd : Ends} (h : PostS K W J p H r Dd) (a : As J p H p1 H1) : PostS K W J p1 H1 r Dd := by
  cases r with
  | ex E g => exact fun σ' p' H' b => h σ' p' H' (a.trans b)
  | ok o g =>
    cases o with
    | nx => exact fun σ' p' H' b => h σ' p' H' (a.trans b)
    | bk => exact fun σ' p' H' b => h σ' p' H' (a.trans b)
    | ct => exact fun σ' p' H' b => h σ' p' H' (a.trans b)
    | rt d => exact fun σ' p' H' v b => h σ' p' H' v (a.trans b)
    | rto d => exact fun σ' p' H' v b => h σ' p' H' v (a.trans b)
def SS (X : Cx) (W : WW) (st : Stmt) (m : M Oc) : Prop := ∀ J p g σ H, Rl X.K J p g σ H → ∀ r, m g = some r → ∀ Dd : Ends, PostS X.K W J p H r Dd → SemS X st Dd σ H
def SB (X : Cx) (W : WW) (st : List Stmt) (m : M Oc) : Prop := ∀ J p g σ H, Rl X.K J p g σ H → ∀ r, m g = some r → ∀ Dd : Ends, PostS X.K W J p H r Dd → SemSs X st Dd σ H
/-- one behind the other -/
def seq (m k : M Oc) : M Oc := fun g => match m g with
  | some (.ok .nx g') => k g'
  | r => r
section
variable {X : Cx} {W : WW} {e a b c : Expr} {es : List Expr} {st : Stmt} {sts th el body : List Stmt} {pos ps : Pos}
theorem b_nil : SB X W [] (ret .nx) := fun J p g σ H R0 r hm Dd hp => by
  cases hm
  exact of_pss pss_nil (hp σ p H .refl R0)
theorem b_cons {m k : M Oc} (h : SS X W st m) (hr : SB X W sts k) : SB X W (st :: sts) (seq m k) := fun J p g σ H R0 r hm Dd hp =>
  of_pss (pss_cons semS semSs) (by
    unfold seq at hm
    cases e1 : m g with
    | none => rw [e1] at hm; cases hm
    | some r1 =>
      rw [e1] at hm
      refine h J p g σ H R0 r1 e1 _ ?_
      cases r1 with
      | ex E g1 =>
        cases hm
        exact hp
      | ok o g1 =>
        cases o with
        | nx => exact fun σ' p' H' a1 R1 => hr J p' g1 σ' H' R1 r hm Dd (hp.adv a1)
        | bk =>
          cases hm
          exact hp
        | ct =>
          cases hm
          exact hp
        | rt d =>
          cases hm
          exact hp
        | rto d =>
          cases hm
          exact hp)
/-- what comes of an expression's error in a statement -/
theorem post_s {α : Type} {J : Hp} {p : Mt} {g : G} {σ : St} {H : Hp} {m : M α} {k : α → M Oc} {r : R Oc} {Dd : Ends} (R0 : Rl X.K J p g σ H) (hm : m.bind k g = some r) (hp : PostS X.K W J p H r Dd) : ∃ r1, m g = some r1 ∧ (∀ q : α → G → Mt → Hp → Prop, (∀ a g1 p1 H1, r1 = .ok a g1 → Ad g σ p H g1 p1 H1 → Rl X.K J p1 g1 σ H1 → k a g1 = some r → PostS X.K W J p1 H1 r Dd → q a g1 p1 H1) → Post X.K W J p g σ H r1 q) := by
  unfold M.bind at hm
  cases e1 : m g with
  | none => rw [e1] at hm; cases hm
  | some r1 =>
    refine ⟨r1, rfl, fun q hq => ?_⟩
    cases r1 with
    | ok a1 g1 =>
      rw [e1] at hm
      exact fun p1 H1 ad R1 => hq a1 g1 p1 H1 rfl ad R1 hm (hp.adv (ad.as R0))
    | ex E g1 =>
      rw [e1] at hm
      cases hm
      exact fun p1 H1 ad R1 => hp σ p1 H1 (ad.as R0) R1
section
variable {K : PySem.W.Frag} {J : Hp} {p : Mt} {g : G} {σ : St} {H : Hp} {i : Nat} {v : V} {d : D}
theorem getV_set {l : List (Option V)} {i j : Nat} {x : Option V} : (l.set i x)[j]? = if j = i ∧ i < l.length then some x else l[j]? := by
  by_cases e : j = i
  · subst e
    by_cases hl : j < l.length
    · rw [List.getElem?_set_self hl, if_pos ⟨rfl, hl⟩]
    · rw [if_neg (fun z => hl z.2), List.getElem?_eq_none (by rw [List.length_set]; omega), List.getElem?_eq_none (by omega)]
  · rw [List.getElem?_set_ne (Ne.symm e), if_neg fun z => e z.1]
theorem Rl.setV (R : Rl K J p g σ H) (rv : Rep K (del p H) v d) : Rl K J p (g.set i (.v d)) (σ.set i (some v)) H := by
  have hl : g.s.length = σ.length := R.len
  refine ⟨?_, R.old, R.dice, R.dno, R.lv, R.fz, fun j x e => ?_, fun j x e => ?_, fun j e => ?_, fun j k o1 o2 q e1 e2 e3 e4 => ?_⟩
  · show (g.s.set i _).length = (σ.set i _).length
    rw [List.length_set, List.length_set, hl]
  · rw [getV_set]
    rcases getE_set e with ⟨rfl, e2, e3⟩ | ⟨ne, e⟩
    · cases e2
      rw [if_pos ⟨rfl, hl ▸ e3⟩]
      exact ⟨v, rfl, rv⟩
    · rw [if_neg fun z => ne z.1]
      exact R.sv j x e
  · rw [getV_set]
    rcases getE_set e with ⟨rfl, e2, e3⟩ | ⟨ne, e⟩
    · cases e2
    · rw [if_neg fun z => ne z.1]
      exact R.so j x e
  · rw [getV_set]
    rcases getE_set e with ⟨rfl, e2, e3⟩ | ⟨ne, e⟩
    · cases e2
    · rw [if_neg fun z => ne z.1]
      exact R.sd j e
  · rcases getE_set e1 with ⟨_, z, _⟩ | ⟨n1, e1⟩
    · cases z
    · rcases getE_set e2 with ⟨_, z, _⟩ | ⟨n2, e2⟩
      · cases z
      · rw [getV_set, if_neg fun z => n1 z.1] at e3
        rw [getV_set, if_neg fun z => n2 z.1] at e4
        exact R.inj j k o1 o2 q e1 e2 e3 e4
theorem Rl.setO {q : Addr} {o : O} (R : Rl K J p g σ H) (m : q ∈ p.o) (jn : J q = none) (n : NoSl g σ q) (ow : OwnAt K (del p H) H q o) : Rl K J p (g.set i (.o o)) (σ.set i (some (.ref q))) H := by
  have hl : g.s.length = σ.length := R.len
  refine ⟨?_, R.old, R.dice, R.dno, R.lv, R.fz, fun j x e => ?_, fun j x e => ?_, fun j e => ?_, fun j k o1 o2 q' e1 e2 e3 e4 => ?_⟩
  · show (g.s.set i _).length = (σ.set i _).length
    rw [List.length_set, List.length_set, hl]
  · rw [getV_set]
    rcases getE_set e with ⟨rfl, e2, e3⟩ | ⟨ne, e⟩
    · cases e2
    · rw [if_neg fun z => ne z.1]
      exact R.sv j x e
  · rw [getV_set]
    rcases getE_set e with ⟨rfl, e2, e3⟩ | ⟨ne, e⟩
    · cases e2
      rw [if_pos ⟨rfl, hl ▸ e3⟩]
      exact ⟨q, rfl, m, jn, ow⟩
    · rw [if_neg fun z => ne z.1]
      exact R.so j x e
  · rw [getV_set]
    rcases getE_set e with ⟨rfl, e2, e3⟩ | ⟨ne, e⟩
    · cases e2
    · rw [if_neg fun z => ne z.1]
      exact R.sd j e
  · rcases getE_set e1 with ⟨i1, z1, l1⟩ | ⟨n1, e1⟩
    · rcases getE_set e2 with ⟨i2, z2, l2⟩ | ⟨n2, e2⟩
      · rw [i1, i2]
      · rw [getV_set, if_pos ⟨i1, hl ▸ l1⟩] at e3
        rw [getV_set, if_neg fun z => n2 z.1] at e4
        cases e3
        exact absurd e4 (n k o2 e2)
    · rw [getV_set, if_neg fun z => n1 z.1] at e3
      rcases getE_set e2 with ⟨i2, z2, l2⟩ | ⟨n2, e2⟩
      · rw [getV_set, if_pos ⟨i2, hl ▸ l2⟩] at e4
        cases e4
        exact absurd e3 (n j o1 e1)
      · rw [getV_set, if_neg fun z => n2 z.1] at e4
        exact R.inj j k o1 o2 q' e1 e2 e3 e4
end
/-! ### x = e -/
def mSet (i : Nat) (m : M D) : M Oc := m.bind fun d g => some (.ok .nx (g.set i (.v d)))
def mSetO (i : Nat) (m : M O) : M Oc := m.bind fun d g => some (.ok .nx (g.set i (.o d)))
section
variable {x : Str} {px : Pos}
theorem s_set {m : M D} (i : Nat) (nd : X.N.Nodup) (h : EF X W e m) (hi : X.N[i]? = some x := by rfl) (hx : Loc X.env.scope x := by first | exact Or.inl rfl | exact Or.inr rfl)
    (hs : swapsWith e (some (.Name x px)) pos.line X.env = pure false := by rfl) (hf : X.fn x = true ∨ X.env.scope.names.lookup x = some .local := by first | exact .inl rfl | exact .inr rfl) : SS X W (.Assign [.Name x px] e pos) (mSet i m) := fun J p g σ H R0 r hm Dd hp => by
  obtain ⟨r1, e1, hq⟩ := post_s R0 hm hp
  refine of_ps (ps_set (i := i) nd hi hx semE hs hf) (h J p g σ H R0 r1 e1 _ (hq _ fun d g1 p1 H1 er ad R1 hk hp1 v rv => ?_))
  cases hk
  exact hp1 _ p1 H1 .refl (R1.setV rv)
theorem s_setO {m : M O} (i : Nat) (nd : X.N.Nodup) (h : EO X W e m) (hi : X.N[i]? = some x := by rfl) (hx : Loc X.env.scope x := by first | exact Or.inl rfl | exact Or.inr rfl)
    (hs : swapsWith e (some (.Name x px)) pos.line X.env = pure false := by rfl) (hf : X.fn x = true ∨ X.env.scope.names.lookup x = some .local := by first | exact .inl rfl | exact .inr rfl) : SS X W (.Assign [.Name x px] e pos) (mSetO i m) := fun J p g σ H R0 r hm Dd hp => by
  obtain ⟨r1, e1, hq⟩ := post_s R0 hm hp
  refine of_ps (ps_set (i := i) nd hi hx semE hs hf) (h J p g σ H R0 r1 e1 _ (hq _ fun d g1 p1 H1 er ad R1 hk hp1 q h1 h2 h3 h4 => ?_))
  cases hk
  exact hp1 _ p1 H1 .refl (R1.setO h1 (R0.jn h2) h3 h4)
end
/-! ### return, if, pass, break, continue -/
def mRet (m : M D) : M Oc := m.bind fun d => ret (.rt d)
def mRetO (m : M O) : M Oc := m.bind fun d => ret (.rto d)
theorem s_ret {m : M D} (h : EF X W e m) : SS X W (.Return (some e) pos) (mRet m) := fun J p g σ H R0 r hm Dd hp => by
  obtain ⟨r1, e1, hq⟩ := post_s R0 hm hp
  refine of_ps (ps_ret semE) (h J p g σ H R0 r1 e1 _ (hq _ fun d g1 p1 H1 er ad R1 hk hp1 v rv => ?_))
  cases hk
  exact hp1 _ p1 H1 v .refl R1 rv
theorem s_retO {m : M O} (h : EO X W e m) : SS X W (.Return (some e) pos) (mRetO m) := fun J p g σ H R0 r hm Dd hp => by
  obtain ⟨r1, e1, hq⟩ := post_s R0 hm hp
  refine of_ps (ps_ret semE) (h J p g σ H R0 r1 e1 _ (hq _ fun d g1 p1 H1 er ad R1 hk hp1 q h1 h2 h3 h4 => ?_))
  cases hk
  exact hp1 _ p1 H1 q .refl R1 h1 (R0.jn h2) h3 h4
theorem s_if {mc : M Bool} {mt me : M Oc} (hc : ET X W c mc) (ht : SB X W th mt) (he : SB X W el me) : SS X W (.If c th el pos) (mIf mc mt me) := fun J p g σ H R0 r hm Dd hp => by
  obtain ⟨r1, e1, hq⟩ := post_s R0 hm hp
  refine of_ps (ps_if semT semSs semSs) (hc J p g σ H R0 r1 e1 _ (hq _ fun d g1 p1 H1 er ad R1 hk hp1 => ?_))
  unfold qT
  cases d with
  | true => exact iteT (ht J p1 g1 σ H1 R1 r hk Dd hp1)
  | false => exact iteF (he J p1 g1 σ H1 R1 r hk Dd hp1)
/-- a statement that no way reaches -/
theorem s_never : SS X W st bad := fun J p g σ H R0 r hm Dd hp => by cases hm
/-! ### loops -/
structure SemI (X : Cx) (tg it : Expr) (σ : St) (H : Hp) (Q : It → Hp → Prop) : Prop where
  run : ∀ (pins : List (Addr × Obj)) (s : Shared), Inv X pins σ H s → wpAny (model X.prog X.w) X.A (eval it X.env) (fun v s1 => wpAny (model X.prog X.w) X.A (pyIter v) (PIE X pins σ tg Q) X.xe s1) X.xe s
theorem semI {tg it : Expr} : PI X tg it (SemI X tg it) := ⟨fun pins s _ _ _ I h => h.run pins s I⟩
theorem of_pi {tg it : Expr} {t : TI} {σ : St} {H : Hp} {Q : It → Hp → Prop} (h : PI X tg it t) (q : t σ H Q) : SemI X tg it σ H Q := ⟨fun pins s I => h.run pins s σ H Q I q⟩
/-- storing into a target -/
structure SemG (X : Cx) (tg : Expr) (v : V) (σ : St) (H : Hp) (Q : St → Hp → Prop) : Prop where
  run : ∀ (pins : List (Addr × Obj)) (s : Shared) (u : Value), Inv X pins σ H s → RelV v u → wpAny (model X.prog X.w) X.A (assign tg X.env u) (fun _ s' => ∃ σ' H', Inv X pins σ' H' s' ∧ Q σ' H') X.xe s
theorem semG {tg : Expr} : PG X tg (SemG X tg) := ⟨fun pins s _ _ _ u _ I r h => h.run pins s u I r⟩
theorem of_pg {tg : Expr} {t : TG} {v : V} {σ : St} {H : Hp} {Q : St → Hp → Prop} (h : PG X tg t) (q : t v σ H Q) : SemG X tg v σ H Q := ⟨fun pins s u I r => h.run pins s σ H v u Q I r q⟩
/-- from slots to slots: but for the places vs nothing is otherwise -/
structure Same (vs : List Nat) (g : G) (σ : St) (g' : G) (σ' : St) : Prop where
  at_ : ∀ i, i ∉ vs → σ'[i]? = σ[i]?
  len : σ'.length = σ.length
  sl : ∀ a, NoSl g σ a → NoSl g' σ' a
theorem Same.refl {vs : List Nat} {g : G} {σ : St} : Same vs g σ g σ := ⟨fun _ _ => rfl, rfl, fun _ h => h⟩
theorem Same.trans {vs : List Nat} {g g1 g2 : G} {σ σ1 σ2 : St} (a : Same vs g σ g1 σ1) (b : Same vs g1 σ1 g2 σ2) : Same vs g σ g2 σ2 := ⟨fun i h => (b.at_ i h).trans (a.at_ i h), b.len.trans a.len, fun x h => b.sl x (a.sl x h)⟩
theorem Same.mono {vs ws : List Nat} {g g1 : G} {σ σ1 : St} (a : Same vs g σ g1 σ1) (h : ∀ i ∈ vs, i ∈ ws) : Same ws g σ g1 σ1 := ⟨fun i n => a.at_ i fun m => n (h i m), a.len, a.sl⟩
def ES (X : Cx) (vs : List Nat) (tg : Expr) (f : D → G → Option G) : Prop := ∀ J p g σ H v d g', Rl X.K J p g σ H → Rep X.K (del p H) v d → f d g = some g' → ∀ Q : St → Hp → Prop, (∀ σ', Same vs g σ g' σ' → Rl X.K J p g' σ' H → Q σ' H) → SemG X tg v σ H Q
def stName (i : Nat) : D → G → Option G := fun d g => some (g.set i (.v d))
theorem g_name {x : Str} {px : Pos} (i : Nat) (nd : X.N.Nodup) (hi : X.N[i]? = some x := by rfl) (hx : Loc X.env.scope x := by first | exact Or.inl rfl | exact Or.inr rfl) (hf : X.fn x = true ∨ X.env.scope.names.lookup x = some .local := by first | exact .inl rfl | exact .inr rfl) : ES X [i] (.Name x px) (stName i) := fun J p g σ H v d g' R0 rv e Q hQ => by
  cases e
  refine of_pg (pg_name nd hi hx hf) (hQ _ ⟨fun j n => ?_, List.length_set .., fun a n j o e1 e2 => ?_⟩ (R0.setV rv))
  · rw [getV_set, if_neg fun z => n (by rw [z.1]; exact List.mem_singleton_self _)]
  · rcases getE_set e1 with ⟨_, z, _⟩ | ⟨n1, e1⟩
    · cases z
    · rw [getV_set, if_neg fun z => n1 z.1] at e2
      exact n j o e1 e2
def stNil : List D → G → Option G := fun ds g => match ds with
  | [] => some g
  | _ => none
def stCons (f : D → G → Option G) (r : List D → G → Option G) : List D → G → Option G := fun ds g => match ds with
  | [] => none
  | d :: ds => (f d g).bind (r ds)
structure SemGs (X : Cx) (ts : List Expr) (vs : List V) (σ : St) (H : Hp) (Q : St → Hp → Prop) : Prop where
  run : ∀ (pins : List (Addr × Obj)) (s : Shared) (us : List Value), Inv X pins σ H s → Vals vs us → wpAny (model X.prog X.w) X.A (assignInOrder ((assignEach ts X.env).map (·.2)) us) (fun _ s' => ∃ σ' H', Inv X pins σ' H' s' ∧ Q σ' H') X.xe s
theorem semGs {ts : List Expr} : PGs X ts (SemGs X ts) := ⟨fun pins s _ _ _ us _ I r h => h.run pins s us I r⟩
theorem of_pgs {ts : List Expr} {t : TGs} {vs : List V} {σ : St} {H : Hp} {Q : St → Hp → Prop} (h : PGs X ts t) (q : t vs σ H Q) : SemGs X ts vs σ H Q := ⟨fun pins s us I r => h.run pins s σ H vs us Q I r q⟩
def ESs (X : Cx) (is : List Nat) (ts : List Expr) (f : List D → G → Option G) : Prop := ∀ J p g σ H vs ds g', Rl X.K J p g σ H → Reps X.K (del p H) vs ds → f ds g = some g' → ∀ Q : St → Hp → Prop, (∀ σ', Same is g σ g' σ' → Rl X.K J p g' σ' H → Q σ' H) → SemGs X ts vs σ H Q
theorem gs_nil : ESs X [] [] stNil := fun J p g σ H vs ds g' R0 rs e Q hQ => by
  cases rs with
  | nil =>
    cases e
    exact of_pgs pgs_nil ⟨rfl, hQ σ .refl R0⟩
  | cons _ _ => cases e
theorem gs_cons {tg : Expr} {ts : List Expr} {is js : List Nat} {f : D → G → Option G} {r : List D → G → Option G} (h : ES X is tg f) (hr : ESs X js ts r) (hs : (assignEach (tg :: ts) X.env).map (·.2) = assign tg X.env :: (assignEach ts X.env).map (·.2) := by rfl) : ESs X (is ++ js) (tg :: ts) (stCons f r) := fun J p g σ H vs ds g' R0 rs e Q hQ => by
  cases rs with
  | nil => cases e
  | cons r1 r2 =>
    rename_i v vs d ds
    have e' : (f d g).bind (r ds) = some g' := e
    cases e1 : f d g with
    | none =>
      rw [e1] at e'
      cases e'
    | some g1 =>
      rw [e1] at e'
      exact of_pgs (pgs_cons semG semGs hs) ⟨v, vs, rfl, h J p g σ H v d g1 R0 r1 e1 _ fun σ1 a1 R1 => hr J p g1 σ1 H vs ds g' R1 r2 e' Q fun σ2 a2 R2 => hQ σ2 ((a1.mono fun _ m => List.mem_append_left _ m).trans (a2.mono fun _ m => List.mem_append_right _ m)) R2⟩
def stTup (n : Nat) (r : List D → G → Option G) : D → G → Option G := fun d g => match d with
  | .tup ds => if ds.length = n then r ds g else none
  | _ => none
theorem g_tup {ts : List Expr} {is : List Nat} {k n : Nat} {r : List D → G → Option G} (hc : X.calm = true) (h : ESs X is ts r) (hn : (assignEach ts X.env).length = n := by rfl) (hst : (assignEach ts X.env).findIdx? (·.1) = none := by rfl) : ES X is (.Tuple ts k pos) (stTup n r) := fun J p g σ H v d g' R0 rv e Q hQ => by
  unfold stTup at e
  cases d <;> first | (cases e; done) | skip
  rename_i ds
  dsimp only at e
  split at e
  · rename_i hl
    obtain ⟨a, vs, rfl, sa, ra⟩ := rep_tup rv
    exact of_pg (pg_tup hc semGs hn hst) ⟨a, vs, rfl, st_del sa, by rw [ra.len]; exact hl, h J p g σ H vs ds g' R0 ra e Q hQ⟩
  · cases e
/-- the turns of a loop over data -/
def mLoop (f : D → G → Option G) (mb : M Oc) : List D → M Oc
  | [] => ret .nx
  | d :: ds => fun g => match f d g with
    | none => none
    | some g1 => match mb g1 with
      | some (.ok .nx g2) => mLoop f mb ds g2
      | some (.ok .ct g2) => mLoop f mb ds g2
      | some (.ok .bk g2) => some (.ok .nx g2)
      | r => r
def mFor (f : D → G → Option G) (mi : M (List D)) (mb : M Oc) : M Oc := mi.bind fun ds => mLoop f mb ds
end
end Mo
set_option Elab.async false
set_option linter.all false
set_option maxRecDepth 100000
set_option maxHeartbeats 4000000
/-! Mo, part six: one's own defs, as functions of data and of the dice. -/
namespace Mo
open PySem PySem.Spec L2
open Lp (FnG okN callG)
abbrev WN : WW := fun _ _ _ _ _ => False
abbrev FD := List D → C3 → Option (D × C3)
abbrev FO := List D → C3 → Option (O × C3)
structure Hd (K : PySem.W.Frag) (p : Mt) (J : Hp) (c : C3) : Prop where
  di : ∀ a, p.d = some a → OwnAt K (del p J) J a c
  no : ∀ a, p.d = some a → a ∉ p.o
  lv : ∀ a ∈ p.o, Mut (J a)
def argsM (dice : Bool) (p : Mt) (vs ws : List V) : Prop := match dice with
  | true => ∃ a, p.d = some a ∧ vs = .ref a :: ws
  | false => vs = ws
/-- behind a call: what stood stands, the dice are as told -/
structure Af (K : PySem.W.Frag) (p ph : Mt) (J J2 : Hp) (c : C3) : Prop where
  old : ∀ a o, p.d ≠ some a → J a = some o → J2 a = some o
  di : ∀ a, p.d = some a → OwnAt K (del ph J2) J2 a c
  fz : ∀ a o, isFD o = true → J2 a = some o → J a = some o
def spM (K : PySem.W.Frag) (dice : Bool) (F : FD) : Sp := fun vs J Q _ => ∃ (p : Mt) (c : C3) (ds : List D) (ws : List V) (d : D) (c' : C3), argsM dice p vs ws ∧ Hd K p J c ∧ Reps K (del p J) ws ds ∧ F ds c = some (d, c') ∧
  ∀ v J2, Af K p p J J2 c' → Rep K (del p J2) v d → Q v J2
def spO (K : PySem.W.Frag) (dice : Bool) (F : FO) : Sp := fun vs J Q _ => ∃ (p : Mt) (c : C3) (ds : List D) (ws : List V) (d : O) (c' : C3), argsM dice p vs ws ∧ Hd K p J c ∧ Reps K (del p J) ws ds ∧ F ds c = some (d, c') ∧
  ∀ q J2, Af K p (p.add q) J J2 c' → J q = none → OwnAt K (del (p.add q) J2) J2 q d → Q (.ref q) J2
def ini (dice : Bool) (n : Nat) (ds : List D) : List Sl := match dice with
  | true => .di :: (ds.map .v ++ List.replicate (n - (ds.length + 1)) .un)
  | false => ds.map .v ++ List.replicate (n - ds.length) .un
def runM (dice : Bool) (n k : Nat) (m : M Oc) : FD := fun ds c => if ds.length + dice.toNat = k then (match m ⟨ini dice n ds, c⟩ with
  | some (.ok .nx g) => some (.non, g.c)
  | some (.ok (.rt d) g) => some (d, g.c)
  | some (.ok (.rto o) g) => some (o.d, g.c)
  | _ => none) else none
def runO (dice : Bool) (n k : Nat) (m : M Oc) : FO := fun ds c => if ds.length + dice.toNat = k then (match m ⟨ini dice n ds, c⟩ with
  | some (.ok (.rto o) g) => some (o, g.c)
  | _ => none) else none
abbrev XX (P : Program) (w : World) (K : PySem.W.Frag) (mg : Str → Option Value) (base : Heap) (N : List Str) (qual : Str) (st : Stmt) (f : Addr) (cdv : Value) (B : Around) (fr : List Env) (s : Shared) (J : Hp) (Z : XK) : Cx :=
  (cxOf CX0 P w K mg base N qual (defScope st) f cdv B fr s J Z).nox
theorem args_len {dice : Bool} {p : Mt} {vs ws : List V} (h : argsM dice p vs ws) : vs.length = ws.length + dice.toNat := by
  cases dice with
  | true =>
    obtain ⟨a, _, rfl⟩ := h
    rfl
  | false =>
    have : vs = ws := h
    rw [this]
    rfl
section
variable {K : PySem.W.Frag} {J : Hp}
theorem rep_some {p : Mt} {vs : List V} {ds : List D} {n : Nat} {c : C3} (hd : Hd K p J c) (r : Reps K (del p J) vs ds) : Rl K J p ⟨ds.map .v ++ List.replicate n .un, c⟩ (vs.map some ++ List.replicate n none) J := by
  have hl := r.len
  have key : ∀ (i : Nat) x, (ds.map Sl.v ++ List.replicate n .un)[i]? = some x → (∃ d, ds[i]? = some d ∧ x = .v d) ∨ x = .un := fun i x e => by
    by_cases h : i < ds.length
    · rw [List.getElem?_append_left (by rw [List.length_map]; exact h), List.getElem?_map, List.getElem?_eq_getElem h] at e
      exact .inl ⟨_, List.getElem?_eq_getElem h, (Option.some.inj e).symm⟩
    · rw [List.getElem?_append_right (by rw [List.length_map]; omega)] at e
      exact .inr (List.eq_of_mem_replicate (List.mem_of_getElem? e))
  refine ⟨by simp [hl], fun _ _ _ e => e, hd.di, hd.no, hd.lv, fun _ _ _ e => e, fun i d e => ?_, fun i o e => ?_, fun i e => ?_, fun i j o o' q e => ?_⟩
  · rcases key i _ e with ⟨d', e', z⟩ | z
    · cases z
      obtain ⟨v, h1, h2⟩ := r.getD e'
      refine ⟨v, ?_, h2⟩
      have hi : i < vs.length := (List.getElem?_eq_some_iff.mp h1).1
      rw [List.getElem?_append_left (by rw [List.length_map]; exact hi), List.getElem?_map, h1]
      rfl
    · cases z
  · rcases key i _ e with ⟨d', e', z⟩ | z <;> cases z
  · rcases key i _ e with ⟨d', e', z⟩ | z <;> cases z
  · rcases key i _ e with ⟨d', e', z⟩ | z <;> cases z
theorem rl_start {dice : Bool} {p : Mt} {vs ws : List V} {ds : List D} {N : List Str} {c : C3} (ha : argsM dice p vs ws) (hd : Hd K p J c) (r : Reps K (del p J) ws ds) : Rl K J p ⟨ini dice N.length ds, c⟩ (L2.start N vs) J := by
  have hl := r.len
  cases dice with
  | false =>
    have e : vs = ws := ha
    subst e
    unfold L2.start ini
    rw [hl]
    exact rep_some hd r
  | true =>
    obtain ⟨a, e, rfl⟩ := ha
    have R := rep_some (n := N.length - (ds.length + 1)) hd r
    unfold L2.start ini
    rw [List.length_cons, hl]
    have shift : ∀ {l : List Sl} {x : Sl} {i : Nat} {y : Sl}, (x :: l)[i]? = some y → (i = 0 ∧ x = y) ∨ ∃ j, i = j + 1 ∧ l[j]? = some y := fun {l x i y} e => by
      cases i with
      | zero => exact .inl ⟨rfl, Option.some.inj e⟩
      | succ j => exact .inr ⟨j, rfl, e⟩
    refine ⟨?_, R.old, R.dice, R.dno, R.lv, R.fz, fun i d e => ?_, fun i o e => ?_, fun i e' => ?_, fun i j o o' q e1 e2 e3 e4 => ?_⟩
    · show (_ :: _ : List Sl).length = (some (V.ref a) :: _ : List (Option V)).length
      rw [List.length_cons, List.length_cons]
      exact congrArg (· + 1) R.len
    · rcases shift e with ⟨_, z⟩ | ⟨j, rfl, e⟩
      · cases z
      · exact R.sv j d e
    · rcases shift e with ⟨_, z⟩ | ⟨j, rfl, e⟩
      · cases z
      · exact R.so j o e
    · rcases shift e' with ⟨i0, z⟩ | ⟨j, rfl, e'⟩
      · subst i0
        exact ⟨a, rfl, e⟩
      · exact R.sd j e'
    · rcases shift e1 with ⟨_, z⟩ | ⟨i', rfl, e1⟩
      · cases z
      · rcases shift e2 with ⟨_, z⟩ | ⟨j', rfl, e2⟩
        · cases z
        · exact congrArg (· + 1) (R.inj i' j' o o' q e1 e2 e3 e4)
theorem le_back {p p' : Mt} {H : Hp} (hd : ∀ a ∈ p.o, J a ≠ none) (e1 : p'.d = p.d) (e2 : ∀ a ∈ p.o, J a ≠ none → a ∈ p'.o) : Le (del p' H) (del p H) := .of fun a u e => by
  rw [del_at fun z : Hid p a => del_no e (z.elim (fun y => .inl (by rw [e1]; exact y)) fun y => .inr (e2 a y (hd a y)))]
  exact del_of e
theorem le_back1 {p p' : Mt} {H : Hp} {q : Addr} (hd : ∀ a ∈ p.o, J a ≠ none) (e1 : p'.d = p.d) (e2 : ∀ a ∈ p.o, J a ≠ none → a ∈ p'.o) (hq : q ∈ p'.o) : Le (del p' H) (del (p.add q) H) := .of fun a u e => by
  rw [del_at fun z : Hid (p.add q) a => del_no e (z.elim (fun y => .inl (by rw [e1]; exact y)) fun y => .inr ((List.mem_cons.mp y).elim (fun w => w ▸ hq) fun w => e2 a w (hd a w)))]
  exact del_of e
end
section
variable {P : Program} {w : World} {K : PySem.W.Frag} {mg : Str → Option Value} {base : Heap} {dice : Bool} {x qual : Str} {st : Stmt} {f : Addr} {fd : FuncData} {N ps : List Str} {k : Nat} {m : M Oc}
theorem okM (F : Fun K x qual st f fd) (S : FnScope N ps (defScope st))
    (body : ∀ (cdv : Value) (B : Around) (fr : List Env) (s : Shared) (J0 : Hp) (Z : XK), Room k (XX P w K mg base N qual st f cdv B fr s J0 Z).A → (XX P w K mg base N qual st f cdv B fr s J0 Z).A.guards = some [] →
      SB (XX P w K mg base N qual st f cdv B fr s J0 Z) WN (defBody st) m) : FnG P w K mg base CX0 (k + 1) f fd ps (spM K dice (runM dice N.length ps.length m)) := by
  refine okN F S (fun vs J Q Z ⟨p, c, ds, ws, d, c', ha, _, r, e, _⟩ => ?_) fun cdv B fr s J vs Q Z hr hg ⟨p, c, ds, ws, d, c', ha, hd, r, e, q⟩ => ⟨_, semSs, ?_⟩
  · unfold runM at e
    split at e
    · rename_i h
      rw [args_len ha, r.len]
      exact h
    · cases e
  · unfold runM at e
    split at e
    · cases e1 : m ⟨ini dice N.length ds, c⟩ with
      | none =>
        rw [e1] at e
        cases e
      | some r1 =>
        rw [e1] at e
        refine body cdv B fr s J Z hr hg J p _ _ J (rl_start ha hd r) r1 e1 _ ?_
        have fin : ∀ {p' : Mt} {H' : Hp} {g' : G} {σ' : St}, As J p J p' H' → Rl K J p' g' σ' H' → Af K p p J H' g'.c := fun a R => ⟨fun b o n e => R.old b o (by rw [a.dd]; exact n) e, fun b e => (R.dice b (by rw [a.dd]; exact e)).le (le_back (fun a m => mut_ne (hd.lv a m)) a.dd a.ex) rfl, R.fz⟩
        cases r1 with
        | ex E g => cases e
        | ok o g =>
          cases o with
          | nx =>
            cases e
            exact fun σ' p' H' a R => q _ H' (fin a R) .non
          | rt d =>
            cases e
            exact fun σ' p' H' v a R rv => q v H' (fin a R) (rv.le (le_back (fun a m => mut_ne (hd.lv a m)) a.dd a.ex))
          | rto o =>
            cases e
            refine fun σ' p' H' y a R h1 h2 h3 h4 => q _ H' (fin a R) ?_
            obtain ⟨R2, e2⟩ := R.show_ h3 h1
            refine ((h4.le del_rem rfl).rep e2).le (le_back (p' := p'.rem y) (fun a m => mut_ne (hd.lv a m)) a.dd fun b hb n => List.mem_filter.mpr ⟨a.ex b hb n, decide_eq_true fun z => n (z ▸ h2)⟩)
          | bk => cases e
          | ct => cases e
    · cases e
theorem okO (F : Fun K x qual st f fd) (S : FnScope N ps (defScope st))
    (body : ∀ (cdv : Value) (B : Around) (fr : List Env) (s : Shared) (J0 : Hp) (Z : XK), Room k (XX P w K mg base N qual st f cdv B fr s J0 Z).A → (XX P w K mg base N qual st f cdv B fr s J0 Z).A.guards = some [] →
      SB (XX P w K mg base N qual st f cdv B fr s J0 Z) WN (defBody st) m) : FnG P w K mg base CX0 (k + 1) f fd ps (spO K dice (runO dice N.length ps.length m)) := by
  refine okN F S (fun vs J Q Z ⟨p, c, ds, ws, d, c', ha, _, r, e, _⟩ => ?_) fun cdv B fr s J vs Q Z hr hg ⟨p, c, ds, ws, d, c', ha, hd, r, e, q⟩ => ⟨_, semSs, ?_⟩
  · unfold runO at e
    split at e
    · rename_i h
      rw [args_len ha, r.len]
      exact h
    · cases e
  · unfold runO at e
    split at e
    · cases e1 : m ⟨ini dice N.length ds, c⟩ with
      | none =>
        rw [e1] at e
        cases e
      | some r1 =>
        rw [e1] at e
        refine body cdv B fr s J Z hr hg J p _ _ J (rl_start ha hd r) r1 e1 _ ?_
        have fin : ∀ {p' : Mt} {H' : Hp} {g' : G} {σ' : St} {y : Addr}, y ∈ p'.o → As J p J p' H' → Rl K J p' g' σ' H' → Af K p (p.add y) J H' g'.c := fun hy a R => ⟨fun b o n e => R.old b o (by rw [a.dd]; exact n) e, fun b e => (R.dice b (by rw [a.dd]; exact e)).le (le_back1 (fun a m => mut_ne (hd.lv a m)) a.dd a.ex hy) rfl, R.fz⟩
        cases r1 with
        | ex E g => cases e
        | ok o g =>
          cases o with
          | rto o =>
            cases e
            exact fun σ' p' H' y a R h1 h2 h3 h4 => q y H' (fin h1 a R) h2 (h4.le (le_back1 (fun a m => mut_ne (hd.lv a m)) a.dd a.ex h1) rfl)
          | nx => cases e
          | rt d => cases e
          | bk => cases e
          | ct => cases e
    · cases e
end
section
variable {X : Cx} {W : WW} {e : Expr} {es : List Expr} {pos ps : Pos} {k : Nat} {f : Addr} {fd : FuncData} {qs : List Str} {x : Str}
theorem Rl.hd {K : PySem.W.Frag} {J : Hp} {p : Mt} {g : G} {σ : St} {H : Hp} (R : Rl K J p g σ H) : Hd K p H g.c := ⟨R.dice, R.dno, R.lv⟩
/-- the state behind a call -/
theorem Rl.after {K : PySem.W.Frag} {J : Hp} {p : Mt} {g : G} {σ : St} {H J2 : Hp} {c : C3} (R : Rl K J p g σ H) (a : Af K p p H J2 c) : Rl K J p ⟨g.s, c⟩ σ J2 ∧ Ad g σ p H ⟨g.s, c⟩ p J2 := by
  have le : Le (del p H) (del p J2) := .of fun b o e => by
    have n := del_no e
    rw [del_at n]
    exact a.old b o (fun z => n (.inl z)) (del_of e)
  have kp : ∀ b ∈ p.o, J2 b = H b := fun b m => by
    cases e : H b with
    | none => exact absurd e (mut_ne (R.lv b m))
    | some o => exact a.old b o (fun z => R.dno b z m) e
  have th : ∀ b, H b ≠ none → J2 b ≠ none := fun b n => by
    by_cases z : p.d = some b
    · exact mut_ne (a.di b z).mut
    · cases e : H b with
      | none => exact absurd e n
      | some o =>
        rw [a.old b o z e]
        exact Option.some_ne_none _
  refine ⟨⟨R.len, fun b o n e => a.old b o n (R.old b o n e), a.di, R.dno, fun b m => by rw [kp b m]; exact R.lv b m, fun b o f e => R.fz b o f (a.fz b o f e), fun i d e => ?_, fun i o e => ?_, R.sd, R.inj⟩, ⟨rfl, le, fun b m _ => ⟨m, kp b m⟩, fun _ h => h, th⟩⟩
  · obtain ⟨v, h1, h2⟩ := R.sv i d e
    exact ⟨v, h1, h2.le le⟩
  · obtain ⟨q, h1, h2, h3, h4⟩ := R.so i o e
    exact ⟨q, h1, h2, h3, h4.le le (kp q h2)⟩
/-- .. with something new that is hidden -/
theorem Rl.afterO {K : PySem.W.Frag} {J : Hp} {p : Mt} {g : G} {σ : St} {H J2 : Hp} {c : C3} {q : Addr} {o : O} (R : Rl K J p g σ H) (a : Af K p (p.add q) H J2 c) (hn : H q = none) (ow : OwnAt K (del (p.add q) J2) J2 q o) :
    Rl K J (p.add q) ⟨g.s, c⟩ σ J2 ∧ Ad g σ p H ⟨g.s, c⟩ (p.add q) J2 ∧ NoSl ⟨g.s, c⟩ σ q := by
  have up : Le (del (p.add q) J2) (del p J2) := .of fun b u e => by
    rw [del_at fun z : Hid p b => del_no e (z.imp id (List.mem_cons_of_mem _))]
    exact del_of e
  obtain ⟨R1, ad⟩ := R.after ⟨a.old, fun b e => (a.di b e).le up rfl, a.fz⟩
  have nq := R.ne hn
  have le : Le (del p H) (del (p.add q) J2) := .of fun b u e => by
    have n := del_no e
    have nb : b ≠ q := ne_of_none (del_of e) hn
    rw [del_at fun z : Hid (p.add q) b => n (Or.imp id (fun y => (List.mem_cons.mp y).resolve_left nb) z)]
    exact a.old b u (fun z => n (.inl z)) (del_of e)
  have kp : ∀ b ∈ p.o, J2 b = H b := fun b m => by
    cases e : H b with
    | none => exact absurd e (mut_ne (R.lv b m))
    | some o => exact a.old b o (fun z => R.dno b z m) e
  have ns : NoSl ⟨g.s, c⟩ σ q := fun i o e z => by
    obtain ⟨x, h1, h2, _⟩ := R.so i o e
    rw [h1] at z
    cases z
    exact nq (.inr h2)
  refine ⟨⟨R.len, R1.old, a.di, fun b e m => ?_, fun b m => ?_, R1.fz, fun i d e => ?_, fun i o e => ?_, R.sd, R.inj⟩, ⟨rfl, le, fun b m _ => ⟨List.mem_cons_of_mem _ m, kp b m⟩, fun _ h => h, ad.th⟩, ns⟩
  · rcases List.mem_cons.mp m with z | m
    · exact nq (.inl (by rw [← z]; exact e))
    · exact R.dno b e m
  · rcases List.mem_cons.mp m with z | m
    · rw [z]
      exact ow.mut
    · exact R1.lv b m
  · obtain ⟨v, h1, h2⟩ := R.sv i d e
    exact ⟨v, h1, h2.le le⟩
  · obtain ⟨y, h1, h2, h3, h4⟩ := R.so i o e
    exact ⟨y, h1, List.mem_cons_of_mem _ h2, h3, h4.le le (kp y h2)⟩
def liftC {α : Type} (o : C3 → Option (α × C3)) : M α := fun g => match o g.c with
  | some (d, c) => some (.ok d ⟨g.s, c⟩)
  | none => none
def mFn (F : FD) (ms : M (List D)) : M D := ms.bind fun ds => liftC (F ds)
def mFnO (F : FO) (ms : M (List D)) : M O := ms.bind fun ds => liftC (F ds)
/-- the dice in slot i -/
def isDi (i : Nat) {α : Type} (m : M α) : M α := fun g => match g.s[i]? with
  | some .di => m g
  | _ => none
theorem liftC_some {α : Type} {o : C3 → Option (α × C3)} {g : G} {r : R α} (h : liftC o g = some r) : ∃ d c, o g.c = some (d, c) ∧ r = .ok d ⟨g.s, c⟩ := by
  unfold liftC at h
  cases e : o g.c with
  | none =>
    rw [e] at h
    cases h
  | some z =>
    rw [e] at h
    exact ⟨z.1, z.2, rfl, (Option.some.inj h).symm⟩
theorem isDi_some {α : Type} {i : Nat} {m : M α} {g : G} {r : R α} (h : isDi i m g = some r) : g.s[i]? = some .di ∧ m g = some r := by
  unfold isDi at h
  split at h
  · rename_i e
    exact ⟨e, h⟩
  · cases h
/-- f(e, ..) -/
theorem e_fn {F : FD} {ms : M (List D)} (hF : FnG X.prog X.w X.K X.mg X.base CX0 k f fd qs (spM X.K false F)) (hr : Room k X.A) (hgd : X.A.guards = some []) (hm : X.mg x = some (.ref f)) (hk : PySem.W.keepIn X.K (.ref f) = true) (hb : Binds X.K fd qs [])
    (ha : EA X W (e :: es) ms) (hg : Gl X x := by rfl) (hdb : (x == ("__debug__" : Str)) = false := by decide) (he : starEach (e :: es) X.env = (false, eval e X.env) :: starEach es X.env := by rfl) (hpl : (backTo pos (starEach es X.env)).any (·.1) = false := by rfl) :
    EF X W (.Call (.Name x ps) (e :: es) [] pos) (mFn F ms) := fun J p g σ H R0 r hm' Q hp =>
  of_pe (callG hF hr hgd hg hm hk hb pass0 semA hdb he hpl) (ha.then R0 hm' hp fun ds g1 p1 H1 vs ad1 R1 rs hm1 hp1 => by
    rw [List.append_nil]
    obtain ⟨d, c, e1, rfl⟩ := liftC_some hm1
    refine ⟨p1, g1.c, ds, vs, d, c, rfl, R1.hd, rs, e1, fun v J2 a rv => ?_⟩
    obtain ⟨R2, ad2⟩ := R1.after a
    exact hp1 p1 J2 ad2 R2 v rv)
theorem eo_fn {F : FO} {ms : M (List D)} (hF : FnG X.prog X.w X.K X.mg X.base CX0 k f fd qs (spO X.K false F)) (hr : Room k X.A) (hgd : X.A.guards = some []) (hm : X.mg x = some (.ref f)) (hk : PySem.W.keepIn X.K (.ref f) = true) (hb : Binds X.K fd qs [])
    (ha : EA X W (e :: es) ms) (hg : Gl X x := by rfl) (hdb : (x == ("__debug__" : Str)) = false := by decide) (he : starEach (e :: es) X.env = (false, eval e X.env) :: starEach es X.env := by rfl) (hpl : (backTo pos (starEach es X.env)).any (·.1) = false := by rfl) :
    EO X W (.Call (.Name x ps) (e :: es) [] pos) (mFnO F ms) := fun J p g σ H R0 r hm' Q hp =>
  of_pe (callG hF hr hgd hg hm hk hb pass0 semA hdb he hpl) (ha.then R0 hm' hp fun ds g1 p1 H1 vs ad1 R1 rs hm1 hp1 => by
    rw [List.append_nil]
    obtain ⟨d, c, e1, rfl⟩ := liftC_some hm1
    refine ⟨p1, g1.c, ds, vs, d, c, rfl, R1.hd, rs, e1, fun q J2 a hn ow => ?_⟩
    obtain ⟨R2, ad2, ns⟩ := R1.afterO a hn ow
    exact hp1 _ J2 ad2 R2 q List.mem_cons_self (ad1.gone hn) ns ow)
/-- f(dice, e, ..) -/
theorem e_fd {F : FD} {ms : M (List D)} {y : Str} {py : Pos} (i : Nat) (hF : FnG X.prog X.w X.K X.mg X.base CX0 k f fd qs (spM X.K true F)) (hr : Room k X.A) (hgd : X.A.guards = some []) (hm : X.mg x = some (.ref f)) (hk : PySem.W.keepIn X.K (.ref f) = true) (hb : Binds X.K fd qs [])
    (ha : EA X W es ms) (hg : Gl X x := by rfl) (hN : X.N[i]? = some y := by rfl) (hv : Vis X.env.scope y := by first | exact Or.inl rfl | exact Or.inr (Or.inl rfl) | exact Or.inr (Or.inr rfl)) (hd : (y == ("__debug__" : Str)) = false := by decide) (hcd : (y == ("__classdict__" : Str)) = false := by decide)
    (hdb : (x == ("__debug__" : Str)) = false := by decide) (he : starEach (.Name y py :: es) X.env = (false, eval (.Name y py) X.env) :: starEach es X.env := by rfl) (hpl : (backTo pos (starEach es X.env)).any (·.1) = false := by rfl) :
    EF X W (.Call (.Name x ps) (.Name y py :: es) [] pos) (isDi i (mFn F ms)) := fun J p g σ H R0 r hm' Q hp => by
  obtain ⟨h1, h2⟩ := isDi_some hm'
  obtain ⟨a, h3, h4⟩ := R0.sd i h1
  exact of_pe (callG hF hr hgd hg hm hk hb pass0 (pa_cons (pv i hN hv hd hcd) semA he) hdb he hpl) ⟨_, h3, ha.then R0 h2 hp fun ds g1 p1 H1 vs ad1 R1 rs hm1 hp1 => by
    dsimp only
    rw [List.append_nil]
    obtain ⟨d, c, e1, rfl⟩ := liftC_some hm1
    refine ⟨p1, g1.c, ds, vs, d, c, ⟨a, by rw [ad1.dd]; exact h4, rfl⟩, R1.hd, rs, e1, fun v J2 a rv => ?_⟩
    obtain ⟨R2, ad2⟩ := R1.after a
    exact hp1 p1 J2 ad2 R2 v rv⟩
end
end Mo
set_option Elab.async false
set_option linter.all false
set_option maxRecDepth 100000
set_option maxHeartbeats 4000000
/-! Mo, part seven: built-ins by values; subscripts; slices. -/
namespace Mo
open PySem PySem.Spec L2
section
variable {K : PySem.W.Frag}
/-- one argument, its value told -/
theorem reps1 {J : Hp} {vs : List V} {d : D} (h : Reps K J vs [d]) : ∃ v, vs = [v] ∧ Rep K J v d := by
  cases h with
  | cons a b =>
    cases b
    exact ⟨_, rfl, a⟩
theorem reps2 {J : Hp} {vs : List V} {d e : D} (h : Reps K J vs [d, e]) : ∃ v w, vs = [v, w] ∧ Rep K J v d ∧ Rep K J w e := by
  cases h with
  | cons a b =>
    cases b with
    | cons b c =>
      cases c
      exact ⟨_, _, rfl, a, b⟩
/-! ### len -/
def fLen : List D → Option D
  | [.str x] => if x.length ≤ sizeLine then some (.int x.length) else none
  | [.lst xs] => some (.int xs.length)
  | [.tup xs] => some (.int xs.length)
  | _ => none
theorem cs_len : CS K (fun xs H Q => ∃ x n, xs = [x] ∧ LenV K x H n ∧ Q (.int n) H) fLen := fun J p g σ H vs ds z Q R rs e q => by
  unfold fLen at e
  split at e
  · rename_i x
    split at e
    · rename_i h
      cases e
      obtain ⟨v, rfl, rv⟩ := reps1 rs
      cases rep_str rv
      exact ⟨_, x.length, rfl, ⟨h, rfl⟩, q p H .refl R _ (.int _)⟩
    · cases e
  · rename_i xs
    cases e
    obtain ⟨v, rfl, rv⟩ := reps1 rs
    obtain ⟨a, ws, rfl, s, r⟩ := rep_lst rv
    exact ⟨_, xs.length, rfl, .inl ⟨ws, sl_of s, r.len.symm⟩, q p H .refl R _ (.int _)⟩
  · rename_i xs
    cases e
    obtain ⟨v, rfl, rv⟩ := reps1 rs
    obtain ⟨a, ws, rfl, s, r⟩ := rep_tup rv
    exact ⟨_, xs.length, rfl, .inr ⟨ws, st_del s, r.len.symm⟩, q p H .refl R _ (.int _)⟩
  · cases e
/-! ### ints -/
def fInt1 : List D → Option D
  | [.int i] => some (.int i)
  | [.bl b] => some (.int (if b then 1 else 0))
  | _ => none
theorem cs_int : CS K (fun xs H Q => (∃ i, xs = [.int i] ∧ Q (.int i) H) ∨ ∃ k, xs = [.bl k] ∧ Q (.int (if k then 1 else 0)) H) fInt1 := fun J p g σ H vs ds z Q R rs e q => by
  unfold fInt1 at e
  split at e
  · cases e
    obtain ⟨v, rfl, rv⟩ := reps1 rs
    cases rep_int rv
    exact .inl ⟨_, rfl, q p H .refl R _ (.int _)⟩
  · cases e
    obtain ⟨v, rfl, rv⟩ := reps1 rs
    cases rep_bl rv
    exact .inr ⟨_, rfl, q p H .refl R _ (.int _)⟩
  · cases e
def fAbs : List D → Option D
  | [.int i] => some (.int (if i < 0 then -i else i))
  | _ => none
theorem cs_abs : CS K (fun xs H Q => ∃ i, xs = [.int i] ∧ Q (.int (if i < 0 then -i else i)) H) fAbs := fun J p g σ H vs ds z Q R rs e q => by
  unfold fAbs at e
  split at e
  · cases e
    obtain ⟨v, rfl, rv⟩ := reps1 rs
    cases rep_int rv
    exact ⟨_, rfl, q p H .refl R _ (.int _)⟩
  · cases e
def fMax2 : List D → Option D
  | [.int i, .int j] => some (.int (if j > i then j else i))
  | _ => none
def fMin2 : List D → Option D
  | [.int i, .int j] => some (.int (if j < i then j else i))
  | _ => none
theorem cs_max2 : CS K (fun xs H Q => ∃ i j, xs = [.int i, .int j] ∧ Q (.int (if j > i then j else i)) H) fMax2 := fun J p g σ H vs ds z Q R rs e q => by
  unfold fMax2 at e
  split at e
  · cases e
    obtain ⟨v, w, rfl, rv, rw'⟩ := reps2 rs
    cases rep_int rv
    cases rep_int rw'
    exact ⟨_, _, rfl, q p H .refl R _ (.int _)⟩
  · cases e
theorem cs_min2 : CS K (fun xs H Q => ∃ i j, xs = [.int i, .int j] ∧ Q (.int (if j < i then j else i)) H) fMin2 := fun J p g σ H vs ds z Q R rs e q => by
  unfold fMin2 at e
  split at e
  · cases e
    obtain ⟨v, w, rfl, rv, rw'⟩ := reps2 rs
    cases rep_int rv
    cases rep_int rw'
    exact ⟨_, _, rfl, q p H .refl R _ (.int _)⟩
  · cases e
/-! ### lists of ints, of bools -/
def asBls : List D → Option (List Bool)
  | [] => some []
  | .bl i :: ds => (asBls ds).map (i :: ·)
  | _ => none
def asStrs : List D → Option (List Str)
  | [] => some []
  | .str i :: ds => (asStrs ds).map (i :: ·)
  | _ => none
theorem reps_strs {J : Hp} : ∀ {ds : List D} {vs : List V} {ns : List Str}, Reps K J vs ds → asStrs ds = some ns → vs = ns.map V.str
  | [], _, _, h, e => by
    cases h
    cases e
    rfl
  | d :: ds, _, ns, h, e => by
    cases h with
    | cons a b =>
      cases d <;> first | (cases e; done) | skip
      rename_i i
      have e' : (asStrs ds).map (i :: ·) = some ns := e
      cases q : asStrs ds with
      | none => rw [q] at e'; cases e'
      | some r =>
        rw [q] at e'
        cases e'
        cases rep_str a
        rw [reps_strs b q]
        rfl
theorem asStrs_map : ∀ ns : List Str, asStrs (ns.map D.str) = some ns
  | [] => rfl
  | n :: r => by
    show (asStrs (r.map D.str)).map (n :: ·) = some (n :: r)
    rw [asStrs_map r]
    rfl
def fAll : List D → Option D
  | [.lst ds] => (asBls ds).map fun ns => .bl (ns.all id)
  | _ => none
/-! ### tuple(..), list(..) -/
def fTuple : List D → Option D
  | [.lst ds] => some (.tup ds)
  | [.tup ds] => some (.tup ds)
  | _ => none
theorem cs_tuple : CS K (fun xs H Q => ∃ p ys, xs = [.ref p] ∧ ((SqL K H p ys ∧ ∀ l, H l = none → Q (.ref l) (upd H l (.tup ys))) ∨ (SqT K H p ys ∧ Q (.ref p) H))) fTuple := fun J p g σ H vs ds z Q R rs e q => by
  unfold fTuple at e
  split at e
  · cases e
    obtain ⟨v, rfl, rv⟩ := reps1 rs
    obtain ⟨a, ws, rfl, s, r⟩ := rep_lst rv
    refine ⟨a, ws, rfl, .inl ⟨sl_of s, fun l hl => ?_⟩⟩
    obtain ⟨R1, ad, e1⟩ := R.new (o := .tup ws) hl
    exact q p _ ad R1 _ (.tup e1 (r.le ad.le))
  · cases e
    obtain ⟨v, rfl, rv⟩ := reps1 rs
    obtain ⟨a, ws, rfl, s, r⟩ := rep_tup rv
    exact ⟨a, ws, rfl, .inr ⟨st_del s, q p H .refl R _ rv⟩⟩
  · cases e
def fList : List D → Option O
  | [.lst ds] => some (.l ds)
  | [.tup ds] => some (.l ds)
  | _ => none
theorem co_list : CO K (fun xs H Q => ∃ p ys, xs = [.ref p] ∧ (SqL K H p ys ∨ SqT K H p ys) ∧ ∀ l, H l = none → Q (.ref l) (upd H l (.lst ys))) fList := fun J p g σ H vs ds z Q R rs e q => by
  unfold fList at e
  split at e
  · cases e
    obtain ⟨v, rfl, rv⟩ := reps1 rs
    obtain ⟨a, ws, rfl, s, r⟩ := rep_lst rv
    refine ⟨a, ws, rfl, .inl (sl_of s), fun l hl => ?_⟩
    obtain ⟨R1, ad, m, jn, n, le⟩ := R.hide (o := .lst ws) hl
    exact q _ _ ad R1 l m hl n ⟨ws, upd_same, r.le le⟩
  · cases e
    obtain ⟨v, rfl, rv⟩ := reps1 rs
    obtain ⟨a, ws, rfl, s, r⟩ := rep_tup rv
    refine ⟨a, ws, rfl, .inr (st_del s), fun l hl => ?_⟩
    obtain ⟨R1, ad, m, jn, n, le⟩ := R.hide (o := .lst ws) hl
    exact q _ _ ad R1 l m hl n ⟨ws, upd_same, r.le le⟩
  · cases e
end
end Mo
set_option Elab.async false
set_option linter.all false
set_option maxRecDepth 100000
set_option maxHeartbeats 4000000
/-! Mo, part eight: subscripts, slices, texts, own lists and dicts that change. -/
/-! ### extend, the other list read as any list -/
namespace L2
open PySem PySem.Spec PyProof.Rows PySem.AutoSeq1
theorem list_add_any (l : Addr) (items : Array Value) (n : Nat) (b : Addr) (items2 : Array Value) (n2 : Nat) (sl sl2 : Array (Option Value)) (hc0 : items.size + items2.size ≤ sizeLine) :
    Meets (Builtin.«list.__add__» ⟨[.ref l, .ref b], []⟩) (fun _ R s => s.heap.get? l = some { cls := .type "list", dict := none, data := .seq items n, slots := sl } ∧ s.heap.get? b = some { cls := .type "list", dict := none, data := .seq items2 n2, slots := sl2 } ∧ R (.ok (.ret (Value.ref s.heap.objs.size))) { s with heap := s.heap.push { cls := Value.type "list", data := Data.seq (items ++ items2) }, toks := s.toks }) :=
  .of_wp fun prog w A R s h => by obtain ⟨hp, g, d, tk, os⟩ := s; obtain ⟨hl, hb, h⟩ := h; have f1 := idx_int; have f2 := AutoSeq1.sub_tuple_tuple; have f3 := AutoSeq1.sub_list_list; have f4 := AutoSeq1.sub_tuple_list; have f5 := AutoSeq1.sub_list_tuple; wp_walk using wpAny_loadPart' hl, wpAny_loadPart' hb; exact ⟨_, rfl, h⟩
def rCatS (K : PySem.W.Frag) : R2 := fun x y H Q => ∃ l b xs zs, x = .ref l ∧ y = .ref b ∧ SqL K H l xs ∧ SqL K H b zs ∧ xs.length + zs.length ≤ sizeLine ∧ ∀ p, H p = none → Q (.ref p) (upd H p (.lst (xs ++ zs)))
theorem op_catS {X : Cx} : OpR X (binaryOp .Add) (rCatS X.K) := by
  intro pins s σ H x y v u Q I rx ry h
  obtain ⟨l, b, xs, zs, rfl, rfl, hH, hB, hz, q⟩ := h
  cases rx
  cases ry
  obtain ⟨its, r, ⟨o1, n1, e1, c1, d1, s1⟩, hz1⟩ := I.list hH
  obtain ⟨its2, r2, ⟨o2, n2, e2, c2, d2, s2⟩, hz2⟩ := I.list hB
  have hl := r.length
  have hl2 := r2.length
  obtain ⟨oc1, od1, oda1, osl1⟩ := o1
  dsimp only at c1 d1 s1
  subst c1 d1 s1
  obtain ⟨oc, od, oda, osl⟩ := o2
  dsimp only at c2 d2 s2
  subst c2 d2 s2
  refine PySem.concat_meets ⟨_, e1, rfl⟩ ⟨_, e2, rfl⟩ noFill_list_add seq_list_add F.slot_list_add F.entry_list_add (F.args_list_add_2 _ _) (list_add_any l its.toArray n1 b its2.toArray n2 osl1 osl (by rw [List.size_toArray, List.size_toArray]; omega)) ⟨e1, e2, ?_⟩
  have ea : its.toArray ++ its2.toArray = (its ++ its2).toArray := by simp
  rw [ea]
  exact ⟨.ref _, _, I.lnew (t' := s.toks) (r.append r2) (by rw [List.length_append]; omega), rfl, q _ I.fresh⟩
end L2
namespace Mo
open PySem PySem.Spec L2
section
variable {X : Cx} {W : WW} {e a b c o : Expr} {es : List Expr} {pos ps : Pos}
/-! ### subscripts by values -/
theorem atI_map {α β : Type} {xs : List α} {ys : List β} {i : Int} {y : β} (hl : xs.length = ys.length) (h : atI ys i = some y) : ∃ (k : Nat) (x : α), ys[k]? = some y ∧ xs[k]? = some x ∧ atI xs i = some x := by
  unfold atI at h
  cases e : ixN ys.length i with
  | none =>
    rw [e] at h
    cases h
  | some k =>
    rw [e] at h
    have h' : ys[k]? = some y := h
    have hk : k < ys.length := (List.getElem?_eq_some_iff.mp h').1
    have hx : xs[k]? = some (xs[k]'(by omega)) := List.getElem?_eq_getElem (by omega)
    refine ⟨k, _, h', hx, ?_⟩
    have e2 : ixN xs.length i = some k := (congrArg (fun n => ixN n i) hl).trans e
    unfold atI
    rw [e2]
    exact hx
def fIx : D → D → Option D
  | .lst ds, .int i => atI ds i
  | .tup ds, .int i => atI ds i
  | .str x, .int i => if x.length ≤ sizeLine then (atI x.cps.toList i).map fun c => .str ⟨#[c]⟩ else none
  | _, _ => none
theorem os_ix {K : PySem.W.Frag} : OpS K (rIx K) fIx := fun J p g σ H v w x y z Q R rv rw' h q => by
  unfold fIx at h
  split at h
  · rename_i ds i
    obtain ⟨a, vs, rfl, s, r⟩ := rep_lst rv
    cases rep_int rw'
    obtain ⟨k, u, h1, h2, h3⟩ := atI_map r.len h
    obtain ⟨d, e1, e2⟩ := r.get h2
    rw [h1] at e1
    cases e1
    exact .inl ⟨a, vs, i, u, rfl, rfl, sl_of s, h3, q p H .refl R _ e2⟩
  · rename_i ds i
    obtain ⟨a, vs, rfl, s, r⟩ := rep_tup rv
    cases rep_int rw'
    obtain ⟨k, u, h1, h2, h3⟩ := atI_map r.len h
    obtain ⟨d, e1, e2⟩ := r.get h2
    rw [h1] at e1
    cases e1
    exact .inr (.inl ⟨a, vs, i, u, rfl, rfl, st_del s, h3, q p H .refl R _ e2⟩)
  · rename_i x i
    split at h
    · rename_i hz
      cases rep_str rv
      cases rep_int rw'
      cases e1 : atI x.cps.toList i with
      | none =>
        rw [e1] at h
        cases h
      | some c =>
        rw [e1] at h
        cases h
        exact .inr (.inr ⟨x, i, c, rfl, rfl, hz, e1, q p H .refl R _ (.str _)⟩)
    · cases h
  · cases h
theorem e_ix {ma mb : M D} (ha : EF X W a ma) (hb : EF X W b mb) (hs : PlainIx b := by exact fun _ _ => rfl) : EF X W (.Subscript a b pos) (mBin fIx ma mb) := fun J p g σ H R0 r hm Q hp =>
  of_pe (pe_ix ix_seq semE semE hs) (ha.then R0 hm hp fun x g1 p1 H1 v ad1 R1 rv hm1 hp1 => hb.then R1 hm1 hp1 fun y g2 p2 H2 w ad2 R2 rw' hm2 hp2 => by
    obtain ⟨z, hz, hq⟩ := post_lift hm2 hp2 R2
    exact os_ix J p2 g2 σ H2 v w x y z Q R2 (rv.le ad2.le) rw' hz hq)
/-! ### slices -/
def cutD (xs : List D) (lo hi : Option Int) : List D := (xs.drop (HT.sIx xs.length 0 lo)).take (HT.sIx xs.length xs.length hi - HT.sIx xs.length 0 lo)
theorem Reps.take {K : PySem.W.Frag} {H : Hp} {vs : List V} {ds : List D} (h : Reps K H vs ds) : ∀ n, Reps K H (vs.take n) (ds.take n) := by
  induction vs generalizing ds with
  | nil =>
    cases h
    exact fun n => by rw [List.take_nil, List.take_nil]; exact .nil
  | cons v r ih =>
    cases h with
    | cons a b =>
      intro n
      cases n with
      | zero => exact .nil
      | succ n => exact .cons a (ih b n)
theorem Reps.drop {K : PySem.W.Frag} {H : Hp} {vs : List V} {ds : List D} (h : Reps K H vs ds) : ∀ n, Reps K H (vs.drop n) (ds.drop n) := by
  induction vs generalizing ds with
  | nil =>
    cases h
    exact fun n => by rw [List.drop_nil, List.drop_nil]; exact .nil
  | cons v r ih =>
    cases h with
    | cons a b =>
      intro n
      cases n with
      | zero => exact .cons a b
      | succ n => exact ih b n
theorem Reps.cut {K : PySem.W.Frag} {H : Hp} {vs : List V} {ds : List D} (h : Reps K H vs ds) (lo hi : Option Int) : Reps K H (cutV vs lo hi) (cutD ds lo hi) := by
  unfold cutV cutD
  rw [h.len]
  exact (h.drop _).take _
structure SemP (X : Cx) (e : Option Expr) (σ : St) (H : Hp) (Q : Option Int → Hp → Prop) : Prop where
  run : ∀ (pins : List (Addr × Obj)) (s : Shared), Inv X pins σ H s → wpAny (model X.prog X.w) X.A (evalPart e X.env) (fun u s' => ∃ o H', Inv X pins σ H' s' ∧ IsPart u o ∧ Q o H') X.xe s
theorem semP {e : Option Expr} : PO X e (SemP X e) := ⟨fun pins s _ _ _ I h => h.run pins s I⟩
theorem of_po {e : Option Expr} {t : TO} {σ : St} {H : Hp} {Q : Option Int → Hp → Prop} (h : PO X e t) (q : t σ H Q) : SemP X e σ H Q := ⟨fun pins s I => h.run pins s σ H Q I q⟩
def EP' (X : Cx) (W : WW) (e : Option Expr) (m : M (Option Int)) : Prop := ∀ J p g σ H, Rl X.K J p g σ H → ∀ r, m g = some r → ∀ Q : Option Int → Hp → Prop, Post X.K W J p g σ H r (fun o _ _ H' => Q o H') → SemP X e σ H Q
theorem p_none : EP' X W none (ret none) := fun J p g σ H R r hm Q hp => by
  cases hm
  exact of_po po_none (hp p H .refl R)
def asI : D → Option (Option Int)
  | .int i => some (some i)
  | _ => none
def mPart (m : M D) : M (Option Int) := m.bind fun d => lift (asI d)
theorem p_some {m : M D} (h : EF X W e m) : EP' X W (some e) (mPart m) := fun J p g σ H R r hm Q hp =>
  of_po (po_some semE) (h.then R hm hp fun d g1 p1 H1 v ad R1 rv hm1 hp1 => by
    cases d <;> first | (cases hm1; done) | skip
    cases hm1
    exact ⟨_, rep_int rv, hp1 p1 H1 .refl R1⟩)
theorem EP'.then {β : Type} {lo : Option Expr} {J : Hp} {p : Mt} {g : G} {σ : St} {H : Hp} {q : β → G → Mt → Hp → Prop} {r : R β} {m : M (Option Int)} {k : Option Int → M β} (h : EP' X W lo m) (R0 : Rl X.K J p g σ H) (hm : m.bind k g = some r) (hp : Post X.K W J p g σ H r q) {Q : Option Int → Hp → Prop}
    (hk : ∀ b g1 p1 H1, Ad g σ p H g1 p1 H1 → Rl X.K J p1 g1 σ H1 → k b g1 = some r → Post X.K W J p1 g1 σ H1 r q → Q b H1) : SemP X lo σ H Q := by
  unfold M.bind at hm
  cases e1 : m g with
  | none => rw [e1] at hm; cases hm
  | some r1 =>
    cases r1 with
    | ok d g1 =>
      rw [e1] at hm
      exact h J p g σ H R0 _ e1 Q fun p1 H1 ad R1 => hk d g1 p1 H1 ad R1 hm (hp.adv ad)
    | ex E g1 =>
      rw [e1] at hm
      cases hm
      exact h J p g σ H R0 _ e1 Q hp
def mSl {α : Type} (f : D → Option Int → Option Int → Option α) (ma : M D) (ml mh : M (Option Int)) : M α := ma.bind fun x => ml.bind fun l => mh.bind fun u => lift (f x l u)
def fSlS : D → Option Int → Option Int → Option D
  | .str x, l, u => if x.length ≤ sizeLine then some (.str (cutS x l u)) else none
  | .tup ds, l, u => if HT.sIx ds.length 0 l = 0 ∧ HT.sIx ds.length ds.length u = ds.length then none else some (.tup (cutD ds l u))
  | _, _, _ => none
def fSlL : D → Option Int → Option Int → Option O
  | .lst ds, l, u => some (.l (cutD ds l u))
  | _, _, _ => none
theorem e_sl {lo hi : Option Expr} {p2 : Pos} {ma : M D} {ml mh : M (Option Int)} (ha : EF X W a ma) (hl : EP' X W lo ml) (hh : EP' X W hi mh) : EF X W (.Subscript a (.Slice lo hi none p2) pos) (mSl fSlS ma ml mh) := fun J p g σ H R0 r hm Q hp =>
  of_pe (pe_slice (sl_str.or sl_tup) semE semP semP) (ha.then R0 hm hp fun x g1 p1 H1 v ad1 R1 rv hm1 hp1 => hl.then R1 hm1 hp1 fun l g2 p2 H2 ad2 R2 hm2 hp2 => hh.then R2 hm2 hp2 fun u g3 p3 H3 ad3 R3 hm3 hp3 => by
    obtain ⟨z, hz, hq⟩ := post_lift hm3 hp3 R3
    have rv3 := rv.le (ad2.le.trans ad3.le)
    unfold fSlS at hz
    split at hz
    · split at hz
      · rename_i hs
        cases hz
        cases rep_str rv3
        exact .inl ⟨_, rfl, hs, hq p3 H3 .refl R3 _ (.str _)⟩
      · cases hz
    · split at hz
      · cases hz
      · rename_i hs
        cases hz
        obtain ⟨b, vs, rfl, s, rr⟩ := rep_tup rv3
        refine .inr ⟨b, vs, rfl, st_del s, by rw [rr.len]; exact hs, fun q hq' => ?_⟩
        obtain ⟨R4, ad4, e4⟩ := R3.new (o := .tup (cutV vs _ _)) hq'
        exact hq p3 _ ad4 R4 _ (.tup e4 ((rr.cut _ _).le ad4.le))
    · cases hz)
theorem eo_sl {lo hi : Option Expr} {p2 : Pos} {ma : M D} {ml mh : M (Option Int)} (ha : EF X W a ma) (hl : EP' X W lo ml) (hh : EP' X W hi mh) : EO X W (.Subscript a (.Slice lo hi none p2) pos) (mSl fSlL ma ml mh) := fun J p g σ H R0 r hm Q hp =>
  of_pe (pe_slice sl_list semE semP semP) (ha.then R0 hm hp fun x g1 p1 H1 v ad1 R1 rv hm1 hp1 => hl.then R1 hm1 hp1 fun l g2 p2 H2 ad2 R2 hm2 hp2 => hh.then R2 hm2 hp2 fun u g3 p3 H3 ad3 R3 hm3 hp3 => by
    obtain ⟨z, hz, hq⟩ := post_liftO hm3 hp3 ((ad1.trans ad2).trans ad3)
    have rv3 := rv.le (ad2.le.trans ad3.le)
    unfold fSlL at hz
    split at hz
    · cases hz
      obtain ⟨b, vs, rfl, s, rr⟩ := rep_lst rv3
      refine ⟨b, vs, rfl, sl_of s, fun q hq' => ?_⟩
      obtain ⟨R4, ad4, m4, j4, n4, le4⟩ := R3.hide (o := .lst (cutV vs _ _)) hq'
      exact hq _ _ ad4 R4 q m4 hq' n4 ⟨_, upd_same, (rr.cut _ _).le le4⟩
    · cases hz)
/-! ### own lists that change -/
/-- the own thing of slot i is another one from now on -/
theorem Rl.put {K : PySem.W.Frag} {J : Hp} {p : Mt} {g : G} {σ : St} {H : Hp} {i : Nat} {o o' : O} {u : HO} {q : Addr} (R : Rl K J p g σ H) (h : g.s[i]? = some (.o o)) (hq : σ[i]? = some (some (.ref q))) (ow : OwnAt K (del p H) (upd H q u) q o') :
    Rl K J p (g.set i (.o o')) σ (upd H q u) ∧ Ad g σ p H (g.set i (.o o')) p (upd H q u) := by
  obtain ⟨q', h1, h2, h3, h4⟩ := R.so i o h
  rw [hq] at h1
  cases h1
  have nd : p.d ≠ some q := fun z => R.dno q z h2
  have hid : Hid p q := .inr h2
  have le : Le (del p H) (del p (upd H q u)) := .of fun a x e => by
    have n := del_no e
    have na : a ≠ q := fun z => n (z ▸ hid)
    rw [del_at n, upd_ne na]
    exact del_of e
  refine ⟨⟨(List.length_set ..).trans R.len, fun a x n e => ?_, fun a e => ?_, R.dno, fun a m => ?_, fun a x f e => ?_, fun j d e => ?_, fun j d e => ?_, fun j e => ?_, fun j k o1 o2 x e1 e2 e3 e4 => ?_⟩, ⟨rfl, le, fun a m n => ⟨m, upd_ne fun z => n i o h (by rw [z]; exact hq)⟩, fun a n j d e => ?_, upd_th⟩⟩
  · rw [upd_ne (ne_of_none e h3)]
    exact R.old a x n e
  · have na : a ≠ q := fun z => nd (z ▸ e)
    exact (R.dice a e).le le (upd_ne na)
  · by_cases z : a = q
    · rw [z]
      exact ow.mut
    · rw [upd_ne z]
      exact R.lv a m
  · by_cases z : a = q
    · have mu := ow.mut
      rw [upd_same] at mu
      rw [z, upd_same] at e
      cases e
      exact absurd f (mut_nf mu)
    · rw [upd_ne z] at e
      exact R.fz a x f e
  · rcases getE_set e with ⟨_, z, _⟩ | ⟨_, e⟩
    · cases z
    · obtain ⟨v, x1, x2⟩ := R.sv j d e
      exact ⟨v, x1, x2.le le⟩
  · rcases getE_set e with ⟨e1, z, _⟩ | ⟨ne, e⟩
    · cases z
      rw [e1]
      exact ⟨q, hq, h2, h3, ow.le le rfl⟩
    · obtain ⟨x, x1, x2, x3, x4⟩ := R.so j d e
      have nx : x ≠ q := fun z => ne (R.inj j i d o x e h x1 (by rw [hq, z]))
      exact ⟨x, x1, x2, x3, x4.le le (upd_ne nx)⟩
  · rcases getE_set e with ⟨_, z, _⟩ | ⟨_, e⟩
    · cases z
    · exact R.sd j e
  · have o1' : ∃ o, g.s[j]? = some (.o o) := (getE_set e1).elim (fun z => ⟨o, by rw [z.1]; exact h⟩) fun z => ⟨o1, z.2⟩
    have o2' : ∃ o, g.s[k]? = some (.o o) := (getE_set e2).elim (fun z => ⟨o, by rw [z.1]; exact h⟩) fun z => ⟨o2, z.2⟩
    obtain ⟨_, e1'⟩ := o1'
    obtain ⟨_, e2'⟩ := o2'
    exact R.inj j k _ _ x e1' e2' e3 e4
  · rcases getE_set e with ⟨e1, _, _⟩ | ⟨_, e⟩
    · rw [e1]
      exact n i o h
    · exact n j d e
def onL {α : Type} (i : Nat) (k : List D → M α) : M α := fun g => match g.s[i]? with
  | some (.o (.l xs)) => k xs g
  | _ => none
theorem onL_some {α : Type} {i : Nat} {k : List D → M α} {g : G} {r : R α} (h : onL i k g = some r) : ∃ xs, g.s[i]? = some (.o (.l xs)) ∧ k xs g = some r := by
  unfold onL at h
  split at h
  · rename_i xs e
    exact ⟨xs, e, h⟩
  · cases h
/-- e as a statement -/
def mExpr (m : M D) : M Oc := m.bind fun _ => ret .nx
theorem s_expr {m : M D} (h : EF X W e m) (hs : swapsWith e none pos.line X.env = pure false := by rfl) : SS X W (.Expr e pos) (mExpr m) := fun J p g σ H R0 r hm Dd hp => by
  obtain ⟨r1, e1, hq⟩ := post_s R0 hm hp
  refine of_ps (ps_expr semE hs) (h J p g σ H R0 r1 e1 _ (hq _ fun d g1 p1 H1 er ad R1 hk hp1 v rv => ?_))
  cases hk
  exact hp1 σ p1 H1 .refl R1
/-- what a list's method does to an own list -/
def LS1 (K : PySem.W.Frag) (rr : V → List V → Hp → VK → Prop) (f : List D → D → Option (List D × D)) : Prop := ∀ J p g σ H i q xs v d ys z (Q : VK), Rl K J p g σ H → g.s[i]? = some (.o (.l xs)) → σ[i]? = some (some (.ref q)) → Rep K (del p H) v d → f xs d = some (ys, z) →
  (∀ p' H', Ad g σ p H (g.set i (.o (.l ys))) p' H' → Rl K J p' (g.set i (.o (.l ys))) σ H' → ∀ u, Rep K (del p' H') u z → Q u H') → rr (.ref q) [v] H Q
def LS0 (K : PySem.W.Frag) (rr : V → List V → Hp → VK → Prop) (f : List D → Option (List D × D)) : Prop := ∀ J p g σ H i q xs ys z (Q : VK), Rl K J p g σ H → g.s[i]? = some (.o (.l xs)) → σ[i]? = some (some (.ref q)) → f xs = some (ys, z) →
  (∀ p' H', Ad g σ p H (g.set i (.o (.l ys))) p' H' → Rl K J p' (g.set i (.o (.l ys))) σ H' → ∀ u, Rep K (del p' H') u z → Q u H') → rr (.ref q) [] H Q
def toL (i : Nat) (o : Option (List D × D)) : M D := fun g => match o with
  | some (ys, z) => some (.ok z (g.set i (.o (.l ys))))
  | none => none
def mLm1 (i : Nat) (f : List D → D → Option (List D × D)) (m : M D) : M D := onL i fun _ => m.bind fun d => onL i fun xs => toL i (f xs d)
def mLm0 (i : Nat) (f : List D → Option (List D × D)) : M D := onL i fun xs => toL i (f xs)
theorem toL_some {i : Nat} {o : Option (List D × D)} {g : G} {r : R D} (h : toL i o g = some r) : ∃ ys z, o = some (ys, z) ∧ r = .ok z (g.set i (.o (.l ys))) := by
  unfold toL at h
  split at h
  · rename_i ys z
    exact ⟨ys, z, rfl, (Option.some.inj h).symm⟩
  · cases h
section
variable {x name : Str} {px pa : Pos} {id : String} {rr : V → List V → Hp → VK → Prop}
theorem e_lm1 {m : M D} {f : List D → D → Option (List D × D)} (i : Nat) (slot : Slot "list" name id) (hty : typeOf (.builtin id) = pure (.type "method_descriptor")) (hr : MtR X id rr) (hs : LS1 X.K rr f) (h : EF X W e m) (hN : X.N[i]? = some x := by rfl) (hv : Vis X.env.scope x := by first | exact Or.inl rfl | exact Or.inr (Or.inl rfl) | exact Or.inr (Or.inr rfl)) (hd : (x == ("__debug__" : Str)) = false := by decide) (hcd : (x == ("__classdict__" : Str)) = false := by decide)
    (hba : attributeBase (.Name x px) name X.env (eval (.Name x px) X.env) = eval (.Name x px) X.env := by rfl) (hl : (pa.endLine == ps.line) = true := by rfl)
    (hfew : ((backTo ps (starEach [e] X.env)).all (fun x => !x.1) && (backToKw ps (keywordEach [] X.env)).all (fun x => x.1.isSome) && decide ([e].length + ([] : List Keyword).length + (if ([] : List Keyword).isEmpty then 0 else 1) < 30)) = true := by rfl)
    (he : starEach [e] X.env = (false, eval e X.env) :: starEach [] X.env := by rfl) (hpl : (backTo ps (starEach [] X.env)).any (·.1) = false := by rfl) :
    EF X W (.Call (.Attribute (.Name x px) name pa) [e] [] ps) (mLm1 i f m) := fun J p g σ H R0 r hm Q hp => by
  obtain ⟨xs0, h0, hm⟩ := onL_some hm
  obtain ⟨q, h1, _, _, h4⟩ := R0.so i _ h0
  obtain ⟨vs0, h5, _⟩ := h4
  refine of_pe (pe_bm PySem.F.plainAttrs_list slot hty hr (pv i hN hv hd hcd) (pa_cons semE pa_nil he) hba hfew hl he hpl) ⟨_, h1, .inl ⟨rfl, _, .inl (.inl h5)⟩, h.then R0 hm hp fun d g1 p1 H1 v ad1 R1 rv hm1 hp1 => ?_⟩
  obtain ⟨xs, e1, hm1⟩ := onL_some hm1
  obtain ⟨ys, z, e2, rfl⟩ := toL_some hm1
  exact hs J p1 g1 σ H1 i q xs v d ys z Q R1 e1 h1 rv e2 fun p' H' ad R' u ru => hp1 p' H' ad R' u ru
theorem e_lm0 {f : List D → Option (List D × D)} (i : Nat) (slot : Slot "list" name id) (hty : typeOf (.builtin id) = pure (.type "method_descriptor")) (hr : MtR X id rr) (hs : LS0 X.K rr f) (hN : X.N[i]? = some x := by rfl) (hv : Vis X.env.scope x := by first | exact Or.inl rfl | exact Or.inr (Or.inl rfl) | exact Or.inr (Or.inr rfl)) (hd : (x == ("__debug__" : Str)) = false := by decide) (hcd : (x == ("__classdict__" : Str)) = false := by decide)
    (hba : attributeBase (.Name x px) name X.env (eval (.Name x px) X.env) = eval (.Name x px) X.env := by rfl) (hl : (pa.endLine == ps.line) = true := by rfl) :
    EF X W (.Call (.Attribute (.Name x px) name pa) [] [] ps) (mLm0 i f) := fun J p g σ H R0 r hm Q hp => by
  obtain ⟨xs0, h0, hm⟩ := onL_some hm
  obtain ⟨q, h1, _, _, h4⟩ := R0.so i _ h0
  obtain ⟨vs0, h5, _⟩ := h4
  obtain ⟨ys, z, e2, rfl⟩ := toL_some hm
  exact of_pe (pe_bm0 PySem.F.plainAttrs_list slot hty hr (pv i hN hv hd hcd) hba hl) ⟨_, h1, .inl ⟨rfl, _, .inl (.inl h5)⟩, hs J p g σ H i q xs0 ys z Q R0 h0 h1 e2 fun p' H' ad R' u ru => hp p' H' ad R' u ru⟩
end
section
variable {K : PySem.W.Frag}
def fApp (xs : List D) (d : D) : Option (List D × D) := if xs.length < sizeLine then some (xs ++ [d], .non) else none
theorem ls_app : LS1 K rAppend fApp := fun J p g σ H i q xs v d ys z Q R h0 h1 rv e k => by
  unfold fApp at e
  split at e
  · rename_i hz
    cases e
    obtain ⟨q', h2, h3, h4, vs, h5, h6⟩ := R.so i _ h0
    rw [h1] at h2
    cases h2
    obtain ⟨R1, ad⟩ := R.put (u := .lst (vs ++ [v])) h0 h1 (o' := .l (xs ++ [d])) ⟨_, upd_same, h6.app (.cons rv .nil)⟩
    exact ⟨q, vs, v, rfl, rfl, h5, by rw [h6.len]; exact hz, k p _ ad R1 _ .non⟩
  · cases e
def fPop (xs : List D) : Option (List D × D) := match xs[xs.length - 1]? with
  | some d => some (xs.dropLast, d)
  | none => none
theorem Reps.dropLast {H : Hp} {vs : List V} {ds : List D} (h : Reps K H vs ds) : Reps K H vs.dropLast ds.dropLast := by
  rw [List.dropLast_eq_take, List.dropLast_eq_take, h.len]
  exact h.take _
theorem ls_pop : LS0 K rPop fPop := fun J p g σ H i q xs ys z Q R h0 h1 e k => by
  unfold fPop at e
  split at e
  · rename_i d hd
    cases e
    obtain ⟨q', h2, h3, h4, vs, h5, h6⟩ := R.so i _ h0
    rw [h1] at h2
    cases h2
    obtain ⟨v, e1, e2⟩ := h6.getD hd
    obtain ⟨R1, ad⟩ := R.put (u := .lst vs.dropLast) h0 h1 (o' := .l xs.dropLast) ⟨_, upd_same, h6.dropLast⟩
    exact ⟨q, vs, v, rfl, rfl, h5, by rw [h6.len]; exact e1, k p _ ad R1 _ (e2.le ad.le)⟩
  · cases e
theorem Reps.erase {H : Hp} {vs : List V} {ds : List D} (h : Reps K H vs ds) : ∀ n, Reps K H (vs.eraseIdx n) (ds.eraseIdx n) := by
  induction vs generalizing ds with
  | nil =>
    cases h
    exact fun n => by rw [List.eraseIdx_nil, List.eraseIdx_nil]; exact .nil
  | cons v r ih =>
    cases h with
    | cons a b =>
      intro n
      cases n with
      | zero => exact b
      | succ n => exact .cons a (ih b n)
def fPopAt (xs : List D) : D → Option (List D × D)
  | .int i => if -(2 ^ 63) ≤ i ∧ i < 2 ^ 63 then (match seqIndex? i xs.length with
    | some k => (xs[k]?).map fun d => (xs.eraseIdx k, d)
    | none => none) else none
  | _ => none
theorem ls_popAt : LS1 K rPopAt fPopAt := fun J p g σ H i q xs v d ys z Q R h0 h1 rv e k => by
  unfold fPopAt at e
  split at e
  · rename_i n
    split at e
    · rename_i hb
      split at e
      · rename_i k' hk
        cases hx : xs[k']? with
        | none =>
          rw [hx] at e
          cases e
        | some d' =>
          rw [hx] at e
          cases e
          cases rep_int rv
          obtain ⟨q', h2, h3, h4, vs, h5, h6⟩ := R.so i _ h0
          rw [h1] at h2
          cases h2
          obtain ⟨w, e1, e2⟩ := h6.getD hx
          obtain ⟨R1, ad⟩ := R.put (u := .lst (vs.eraseIdx k')) h0 h1 (o' := .l (xs.eraseIdx k')) ⟨_, upd_same, h6.erase k'⟩
          exact ⟨q, vs, n, k', w, rfl, rfl, h5, hb.1, hb.2, by rw [h6.len]; exact hk, e1, k p _ ad R1 _ (e2.le ad.le)⟩
      · cases e
    · cases e
  · cases e
end
end
end Mo
set_option Elab.async false
set_option linter.all false
set_option maxRecDepth 100000
set_option maxHeartbeats 4000000
/-! Mo, part nine: dicts, in, sums of lists, isinstance, methods of texts. -/
namespace Mo
open PySem PySem.Spec L2
section
variable {X : Cx} {W : WW} {e a b c o : Expr} {es : List Expr} {pos ps : Pos}
section
variable {K : PySem.W.Frag}
/-! ### keys -/
def asKey : D → Option Key
  | .int i => some (.inl i)
  | .str x => some (.inr x)
  | _ => none
def asKeys : List D → Option (List Key)
  | [] => some []
  | d :: ds => match asKey d, asKeys ds with
    | some k, some r => some (k :: r)
    | _, _ => none
def kD : Key → D
  | .inl i => .int i
  | .inr x => .str x
theorem rep_key {H : Hp} {v : V} {d : D} {k : Key} (h : Rep K H v d) (e : asKey d = some k) : v = kV k := by
  cases d <;> first | (cases e; done) | skip
  · cases e
    exact rep_int h
  · cases e
    exact rep_str h
theorem reps_keys {H : Hp} : ∀ {ds : List D} {vs : List V} {ks : List Key}, Reps K H vs ds → asKeys ds = some ks → vs = ks.map kV
  | [], _, _, h, e => by
    cases h
    cases e
    rfl
  | d :: ds, _, ks, h, e => by
    cases h with
    | cons a b =>
      simp only [asKeys] at e
      cases e1 : asKey d with
      | none => rw [e1] at e; cases e
      | some k =>
        cases e2 : asKeys ds with
        | none => rw [e1, e2] at e; cases e
        | some r =>
          rw [e1, e2] at e
          cases e
          rw [rep_key a e1, reps_keys b e2]
          rfl
theorem key_rep {H : Hp} : ∀ k : Key, Rep K H (kV k) (kD k)
  | .inl i => .int i
  | .inr x => .str x
theorem keys_reps {H : Hp} : ∀ ks : List Key, Reps K H (ks.map kV) (ks.map kD)
  | [] => .nil
  | k :: r => .cons (key_rep k) (keys_reps r)
/-! ### what a dict holds -/
def valD {κ : Type} [DecidableEq κ] (kvs : List (κ × D)) (k : κ) : Option D := (kvs.find? fun kv => decide (kv.1 = k)).map (·.2)
def putD {κ : Type} [DecidableEq κ] (kvs : List (κ × D)) (k : κ) (v : D) : List (κ × D) :=
  if (kvs.any fun kv => decide (kv.1 = k)) = true then kvs.map (fun kv => if kv.1 = k then (kv.1, v) else kv) else kvs ++ [(k, v)]
theorem repK_val {H : Hp} {k : Key} : ∀ {vs : List (Key × V)} {ds : List (Key × D)}, RepK K H vs ds → (∀ d, valD ds k = some d → ∃ v, valV vs k = some v ∧ Rep K H v d) ∧ (valD ds k = none → valV vs k = none)
  | _, _, .nil => ⟨fun d e => (nomatch e), fun _ => rfl⟩
  | _, _, .cons (k := k') (v := v') (d := d') (kvs := vs) (es := ds) h r => by
    obtain ⟨h1, h2⟩ := repK_val (k := k) r
    by_cases e : k' = k
    · refine ⟨fun d q => ?_, fun q => ?_⟩
      · have q' : valD ((k', d') :: ds) k = some d' := by simp [valD, List.find?_cons, e]
        rw [q'] at q
        cases q
        exact ⟨v', valV_pos e, h⟩
      · have q' : valD ((k', d') :: ds) k = some d' := by simp [valD, List.find?_cons, e]
        rw [q'] at q
        cases q
    · have q' : valD ((k', d') :: ds) k = valD ds k := by simp [valD, List.find?_cons, e]
      rw [q', valV_neg e]
      exact ⟨h1, h2⟩
theorem repT_val {H : Hp} {k : List Key} : ∀ {vs : List (List Key × V)} {ds : List (List Key × D)}, RepT K H vs ds → (∀ d, valD ds k = some d → ∃ v, valV vs k = some v ∧ Rep K H v d) ∧ (valD ds k = none → valV vs k = none)
  | _, _, .nil => ⟨fun d e => (nomatch e), fun _ => rfl⟩
  | _, _, .cons (k := k') (v := v') (d := d') (kvs := vs) (es := ds) h r => by
    obtain ⟨h1, h2⟩ := repT_val (k := k) r
    by_cases e : k' = k
    · refine ⟨fun d q => ?_, fun q => ?_⟩
      · have q' : valD ((k', d') :: ds) k = some d' := by simp [valD, List.find?_cons, e]
        rw [q'] at q
        cases q
        exact ⟨v', valV_pos e, h⟩
      · have q' : valD ((k', d') :: ds) k = some d' := by simp [valD, List.find?_cons, e]
        rw [q'] at q
        cases q
    · have q' : valD ((k', d') :: ds) k = valD ds k := by simp [valD, List.find?_cons, e]
      rw [q', valV_neg e]
      exact ⟨h1, h2⟩
theorem repK_len {H : Hp} : ∀ {vs : List (Key × V)} {ds : List (Key × D)}, RepK K H vs ds → vs.length = ds.length
  | _, _, .nil => rfl
  | _, _, .cons h r => congrArg (· + 1) (repK_len r)
theorem repT_len {H : Hp} : ∀ {vs : List (List Key × V)} {ds : List (List Key × D)}, RepT K H vs ds → vs.length = ds.length
  | _, _, .nil => rfl
  | _, _, .cons h r => congrArg (· + 1) (repT_len r)
/-! ### d[k], k in d, d.get(k, x), by frozen data -/
def getD (d k : D) : Option (Option D) := match d, k with
  | .dk kvs, k => (asKey k).map fun k => valD kvs k
  | .dt kvs, .tup ks => (asKeys ks).map fun k => valD kvs k
  | _, _ => none
theorem dget_of {p : Mt} {H : Hp} {v w : V} {d k : D} {r : Option D} (rv : Rep K (del p H) v d) (rw' : Rep K (del p H) w k) (e : getD d k = some r) :
    ∃ a u, v = .ref a ∧ DGet H a w u ∧ (∀ x, r = some x → ∃ y, u = some y ∧ Rep K (del p H) y x) ∧ (r = none → u = none) := by
  unfold getD at e
  split at e
  · rename_i kvs
    cases q : asKey k with
    | none => rw [q] at e; cases e
    | some kk =>
      rw [q] at e
      cases e
      cases rv with
      | dk s rr =>
        obtain ⟨h1, h2⟩ := repK_val (k := kk) rr
        refine ⟨_, valV _ kk, rfl, .inl ⟨_, kk, (vw_of s).rd, rep_key rw' q, rfl⟩, fun x ex => ?_, h2⟩
        obtain ⟨y, e1, e2⟩ := h1 x ex
        exact ⟨y, e1, e2⟩
  · rename_i kvs ks
    cases q : asKeys ks with
    | none => rw [q] at e; cases e
    | some kk =>
      rw [q] at e
      cases e
      cases rv with
      | dt s rr =>
        obtain ⟨b, ws, rfl, sb, rb⟩ := rep_tup rw'
        have ew := reps_keys rb q
        subst ew
        obtain ⟨h1, h2⟩ := repT_val (k := kk) rr
        refine ⟨_, valV _ kk, rfl, .inr ⟨_, kk, b, (vw_of s).rd, rfl, del_of sb, rfl⟩, fun x ex => ?_, h2⟩
        obtain ⟨y, e1, e2⟩ := h1 x ex
        exact ⟨y, e1, e2⟩
  · cases e
end
def fDGet (d k : D) : Option D := (getD d k).bind id
theorem e_dget {ma mb : M D} (hu : X.A.units + 1 < cLine) (ha : EF X W a ma) (hb : EF X W b mb) (hs : L2.NoSl b := by exact fun _ _ => rfl) : EF X W (.Subscript a b pos) (mBin fDGet ma mb) := fun J p g σ H R0 r hm Q hp =>
  of_pe (pe_dget hu semE semE hs) (ha.then R0 hm hp fun x g1 p1 H1 v ad1 R1 rv hm1 hp1 => hb.then R1 hm1 hp1 fun y g2 p2 H2 w ad2 R2 rw' hm2 hp2 => by
    obtain ⟨z, hz, hq⟩ := post_lift hm2 hp2 R2
    unfold fDGet at hz
    cases e : getD x y with
    | none => rw [e] at hz; cases hz
    | some u =>
      rw [e] at hz
      have hz' : u = some z := hz
      obtain ⟨A, u', ev, g1, g2, _⟩ := dget_of (rv.le ad2.le) rw' e
      obtain ⟨y', e1, e2⟩ := g2 z hz'
      subst e1
      exact ⟨A, y', ev, g1, hq p2 H2 .refl R2 _ e2⟩)
def fDIn (neg : Bool) (k d : D) : Option D := (getD d k).map fun u => .bl (if neg then !u.isSome else u.isSome)
theorem dget_some {K : PySem.W.Frag} {p : Mt} {H : Hp} {r : Option D} {u : Option V} (g2 : ∀ x, r = some x → ∃ y, u = some y ∧ Rep K (del p H) y x) (g3 : r = none → u = none) : u.isSome = r.isSome := by
  cases r with
  | none => rw [g3 rfl]; rfl
  | some x =>
    obtain ⟨y, e, _⟩ := g2 x rfl
    rw [e]
    rfl
theorem e_din {ma mb : M D} (hu : X.A.units + 1 < cLine) (ha : EF X W a ma) (hb : EF X W b mb) (hm : behindInMarks .In b = false := by rfl) : EF X W (.Compare a [.In] [b] pos) (mBin (fDIn false) ma mb) := fun J p g σ H R0 r hm' Q hp =>
  of_pe (pe_cmp (pc_din hu semE semE) hm) (ha.then R0 hm' hp fun x g1 p1 H1 v ad1 R1 rv hm1 hp1 => hb.then R1 hm1 hp1 fun y g2 p2 H2 w ad2 R2 rw' hm2 hp2 => by
    obtain ⟨z, hz, hq⟩ := post_lift hm2 hp2 R2
    unfold fDIn at hz
    cases e : getD y x with
    | none => rw [e] at hz; cases hz
    | some u =>
      rw [e] at hz
      cases hz
      obtain ⟨A, u', ev, g1, g2, g3⟩ := dget_of rw' (rv.le ad2.le) e
      refine ⟨A, u', ev, g1, ?_⟩
      rw [dget_some g2 g3]
      exact hq p2 H2 .refl R2 _ (.bl _))
theorem e_dnin {ma mb : M D} (hu : X.A.units + 1 < cLine) (ha : EF X W a ma) (hb : EF X W b mb) (hm : behindInMarks .NotIn b = false := by rfl) : EF X W (.Compare a [.NotIn] [b] pos) (mBin (fDIn true) ma mb) := fun J p g σ H R0 r hm' Q hp =>
  of_pe (pe_cmp (pc_dnotin hu semE semE) hm) (ha.then R0 hm' hp fun x g1 p1 H1 v ad1 R1 rv hm1 hp1 => hb.then R1 hm1 hp1 fun y g2 p2 H2 w ad2 R2 rw' hm2 hp2 => by
    obtain ⟨z, hz, hq⟩ := post_lift hm2 hp2 R2
    unfold fDIn at hz
    cases e : getD y x with
    | none => rw [e] at hz; cases hz
    | some u =>
      rw [e] at hz
      cases hz
      obtain ⟨A, u', ev, g1, g2, g3⟩ := dget_of rw' (rv.le ad2.le) e
      refine ⟨A, u', ev, g1, ?_⟩
      rw [dget_some g2 g3]
      exact hq p2 H2 .refl R2 _ (.bl _))
/-! ### in a list, a tuple, a text -/
def flatD : D → Bool
  | .non => true
  | .bl _ => true
  | .int _ => true
  | .str _ => true
  | _ => false
def flV : D → V
  | .non => .non
  | .bl b => .bl b
  | .int i => .int i
  | .str x => .str x
  | _ => .non
theorem rep_flat {K : PySem.W.Frag} {H : Hp} {v : V} {d : D} (h : Rep K H v d) (f : flatD d = true) : v = flV d ∧ flatV v = true := by
  cases h <;> first | exact ⟨rfl, rfl⟩ | (cases f; done)
theorem reps_flat {K : PySem.W.Frag} {H : Hp} : ∀ {ds : List D} {vs : List V}, Reps K H vs ds → ds.all flatD = true → vs = ds.map flV ∧ vs.all flatV = true
  | [], _, h, _ => by cases h; exact ⟨rfl, rfl⟩
  | d :: ds, _, h, f => by
    cases h with
    | cons a b =>
      rw [List.all_cons, Bool.and_eq_true] at f
      obtain ⟨e1, e2⟩ := rep_flat a f.1
      obtain ⟨e3, e4⟩ := reps_flat b f.2
      refine ⟨by rw [e1, e3]; rfl, ?_⟩
      rw [List.all_cons, e2, e4]
      rfl
def inD (x : D) (ds : List D) : Bool := (ds.map flV).any fun y => eqV y (flV x)
def seqD : D → Option (List D)
  | .lst ds => some ds
  | .tup ds => some ds
  | _ => none
def fIn (neg : Bool) (x y : D) : Option D := match seqD y with
  | some ds => if flatD x && ds.all flatD then some (.bl (if neg then !inD x ds else inD x ds)) else none
  | none => none
theorem os_in {K : PySem.W.Frag} (neg : Bool) : OpS K (rIn K neg) (fIn neg) := fun J p g σ H v w x y z Q R rv rw' e q => by
  unfold fIn at e
  cases h : seqD y with
  | none => rw [h] at e; cases e
  | some ds =>
    rw [h] at e
    dsimp only at e
    split at e
    · rename_i hf
      rw [Bool.and_eq_true] at hf
      cases e
      obtain ⟨e1, e2⟩ := rep_flat rv hf.1
      have key : ∃ A ws, w = .ref A ∧ (SqL K H A ws ∨ SqT K H A ws) ∧ Reps K (del p H) ws ds := by
        cases y <;> first | (cases h; done) | skip
        · cases h
          obtain ⟨A, ws, rfl, s, r⟩ := rep_lst rw'
          exact ⟨A, ws, rfl, .inl (sl_of s), r⟩
        · cases h
          obtain ⟨A, ws, rfl, s, r⟩ := rep_tup rw'
          exact ⟨A, ws, rfl, .inr (st_del s), r⟩
      obtain ⟨A, ws, rfl, s, r⟩ := key
      obtain ⟨e3, e4⟩ := reps_flat r hf.2
      refine ⟨A, ws, rfl, s, e2, e4, ?_⟩
      have e5 : inV v ws = inD x ds := by
        unfold inV inD
        rw [e3, e1]
      rw [e5]
      exact q p H .refl R _ (.bl _)
    · cases e
def fInS (neg : Bool) : D → D → Option D
  | .str i, .str j => some (.bl (if neg then !(!(Builtin.Str.occurrences j i 0 j.length 1).isEmpty) else !(Builtin.Str.occurrences j i 0 j.length 1).isEmpty))
  | _, _ => none
theorem os_inS {K : PySem.W.Frag} : OpS K (fun x y H Q => ∃ i j, x = .str i ∧ y = .str j ∧ Q (.bl (!(Builtin.Str.occurrences j i 0 j.length 1).isEmpty)) H) (fInS false) := fun J p g σ H v w x y z Q R rv rw' e q => by
  unfold fInS at e
  split at e
  · cases e
    cases rep_str rv
    cases rep_str rw'
    exact ⟨_, _, rfl, rfl, q p H .refl R _ (.bl _)⟩
  · cases e
theorem os_ninS {K : PySem.W.Frag} : OpS K (fun x y H Q => ∃ i j, x = .str i ∧ y = .str j ∧ Q (.bl (!(!(Builtin.Str.occurrences j i 0 j.length 1).isEmpty))) H) (fInS true) := fun J p g σ H v w x y z Q R rv rw' e q => by
  unfold fInS at e
  split at e
  · cases e
    cases rep_str rv
    cases rep_str rw'
    exact ⟨_, _, rfl, rfl, q p H .refl R _ (.bl _)⟩
  · cases e
/-! ### + of lists, * of lists -/
def fCatL : D → D → Option O
  | .lst xs, .lst ys => if xs.length + ys.length ≤ sizeLine then some (.l (xs ++ ys)) else none
  | _, _ => none
def mBinO (f : D → D → Option O) (ma mb : M D) : M O := ma.bind fun x => mb.bind fun y => lift (f x y)
theorem eo_cat {ma mb : M D} (ha : EF X W a ma) (hb : EF X W b mb) : EO X W (.BinOp a .Add b pos) (mBinO fCatL ma mb) := fun J p g σ H R0 r hm Q hp =>
  of_pe (pe_op op_catS semE semE) (ha.then R0 hm hp fun x g1 p1 H1 v ad1 R1 rv hm1 hp1 => hb.then R1 hm1 hp1 fun y g2 p2 H2 w ad2 R2 rw' hm2 hp2 => by
    obtain ⟨z, hz, hq⟩ := post_liftO hm2 hp2 (ad1.trans ad2)
    unfold fCatL at hz
    split at hz
    · split at hz
      · rename_i hl
        cases hz
        obtain ⟨A, vs, rfl, s, r⟩ := rep_lst (rv.le ad2.le)
        obtain ⟨B, ws, rfl, s2, r2⟩ := rep_lst rw'
        refine ⟨A, B, vs, ws, rfl, rfl, sl_of s, sl_of s2, by rw [r.len, r2.len]; exact hl, fun q hq' => ?_⟩
        obtain ⟨R3, ad3, m3, j3, n3, le3⟩ := R2.hide (o := .lst (vs ++ ws)) hq'
        exact hq _ _ ad3 R3 q m3 hq' n3 ⟨_, upd_same, (r.app r2).le le3⟩
      · cases hz
    · cases hz)
/-! ### own dicts -/
def putO (o : O) (k v : D) : Option O := match o, k with
  | .k kvs, k => match asKey k with
    | some k => if kvs.length < sizeLine then some (.k (putD kvs k v)) else none
    | none => none
  | .t kvs, .tup ks => match asKeys ks with
    | some k => if kvs.length < sizeLine then some (.t (putD kvs k v)) else none
    | none => none
  | _, _ => none
def onO {α : Type} (i : Nat) (k : O → M α) : M α := fun g => match g.s[i]? with
  | some (.o o) => k o g
  | _ => none
theorem onO_some {α : Type} {i : Nat} {k : O → M α} {g : G} {r : R α} (h : onO i k g = some r) : ∃ o, g.s[i]? = some (.o o) ∧ k o g = some r := by
  unfold onO at h
  split at h
  · rename_i o e
    exact ⟨o, e, h⟩
  · cases h
/-- d[k] = v -/
def mDPut (i : Nat) (mk mv : M D) : M Oc := mv.bind fun v => onO i fun _ => mk.bind fun k => onO i fun o g => match putO o k v with
  | some o' => some (.ok .nx (g.set i (.o o')))
  | none => none
end
end Mo
set_option Elab.async false
set_option linter.all false
set_option maxRecDepth 100000
set_option maxHeartbeats 4000000
/-! Mo, part ten: own things read in their place; d.get; methods of texts; isinstance. -/
namespace Mo
open PySem PySem.Spec L2
section
variable {X : Cx} {W : WW} {e a b c o : Expr} {es : List Expr} {pos ps : Pos}
section
variable {x : Str} {px : Pos}
/-- d[k], d the def's own -/
def mDGetQ (i : Nat) (mk : M D) : M D := onO i fun _ => mk.bind fun k => onO i fun o => lift (fDGet o.d k)
def mDInQ (neg : Bool) (i : Nat) (mk : M D) : M D := mk.bind fun k => onO i fun o => lift (fDIn neg k o.d)
/-- xs[k], xs the def's own -/
def mIxQ (i : Nat) (mk : M D) : M D := onL i fun _ => mk.bind fun k => onL i fun xs => lift (fIx (.lst xs) k)
theorem e_ixQ {mk : M D} (i : Nat) (hk : EF X W b mk) (hN : X.N[i]? = some x := by rfl) (hvis : Vis X.env.scope x := by first | exact Or.inl rfl | exact Or.inr (Or.inl rfl) | exact Or.inr (Or.inr rfl)) (hd : (x == ("__debug__" : Str)) = false := by decide) (hcd : (x == ("__classdict__" : Str)) = false := by decide)
    (hs : PlainIx b := by exact fun _ _ => rfl) : EF X W (.Subscript (.Name x px) b pos) (mIxQ i mk) := fun J p g σ H R0 r hm Q hp => by
  obtain ⟨o0, h0, hm⟩ := onL_some hm
  obtain ⟨q, h1, _⟩ := R0.so i _ h0
  refine of_pe (pe_ix ix_list (pv i hN hvis hd hcd) semE hs) ⟨_, h1, hk.then R0 hm hp fun k g1 p1 H1 w ad1 R1 rw' hm1 hp1 => ?_⟩
  obtain ⟨xs, h2, hm2⟩ := onL_some hm1
  obtain ⟨q', h3, h4, h5, vs, h6, h7⟩ := R1.so i _ h2
  rw [h1] at h3
  cases h3
  obtain ⟨z, hz, hq⟩ := post_lift hm2 hp1 R1
  cases k <;> first | (cases hz; done) | skip
  rename_i n
  have hz' : atI xs n = some z := hz
  cases rep_int rw'
  obtain ⟨k', u, e1, e2, e3⟩ := atI_map h7.len hz'
  obtain ⟨d, e4, e5⟩ := h7.get e2
  rw [e1] at e4
  cases e4
  exact ⟨q, vs, n, u, rfl, rfl, .inl (.inl h6), e3, hq p1 H1 .refl R1 _ e5⟩
/-- len(xs), xs the def's own -/
def mLenQ (i : Nat) : M D := onL i fun xs => ret (.int xs.length)
theorem e_lenQ {y : Str} {pl : Pos} (i : Nat) (hm0 : X.mg "len" = none) (hN : X.N[i]? = some x := by rfl) (hvis : Vis X.env.scope x := by first | exact Or.inl rfl | exact Or.inr (Or.inl rfl) | exact Or.inr (Or.inr rfl)) (hd : (x == ("__debug__" : Str)) = false := by decide) (hcd : (x == ("__classdict__" : Str)) = false := by decide)
    (hg : Gl X "len" := by rfl) (he : starEach [.Name x px] X.env = (false, eval (.Name x px) X.env) :: starEach [] X.env := by rfl) (hpl : (backTo pos (starEach [] X.env)).any (·.1) = false := by rfl) : EF X W (.Call (.Name "len" pl) [.Name x px] [] pos) (mLenQ i) := fun J p g σ H R0 r hm Q hp => by
  obtain ⟨xs, h0, hm⟩ := onL_some hm
  cases hm
  obtain ⟨q, h1, h2, h3, vs, h4, h5⟩ := R0.so i _ h0
  refine of_pe (pe_callB call_len_seq hg hm0 PySem.boot_len (pa_cons (pv i hN hvis hd hcd) pa_nil he) (by decide) (by decide) he hpl) ⟨_, h1, q, vs, rfl, .inl (.inl (.inl h4)), ?_⟩
  rw [h5.len]
  exact hp p H .refl R0 _ (.int _)
end
/-! ### d.get(k, x) -/
def fDGet2 (d k x : D) : Option D := (getD d k).map fun u => u.getD x
def isDic : D → Bool
  | .dk _ => true
  | .dt _ => true
  | _ => false
def mGet2 (md mk mx : M D) : M D := md.bind fun d => (if isDic d = true then mk.bind fun k => mx.bind fun x => lift (fDGet2 d k x) else bad)
def mGet2Q (i : Nat) (mk mx : M D) : M D := onO i fun o0 => (if isDic o0.d = true then mk.bind fun k => mx.bind fun x => onO i fun o => lift (fDGet2 o.d k x) else bad)
/-! ### methods of texts -/
def fStrip : D → D → Option D
  | .str x, .str y => if x.length ≤ sizeLine then some (.str (Txt.stripChars x y)) else none
  | _, _ => none
/-- s.m(e), s a text -/
def mMs1 {α : Type} (f : D → D → Option α) (ma mb : M D) : M α := ma.bind fun x => (match x with | .str _ => mb.bind fun y => lift (f x y) | _ => bad)
theorem e_strip {pa : Pos} {ma mb : M D} (ha : EF X W a ma) (hb : EF X W b mb) (hba : attributeBase a "strip" X.env (eval a X.env) = eval a X.env := by rfl) (hl : (pa.endLine == pos.line) = true := by rfl) (hfew : ((backTo pos (starEach [b] X.env)).all (fun x => !x.1) && (backToKw pos (keywordEach [] X.env)).all (fun x => x.1.isSome) && decide ([b].length + ([] : List Keyword).length + (if ([] : List Keyword).isEmpty then 0 else 1) < 30)) = true := by rfl)
    (he : starEach [b] X.env = (false, eval b X.env) :: starEach [] X.env := by rfl) (hpl : (backTo pos (starEach [] X.env)).any (·.1) = false := by rfl) : EF X W (.Call (.Attribute a "strip" pa) [b] [] pos) (mMs1 fStrip ma mb) := fun J p g σ H R0 r hm Q hp =>
  of_pe (pe_bm PySem.F.plainAttrs_str PySem.F.slot_str_strip PySem.F.type_str_strip mt_stripChars semE (pa_cons semE pa_nil he) hba hfew hl he hpl) (ha.then R0 hm hp fun x g1 p1 H1 v ad1 R1 rv hm1 hp1 => by
    cases x <;> first | (cases hm1; done) | skip
    cases rep_str rv
    refine ⟨rfl, hb.then R1 hm1 hp1 fun y g2 p2 H2 w ad2 R2 rw' hm2 hp2 => ?_⟩
    obtain ⟨z, hz, hq⟩ := post_lift hm2 hp2 R2
    cases y <;> first | (cases hz; done) | skip
    cases rep_str rw'
    simp only [fStrip] at hz
    split at hz
    · rename_i hs
      cases hz
      exact ⟨_, _, rfl, rfl, hs, hq p2 H2 .refl R2 _ (.str _)⟩
    · cases hz)
/-! ### isinstance(e, T), T a built-in class -/
def tyN : D → Option String
  | .non => some "NoneType"
  | .bl _ => some "bool"
  | .int _ => some "int"
  | .str _ => some "str"
  | .lst _ => some "list"
  | .tup _ => some "tuple"
  | .dk _ => some "dict"
  | .dt _ => some "dict"
  | _ => none
theorem rep_ty {K : PySem.W.Frag} {p : Mt} {J : Hp} {v : V} {d : D} {n : String} (h : Rep K (del p J) v d) (e : tyN d = some n) : TyX K J v (.type n) ∨ ∃ a, v = .ref a ∧ (((∃ kvs, Rd J a (.dT kvs)) ∧ n = "dict") ∨ ((∃ xs, Rd J a (.lst xs)) ∧ n = "list")) := by
  cases h <;> simp only [tyN] at e <;> first | (cases e; done) | skip
  · cases e; exact .inl (.base .non)
  · cases e; exact .inl (.base (.bl _))
  · cases e; exact .inl (.base (.int _))
  · cases e; exact .inl (.base (.str _))
  · rename_i s r
    cases e
    rcases sl_of s with z | ⟨o, its, k, z1, z2, _⟩
    · exact .inr ⟨_, rfl, .inr ⟨⟨_, z⟩, rfl⟩⟩
    · exact .inl (.kList z1 z2)
  · rename_i s r
    cases e; exact .inl (.base (.tup (del_of s)))
  · rename_i s r
    cases e
    rcases vw_of s with z | ⟨_, o, z⟩
    · exact .inl (.base (.dK z))
    · exact .inl (.fDict z)
  · rename_i s r
    cases e
    exact .inr ⟨_, rfl, .inl ⟨⟨_, (vw_of s).rd⟩, rfl⟩⟩
def fIsi (cls : String) (d : D) : Option D := ((tyN d).bind fun n => kitB n cls).map .bl
def mIsi (cls : String) (m : M D) : M D := m.bind fun d => lift (fIsi cls d)
/-- what isinstance is told of a value -/
def rIsD (K : PySem.W.Frag) : List V → Hp → VK → Prop := fun xs H Q => ∃ (a : Addr) (n cls : String) (b : Bool), xs = [.ref a, .ty cls] ∧ (((∃ kvs : List (List Key × V), Rd H a (.dT kvs)) ∧ n = "dict") ∨ ((∃ ys : List V, Rd H a (.lst ys)) ∧ n = "list")) ∧ PySem.W.kitOne K (.type n) (.type cls) = some b ∧ Q (.bl b) H
theorem call_isD : CallR X (.builtin "isinstance") (rIsD X.K) := by
  intro pins s σ H xs us Q I r h
  obtain ⟨a, n, cls, b, rfl, hr, e, q⟩ := h
  obtain ⟨u1, u2, rfl, r1, r2⟩ := vals2 r
  cases (show u1 = Value.ref a from r1)
  cases (show u2 = Value.type cls from r2)
  rcases hr with ⟨⟨kvs, hr⟩, rfl⟩ | ⟨⟨ys, hr⟩, rfl⟩
  · obtain ⟨_, _, xs, _, o, es, ep, h1, h2, _⟩ := dt_rd I.hok hr
    exact PySem.W.kia_one PySem.W.kitx_dict I.kIn ⟨o, h1, h2.1⟩ e (fun z => nomatch z) fun tk => ⟨.bl b, H, I.kept (t' := tk) fun _ _ z => z, rfl, q⟩
  · obtain ⟨z, its, n, r, e2⟩ := hr.ok I.hok
    exact PySem.W.kia_one PySem.W.kitx_list I.kIn ⟨_, e2, rfl⟩ e (fun z => nomatch z) fun tk => ⟨.bl b, H, I.kept (t' := tk) fun _ _ z => z, rfl, q⟩
theorem e_isi {x : Str} {cls : String} {px pc : Pos} {m : M D} (hm0 : X.mg "isinstance" = none) (hmc : X.mg x = none) (hvc : bootBuiltins x = some (.type cls)) (ha : EF X W a m) (hg : Gl X "isinstance" := by rfl) (hgc : Gl X x := by rfl)
    (hn : x ≠ "__name__" := by decide) (hd : (x == ("__debug__" : Str)) = false := by decide) (he : starEach [a, .Name x pc] X.env = (false, eval a X.env) :: starEach [.Name x pc] X.env := by rfl) (he2 : starEach [.Name x pc] X.env = (false, eval (.Name x pc) X.env) :: starEach [] X.env := by rfl) (hpl : (backTo pos (starEach [.Name x pc] X.env)).any (·.1) = false := by rfl) :
    EF X W (.Call (.Name "isinstance" px) [a, .Name x pc] [] pos) (mIsi cls m) := fun J p g σ H R0 r hm Q hp =>
  of_pe (pe_callB (call_isi.or call_isD) hg hm0 (by decide +kernel) (pa_cons semE (pa_cons (pe_bltn (v := .ty cls) hgc hmc hvc rfl hn hd) pa_nil he2) he) (by decide) (by decide) he hpl) (ha.then R0 hm hp fun d g1 p1 H1 v ad1 R1 rv hm1 hp1 => by
    obtain ⟨z, hz, hq⟩ := post_lift hm1 hp1 R1
    unfold fIsi at hz
    cases e1 : tyN d with
    | none => rw [e1] at hz; cases hz
    | some n =>
      rw [e1] at hz
      have hz' : (kitB n cls).map D.bl = some z := hz
      cases e2 : kitB n cls with
      | none => rw [e2] at hz'; cases hz'
      | some r1 =>
        rw [e2] at hz'
        cases hz'
        rcases rep_ty rv e1 with ty | ⟨A, rfl, hr⟩
        · exact .inl ⟨v, .ty cls, _, _, r1, rfl, .ty cls, ty, kit_ty e2, hq p1 H1 .refl R1 _ (.bl r1)⟩
        · exact .inr ⟨A, n, cls, r1, rfl, hr, kit_ty e2, hq p1 H1 .refl R1 _ (.bl r1)⟩)
end
end Mo
set_option Elab.async false
set_option linter.all false
set_option maxRecDepth 100000
set_option maxHeartbeats 4000000
/-! Mo, part ten: what is walked; a dict is locked meanwhile; for. -/
namespace Mo
open PySem PySem.Spec L2
/-! ### a dict that is locked -/
inductive Lk (X : Cx) (p : Mt) (J H : Hp) : Hp → Hp → Prop
  | no : Lk X p J H J H
  | on {d : Addr} {od : Obj} {u : HO} : isD u = true → H d = some u → p.d ≠ some d → d ∉ p.o → (∀ o' u', X.H_0 d ≠ some (.frz o' u')) → Lk X p J H (upd J d (.frz od u)) (upd H d (.frz od u))
section
variable {X : Cx} {J J' H H' : Hp} {p p1 : Mt} {g g1 : G} {σ σ1 : St} {d : Addr} {od : Obj} {u : HO}
theorem vw_frz {o : HO} {x : Obj} (h : Vw H d u) (hd : H d = some (.frz x o)) (f : isFD u = false) (io : isD o = true) : u = o := by
  rcases h with z | ⟨i, y, z⟩
  · rw [hd] at z
    cases z
    have f : isD o = false := f
    rw [io] at f
    cases f
  · rw [hd] at z
    cases z
    rfl
theorem le_lock (h : H d = some u) (i : isD u = true) : Le (del p H) (del p (upd H d (.frz od u))) := fun a x f r => by
  have n := vw_no r
  have r := vw_of r
  refine vw_at n ?_
  by_cases e : a = d
  · subst e
    rcases r with z | ⟨i2, y, z⟩
    · rw [h] at z
      cases z
      exact .inr ⟨i, od, upd_same⟩
    · rw [h] at z
      cases z
      cases i
  · rcases r with z | ⟨i2, y, z⟩
    · exact .inl (by rw [upd_ne e]; exact z)
    · exact .inr ⟨i2, y, by rw [upd_ne e]; exact z⟩
theorem le_unlock (h : H d = some (.frz od u)) (i : isD u = true) : Le (del p H) (del p (upd H d u)) := fun a x f r => by
  have n := vw_no r
  have r := vw_of r
  refine vw_at n ?_
  by_cases e : a = d
  · subst e
    rw [vw_frz r h f i]
    exact .inl upd_same
  · rcases r with z | ⟨i2, y, z⟩
    · exact .inl (by rw [upd_ne e]; exact z)
    · exact .inr ⟨i2, y, by rw [upd_ne e]; exact z⟩
theorem Rl.moved {K : PySem.W.Frag} (R : Rl K J p g σ H) (hd : p.d ≠ some d) (ho : d ∉ p.o) {w w' : HO} (le : Le (del p H) (del p (upd H d w))) (old : ∀ a o, p.d ≠ some a → J' a = some o → upd H d w a = some o) (jn : ∀ a, a ≠ d → J a = none → J' a = none) (fz : ∀ a o, isFD o = true → upd H d w a = some o → J' a = some o) : Rl K J' p g σ (upd H d w) := by
  refine ⟨R.len, old, fun a e => (R.dice a e).le le (upd_ne fun z => hd (by rw [← z]; exact e)), R.dno, fun a m => ?_, fz, fun i x e => ?_, fun i x e => ?_, R.sd, R.inj⟩
  · rw [upd_ne fun z => ho (by rw [← z]; exact m)]
    exact R.lv a m
  · obtain ⟨v, h1, h2⟩ := R.sv i x e
    exact ⟨v, h1, h2.le le⟩
  · obtain ⟨q, h1, h2, h3, h4⟩ := R.so i x e
    have nq : q ≠ d := fun z => ho (by rw [← z]; exact h2)
    exact ⟨q, h1, h2, jn q nq h3, h4.le le (upd_ne nq)⟩
theorem Lk.rl (l : Lk X p J H J' H') (R : Rl X.K J p g σ H) : Rl X.K J' p g σ H' ∧ Ad g σ p H g p H' := by
  cases l with
  | no => exact ⟨R, .refl⟩
  | on i hu hd ho hn =>
    rename_i d od u
    refine ⟨R.moved (w' := u) hd ho (le_lock hu i) (fun a o n e => ?_) (fun a n e => by rw [upd_ne n]; exact e) (fun a o f e => ?_), ⟨rfl, le_lock hu i, fun a m _ => ⟨m, upd_ne fun z => ho (by rw [← z]; exact m)⟩, fun _ h => h, upd_th⟩⟩
    by_cases z : a = d
    · subst z
      rw [upd_same] at e ⊢
      exact e
    · rw [upd_ne z] at e ⊢
      exact R.old a o n e
    · by_cases z : a = d
      · subst z
        rw [upd_same] at e ⊢
        exact e
      · rw [upd_ne z] at e ⊢
        exact R.fz a o f e
/-- behind the walk, the lock let go -/
theorem Lk.off {H5 : Hp} {p5 : Mt} {g5 : G} {σ5 : St} (l : Lk X p1 J H J' H') (R1 : Rl X.K J p1 g1 σ1 H) (dd : p5.d = p1.d) (R : Rl X.K J' p5 g5 σ5 H5) : ∃ H6, (H6 = H5 ∨ ∃ d od u, H5 d = some (.frz od u) ∧ (∀ o' u', X.H_0 d ≠ some (.frz o' u')) ∧ H6 = upd H5 d u) ∧
    Rl X.K J p5 g5 σ5 H6 ∧ Le (del p5 H5) (del p5 H6) ∧ (∀ a, H5 a ≠ none → H6 a ≠ none) ∧ (∀ a ∈ p5.o, H6 a = H5 a) ∧ (∀ a, J a ≠ none → J' a ≠ none) := by
  cases l with
  | no => exact ⟨H5, .inl rfl, R, .refl _, fun _ h => h, fun _ _ => rfl, fun _ h => h⟩
  | on i hu hd ho hn =>
    rename_i d od u
    have h5 : H5 d = some (.frz od u) := R.old d _ (by rw [dd]; exact hd) upd_same
    have hd5 : p5.d ≠ some d := by rw [dd]; exact hd
    have ho5 : d ∉ p5.o := fun m => mut_frz (R.lv d m) h5
    refine ⟨upd H5 d u, .inr ⟨d, od, u, h5, hn, rfl⟩, R.moved (w' := u) hd5 ho5 (le_unlock h5 i) (fun a o n e => ?_) (fun a n e => by rw [upd_ne n] at e; exact e) (fun a o f e => ?_), le_unlock h5 i, upd_th, fun a m => upd_ne fun z => ho5 (by rw [← z]; exact m), fun a n => ?_⟩
    · by_cases z : a = d
      · subst z
        rw [upd_same]
        have := R1.old a o hd e
        rw [hu] at this
        exact this
      · rw [upd_ne z]
        exact R.old a o n (by rw [upd_ne z]; exact e)
    · by_cases z : a = d
      · subst z
        rw [upd_same] at e
        cases e
        cases u <;> first | (cases f; done) | (cases i; done)
      · rw [upd_ne z] at e
        have := R.fz a o f e
        rw [upd_ne z] at this
        exact this
    · by_cases z : a = d
      · rw [z, upd_same]
        exact Option.some_ne_none _
      · rw [upd_ne z]
        exact n
/-! ### .. let go at an end -/
def unlP (X : Cx) (P : St → Hp → Prop) : St → Hp → Prop := fun σ H => P σ H ∨ ∃ d od u, H d = some (.frz od u) ∧ (∀ o' u', X.H_0 d ≠ some (.frz o' u')) ∧ P σ (upd H d u)
def unlV (X : Cx) (P : VK) : VK := fun v H => P v H ∨ ∃ d od u, H d = some (.frz od u) ∧ (∀ o' u', X.H_0 d ≠ some (.frz o' u')) ∧ P v (upd H d u)
def unlD (X : Cx) (Dd : Ends) : Ends := ⟨unlP X Dd.nx, unlV X Dd.rt, unlP X Dd.bk, unlP X Dd.ct⟩
theorem unl_of {P : St → Hp → Prop} {H6 : Hp} (h : H6 = H ∨ ∃ d od u, H d = some (.frz od u) ∧ (∀ o' u', X.H_0 d ≠ some (.frz o' u')) ∧ H6 = upd H d u) (q : P σ H6) : unlP X P σ H := h.elim (fun z => .inl (z ▸ q)) fun ⟨d, od, u, h1, h2, h3⟩ => .inr ⟨d, od, u, h1, h2, h3 ▸ q⟩
theorem unlV_of {P : VK} {H6 : Hp} {v : V} (h : H6 = H ∨ ∃ d od u, H d = some (.frz od u) ∧ (∀ o' u', X.H_0 d ≠ some (.frz o' u')) ∧ H6 = upd H d u) (q : P v H6) : unlV X P v H := h.elim (fun z => .inl (z ▸ q)) fun ⟨d, od, u, h1, h2, h3⟩ => .inr ⟨d, od, u, h1, h2, h3 ▸ q⟩
theorem unlP_ok {P : St → Hp → Prop} {pins : List (Addr × Obj)} {s : Shared} (I : Inv X pins σ H s) (h : unlP X P σ H) : ∃ H6, Inv X pins σ H6 s ∧ P σ H6 := h.elim (fun z => ⟨H, I, z⟩) fun ⟨d, od, u, h1, h2, h3⟩ => ⟨_, I.unlock h1 h2, h3⟩
theorem unlV_ok {P : VK} {v : V} {pins : List (Addr × Obj)} {s : Shared} (I : Inv X pins σ H s) (h : unlV X P v H) : ∃ H6, Inv X pins σ H6 s ∧ P v H6 := h.elim (fun z => ⟨H, I, z⟩) fun ⟨d, od, u, h1, h2, h3⟩ => ⟨_, I.unlock h1 h2, h3⟩
theorem semS_unl {st : Stmt} {Dd : Ends} (h : SemS X st (unlD X Dd) σ H) : SemS X st Dd σ H := ⟨fun pins s I => thn (h.run pins s I) fun f s1 q => by
  cases f with
  | next =>
    obtain ⟨σ', H', I1, q⟩ := q
    obtain ⟨H6, I2, q⟩ := unlP_ok I1 q
    exact ⟨σ', H6, I2, q⟩
  | brk =>
    obtain ⟨σ', H', I1, q⟩ := q
    obtain ⟨H6, I2, q⟩ := unlP_ok I1 q
    exact ⟨σ', H6, I2, q⟩
  | cont =>
    obtain ⟨σ', H', I1, q⟩ := q
    obtain ⟨H6, I2, q⟩ := unlP_ok I1 q
    exact ⟨σ', H6, I2, q⟩
  | ret u =>
    obtain ⟨v, σ', H', I1, r, q⟩ := q
    obtain ⟨H6, I2, q⟩ := unlV_ok I1 q
    exact ⟨v, σ', H6, I2, r, q⟩⟩
theorem semE_unl {e : Expr} {Q : VK} (h : SemE X e σ H (unlV X Q)) : SemE X e σ H Q := ⟨fun pins s I => thn (h.run pins s I) fun v s1 ⟨x, H1, I1, r, q⟩ => by
  obtain ⟨H6, I2, q⟩ := unlV_ok I1 q
  exact ⟨x, H6, I2, r, q⟩⟩
/-- an expression whose dict is locked behind it -/
def tLockA (X : Cx) (td : TE) : TE := fun σ H Q => td σ H fun x H1 => Q x H1 ∨ ∃ d u, H1 d = some u ∧ Mut (some u) ∧ ∀ od, (∀ o' u', X.H_0 d ≠ some (.frz o' u')) → Q x (upd H1 d (.frz od u))
theorem pe_lockA {e : Expr} {td : TE} (he : PE X e td) : PE X e (tLockA X td) := ⟨fun pins s σ H Q I h => thn (he.run pins s σ H _ I h) fun v s1 ⟨x, H1, I1, r1, q⟩ => by
  rcases q with q | ⟨d, u, h1, h2, q⟩
  · exact ⟨x, H1, I1, r1, q⟩
  · obtain ⟨od, I2⟩ := I1.lock h1 h2
    exact ⟨x, _, I2, r1, q od (I1.nofrz h1 h2)⟩⟩
end
/-! ### a walk over data -/
structure Wk (K : PySem.W.Frag) (J : Hp) (p1 : Mt) (H1 : Hp) (Jt : It) (ds : List D) : Prop where
  ex : ∃ (Gg : Hp → Prop) (Y : Nat → Hp → V → Hp → Prop), Walk Jt ds.length Gg Y ∧ (∀ p g σ H, Rl K J p g σ H → p.d = p1.d → Le (del p1 H1) (del p H) → Gg H) ∧
    ∀ p g σ H i x H', Rl K J p g σ H → p.d = p1.d → Le (del p1 H1) (del p H) → i < ds.length → Y i H x H' → ∃ d, ds[i]? = some d ∧ Rl K J p g σ H' ∧ Ad g σ p H g p H' ∧ Rep K (del p H') x d
def EI (X : Cx) (W : WW) (tg it : Expr) (m : M (List D)) : Prop := ∀ J p g σ H, Rl X.K J p g σ H → ∀ r, m g = some r → ∀ Q : It → Hp → Prop, Post X.K W J p g σ H r (fun ds _ p' H1 => ∀ Jt J' H', Lk X p' J H1 J' H' → Wk X.K J' p' H' Jt ds → Q Jt H') → SemI X tg it σ H Q
section
variable {X : Cx} {W : WW} {e a b c : Expr} {es : List Expr} {st : Stmt} {sts th el body : List Stmt} {pos ps : Pos}
theorem s_for {tg it : Expr} {is : List Nat} {mi : M (List D)} {f : D → G → Option G} {mb : M Oc} (hc : X.calm = true) (hpa : PassesOwn (model X.prog X.w) X.A X.env X.xe) (hi : EI X WN tg it mi) (hg : ES X is tg f) (hb : SB X WN body mb) (hfs : ∀ y, foldedSetIterable it X.env y = pure y := by intro _; rfl) :
    SS X WN (.For tg it body [] pos) (mFor f mi mb) := fun J p g σ H R0 r hm Dd hp => semS_unl (by
  obtain ⟨r1, e1, hq⟩ := post_s R0 hm hp
  refine of_ps (ps_for hpa hc semI semG semSs hfs) (hi J p g σ H R0 r1 e1 _ (hq _ fun ds g1 p1 H1 er ad R1 hk hp1 Jt J' H1' lk wk => ?_))
  obtain ⟨R1', ad1⟩ := lk.rl R1
  obtain ⟨Gg, Y, w, hG, hY⟩ := wk.ex
  have fin : ∀ {σ5 : St} {p5 : Mt} {H5 : Hp} {g5 : G}, As J' p1 H1' p5 H5 → Rl X.K J' p5 g5 σ5 H5 → ∃ H6, (H6 = H5 ∨ ∃ d od u, H5 d = some (.frz od u) ∧ (∀ o' u', X.H_0 d ≠ some (.frz o' u')) ∧ H6 = upd H5 d u) ∧
      As J p1 H1 p5 H6 ∧ Rl X.K J p5 g5 σ5 H6 ∧ Le (del p5 H5) (del p5 H6) ∧ (∀ a ∈ p5.o, H6 a = H5 a) ∧ ∀ a, J a ≠ none → J' a ≠ none := fun {σ5 p5 H5 g5} a5 R5 => by
    obtain ⟨H6, h1, h2, h3, h4, h5, h6⟩ := lk.off R1 a5.dd R5
    exact ⟨H6, h1, ⟨a5.dd, ad1.le.trans (a5.le.trans h3), fun x m n => a5.ex x m (h6 x n), fun x n => h4 x (a5.th x (ad1.th x n))⟩, h2, h3, h5, h6⟩
  refine for_it w (fun k σ' H' => ∃ g' p', As J' p1 H1' p' H' ∧ Rl X.K J' p' g' σ' H' ∧ mLoop f mb (ds.drop k) g' = some r) ⟨g1, p1, .refl, R1', hk⟩ (fun k σ' H' _ ⟨g', p', a', R', _⟩ => hG p' g' σ' H' R' a'.dd a'.le) (fun k x σ' H' H2 hlt ⟨g', p', a', R', e'⟩ y => ?_) (fun σ' H' ⟨g', p', a', R', e'⟩ => ?_)
  · obtain ⟨d, ed, R2, ad2, rx⟩ := hY p' g' σ' H' k x H2 R' a'.dd a'.le hlt y
    have a2 : As J' p1 H1' p' H2 := a'.trans (ad2.as R')
    have e2 : ds.drop k = d :: ds.drop (k + 1) := by
      rw [List.drop_eq_getElem_cons hlt]
      rw [List.getElem?_eq_getElem hlt] at ed
      cases ed
      rfl
    rw [e2] at e'
    simp only [mLoop] at e'
    cases q1 : f d g' with
    | none =>
      rw [q1] at e'
      cases e'
    | some g3 =>
      rw [q1] at e'
      simp only at e'
      refine hg J' p' g' σ' H2 x d g3 R2 rx q1 _ fun σ3 sm R3 => ?_
      cases q2 : mb g3 with
      | none =>
        rw [q2] at e'
        cases e'
      | some r2 =>
        rw [q2] at e'
        refine hb J' p' g3 σ3 H2 R3 r2 q2 _ ?_
        cases r2 with
        | ex E g4 =>
          cases e'
          intro σ5 p5 H5 a5 R5
          obtain ⟨H6, h1, h2, h3, _⟩ := fin (a2.trans a5) R5
          exact hp1 σ5 p5 H6 h2 h3
        | ok o g4 =>
          cases o with
          | nx => exact fun σ5 p5 H5 a5 R5 => ⟨g4, p5, a2.trans a5, R5, e'⟩
          | ct => exact fun σ5 p5 H5 a5 R5 => ⟨g4, p5, a2.trans a5, R5, e'⟩
          | bk =>
            cases e'
            intro σ5 p5 H5 a5 R5
            obtain ⟨H6, h1, h2, h3, _⟩ := fin (a2.trans a5) R5
            exact unl_of h1 (hp1 σ5 p5 H6 h2 h3)
          | rt d2 =>
            cases e'
            intro σ5 p5 H5 v a5 R5 rv
            obtain ⟨H6, h1, h2, h3, h4, _⟩ := fin (a2.trans a5) R5
            exact unlV_of h1 (hp1 σ5 p5 H6 v h2 h3 (rv.le h4))
          | rto d2 =>
            cases e'
            intro σ5 p5 H5 q a5 R5 m1 m2 m3 m4
            obtain ⟨H6, h1, h2, h3, h4, h5, h6⟩ := fin (a2.trans a5) R5
            refine unlV_of h1 (hp1 σ5 p5 H6 q h2 h3 m1 ?_ m3 (m4.le h4 (h5 q m1)))
            cases e : J q with
            | none => rfl
            | some o => exact absurd m2 (h6 q (by rw [e]; exact Option.some_ne_none _))
  · rw [List.drop_length] at e'
    cases e'
    obtain ⟨H6, h1, h2, h3, _⟩ := fin a' R'
    exact unl_of h1 (hp1 σ' p' H6 h2 h3))
end
end Mo
set_option Elab.async false
set_option linter.all false
set_option maxRecDepth 100000
set_option maxHeartbeats 4000000
/-! Mo, between: zip and enumerate over lists and tuples, whichever stands where. -/
namespace Mo
open PySem PySem.Spec L2
open PyProof.Rows hiding St
/-! ### enumerate(e) -/
set_option maxHeartbeats 1000000 in
theorem enum1_meets {v : Value} {o : Obj} {P : Heap → Prop} (B : Begins v o P) :
    Meets (Builtin.«enumerate.__new__» ⟨[.type "enumerate", v], []⟩) (fun _ R s => P s.heap ∧
      R (.ok (.ret (.ref (s.heap.push o).objs.size))) { s with heap := (s.heap.push o).push { cls := .type "enumerate", data := .fields #[.none, .bool false, .ref s.heap.objs.size, rawInt 0, .none, .none] } }) :=
  .of_wp fun prog w A R s h => by
    obtain ⟨hp, g, d, tk, os⟩ := s
    obtain ⟨h1, h⟩ := h
    have hsub := sub_enumerate
    have go : ∀ {A' : Around} {E : Value → Shared → Prop} {Q : Value → Shared → Prop}, Q (.ref hp.objs.size) ⟨hp.push o, g, d, tk, os⟩ → wpAny (model prog w) A' (pyIter v) Q E ⟨hp, g, d, tk, os⟩ :=
      fun q => B.iter prog w _ _ ⟨hp, g, d, tk, os⟩ _ h1 q
    wp_walk using go
    refine wpAny_stack_any fun st => wpAny_pure ?_
    split
    · rename_i c _ _ _ _ _
      cases (c == Value.type "enumerate") <;> (wp_walk using go; exact ⟨_, rfl, h⟩)
    · wp_walk using go
      exact ⟨_, rfl, h⟩
theorem enum1_call {prog : Program} {w : World} {A : Around} {E : Value → Shared → Prop} {s : Shared} {v : Value} {o : Obj} {P : Heap → Prop} {Q : Value → Shared → Prop} (B : Begins v o P) (h1 : P s.heap)
    (h : ∀ h', IsEnum h' (s.heap.objs.size + 1) s.heap.objs.size 0 .none → h'.get? s.heap.objs.size = some o → (∀ b u, s.heap.get? b = some u → h'.get? b = some u) → Q (.ref (s.heap.objs.size + 1)) { s with heap := h' }) :
    wpAny (model prog w) A (call (.type "enumerate") [v]) Q E s := by
  refine callType_new F.called_enumerate (by decide) (F.typeCall_enumerate_1 _) (F.newCall_enumerate_1 _) (fun obj => F.args_object_init_2 obj _) F.entry_enumerate_new (enum1_meets B) ⟨h1, ?_⟩
  have hz : (s.heap.push o).objs.size = s.heap.objs.size + 1 := Heap.size_push ..
  show _ ∧ _
  rw [hz]
  have he := Heap.get?_push_size (s.heap.push o) (o := { cls := .type "enumerate", data := .fields #[.none, .bool false, .ref s.heap.objs.size, rawInt 0, .none, .none] }) rfl
  rw [hz] at he
  exact ⟨⟨_, he, rfl⟩, h _ he (Heap.get?_push_of_some _ (Heap.get?_push_size _ B.free)) fun b u x => Heap.get?_push_of_some _ (Heap.get?_push_of_some _ x)⟩
/-! ### zip(e, e2) -/
end Mo
set_option Elab.async false
set_option linter.all false
set_option maxRecDepth 100000
set_option maxHeartbeats 4000000
/-! Mo, part eleven: walks over data. -/
namespace Mo
open PySem PySem.Spec L2
def chars (x : Str) : List D := x.cps.toList.map fun c => .str ⟨#[c]⟩
/-- what a for goes through -/
def iterD : D → Option (List D)
  | .lst ds => some ds
  | .tup ds => some ds
  | .str x => some (chars x)
  | .dk kvs => some (kvs.map fun kv => kD kv.1)
  | .dt kvs => some (kvs.map fun kv => .tup (kv.1.map kD))
  | _ => none
def mIter (m : M D) : M (List D) := m.bind fun d => lift (iterD d)
section
variable {K : PySem.W.Frag} {J : Hp} {p1 : Mt} {H1 : Hp} {a b : Addr} {vs ws : List V} {ds es : List D}
theorem wk_list (ha : SqL K (del p1 H1) a vs) (ra : Reps K (del p1 H1) vs ds) : Wk K J p1 H1 (Itl K a) ds :=
  ⟨fun H => SqL K H a vs, YAt vs, by rw [← ra.len]; exact walk_list, fun p g σ H R dd le => sl_of (sl_le le ha), fun p g σ H i x H' R dd le hi ⟨e1, e2⟩ => by
    subst e1
    obtain ⟨d, h1, h2⟩ := (ra.le le).get e2
    exact ⟨d, h1, R, .refl, h2⟩⟩
theorem wk_tup (ha : del p1 H1 a = some (.tup vs)) (ra : Reps K (del p1 H1) vs ds) : Wk K J p1 H1 (Itt K a) ds :=
  ⟨fun H => SqT K H a vs, YAt vs, by rw [← ra.len]; exact walk_tup, fun p g σ H R dd le => st_del (le.ex ha rfl), fun p g σ H i x H' R dd le hi ⟨e1, e2⟩ => by
    subst e1
    obtain ⟨d, h1, h2⟩ := (ra.le le).get e2
    exact ⟨d, h1, R, .refl, h2⟩⟩
theorem chars_len (x : Str) : (chars x).length = x.cps.size := by
  unfold chars
  rw [List.length_map, Array.length_toList]
theorem wk_str (x : Str) : Wk K J p1 H1 (Its x) (chars x) :=
  ⟨fun _ => True, _, by rw [chars_len]; exact walk_str, fun _ _ _ _ _ _ _ => trivial, fun p g σ H i v H' R dd le hi y => by
    obtain ⟨e1, c, e2, e3⟩ := y
    subst e1
    subst e3
    refine ⟨.str ⟨#[c]⟩, ?_, R, .refl, .str _⟩
    unfold chars
    rw [List.getElem?_map, Array.getElem?_toList, e2]
    rfl⟩
theorem repK_get {H : Hp} : ∀ {vs : List (Key × V)} {es : List (Key × D)}, RepK K H vs es → ∀ {i : Nat} {k : Key} {v : V}, vs[i]? = some (k, v) → ∃ d, es[i]? = some (k, d) ∧ Rep K H v d
  | _, _, .nil, _, _, _, e => by cases e
  | _, _, .cons h r, 0, _, _, e => by
    cases e
    exact ⟨_, rfl, h⟩
  | _, _, .cons h r, i + 1, _, _, e => repK_get r (i := i) e
theorem repT_get {H : Hp} : ∀ {vs : List (List Key × V)} {es : List (List Key × D)}, RepT K H vs es → ∀ {i : Nat} {k : List Key} {v : V}, vs[i]? = some (k, v) → ∃ d, es[i]? = some (k, d) ∧ Rep K H v d
  | _, _, .nil, _, _, _, e => by cases e
  | _, _, .cons h r, 0, _, _, e => by
    cases e
    exact ⟨_, rfl, h⟩
  | _, _, .cons h r, i + 1, _, _, e => repT_get r (i := i) e
theorem wk_keys {o : Obj} {kvs : List (Key × V)} {eks : List (Key × D)} (hd : p1.d ≠ some a) (hJ : J a = some (.frz o (.dK kvs))) (r : RepK K (del p1 H1) kvs eks) : Wk K J p1 H1 (Itk a o kvs) (eks.map fun kv => kD kv.1) :=
  ⟨_, _, by rw [List.length_map, ← repK_len r]; exact walk_keys, fun p g σ H R dd le => R.old a _ (by rw [dd]; exact hd) hJ, fun p g σ H i x H' R dd le hi y => by
    obtain ⟨e1, k, v, e2, e3⟩ := y
    subst e1
    subst e3
    obtain ⟨d, h1, h2⟩ := repK_get r e2
    refine ⟨kD k, ?_, R, .refl, key_rep k⟩
    rw [List.getElem?_map, h1]
    rfl⟩
theorem Rl.vis_tup {g : G} {σ : St} {p : Mt} {H : Hp} {q : Addr} {xs : List V} (R : Rl K J p g σ H) (h : H q = some (.tup xs)) : del p H q = some (.tup xs) := by
  rw [del_at, h]
  rintro (z | z)
  · exact mut_tup (R.dice q z).mut h
  · exact mut_tup (R.lv q z) h
theorem wk_keysT {o : Obj} {kvs : List (List Key × V)} {eks : List (List Key × D)} (hd : p1.d ≠ some a) (hJ : J a = some (.frz o (.dT kvs))) (r : RepT K (del p1 H1) kvs eks) : Wk K J p1 H1 (Itkt a o kvs) (eks.map fun kv => .tup (kv.1.map kD)) :=
  ⟨_, _, by rw [List.length_map, ← repT_len r]; exact walk_keysT, fun p g σ H R dd le => R.old a _ (by rw [dd]; exact hd) hJ, fun p g σ H i x H' R dd le hi y => by
    obtain ⟨e1, k, v, q, e2, e3, e4⟩ := y
    subst e1
    subst e3
    obtain ⟨d, h1, h2⟩ := repT_get r e2
    refine ⟨.tup (k.map kD), ?_, R, .refl, .tup (R.vis_tup e4) (keys_reps k)⟩
    rw [List.getElem?_map, h1]
    rfl⟩
/-- the pairs of two walks -/
def pairs (xs ys : List D) : List D := (xs.zip ys).map fun z => .tup [z.1, z.2]
theorem wk_pair {n : Nat} {Jt : It} {Gg : Hp → Prop} {fx fy : Nat → Option V} (w : Walk Jt n Gg (YPair fx fy)) (hn : n = min ds.length es.length) (hG : ∀ p g σ H, Rl K J p g σ H → p.d = p1.d → Le (del p1 H1) (del p H) → Gg H)
    (hx : ∀ p H i x, Le (del p1 H1) (del p H) → fx i = some x → ∃ d, ds[i]? = some d ∧ Rep K (del p H) x d) (hy : ∀ p H i x, Le (del p1 H1) (del p H) → fy i = some x → ∃ d, es[i]? = some d ∧ Rep K (del p H) x d) : Wk K J p1 H1 Jt (pairs ds es) := by
  have hl : (pairs ds es).length = n := by
    unfold pairs
    rw [List.length_map, List.length_zip, hn]
  refine ⟨Gg, _, by rw [hl]; exact w, hG, fun p g σ H i v H' R dd le hi z => ?_⟩
  obtain ⟨T, x, y, e1, e2, e3, e4, e5⟩ := z
  subst e1
  subst e3
  obtain ⟨R1, ad, e6⟩ := R.new (o := .tup [x, y]) e2
  obtain ⟨dx, h1, h2⟩ := hx p _ i x (le.trans ad.le) e4
  obtain ⟨dy, h3, h4⟩ := hy p _ i y (le.trans ad.le) e5
  refine ⟨.tup [dx, dy], ?_, R1, ad, .tup e6 (.cons h2 (.cons h4 .nil))⟩
  unfold pairs
  have e7 : (ds.zip es)[i]? = some (dx, dy) := List.getElem?_zip_eq_some.mpr ⟨h1, h3⟩
  rw [List.getElem?_map, e7]
  rfl
end
section
variable {X : Cx} {W : WW} {e a b c it tg : Expr} {es : List Expr} {pos ps : Pos}
theorem ei_any {m : M D} (h : EF X W it m) : EI X W tg it (mIter m) := fun J p g σ H R0 r hm Q hp => by
  unfold mIter M.bind at hm
  cases e1 : m g with
  | none =>
    rw [e1] at hm
    cases hm
  | some r1 =>
    rw [e1] at hm
    cases r1 with
    | ex E g1 =>
      cases hm
      exact of_pi (pi_list semE) (h J p g σ H R0 _ e1 _ hp)
    | ok d g1 =>
      cases d with
      | lst ds =>
        cases hm
        refine of_pi (pi_list semE) (h J p g σ H R0 _ e1 _ fun p1 H1 ad R1 v rv => ?_)
        obtain ⟨a, vs, rfl, ha, ra⟩ := rep_lst rv
        exact ⟨a, rfl, ⟨vs, sl_of ha⟩, hp p1 H1 ad R1 _ J H1 .no (wk_list ha ra)⟩
      | tup ds =>
        cases hm
        refine of_pi (pi_tup semE) (h J p g σ H R0 _ e1 _ fun p1 H1 ad R1 v rv => ?_)
        obtain ⟨a, vs, rfl, ha, ra⟩ := rep_tup rv
        exact ⟨a, rfl, ⟨vs, st_del ha⟩, hp p1 H1 ad R1 _ J H1 .no (wk_tup ha ra)⟩
      | str x =>
        cases hm
        refine of_pi (pi_str semE) (h J p g σ H R0 _ e1 _ fun p1 H1 ad R1 v rv => ?_)
        have := rep_str rv
        subst this
        exact ⟨x, rfl, hp p1 H1 ad R1 _ J H1 .no (wk_str x)⟩
      | dk kvs =>
        cases hm
        refine of_pi (pi_keys (pe_lockA semE)) (h J p g σ H R0 _ e1 _ fun p1 H1 ad R1 v rv => ?_)
        cases rv with
        | dk hv rk =>
          rename_i a vs
          have nh := vw_no hv
          have nd : p1.d ≠ some a := fun z => nh (.inl z)
          rcases vw_of hv with h1 | ⟨_, o, h1⟩
          · refine .inr ⟨a, .dK vs, h1, trivial, fun od hn => ⟨a, od, rfl, .inl ⟨vs, upd_same, hp p1 H1 ad R1 _ _ _ (.on rfl h1 nd (fun z => nh (.inr z)) hn) ?_⟩⟩⟩
            exact wk_keys nd upd_same (rk.le (le_lock h1 rfl))
          · refine .inl ⟨a, o, rfl, .inl ⟨vs, h1, hp p1 H1 ad R1 _ J H1 .no (wk_keys nd (R1.fz a _ rfl h1) rk)⟩⟩
      | dt kvs =>
        cases hm
        refine of_pi (pi_keys (pe_lockA semE)) (h J p g σ H R0 _ e1 _ fun p1 H1 ad R1 v rv => ?_)
        cases rv with
        | dt hv rk =>
          rename_i a vs
          have nh := vw_no hv
          have nd : p1.d ≠ some a := fun z => nh (.inl z)
          rcases vw_of hv with h1 | ⟨_, o, h1⟩
          · refine .inr ⟨a, .dT vs, h1, trivial, fun od hn => ⟨a, od, rfl, .inr ⟨vs, upd_same, hp p1 H1 ad R1 _ _ _ (.on rfl h1 nd (fun z => nh (.inr z)) hn) ?_⟩⟩⟩
            exact wk_keysT nd upd_same (rk.le (le_lock h1 rfl))
          · refine .inl ⟨a, o, rfl, .inr ⟨vs, h1, hp p1 H1 ad R1 _ J H1 .no (wk_keysT nd (R1.fz a _ rfl h1) rk)⟩⟩
      | non => cases hm
      | bl b => cases hm
      | int i => cases hm
      | ins C fs => cases hm
      | sx w xs => cases hm
      | cl C => cases hm
      | vd w m => cases hm
      | any => cases hm
      | exv C fs => cases hm
/-! ### range, zip, enumerate -/
def rngD (lo : Int) (n : Nat) : List D := (List.range n).map fun i => .int (lo + (i : Nat))
def fRng1 : List D → Option (List D)
  | [.int j] => if -(2 ^ 62) ≤ j ∧ j < 2 ^ 62 then some (rngD 0 j.toNat) else none
  | _ => none
def mWk (f : List D → Option (List D)) (ms : M (List D)) : M (List D) := ms.bind fun ds => lift (f ds)
theorem wk_rng {K : PySem.W.Frag} {J : Hp} {p1 : Mt} {H1 : Hp} (lo : Int) (n : Nat) : Wk K J p1 H1 (Itr lo n) (rngD lo n) := by
  have hl : (rngD lo n).length = n := by
    unfold rngD
    rw [List.length_map, List.length_range]
  refine ⟨fun _ => True, _, by rw [hl]; exact walk_range, fun _ _ _ _ _ _ _ => trivial, fun p g σ H i v H' R dd le hi y => ?_⟩
  obtain ⟨e1, e2⟩ := y
  subst e1
  subst e2
  refine ⟨.int (lo + (i : Nat)), ?_, R, .refl, .int _⟩
  rw [hl] at hi
  unfold rngD
  rw [List.getElem?_map, List.getElem?_range hi]
  rfl
/-- the end of a walk's making -/
theorem post_liftI {J : Hp} {p : Mt} {g : G} {σ : St} {H : Hp} {o : Option (List D)} {r : R (List D)} (hm : lift o g = some r) {q : List D → G → Mt → Hp → Prop} (hp : Post X.K W J p g σ H r q) (R0 : Rl X.K J p g σ H) : ∃ ds, o = some ds ∧ q ds g p H := by
  cases o with
  | none => cases hm
  | some ds =>
    cases hm
    exact ⟨ds, rfl, hp p H .refl R0⟩
theorem ei_rng1 {ms : M (List D)} (hn : X.mg "range" = none) (h : EA X W [a] ms) (hg : Gl X "range" := by rfl) (hs : starEach [a] X.env = [(false, eval a X.env)] := by rfl) : EI X W tg (.Call (.Name "range" ps) [a] [] pos) (mWk fRng1 ms) := fun J p g σ H R0 r hm Q hp =>
  of_pi (pi_range1 hg hn semA hs) (h.then R0 hm hp fun ds g1 p1 H1 vs ad R1 rs hk hq => by
    obtain ⟨es, h1, h2⟩ := post_liftI hk hq R1
    unfold fRng1 at h1
    split at h1
    · rename_i j
      split at h1
      · rename_i z
        cases h1
        obtain ⟨v, e, rv⟩ := reps1 rs
        rw [e, rep_int rv]
        exact ⟨j, rfl, z.1, z.2, h2 _ J H1 .no (wk_rng 0 j.toNat)⟩
      · cases h1
    · cases h1)
end
end Mo
set_option Elab.async false
set_option linter.all false
set_option maxRecDepth 100000
set_option maxHeartbeats 4000000
/-! Mo, part twelve: list comprehensions. -/
namespace Mo
open PySem PySem.Spec L2
/-! ### slots forgotten and given back -/
def wipeG (g : G) : List Nat → G
  | [] => g
  | v :: vs => (wipeG g vs).set v .un
def backG (g0 g : G) : List Nat → G
  | [] => g
  | v :: vs => match g0.s[v]? with
    | some x => (backG g0 g vs).set v x
    | none => backG g0 g vs
def plainSl : Option Sl → Bool
  | some .un => true
  | some (.v _) => true
  | _ => false
def noOwn (vs : List Nat) (g : G) : Bool := vs.all fun i => plainSl g.s[i]?
section
variable {K : PySem.W.Frag} {J : Hp} {p p1 p2 : Mt} {g g1 g2 : G} {σ : St} {H H1 H2 : Hp} {i : Nat} {vs : List Nat}
theorem wipeG_c (vs : List Nat) : (wipeG g vs).c = g.c := by
  induction vs with
  | nil => rfl
  | cons v vs ih => exact ih
theorem wipeG_len (vs : List Nat) : (wipeG g vs).s.length = g.s.length := by
  induction vs with
  | nil => rfl
  | cons v vs ih => exact (List.length_set ..).trans ih
theorem wipeG_in : ∀ {vs : List Nat} {i : Nat} {x : Sl}, i ∈ vs → (wipeG g vs).s[i]? = some x → x = .un
  | v :: vs, i, x, m, e => by
    rcases getE_set e with ⟨_, e2, _⟩ | ⟨n, e⟩
    · exact e2
    · exact wipeG_in ((List.mem_cons.mp m).resolve_left n) e
theorem wipeG_out : ∀ {vs : List Nat} {i : Nat}, i ∉ vs → (wipeG g vs).s[i]? = g.s[i]?
  | [], _, _ => rfl
  | v :: vs, i, n => by
    have n1 : v ≠ i := fun z => n (by rw [z]; exact List.mem_cons_self)
    show ((wipeG g vs).s.set v .un)[i]? = _
    rw [List.getElem?_set_ne n1]
    exact wipeG_out fun z => n (List.mem_cons_of_mem _ z)
theorem wipe_out' : ∀ {vs : List Nat} {i : Nat}, i ∉ vs → (L2.wipe σ vs)[i]? = σ[i]?
  | [], _, _ => rfl
  | v :: vs, i, n => by
    have n1 : v ≠ i := fun z => n (by rw [z]; exact List.mem_cons_self)
    show ((L2.wipe σ vs).set v none)[i]? = _
    rw [List.getElem?_set_ne n1]
    exact wipe_out' fun z => n (List.mem_cons_of_mem _ z)
theorem wipe_in : ∀ {vs : List Nat} {i : Nat}, i ∈ vs → (L2.wipe σ vs)[i]? = if i < σ.length then some none else none
  | v :: vs, i, m => by
    show ((L2.wipe σ vs).set v none)[i]? = _
    rw [getV_set, wipe_length]
    by_cases e : i = v
    · subst e
      by_cases l : i < σ.length
      · rw [if_pos ⟨rfl, l⟩, if_pos l]
      · rw [if_neg fun z => l z.2, if_neg l, List.getElem?_eq_none (by rw [wipe_length]; omega)]
    · rw [if_neg fun z => e z.1]
      exact wipe_in ((List.mem_cons.mp m).resolve_left e)
theorem wipe_same {σ2 : St} (s : Same vs g (L2.wipe σ vs) g1 σ2) : L2.wipe σ2 vs = L2.wipe σ vs := by
  have hl : σ2.length = σ.length := s.len.trans (wipe_length σ vs)
  refine List.ext_getElem? fun i => ?_
  by_cases m : i ∈ vs
  · rw [wipe_in m, wipe_in m, hl]
  · rw [wipe_out' m, s.at_ i m]
theorem NoSl.wipe {a : Addr} (n : NoSl g σ a) (vs : List Nat) : NoSl (wipeG g vs) (L2.wipe σ vs) a := fun i o e z => by
  by_cases m : i ∈ vs
  · cases wipeG_in m e
  · rw [wipeG_out m] at e
    rw [wipe_out' m] at z
    exact n i o e z
theorem Rl.wipe (R : Rl K J p g σ H) (vs : List Nat) : Rl K J p (wipeG g vs) (L2.wipe σ vs) H := by
  have out : ∀ {i : Nat} {x : Sl}, x ≠ .un → (wipeG g vs).s[i]? = some x → g.s[i]? = some x ∧ (L2.wipe σ vs)[i]? = σ[i]? := fun {i x} nx e => by
    by_cases m : i ∈ vs
    · exact absurd (wipeG_in m e) nx
    · rw [wipeG_out m] at e
      exact ⟨e, wipe_out' m⟩
  refine ⟨(wipeG_len vs).trans (R.len.trans (wipe_length σ vs).symm), R.old, fun a e => by rw [wipeG_c]; exact R.dice a e, R.dno, R.lv, R.fz, fun i d e => ?_, fun i o e => ?_, fun i e => ?_, fun i j o o' q e1 e2 e3 e4 => ?_⟩
  · obtain ⟨e1, e2⟩ := out (x := .v d) (fun z => nomatch z) e
    rw [e2]
    exact R.sv i d e1
  · obtain ⟨e1, e2⟩ := out (x := .o o) (fun z => nomatch z) e
    rw [e2]
    exact R.so i o e1
  · obtain ⟨e1, e2⟩ := out (x := .di) (fun z => nomatch z) e
    rw [e2]
    exact R.sd i e1
  · obtain ⟨h1, h2⟩ := out (x := .o o) (fun z => nomatch z) e1
    obtain ⟨h3, h4⟩ := out (x := .o o') (fun z => nomatch z) e2
    rw [h2] at e3
    rw [h4] at e4
    exact R.inj i j o o' q h1 h3 e3 e4
theorem backG_c : ∀ vs : List Nat, (backG g1 g vs).c = g.c
  | [] => rfl
  | v :: vs => by
    unfold backG
    split
    · exact backG_c vs
    · exact backG_c vs
theorem backG_len : ∀ vs : List Nat, (backG g1 g vs).s.length = g.s.length
  | [] => rfl
  | v :: vs => by
    unfold backG
    split
    · exact (List.length_set ..).trans (backG_len vs)
    · exact backG_len vs
theorem backG_out : ∀ {vs : List Nat} {i : Nat}, i ∉ vs → (backG g1 g vs).s[i]? = g.s[i]?
  | [], _, _ => rfl
  | v :: vs, i, n => by
    have n1 : v ≠ i := fun z => n (by rw [z]; exact List.mem_cons_self)
    have n2 : i ∉ vs := fun z => n (List.mem_cons_of_mem _ z)
    unfold backG
    split
    · show ((backG g1 g vs).s.set v _)[i]? = _
      rw [List.getElem?_set_ne n1]
      exact backG_out n2
    · exact backG_out n2
theorem backG_in (hl : g1.s.length = g.s.length) : ∀ {vs : List Nat} {i : Nat}, i ∈ vs → (backG g1 g vs).s[i]? = g1.s[i]?
  | v :: vs, i, m => by
    unfold backG
    by_cases e : i = v
    · subst e
      cases q : g1.s[i]? with
      | none =>
        dsimp only
        rw [List.getElem?_eq_none_iff] at q ⊢
        rw [backG_len, ← hl]
        exact q
      | some x =>
        show ((backG g1 g vs).s.set i x)[i]? = some x
        rw [List.getElem?_set_self]
        rw [backG_len, ← hl]
        exact (List.getElem?_eq_some_iff.mp q).1
    · have m' := (List.mem_cons.mp m).resolve_left e
      split
      · show ((backG g1 g vs).s.set v _)[i]? = _
        rw [List.getElem?_set_ne (Ne.symm e)]
        exact backG_in hl m'
      · exact backG_in hl m'
theorem noOwn_at (h : noOwn vs g = true) {i : Nat} (m : i ∈ vs) : plainSl g.s[i]? = true := List.all_eq_true.mp h i m
theorem NoSl.back {a : Addr} (h : noOwn vs g1 = true) (hl : g1.s.length = g2.s.length) (n : NoSl g2 (L2.wipe σ vs) a) : NoSl (backG g1 g2 vs) σ a := fun i o e z => by
  by_cases m : i ∈ vs
  · rw [backG_in hl m] at e
    have := noOwn_at h m
    rw [e] at this
    cases this
  · rw [backG_out m] at e
    exact n i o e (by rw [wipe_out' m]; exact z)
theorem Rl.back (R1 : Rl K J p1 g1 σ H1) (h : noOwn vs g1 = true) (R2 : Rl K J p2 g2 (L2.wipe σ vs) H2) (le : Le (del p1 H1) (del p2 H2)) : Rl K J p2 (backG g1 g2 vs) σ H2 := by
  have hl : g1.s.length = g2.s.length := R1.len.trans ((wipe_length σ vs).symm.trans R2.len.symm)
  have own : ∀ {i : Nat} {x : Sl}, plainSl (some x) ≠ true → (backG g1 g2 vs).s[i]? = some x → g2.s[i]? = some x ∧ (L2.wipe σ vs)[i]? = σ[i]? := fun {i x} nx e => by
    by_cases m : i ∈ vs
    · rw [backG_in hl m] at e
      have := noOwn_at h m
      rw [e] at this
      exact absurd this nx
    · rw [backG_out m] at e
      exact ⟨e, wipe_out' m⟩
  refine ⟨(backG_len vs).trans (hl.symm.trans R1.len), R2.old, fun a e => by rw [backG_c]; exact R2.dice a e, R2.dno, R2.lv, R2.fz, fun i d e => ?_, fun i o e => ?_, fun i e => ?_, fun i j o o' q e1 e2 e3 e4 => ?_⟩
  · by_cases m : i ∈ vs
    · rw [backG_in hl m] at e
      obtain ⟨v, x1, x2⟩ := R1.sv i d e
      exact ⟨v, x1, x2.le le⟩
    · rw [backG_out m] at e
      have := R2.sv i d e
      rw [wipe_out' m] at this
      exact this
  · obtain ⟨x1, x2⟩ := own (x := .o o) (fun z => nomatch z) e
    rw [← x2]
    exact R2.so i o x1
  · obtain ⟨x1, x2⟩ := own (x := .di) (fun z => nomatch z) e
    rw [← x2]
    exact R2.sd i x1
  · obtain ⟨x1, x2⟩ := own (x := .o o) (fun z => nomatch z) e1
    obtain ⟨x3, x4⟩ := own (x := .o o') (fun z => nomatch z) e2
    rw [← x2] at e3
    rw [← x4] at e4
    exact R2.inj i j o o' q x1 x3 e3 e4
/-- what is hidden and no slot's is changed -/
theorem Rl.putH {q : Addr} {u : HO} (R : Rl K J p g σ H) (m : q ∈ p.o) (jn : J q = none) (n : NoSl g σ q) (mu : Mut (some u)) : Rl K J p g σ (upd H q u) ∧ Le (del p H) (del p (upd H q u)) := by
  have nd : p.d ≠ some q := fun z => R.dno q z m
  have hid : Hid p q := .inr m
  have le : Le (del p H) (del p (upd H q u)) := .of fun a x e => by
    have na : a ≠ q := fun z => del_no e (z ▸ hid)
    rw [del_at (del_no e), upd_ne na]
    exact del_of e
  refine ⟨⟨R.len, fun a x nx e => ?_, fun a e => ?_, R.dno, fun a ma => ?_, fun a o f e => ?_, fun i d e => ?_, fun i o e => ?_, R.sd, R.inj⟩, le⟩
  · rw [upd_ne (ne_of_none e jn)]
    exact R.old a x nx e
  · exact (R.dice a e).le le (upd_ne fun z => nd (by rw [← z]; exact e))
  · by_cases z : a = q
    · rw [z, upd_same]
      exact mu
    · rw [upd_ne z]
      exact R.lv a ma
  · by_cases z : a = q
    · rw [z, upd_same] at e
      cases e
      exact absurd f (mut_nf mu)
    · rw [upd_ne z] at e
      exact R.fz a o f e
  · obtain ⟨v, x1, x2⟩ := R.sv i d e
    exact ⟨v, x1, x2.le le⟩
  · obtain ⟨y, x1, x2, x3, x4⟩ := R.so i o e
    have ny : y ≠ q := fun z => n i o e (by rw [x1, z])
    exact ⟨y, x1, x2, x3, x4.le le (upd_ne ny)⟩
end
/-! ### tests -/
structure SemTs (X : Cx) (ifs : List Expr) (σ : St) (H : Hp) (Q : Bool → Hp → Prop) : Prop where
  run : ∀ (pins : List (Addr × Obj)) (s : Shared), Inv X pins σ H s →
    wpAny (model X.prog X.w) X.A (forIn ifs true fun c r => if r = true then do let ok ← isTrue c X.env (eval c X.env); pure (ForInStep.yield ok) else pure (ForInStep.yield r)) (TP X pins σ Q) X.xe s
theorem of_pts {X : Cx} {ifs : List Expr} {t : TT} {σ : St} {H : Hp} {Q : Bool → Hp → Prop} (h : PTs X ifs t) (q : t σ H Q) : SemTs X ifs σ H Q := ⟨fun pins s I => h.run pins s σ H Q I q⟩
def ETs (X : Cx) (W : WW) (ifs : List Expr) (m : M Bool) : Prop := ∀ J p g σ H, Rl X.K J p g σ H → ∀ r, m g = some r → ∀ Q : Bool → Hp → Prop, Post X.K W J p g σ H r (qT Q) → SemTs X ifs σ H Q
section
variable {X : Cx} {W : WW} {e a b c it tg : Expr} {es : List Expr} {pos ps : Pos}
theorem ts_one {m : M Bool} (h : ET X W c m) : ETs X W [c] m := fun J p g σ H R0 r hm Q hp => of_pts (pts_one semT) (h J p g σ H R0 r hm Q hp)
/-! ### [elt for tg in it if ..] -/
def lcGo (vs : List Nat) (f : D → G → Option G) (mt : M Bool) (me : M D) : List D → List D → M (List D)
  | [], acc => ret acc
  | d :: ds, acc => fun g => match f d g with
    | none => none
    | some g1 => match mt g1 with
      | some (.ok true g2) => match me g2 with
        | some (.ok y g3) => if acc.length < sizeLine then lcGo vs f mt me ds (acc ++ [y]) (wipeG g3 vs) else none
        | _ => none
      | some (.ok false g2) => lcGo vs f mt me ds acc (wipeG g2 vs)
      | _ => none
def lcEnd {α β : Type} (vs : List Nat) (g1 : G) (k : α → β) : Option (R α) → Option (R β)
  | some (.ok a g2) => some (.ok (k a) (backG g1 g2 vs))
  | _ => none
def mLc (vs : List Nat) (mi : M (List D)) (f : D → G → Option G) (mt : M Bool) (me : M D) : M O := mi.bind fun ds g1 => if noOwn vs g1 = true then lcEnd vs g1 .l (lcGo vs f mt me ds [] (wipeG g1 vs)) else none
/-- from turn to turn -/
theorem Ad.turn {gw gk g3 g5 : G} {wσ σ2 : St} {p1 pk p5 : Mt} {H1 Hk H' H5 H6 : Hp} {vs : List Nat} {q : Addr} (R1 : ∀ a ∈ p1.o, H1 a ≠ none) (ad : Ad gw wσ p1 H1 gk pk Hk) (ad2 : Ad gk wσ pk Hk gk pk H') (sm : Same vs gk wσ g3 σ2) (ad5 : Ad g3 σ2 pk H' g5 p5 H5)
    (hw : L2.wipe σ2 vs = wσ) (hq : H1 q = none) (le : Le (del p5 H5) (del p5 H6)) (ne : ∀ a, a ≠ q → H6 a = H5 a) (th : H6 q ≠ none) : Ad gw wσ p1 H1 (wipeG g5 vs) p5 H6 :=
  ⟨ad5.dd.trans (ad2.dd.trans ad.dd), ad.le.trans (ad2.le.trans (ad5.le.trans le)), fun a m n => by
    obtain ⟨x1, x2⟩ := ad.ex a m n
    have n1 := ad.sl a n
    obtain ⟨x3, x4⟩ := ad2.ex a x1 n1
    obtain ⟨x5, x6⟩ := ad5.ex a x3 (sm.sl a n1)
    have na : a ≠ q := fun z => R1 a m (z ▸ hq)
    exact ⟨x5, by rw [ne a na, x6, x4, x2]⟩, fun a n => by
    have := (ad5.sl a (sm.sl a (ad.sl a n))).wipe vs
    rw [hw] at this
    exact this, fun a n => by
    by_cases z : a = q
    · rw [z]
      exact th
    · rw [ne a z]
      exact ad5.th a (ad2.th a (ad.th a n))⟩
/-- a block's readings, whatever block -/
abbrev Blk (X : Cx) (scope : Scope) (s : Shared) (H : Hp) (C : Addr) (cl : List (Str × Addr)) (fp : List Addr) : Cx := X.blk s H scope (compEnvC scope cl C X.env) fp
def bG (X : Cx) (scope : Scope) (tg : Expr) : TG := fun v σ H Q => ∀ s H0 C cl fp, SemG (Blk X scope s H0 C cl fp) tg v σ H Q
def bT (X : Cx) (scope : Scope) (ifs : List Expr) : TT := fun σ H Q => ∀ s H0 C cl fp, SemTs (Blk X scope s H0 C cl fp) ifs σ H Q
def bE (X : Cx) (scope : Scope) (e : Expr) : TE := fun σ H Q => ∀ s H0 C cl fp, SemE (Blk X scope s H0 C cl fp) e σ H Q
theorem eo_lc {elt : Expr} {ifs : List Expr} {scope : Scope} {own : List (Str × Nat)} {is : List Nat} {mi : M (List D)} {f : D → G → Option G} {mt : M Bool} {me : M D} (hc : X.calm = true) (hN : X.N.Nodup) (hi : EI X WN tg it mi) (ok : BlkOk X.N X.env.scope scope own)
    (hg : ∀ s H C cl fp, ES (Blk X scope s H C cl fp) is tg f) (ht : ∀ s H C cl fp, ETs (Blk X scope s H C cl fp) WN ifs mt) (he : ∀ s H C cl fp, EF (Blk X scope s H C cl fp) WN elt me) (hin : ∀ i ∈ is, i ∈ own.map (·.2) := by decide)
    (hs : ∀ x, foldedSetIterable it X.env x = pure x := by intro _; rfl) : EO X WN (.ListComp elt [⟨tg, it, ifs, 0⟩] scope pos) (mLc (own.map (·.2)) mi f mt me) := fun J p g σ H R0 r hm Q hp => by
  generalize hvs : own.map (·.2) = vs at hm hin
  refine semE_unl (of_pe (pe_lc (g := bG X scope tg) (tt := bT X scope ifs) (te := bE X scope elt) hc hN semI ok (fun s H0 C cl fp => ⟨fun pins s' σ' H' v u Q' I r' h => (h s H0 C cl fp).run pins s' u I r'⟩) (fun s H0 C cl fp => ⟨fun pins s' σ' H' Q' I h => (h s H0 C cl fp).run pins s' I⟩) (fun s H0 C cl fp => ⟨fun pins s' σ' H' Q' I h => (h s H0 C cl fp).run pins s' I⟩) hs) ?_)
  rw [hvs]
  unfold mLc M.bind at hm
  cases e1 : mi g with
  | none =>
    rw [e1] at hm
    cases hm
  | some r1 =>
    rw [e1] at hm
    cases r1 with
    | ex E g1 =>
      cases hm
      exact hi J p g σ H R0 _ e1 _ hp
    | ok ds g1 =>
      dsimp only at hm
      split at hm
      · rename_i no
        refine hi J p g σ H R0 _ e1 _ fun p1 H1 ad R1 Jt J' H1' lk wk => ?_
        obtain ⟨R1', ad1⟩ := lk.rl R1
        obtain ⟨Gg, Y, w, hG, hY⟩ := wk.ex
        intro q hq
        obtain ⟨R2, ad2, m2, jq, n2, _⟩ := (R1'.wipe vs).hide (o := .lst []) hq
        refine lc_it w (fun k Hk => ∃ gk pk acc, Rl X.K J' pk gk (L2.wipe σ vs) Hk ∧ Ad (wipeG g1 vs) (L2.wipe σ vs) p1 H1' gk pk Hk ∧ q ∈ pk.o ∧ NoSl gk (L2.wipe σ vs) q ∧ OwnAt X.K (del pk Hk) Hk q (.l acc) ∧ lcEnd vs g1 .l (lcGo vs f mt me (ds.drop k) acc gk) = some r)
          ⟨_, _, [], R2, ad2, m2, n2, ⟨[], upd_same, .nil⟩, hm⟩ (fun k Hk _ ⟨gk, pk, acc, Rk, adk, _⟩ => hG pk gk _ Hk Rk adk.dd adk.le) (fun k x Hk H' hlt ⟨gk, pk, acc, Rk, adk, mk, nk, ow, e'⟩ y => ?_) (fun Hk ⟨gk, pk, acc, Rk, adk, mk, nk, ow, e'⟩ => ?_)
        · obtain ⟨d, ed, R3, ad3, rx⟩ := hY pk gk _ Hk k x H' Rk adk.dd adk.le hlt y
          have e2 : ds.drop k = d :: ds.drop (k + 1) := by
            rw [List.drop_eq_getElem_cons hlt]
            rw [List.getElem?_eq_getElem hlt] at ed
            cases ed
            rfl
          rw [e2] at e'
          simp only [lcGo] at e'
          cases q1 : f d gk with
          | none =>
            rw [q1] at e'
            cases e'
          | some g3 =>
            simp only [q1] at e'
            intro s H0 C cl fp
            refine hg s H0 C cl fp J' pk gk _ H' x d g3 R3 rx q1 _ fun σ2 sm0 R4 => ?_
            have sm := sm0.mono hin
            have hw := wipe_same sm
            refine ⟨hw, fun s H0 C cl fp => ?_⟩
            cases q2 : mt g3 with
            | none =>
              rw [q2] at e'
              cases e'
            | some r2 =>
              rw [q2] at e'
              cases r2 with
              | ex E g4 => cases e'
              | ok b g4 =>
                refine ht s H0 C cl fp J' pk g3 σ2 H' R4 _ q2 _ fun p4 H4 ad4 R5 => ?_
                unfold qT
                cases b with
                | false =>
                  refine iteF ?_
                  obtain ⟨x1, x2⟩ := ad4.ex q mk (sm.sl q nk)
                  obtain ⟨x3, x4⟩ := ad3.ex q mk nk
                  have R6 := R5.wipe vs
                  rw [hw] at R6
                  have n6 := (ad4.sl q (sm.sl q nk)).wipe vs
                  rw [hw] at n6
                  exact ⟨_, p4, acc, R6, adk.turn (fun a m => mut_ne (R1'.lv a m)) ad3 sm ad4 hw hq (.refl _) (fun _ _ => rfl) (mut_ne (R5.lv q x1)), x1, n6, ow.le (ad3.le.trans ad4.le) (x2.trans x4), e'⟩
                | true =>
                  refine iteT fun s H0 C cl fp => ?_
                  cases q3 : me g4 with
                  | none =>
                    simp only [q3] at e'
                    cases e'
                  | some r3 =>
                    simp only [q3] at e'
                    cases r3 with
                    | ex E g5 => cases e'
                    | ok y2 g5 =>
                      dsimp only at e'
                      split at e'
                      · rename_i hz
                        refine he s H0 C cl fp J' p4 g4 σ2 H4 R5 _ q3 _ fun p5 H5 ad5 R6 v rv => ?_
                        have ad6 := ad4.trans ad5
                        obtain ⟨x1, x2⟩ := ad6.ex q mk (sm.sl q nk)
                        obtain ⟨x3, x4⟩ := ad3.ex q mk nk
                        have n5 := ad6.sl q (sm.sl q nk)
                        obtain ⟨us, u1, u2⟩ := ow
                        obtain ⟨R7, le7⟩ := R6.putH (u := .lst (us ++ [v])) x1 jq n5 trivial
                        have R8 := R7.wipe vs
                        rw [hw] at R8
                        have n6 := n5.wipe vs
                        rw [hw] at n6
                        refine ⟨us, by rw [x2, x4, u1], by rw [u2.len]; exact hz, _, p5, acc ++ [y2], R8, adk.turn (fun a m => mut_ne (R1'.lv a m)) ad3 sm ad6 hw hq le7 (fun a na => upd_ne na) (by rw [upd_same]; exact Option.some_ne_none _), x1, n6, ⟨us ++ [v], upd_same, ?_⟩, e'⟩
                        exact (u2.le (ad3.le.trans (ad6.le.trans le7))).app (.cons (rv.le le7) .nil)
                      · cases e'
        · rw [List.drop_length] at e'
          cases e'
          have R3 := R1'.back no Rk adk.le
          have hl : g1.s.length = gk.s.length := R1'.len.trans ((wipe_length σ vs).symm.trans Rk.len.symm)
          obtain ⟨H6, h1, h2, h3, h4, h5, h6⟩ := lk.off R1 adk.dd R3
          refine unlV_of h1 (hp pk H6 ⟨adk.dd.trans ad.dd, ad.le.trans (ad1.le.trans (adk.le.trans h3)), fun a m n => ?_, fun a n => ?_, fun a n => h4 a (adk.th a (ad1.th a (ad.th a n)))⟩ h2 q mk (ad.gone (ad1.gone hq)) (nk.back no hl) (ow.le h3 (h5 q mk)))
          · obtain ⟨x1, x2⟩ := ad.ex a m n
            have n1 := ad.sl a n
            obtain ⟨x3, x4⟩ := ad1.ex a x1 n1
            obtain ⟨x5, x6⟩ := adk.ex a x3 (n1.wipe vs)
            exact ⟨x5, by rw [h5 a x5, x6, x4, x2]⟩
          · exact (adk.sl a ((ad.sl a n).wipe vs)).back no hl
      · cases hm
end
end Mo
set_option Elab.async false
set_option linter.all false
set_option maxRecDepth 100000
set_option maxHeartbeats 4000000
/-! Mo, part thirteen: objects. -/
namespace Mo
open PySem PySem.Spec L2
open Lp (FnG okN callG)
/-! ### fields -/
def getF (f : Str) : List (Str × D) → Option D
  | [] => none
  | (g, d) :: r => if f = g then some d else getF f r
def setF (f : Str) (v : D) : List (Str × D) → List (Str × D)
  | [] => [(f, v)]
  | (g, d) :: r => if g = f then (g, v) :: r else (g, d) :: setF f v r
section
variable {K : PySem.W.Frag} {F H J : Hp}
theorem repF_get {f : Str} : ∀ {vs : List (Str × V)} {es : List (Str × D)}, RepF K F vs es → (∀ d, getF f es = some d → ∃ v, vs.lookup f = some v ∧ Rep K F v d) ∧ (getF f es = none → vs.lookup f = none)
  | _, _, .nil => ⟨(fun d e => by cases e), fun _ => rfl⟩
  | _, _, .cons (k := g) (v := v) (d := d) (kvs := kvs) (es := es) h r => by
    obtain ⟨i1, i2⟩ := repF_get (f := f) r
    by_cases e : f = g
    · have hb : (f == g) = true := beq_iff_eq.mpr e
      refine ⟨fun d' q => ?_, fun q => ?_⟩
      · unfold getF at q
        rw [if_pos e] at q
        cases q
        exact ⟨v, by simp only [List.lookup, hb], h⟩
      · unfold getF at q
        rw [if_pos e] at q
        cases q
    · have hb : (f == g) = false := beq_eq_false_iff_ne.mpr e
      refine ⟨fun d' q => ?_, fun q => ?_⟩
      · unfold getF at q
        rw [if_neg e] at q
        obtain ⟨w, w1, w2⟩ := i1 d' q
        exact ⟨w, by simp only [List.lookup, hb]; exact w1, w2⟩
      · unfold getF at q
        rw [if_neg e] at q
        simp only [List.lookup, hb]
        exact i2 q
theorem repF_set {f : Str} {v : V} {d : D} (h : Rep K F v d) : ∀ {vs : List (Str × V)} {es : List (Str × D)}, RepF K F vs es → RepF K F (putF f v vs) (setF f d es)
  | _, _, .nil => .cons h .nil
  | _, _, .cons (k := g) h1 r => by
    unfold putF setF
    by_cases e : g = f
    · rw [if_pos e, if_pos e]
      exact .cons h r
    · rw [if_neg e, if_neg e]
      exact .cons h1 (repF_set h r)
theorem repF_len : ∀ {vs : List (Str × V)} {es : List (Str × D)}, RepF K F vs es → vs.length = es.length
  | _, _, .nil => rfl
  | _, _, .cons _ r => congrArg (· + 1) (repF_len r)
end
section
variable {X : Cx} {W : WW} {e a b o : Expr} {es : List Expr} {pos ps apos : Pos} {C : Addr} {f : Str}
def fldD (C : Addr) (f : Str) : D → Option D
  | .ins C' fs => if C' = C then getF f fs else none
  | _ => none
def mFld (C : Addr) (f : Str) (m : M D) : M D := m.bind fun d => lift (fldD C f d)
theorem rep_ins {K : PySem.W.Frag} {J : Hp} {v : V} {fs : List (Str × D)} (h : Rep K J v (.ins C fs)) : ∃ a dx vs, v = .ref a ∧ J a = some (.ins C dx vs) ∧ RepF K J vs fs := by
  cases h with
  | ins h r => exact ⟨_, _, _, rfl, h, r⟩
/-- e.f -/
theorem e_fld {m : M D} (c : Cls X.K C) (n : NoAttr X.K C f) (h : EF X W e m) (hb : attributeBase e f X.env (eval e X.env) = eval e X.env := by rfl) : EF X W (.Attribute e f pos) (mFld C f m) := fun J p g σ H R0 r hm Q hp =>
  of_pe (pe_fld semE hb) (h.then R0 hm hp fun d g1 p1 H1 v ad R1 rv hk hq => by
    obtain ⟨z, e1, q⟩ := post_lift hk hq R1
    unfold fldD at e1
    cases d <;> first | (cases e1; done) | skip
    rename_i C' fs
    dsimp only at e1
    split at e1
    · rename_i hC
      subst hC
      obtain ⟨a, dx, vs, rfl, h1, h2⟩ := rep_ins rv
      obtain ⟨u, u1, u2⟩ := (repF_get h2).1 z e1
      exact ⟨a, _, dx, vs, u, rfl, del_of h1, c, n, u1, q p1 H1 .refl R1 u u2⟩
    · cases e1)
end
/-! ### own methods -/
section
variable {X : Cx} {W : WW} {e o : Expr} {es : List Expr} {pos ps apos : Pos} {C ff : Addr} {m f : Str} {k : Nat} {fd : FuncData} {qs : List Str} {sp : Sp} {Z : XK}
/-- the callee runs where no repr is under way -/
theorem runG {pins : List (Addr × Obj)} {σ : St} {H : Hp} {s : Shared} {Q : VK} {us : List Value} {vs : List V} (F : FnG X.prog X.w X.K X.mg X.base CX0 k ff fd qs sp) (hr : Room k X.A) (hgd : X.A.guards = some []) (hb : Binds X.K fd qs []) (I : Inv X pins σ H s) (rv : Vals vs us)
    (h : sp vs H Q fun _ _ _ => False) : wpAny (model X.prog X.w) X.A (call (.ref ff) us) (EP X pins σ Q) X.xe s := by
  have bt := hb s us I.kIn (by rw [List.append_nil, ← rv.length]; exact F.len _ _ _ _ h)
  rw [List.append_nil] at bt
  refine wpAny_call (codeAny_mono (F.go X.A X.stack s H ⟨us, []⟩ us vs Q _ hr hgd I.env0 bt rv h) fun w s2 hw => ?_)
  match w, hw with
  | .error e, hw => exact pass0 pins σ H s e s2 I hw
  | .ok (.ret u), hw => exact I.after hw
def mMeth (C : Addr) (m : Str) (F : FD) (mo : M D) (ms : M (List D)) : M D := mo.bind fun d => match d with
  | .ins C' fs => if C' = C ∧ getF m fs = none then ms.bind fun ds => liftC (F (.ins C' fs :: ds)) else bad
  | _ => bad
theorem call_methG {pl : Sem Bool} {ta : TE} {t : TA} {a0 : Expr} (he : PE X o ta) (c : Cls X.K C) (hm : Meth X.K C m ff) (F : FnG X.prog X.w X.K X.mg X.base CX0 k ff fd qs sp) (hr : Room k X.A) (hgd : X.A.guards = some []) (hb : Binds X.K fd qs []) (ha : PA X (a0 :: es) t)
    (hst : starEach (a0 :: es) X.env = (false, eval a0 X.env) :: starEach es X.env) (hpl : (backTo pos (starEach es X.env)).any (·.1) = false)
    (ht : eval (.Call (.Attribute o m apos) (a0 :: es) [] pos) X.env = (do
      let ov ← eval o X.env
      standAt apos.atName
      let (f, first) ← holding [ov] (getMethod ov m pl)
      callWith pos f first (backTo pos (starEach (a0 :: es) X.env)) (backToKw pos (keywordEach [] X.env)))) :
    PE X (.Call (.Attribute o m apos) (a0 :: es) [] pos) (tMeth C m sp [] (fun _ _ _ => False) ta t) := by
  constructor
  intro pins s σ H Q I h
  refine PySem.W.methodCall_KW (pl := pl) (thn (he.run pins s σ H _ I h) fun u s1 z => ?_) ht
  obtain ⟨x, H1, I1, rx, a, dx, fs, rfl, ea, l, q⟩ := z
  have ru : u = Value.ref a := rx
  subst ru
  refine getmeth_ok I1 ea c hm l (PySem.W.callWith_K (first := [.ref a]) (h₀ := X.base) I.ok.mod.kin hm.kp (thn (ha.run pos pins s1 σ H1 _ I1 q) fun us s2 z2 => ?_) hst hpl)
  obtain ⟨vs, H2, I2, rv, q2⟩ := z2
  rw [List.append_nil] at q2
  exact ⟨I2.kIn, runG (us := .ref a :: us) (vs := .ref a :: vs) F hr hgd hb I2 (.cons rfl rv) q2⟩
theorem call_methG0 {pl : Sem Bool} {ta : TE} (he : PE X o ta) (c : Cls X.K C) (hm : Meth X.K C m ff) (F : FnG X.prog X.w X.K X.mg X.base CX0 k ff fd qs sp) (hr : Room k X.A) (hgd : X.A.guards = some []) (hb : Binds X.K fd qs [])
    (ht : eval (.Call (.Attribute o m apos) [] [] pos) X.env = (do
      let ov ← eval o X.env
      standAt apos.atName
      let (f, first) ← holding [ov] (getMethod ov m pl)
      callWith pos f first (backTo pos (starEach [] X.env)) (backToKw pos (keywordEach [] X.env)))) :
    PE X (.Call (.Attribute o m apos) [] [] pos) (tMeth C m sp [] (fun _ _ _ => False) ta tNil) := by
  constructor
  intro pins s σ H Q I h
  refine PySem.W.methodCall_KW (pl := pl) (thn (he.run pins s σ H _ I h) fun u s1 z => ?_) ht
  obtain ⟨x, H1, I1, rx, a, dx, fs, rfl, ea, l, q⟩ := z
  have ru : u = Value.ref a := rx
  subst ru
  exact getmeth_ok I1 ea c hm l (PySem.W.callWith_K0 (first := [.ref a]) I1.kIn hm.kp (runG (us := [.ref a]) (vs := [.ref a]) F hr hgd hb I1 (.cons rfl .nil) q))
/-- o.m(e, ..) -/
theorem e_meth {pl : Sem Bool} {a0 : Expr} {F : FD} {mo : M D} {ms : M (List D)} (c : Cls X.K C) (hm : Meth X.K C m ff) (hF : FnG X.prog X.w X.K X.mg X.base CX0 k ff fd qs (spM X.K false F)) (hr : Room k X.A) (hgd : X.A.guards = some []) (hb : Binds X.K fd qs []) (ho : EF X W o mo) (ha : EA X W (a0 :: es) ms)
    (hst : starEach (a0 :: es) X.env = (false, eval a0 X.env) :: starEach es X.env := by rfl) (hpl : (backTo pos (starEach es X.env)).any (·.1) = false := by rfl)
    (ht : eval (.Call (.Attribute o m apos) (a0 :: es) [] pos) X.env = (do
      let ov ← eval o X.env
      standAt apos.atName
      let (f, first) ← holding [ov] (getMethod ov m pl)
      callWith pos f first (backTo pos (starEach (a0 :: es) X.env)) (backToKw pos (keywordEach [] X.env))) := by rfl) : EF X W (.Call (.Attribute o m apos) (a0 :: es) [] pos) (mMeth C m F mo ms) := fun J p g σ H R0 r hmm Q hp =>
  of_pe (call_methG semE c hm hF hr hgd hb semA hst hpl ht) (ho.then R0 hmm hp fun d g1 p1 H1 v ad R1 rv hk hq => by
    cases d <;> first | (cases hk; done) | skip
    rename_i C' fs
    dsimp only at hk
    split at hk
    · rename_i hC
      obtain ⟨rfl, hn⟩ := hC
      obtain ⟨a, dx, vs, rfl, h1, h2⟩ := rep_ins rv
      refine ⟨a, dx, vs, rfl, del_of h1, (repF_get h2).2 hn, ha.then R1 hk hq fun ds g2 p2 H2 us ad2 R2 rs hk2 hq2 => ?_⟩
      rw [List.append_nil]
      obtain ⟨d, c', e1, rfl⟩ := liftC_some hk2
      refine ⟨p2, g2.c, _, _, d, c', rfl, R2.hd, .cons (rv.le ad2.le) rs, e1, fun v J2 af rv2 => ?_⟩
      obtain ⟨R3, ad3⟩ := R2.after af
      exact hq2 p2 J2 ad3 R3 v rv2
    · cases hk)
/-- o.m() -/
theorem e_meth0 {pl : Sem Bool} {F : FD} {mo : M D} (c : Cls X.K C) (hm : Meth X.K C m ff) (hF : FnG X.prog X.w X.K X.mg X.base CX0 k ff fd qs (spM X.K false F)) (hr : Room k X.A) (hgd : X.A.guards = some []) (hb : Binds X.K fd qs []) (ho : EF X W o mo)
    (ht : eval (.Call (.Attribute o m apos) [] [] pos) X.env = (do
      let ov ← eval o X.env
      standAt apos.atName
      let (f, first) ← holding [ov] (getMethod ov m pl)
      callWith pos f first (backTo pos (starEach [] X.env)) (backToKw pos (keywordEach [] X.env))) := by rfl) : EF X W (.Call (.Attribute o m apos) [] [] pos) (mMeth C m F mo (ret [])) := fun J p g σ H R0 r hmm Q hp =>
  of_pe (call_methG0 semE c hm hF hr hgd hb ht) (ho.then R0 hmm hp fun d g1 p1 H1 v ad R1 rv hk hq => by
    cases d <;> first | (cases hk; done) | skip
    rename_i C' fs
    dsimp only at hk
    split at hk
    · rename_i hC
      obtain ⟨rfl, hn⟩ := hC
      obtain ⟨a, dx, vs, rfl, h1, h2⟩ := rep_ins rv
      obtain ⟨d, c', e1, rfl⟩ := liftC_some (show liftC (F [_]) g1 = some r from hk)
      refine ⟨a, dx, vs, rfl, del_of h1, (repF_get h2).2 hn, p1, g1.c, _, _, d, c', rfl, R1.hd, .cons rv .nil, e1, fun v J2 af rv2 => ?_⟩
      obtain ⟨R3, ad3⟩ := R1.after af
      exact hq p1 J2 ad3 R3 v rv2
    · cases hk)
/-! ### properties -/
def mProp (C : Addr) (F : FD) (mo : M D) : M D := mo.bind fun d => match d with
  | .ins C' fs => if C' = C then liftC (F [.ins C' fs]) else bad
  | _ => bad
theorem getpropG {a dx p0 : Addr} {fs : List (Str × V)} {pins : List (Addr × Obj)} {σ : St} {H : Hp} {s : Shared} {Q : VK} {b : Bool} {E' : Value → Shared → Prop} (I : Inv X pins σ H s) (ea : H a = some (.ins C dx fs)) (c : Cls X.K C) (hp : PropOf X.K C f p0 ff)
    (F : FnG X.prog X.w X.K X.mg X.base CX0 k ff fd qs sp) (hr : Room (k + 1) X.A) (hgd : X.A.guards = some []) (hb : Binds X.K fd qs []) (h : sp [.ref a] H Q fun _ _ _ => False) : wpAny (model X.prog X.w) X.A (getAttr (.ref a) f b) (EP X pins σ Q) E' s := by
  obtain ⟨mA, O, _, _, _, _⟩ := ins_get I.hok ea
  obtain ⟨od, Jo, _⟩ := O.look
  obtain ⟨rest, hrec⟩ := hp.rec_
  have I1 := I.tok (s.toks + 1)
  have bt := hb _ [.ref a] I1.kIn (by rw [← F.len _ _ _ _ h]; rfl)
  rw [List.append_nil] at bt
  have hc : (PySem.W.clsIn X.K C).isSome = true := by
    obtain ⟨cd, hc, _⟩ := PySem.W.any_some c.hd
    rw [hc]
    rfl
  refine PySem.W.get_bind I.kIn Jo (PySem.W.plainGet_of (c.get f)).1 (PySem.W.findObj_data hc hp.at_ hp.get hp.tak) (PySem.W.plainGet_of (c.get f)).2 (wpAny_call (PySem.W.prop_get (s := { s with toks := s.toks + 1 }) I.kIn hrec ?_))
  refine codeAny_mono (F.go X.A.in1 X.stack { s with toks := s.toks + 1 } H ⟨[.ref a], []⟩ [.ref a] [.ref a] Q _ hr.in1 hgd I1.env0.in1 bt (.cons rfl .nil) h) fun w s' hq => ?_
  match w, hq with
  | .error er, hq => exact False.elim (pass0 (X := X.nox) pins σ H { s with toks := s.toks + 1 } er s' (I1.wish _) hq)
  | .ok (.ret u), hq =>
    obtain ⟨v, H', I3, rv, q3⟩ := I1.after hq
    show wpAny _ _ (handedOut u) _ _ _
    rw [PySem.W.handedOut_of (handed_of rv)]
    exact wpAny_pure ⟨v, H', I3, rv, q3⟩
theorem e_prop {p0 : Addr} {F : FD} {mo : M D} (c : Cls X.K C) (hpr : PropOf X.K C f p0 ff) (hF : FnG X.prog X.w X.K X.mg X.base CX0 k ff fd qs (spM X.K false F)) (hr : Room (k + 1) X.A) (hgd : X.A.guards = some []) (hb : Binds X.K fd qs []) (ho : EF X W o mo)
    (hab : attributeBase o f X.env (eval o X.env) = eval o X.env := by rfl) : EF X W (.Attribute o f pos) (mProp C F mo) := fun J p g σ H R0 r hmm Q hp => by
  have pe : PE X (.Attribute o f pos) (tProp C (spM X.K false F) [] (fun _ _ _ => False) (SemE X o)) := ⟨fun pins s σ H Q I h => attr_of hab (thn (h.run pins s I) fun u s1 z => by
    obtain ⟨x, H1, I1, rx, a, dx, fs, rfl, ea, q⟩ := z
    have ru : u = Value.ref a := rx
    subst ru
    exact getpropG I1 ea c hpr hF hr hgd hb q)⟩
  refine of_pe pe (ho.then R0 hmm hp fun d g1 p1 H1 v ad R1 rv hk hq => ?_)
  cases d <;> first | (cases hk; done) | skip
  rename_i C' fs
  dsimp only at hk
  split at hk
  · rename_i hC
    subst hC
    obtain ⟨a, dx, vs, rfl, h1, h2⟩ := rep_ins rv
    obtain ⟨d, c', e1, rfl⟩ := liftC_some hk
    refine ⟨a, dx, vs, rfl, del_of h1, p1, g1.c, _, _, d, c', rfl, R1.hd, .cons rv .nil, e1, fun v J2 af rv2 => ?_⟩
    obtain ⟨R3, ad3⟩ := R1.after af
    exact hq p1 J2 ad3 R3 v rv2
  · cases hk
end
end Mo
set_option Elab.async false
set_option linter.all false
set_option maxRecDepth 100000
set_option maxHeartbeats 4000000
/-! Mo, part fourteen: what a callee may change: own things handed in, objects made. -/
namespace Mo
open PySem PySem.Spec L2
open Lp (FnG okN callG)
theorem guards_make {A : Around} {C : Addr} {us : List Value} {kw : List (Str × Value)} (h : A.guards = some []) : (A.under (.builtin "type.__call__" ⟨.ref C :: us, kw⟩)).guards = some [] := by
  first | exact h | simp [Around.under, Code.isGuard, guardIds, h]
section
variable {X : Cx} {W : WW} {e : Expr} {es : List Expr} {pos ps : Pos} {C ff : Addr} {k : Nat} {fd : FuncData} {qs : List Str} {sp : Sp} {x : Str} {t : TA}
/-- C(e, ..), its __init__ run where no repr is under way -/
theorem call_makeG (Mk' : Mk X.K C ff) (F : FnG X.prog X.w X.K X.mg X.base CX0 k ff fd qs sp) (hr : Room (k + 1) X.A) (hgd : X.A.guards = some []) (hb : Binds X.K fd qs []) (hm : X.mg x = some (.ref C)) (ha : PA X (e :: es) t) (hg : Gl X x) (hdb : (x == ("__debug__" : Str)) = false)
    (he : starEach (e :: es) X.env = (false, eval e X.env) :: starEach es X.env) (hpl : (backTo pos (starEach es X.env)).any (·.1) = false) : PE X (.Call (.Name x ps) (e :: es) [] pos) (tMake C sp [] (fun _ _ _ => False) t) := by
  constructor
  intro pins s σ H Q I h
  refine wpAny_Call_Name_kw (ld_glob I hg hm (PySem.W.callWith_K (h₀ := X.base) I.ok.mod.kin Mk'.kp (thn (ha.run pos pins s σ H _ I h) fun us s1 z => ?_) he hpl) hdb)
  obtain ⟨vs, H1, I1, rv, q⟩ := z
  refine ⟨I1.kIn, ?_⟩
  have ne : s1.heap.objs.size ≠ s1.heap.objs.size + 1 := Nat.ne_of_lt (Nat.lt_succ_self _)
  have q1 := q (s1.heap.objs.size + 1) s1.heap.objs.size (I1.hok.fresh (Nat.le_succ _)) (I1.hok.fresh (Nat.le_refl _)) ne
  rw [List.append_nil] at q1
  have I2 := Inv.made (C := C) I1
  have rv2 : Vals (V.ref (s1.heap.objs.size + 1) :: vs) (Value.ref (s1.heap.objs.size + 1) :: us) := .cons rfl rv
  have bt := hb _ (Value.ref (s1.heap.objs.size + 1) :: us) I2.kIn (by rw [List.append_nil, ← rv2.length]; exact F.len _ _ _ _ q1)
  rw [List.append_nil] at bt
  refine wpAny_call (make_map (f := ff) I1.kIn Mk'.makes Mk'.init (beq_iff_eq.mp Mk'.fn) (codeAny_mono (F.go _ X.stack _ _ ⟨Value.ref (s1.heap.objs.size + 1) :: us, []⟩ _ _ _ _ (hr.make C us []) (guards_make hgd) (I2.env0.make C us []) bt rv2 q1) fun w s2 hw => ?_))
  match w, hw with
  | .error e, hw => exact pass0 pins σ _ _ e s2 I2 hw
  | .ok (.ret u), hw =>
    obtain ⟨v, H', I3, ru, ev, q3⟩ := I2.after hw
    subst ev
    exact ⟨ru, ⟨V.ref (s1.heap.objs.size + 1), H', I3, rfl, q3⟩⟩
end
/-! ### an own thing handed in as what may be changed -/
def mtQ (p : Mt) (q : Addr) : Mt := ⟨some q, p.d.toList ++ p.o.filter fun a => decide (a ≠ q)⟩
section
variable {K : PySem.W.Frag} {J : Hp} {p : Mt} {g : G} {σ : St} {H J2 : Hp} {q b : Addr} {i : Nat} {o c : O}
theorem hid_mtQ : Hid (mtQ p q) b ↔ b = q ∨ Hid p b := by
  constructor
  · rintro (z | z)
    · exact .inl (Option.some.inj z).symm
    · rcases List.mem_append.mp z with z | z
      · exact .inr (.inl (Option.mem_toList.mp z))
      · exact .inr (.inr (List.mem_filter.mp z).1)
  · intro z
    by_cases e : b = q
    · exact .inl (congrArg some e.symm)
    · rcases z with z | z | z
      · exact absurd z e
      · exact .inr (List.mem_append_left _ (Option.mem_toList.mpr z))
      · exact .inr (List.mem_append_right _ (List.mem_filter.mpr ⟨z, decide_eq_true e⟩))
theorem del_mtQ (hq : Hid p q) : del (mtQ p q) H = del p H := funext fun b => by
  by_cases h : Hid p b
  · rw [del_hid h, del_hid (hid_mtQ.mpr (.inr h))]
  · rw [del_at h, del_at fun z => (hid_mtQ.mp z).elim (fun e => h (by rw [e]; exact hq)) h]
theorem del_mtQ_add : del (mtQ p q) H = del (p.add q) H := funext fun b => by
  have e : Hid (p.add q) b ↔ b = q ∨ Hid p b := by
    constructor
    · rintro (z | z)
      · exact .inr (.inl z)
      · rcases List.mem_cons.mp z with z | z
        · exact .inl z
        · exact .inr (.inr z)
    · rintro (z | z | z)
      · exact .inr (by rw [z]; exact List.mem_cons_self)
      · exact .inl z
      · exact .inr (List.mem_cons_of_mem _ z)
  by_cases h : Hid (p.add q) b
  · rw [del_hid h, del_hid (hid_mtQ.mpr (e.mp h))]
  · rw [del_at h, del_at fun z => h (e.mpr (hid_mtQ.mp z))]
theorem Rl.hdQ (R : Rl K J p g σ H) (hq : p.d ≠ some q) (ow : OwnAt K (del (mtQ p q) H) H q o) : Hd K (mtQ p q) H o := by
  refine ⟨fun a e => ?_, fun a e m => ?_, fun a m => ?_⟩
  · cases e
    exact ow
  · cases e
    rcases List.mem_append.mp m with z | z
    · exact hq (Option.mem_toList.mp z)
    · exact absurd rfl (of_decide_eq_true (List.mem_filter.mp z).2)
  · rcases List.mem_append.mp m with z | z
    · exact (R.dice a (Option.mem_toList.mp z)).mut
    · exact R.lv a (List.mem_filter.mp z).1
/-- what the changing parameter holds is changed here -/
theorem Rl.putD {u : HO} (R : Rl K J p g σ H) (hq : p.d = some q) (jn : True) (ow : OwnAt K (del p H) (upd H q u) q c) : Rl K J p ⟨g.s, c⟩ σ (upd H q u) ∧ As J p H p (upd H q u) := by
  have hid : Hid p q := .inl hq
  have no : q ∉ p.o := R.dno q hq
  have le : Le (del p H) (del p (upd H q u)) := .of fun b x e => by
    have nb : b ≠ q := fun z => del_no e (z ▸ hid)
    rw [del_at (del_no e), upd_ne nb]
    exact del_of e
  have mu := ow.mut
  refine ⟨⟨R.len, fun b x n e => ?_, fun b e => ?_, R.dno, fun b m => ?_, fun b x f e => ?_, fun j d e => ?_, fun j d e => ?_, R.sd, R.inj⟩, ⟨rfl, le, fun b m _ => m, upd_th⟩⟩
  · rw [upd_ne fun z => n (by rw [z]; exact hq)]
    exact R.old b x n e
  · rw [hq] at e
    cases e
    exact ow.le le rfl
  · rw [upd_ne fun z => no (by rw [← z]; exact m)]
    exact R.lv b m
  · by_cases z : b = q
    · rw [upd_same] at mu
      rw [z, upd_same] at e
      cases e
      exact absurd f (mut_nf mu)
    · rw [upd_ne z] at e
      exact R.fz b x f e
  · obtain ⟨v, x1, x2⟩ := R.sv j d e
    exact ⟨v, x1, x2.le le⟩
  · obtain ⟨y, x1, x2, x3, x4⟩ := R.so j d e
    exact ⟨y, x1, x2, x3, x4.le le (upd_ne fun z => no (by rw [← z]; exact x2))⟩
end
section
variable {X : Cx} {W : WW} {e a b : Expr} {es : List Expr} {pos ps : Pos} {C ff : Addr} {k : Nat} {fd : FuncData} {qs : List Str} {x f : Str}
/-! ### C(e, ..) -/
def mMake (C : Addr) (F : FD) (ms : M (List D)) : M O := ms.bind fun ds g => match F ds (.n C []) with
  | some (.non, .n C' fs) => if C' = C then some (.ok (.n C' fs) g) else none
  | _ => none
theorem eo_make {F : FD} {ms : M (List D)} (Mk' : Mk X.K C ff) (hF : FnG X.prog X.w X.K X.mg X.base CX0 k ff fd qs (spM X.K true F)) (hr : Room (k + 1) X.A) (hgd : X.A.guards = some []) (hb : Binds X.K fd qs []) (hm : X.mg x = some (.ref C)) (ha : EA X W (e :: es) ms) (hg : Gl X x := by rfl) (hdb : (x == ("__debug__" : Str)) = false := by decide)
    (he : starEach (e :: es) X.env = (false, eval e X.env) :: starEach es X.env := by rfl) (hpl : (backTo pos (starEach es X.env)).any (·.1) = false := by rfl) : EO X W (.Call (.Name x ps) (e :: es) [] pos) (mMake C F ms) := fun J p g σ H R0 r hm' Q hp =>
  of_pe (call_makeG Mk' hF hr hgd hb hm semA hg hdb he hpl) (ha.then R0 hm' hp fun ds g1 p1 H1 vs ad1 R1 rs hk hq => by
    intro q dx hq0 hd0 hne
    split at hk
    · rename_i C' fs e1
      split at hk
      · rename_i hC
        subst hC
        cases hk
        obtain ⟨R2, ad2, _⟩ := R1.new (o := .own q) hd0
        have hq2 : upd H1 dx (.own q) q = none := by rw [upd_ne (Ne.symm hne)]; exact hq0
        obtain ⟨R3, ad3, m3, _, n3, le3⟩ := R2.hide (o := .ins C' dx []) hq2
        have nh := R2.ne hq2
        have ndq : p1.d ≠ some q := fun z => nh (.inl z)
        have ad13 := ad2.trans ad3
        rw [List.append_nil]
        refine ⟨mtQ p1 q, .n C' [], ds, vs, .non, .n C' fs, ⟨q, rfl, rfl⟩, ?_, ?_, e1, fun v J2 af rv => ?_⟩
        · refine ⟨fun a e => ?_, fun a e m => ?_, fun a m => ?_⟩
          · cases e
            exact ⟨dx, [], upd_same, .nil⟩
          · cases e
            rcases List.mem_append.mp m with z | z
            · exact ndq (Option.mem_toList.mp z)
            · exact absurd rfl (of_decide_eq_true (List.mem_filter.mp z).2)
          · rcases List.mem_append.mp m with z | z
            · exact (R3.dice a (Option.mem_toList.mp z)).mut
            · exact R3.lv a (List.mem_cons_of_mem _ (List.mem_filter.mp z).1)
        · rw [del_mtQ_add]
          exact rs.le (ad2.le.trans le3)
        · cases rv
          refine ⟨rfl, ?_⟩
          have new : OwnAt X.K (del (p1.add q) J2) J2 q (.n C' fs) := by
            have := af.di q rfl
            rw [del_mtQ_add] at this
            exact this
          have kp : ∀ b u, H1 b = some u → J2 b = some u := fun b u e => by
            have b1 : b ≠ q := fun z => by rw [z, hq0] at e; cases e
            have b2 : b ≠ dx := fun z => by rw [z, hd0] at e; cases e
            exact af.old b u (fun z => b1 (Option.some.inj z).symm) (by rw [upd_ne b1, upd_ne b2]; exact e)
          have up : Le (del (p1.add q) J2) (del p1 J2) := .of fun b u e => by
            rw [del_at fun z : Hid p1 b => del_no e (z.imp id (List.mem_cons_of_mem _))]
            exact del_of e
          have al : Af X.K p1 (p1.add q) H1 J2 g1.c := by
            refine ⟨fun b u _ e => kp b u e, fun b e => ?_, fun b u f e => ?_⟩
            · have h0 := mut_ne (R1.dice b e).mut
              have hs : J2 b = H1 b := by
                cases e2 : H1 b with
                | none => exact absurd e2 h0
                | some u => exact kp b u e2
              have le : Le (del p1 H1) (del (p1.add q) J2) := .of fun y u e3 => by
                have ny : y ≠ q := fun z => by rw [z, del_at (fun z2 => nh z2), hq0] at e3; cases e3
                rw [del_at fun z : Hid (p1.add q) y => del_no e3 (Or.imp id (fun w => (List.mem_cons.mp w).resolve_left ny) z)]
                exact kp y u (del_of e3)
              exact (R1.dice b e).le le hs
            · have e2 := af.fz b u f e
              by_cases b1 : b = q
              · rw [b1, upd_same] at e2
                cases e2
                cases f
              · rw [upd_ne b1] at e2
                by_cases b2 : b = dx
                · rw [b2, upd_same] at e2
                  cases e2
                  cases f
                · rw [upd_ne b2] at e2
                  exact e2
          obtain ⟨R4, ad4, n4⟩ := R1.afterO al hq0 new
          exact hq _ J2 ad4 R4 q List.mem_cons_self (ad1.gone hq0) n4 new
      · cases hk
    · cases hk)
end
end Mo
set_option Elab.async false
set_option linter.all false
set_option maxRecDepth 100000
set_option maxHeartbeats 4000000
/-! Mo, part fifteen: reads and stores in what may be changed; own things handed in by name and by expression. -/
namespace Mo
open PySem PySem.Spec L2
open Lp (FnG okN callG)
section
variable {K : PySem.W.Frag} {H : Hp}
theorem Reps.put {v : V} {d : D} (h : Rep K H v d) : ∀ {vs : List V} {ds : List D}, Reps K H vs ds → ∀ j, Reps K H (vs.set j v) (ds.set j d)
  | _, _, .nil, _ => .nil
  | _, _, .cons h1 r, 0 => .cons h r
  | _, _, .cons h1 r, j + 1 => .cons h1 (Reps.put h r j)
end
section
variable {X : Cx} {W : WW} {e a b : Expr} {es : List Expr} {pos ps pk : Pos} {C ff : Addr} {k : Nat} {fd : FuncData} {qs : List Str} {x f y : Str} {py p' : Pos}
/-- the parameter in slot i, a list -/
def onDL {α : Type} (i : Nat) (k : List D → M α) : M α := isDi i fun g => match g.c with
  | .l xs => k xs g
  | _ => none
theorem onDL_some {α : Type} {i : Nat} {k : List D → M α} {g : G} {r : R α} (h : onDL i k g = some r) : g.s[i]? = some .di ∧ ∃ xs, g.c = .l xs ∧ k xs g = some r := by
  obtain ⟨h1, h2⟩ := isDi_some h
  refine ⟨h1, ?_⟩
  split at h2
  · rename_i xs e
    exact ⟨xs, e, h2⟩
  · cases h2
/-- d[k] -/
def mIxD (i : Nat) (mk : M D) : M D := isDi i (mk.bind fun k => onDL i fun xs => lift (fIx (.lst xs) k))
theorem e_ixD {mk : M D} (i : Nat) (hk : EF X W b mk) (hN : X.N[i]? = some y := by rfl) (hvis : Vis X.env.scope y := by first | exact Or.inl rfl | exact Or.inr (Or.inl rfl) | exact Or.inr (Or.inr rfl)) (hd : (y == ("__debug__" : Str)) = false := by decide) (hcd : (y == ("__classdict__" : Str)) = false := by decide)
    (hs : PlainIx b := by exact fun _ _ => rfl) : EF X W (.Subscript (.Name y py) b pos) (mIxD i mk) := fun J p g σ H R0 r hm Q hp => by
  obtain ⟨h0, hm⟩ := isDi_some hm
  obtain ⟨q, h1, hq0⟩ := R0.sd i h0
  refine of_pe (pe_ix ix_list (pv i hN hvis hd hcd) semE hs) ⟨_, h1, hk.then R0 hm hp fun k g1 p1 H1 w ad1 R1 rw' hm1 hp1 => ?_⟩
  obtain ⟨h2, xs, h3, hm2⟩ := onDL_some hm1
  have hq1 : p1.d = some q := ad1.dd.trans hq0
  have ow := R1.dice q hq1
  rw [h3] at ow
  obtain ⟨vs, h6, h7⟩ := ow
  obtain ⟨z, hz, hq⟩ := post_lift hm2 hp1 R1
  cases k <;> first | (cases hz; done) | skip
  rename_i n
  have hz' : atI xs n = some z := hz
  cases rep_int rw'
  obtain ⟨k', u, e1, e2, e3⟩ := atI_map h7.len hz'
  obtain ⟨d, e4, e5⟩ := h7.get e2
  rw [e1] at e4
  cases e4
  exact ⟨q, vs, n, u, rfl, rfl, .inl (.inl h6), e3, hq p1 H1 .refl R1 _ e5⟩
/-- d[k] = e, k a written number -/
def mIxPutD (i : Nat) (n : Int) (mv : M D) : M Oc := mv.bind fun v => onDL i fun xs g => match ixN xs.length n with
  | some j => some (.ok .nx ⟨g.s, .l (xs.set j v)⟩)
  | none => none
theorem s_ixD {mv : M D} {kk : Nat} {n : Int} (i : Nat) (hv : EF X W e mv) (hN : X.N[i]? = some y := by rfl) (hvis : Vis X.env.scope y := by first | exact Or.inl rfl | exact Or.inr (Or.inl rfl) | exact Or.inr (Or.inr rfl)) (hd : (y == ("__debug__" : Str)) = false := by decide) (hcd : (y == ("__classdict__" : Str)) = false := by decide)
    (h1 : swapsWithSole [.Subscript (.Name y py) (.Constant (.int n) kk pk) ps] e pos.line X.env = pure false := by rfl) (h2 : swappedStores [.Subscript (.Name y py) (.Constant (.int n) kk pk) ps] e X.env = pure none := by rfl)
    (h3 : (assignEach [.Subscript (.Name y py) (.Constant (.int n) kk pk) ps] X.env).map (·.2) = [assign (.Subscript (.Name y py) (.Constant (.int n) kk pk) ps) X.env] := by rfl) :
    SS X W (.Assign [.Subscript (.Name y py) (.Constant (.int n) kk pk) ps] e pos) (mIxPutD i n mv) := fun J p g σ H R0 r hm Dd hp => by
  obtain ⟨r1, e1, hq⟩ := post_s R0 hm hp
  refine of_ps (ps_asg semE (pg_sub (pv i hN hvis hd hcd) pe_int set_list) h1 h2 h3) (hv J p g σ H R0 r1 e1 _ (hq _ fun d g1 p1 H1 er ad R1 hk hp1 v rv => ?_))
  obtain ⟨x1, xs, x2, x3⟩ := onDL_some hk
  obtain ⟨q, h4, hq1⟩ := R1.sd i x1
  have ow := R1.dice q hq1
  rw [x2] at ow
  obtain ⟨vs, h6, h7⟩ := ow
  split at x3
  · rename_i j hj
    cases x3
    obtain ⟨R2, as2⟩ := R1.putD (c := .l (xs.set j d)) (u := .lst (vs.set j v)) hq1 trivial ⟨_, upd_same, Reps.put rv h7 j⟩
    exact ⟨_, h4, q, vs, n, j, rfl, rfl, h6, by rw [h7.len]; exact hj, hp1 σ p1 _ as2 R2⟩
  · cases x3
/-! ### self, whose fields may be changed -/
def onDN {α : Type} (i : Nat) (C : Addr) (k : List (Str × D) → M α) : M α := isDi i fun g => match g.c with
  | .n C' fs => if C' = C then k fs g else none
  | _ => none
theorem onDN_some {α : Type} {i : Nat} {k : List (Str × D) → M α} {g : G} {r : R α} (h : onDN i C k g = some r) : g.s[i]? = some .di ∧ ∃ fs, g.c = .n C fs ∧ k fs g = some r := by
  obtain ⟨h1, h2⟩ := isDi_some h
  refine ⟨h1, ?_⟩
  split at h2
  · split at h2
    · rename_i e hC
      subst hC
      exact ⟨_, e, h2⟩
    · cases h2
  · cases h2
def mFldD (i : Nat) (C : Addr) (f : Str) : M D := onDN i C fun fs => lift (getF f fs)
theorem e_fldD (i : Nat) (c : Cls X.K C) (n : NoAttr X.K C f) (hN : X.N[i]? = some x := by rfl) (hv : Vis X.env.scope x := by first | exact Or.inl rfl | exact Or.inr (Or.inl rfl) | exact Or.inr (Or.inr rfl)) (hd : (x == ("__debug__" : Str)) = false := by decide) (hcd : (x == ("__classdict__" : Str)) = false := by decide)
    (hb : attributeBase (.Name x py) f X.env (eval (.Name x py) X.env) = eval (.Name x py) X.env := by rfl) : EF X W (.Attribute (.Name x py) f pos) (mFldD i C f) := fun J p g σ H R0 r hm Q hp => by
  obtain ⟨h1, fs, h2, h3⟩ := onDN_some hm
  obtain ⟨q, h4, h5⟩ := R0.sd i h1
  have ow := R0.dice q h5
  rw [h2] at ow
  obtain ⟨dx, vs, h6, h7⟩ := ow
  obtain ⟨z, e1, qq⟩ := post_lift h3 hp R0
  obtain ⟨u, u1, u2⟩ := (repF_get h7).1 z e1
  exact of_pe (pe_fld (pv i hN hv hd hcd) hb) ⟨_, h4, q, C, dx, vs, u, rfl, h6, c, n, u1, qq p H .refl R0 u u2⟩
def mFldPutD (i : Nat) (C : Addr) (f : Str) (mv : M D) : M Oc := mv.bind fun d => onDN i C fun fs g => if fs.length < 1000 then some (.ok .nx ⟨g.s, .n C (setF f d fs)⟩) else none
theorem s_fldD {mv : M D} (i : Nat) (c : Cls X.K C) (n : NoAttr X.K C f) (hv : EF X W e mv) (hN : X.N[i]? = some x := by rfl) (hvis : Vis X.env.scope x := by first | exact Or.inl rfl | exact Or.inr (Or.inl rfl) | exact Or.inr (Or.inr rfl)) (hd : (x == ("__debug__" : Str)) = false := by decide) (hcd : (x == ("__classdict__" : Str)) = false := by decide)
    (hs : swapsWith e (some (.Attribute (.Name x py) f p')) pos.line X.env = pure false := by rfl) : SS X W (.Assign [.Attribute (.Name x py) f p'] e pos) (mFldPutD i C f mv) := fun J p g σ H R0 r hm Dd hp => by
  obtain ⟨r1, e1, hq⟩ := post_s R0 hm hp
  refine of_ps (ps_fld (pv i hN hvis hd hcd) semE hs) (hv J p g σ H R0 r1 e1 _ (hq _ fun d g1 p1 H1 er ad R1 hk hp1 v rv => ?_))
  obtain ⟨h1, fs, h2, h3⟩ := onDN_some hk
  obtain ⟨q, h4, h5⟩ := R1.sd i h1
  have ow := R1.dice q h5
  rw [h2] at ow
  obtain ⟨dx, vs, h6, h7⟩ := ow
  split at h3
  · rename_i hl
    cases h3
    obtain ⟨R2, as2⟩ := R1.putD (c := .n C (setF f d fs)) (u := .ins C dx (putF f v vs)) h5 trivial ⟨dx, _, upd_same, repF_set rv h7⟩
    exact ⟨_, h4, q, C, dx, vs, rfl, h6, c, n, by rw [repF_len h7]; exact hl, hp1 σ p1 _ as2 R2⟩
  · cases h3
/-! ### f(x, e, ..), x an own thing that f may change -/
def mFnQ (i : Nat) (F : FD) (ms : M (List D)) : M D := onO i fun _ => ms.bind fun ds => onO i fun o g => match F ds o with
  | some (d, o') => some (.ok d (g.set i (.o o')))
  | none => none
/-! ### f(g(..), e, ..), the first argument new -/
def mFnE (F : FD) (mo : M O) (ms : M (List D)) : M D := mo.bind fun o => ms.bind fun ds => lift ((F ds o).map (·.1))
theorem e_fe {F : FD} {mo : M O} {ms : M (List D)} {a0 : Expr} (hF : FnG X.prog X.w X.K X.mg X.base CX0 k ff fd qs (spM X.K true F)) (hr : Room k X.A) (hgd : X.A.guards = some []) (hm : X.mg x = some (.ref ff)) (hk : PySem.W.keepIn X.K (.ref ff) = true) (hb : Binds X.K fd qs [])
    (ho : EO X W a0 mo) (ha : EA X W es ms) (hg : Gl X x := by rfl) (hdb : (x == ("__debug__" : Str)) = false := by decide) (he : starEach (a0 :: es) X.env = (false, eval a0 X.env) :: starEach es X.env := by rfl) (hpl : (backTo pos (starEach es X.env)).any (·.1) = false := by rfl) :
    EF X W (.Call (.Name x ps) (a0 :: es) [] pos) (mFnE F mo ms) := fun J p g σ H R0 r hm' Q hp =>
  of_pe (callG hF hr hgd hg hm hk hb pass0 (pa_cons semE semA he) hdb he hpl) (ho.then R0 hm' hp fun o g1 p1 H1 q ad1 R1 h1 h2 h3 h4 hk1 hq1 => ha.then R1 hk1 hq1 fun ds g2 p2 H2 vs ad2 R2 rs hk2 hq2 => by
    show spM X.K true F ((V.ref q :: vs) ++ []) H2 Q E0
    rw [List.append_nil]
    obtain ⟨m2, e2⟩ := ad2.ex q h1 h3
    have n2 := ad2.sl q h3
    have ow := h4.le ad2.le e2
    have hid : Hid p2 q := .inr m2
    have nd : p2.d ≠ some q := fun z => R2.dno q z m2
    cases e1 : F ds o with
    | none =>
      rw [e1] at hk2
      cases hk2
    | some z =>
      obtain ⟨d, o'⟩ := z
      rw [e1] at hk2
      cases hk2
      refine ⟨mtQ p2 q, o, ds, vs, d, o', ⟨q, rfl, rfl⟩, R2.hdQ nd (by rw [del_mtQ hid]; exact ow), by rw [del_mtQ hid]; exact rs, e1, fun v J2 af rv => ?_⟩
      rw [del_mtQ hid] at rv
      have kp : ∀ b u, b ≠ q → H2 b = some u → J2 b = some u := fun b u n e => af.old b u (fun z => n (Option.some.inj z).symm) e
      have same : ∀ b, b ≠ q → H2 b ≠ none → J2 b = H2 b := fun b n x => by
        cases e : H2 b with
        | none => exact absurd e x
        | some u => exact kp b u n e
      have le : Le (del p2 H2) (del p2 J2) := .of fun b u e => by
        have n := del_no e
        rw [del_at n]
        exact kp b u (fun z => n (z ▸ hid)) (del_of e)
      have new : OwnAt X.K (del p2 J2) J2 q o' := by
        have := af.di q rfl
        rw [del_mtQ hid] at this
        exact this
      have jn := R0.jn h2
      refine hp p2 J2 ⟨ad2.dd.trans ad1.dd, ad1.le.trans (ad2.le.trans le), fun b m n => ?_, fun b n => ad2.sl b (ad1.sl b n), fun b n => ?_⟩ ?_ v rv
      · obtain ⟨x1, x2⟩ := ad1.ex b m n
        obtain ⟨x3, x4⟩ := ad2.ex b x1 (ad1.sl b n)
        have nb : b ≠ q := fun z => mut_ne (R0.lv b m) (by rw [z]; exact h2)
        exact ⟨x3, by rw [same b nb (mut_ne (R2.lv b x3)), x4, x2]⟩
      · have nb : b ≠ q := fun z => n (by rw [z]; exact h2)
        have := ad2.th b (ad1.th b n)
        rw [same b nb this]
        exact this
      · refine ⟨R2.len, fun b u n e => kp b u (fun z => by rw [z, jn] at e; cases e) (R2.old b u n e), fun b e => ?_, R2.dno, fun b m => ?_, fun b u f e => R2.fz b u f (af.fz b u f e), fun j d e => ?_, fun j d e => ?_, R2.sd, R2.inj⟩
        · have nb : b ≠ q := fun z => nd (z ▸ e)
          exact (R2.dice b e).le le (same b nb (mut_ne (R2.dice b e).mut))
        · by_cases z : b = q
          · rw [z]
            exact new.mut
          · rw [same b z (mut_ne (R2.lv b m))]
            exact R2.lv b m
        · obtain ⟨v, x1, x2⟩ := R2.sv j d e
          exact ⟨v, x1, x2.le le⟩
        · obtain ⟨x, x1, x2, x3, x4⟩ := R2.so j d e
          have nx : x ≠ q := fun z => n2 j d e (by rw [x1, z])
          exact ⟨x, x1, x2, x3, x4.le le (same x nx (mut_ne (R2.lv x x2)))⟩)
end
end Mo
set_option Elab.async false
set_option linter.all false
set_option maxRecDepth 100000
set_option maxHeartbeats 4000000
set_option exponentiation.threshold 9000
/-! Mo, part sixteen: one rule for each sign of the language, whatever the data. -/
namespace Mo
open PySem PySem.Spec L2
section
variable {X : Cx} {W : WW} {e a b c : Expr} {es : List Expr} {pos ps : Pos}
theorem EF.or {m m' m2 : M D} (h : EF X W e m) (h' : EF X W e m') (hp : ∀ g r, m2 g = some r → m g = some r ∨ m' g = some r) : EF X W e m2 := fun J p g σ H R0 r hm Q q => (hp g r hm).elim (fun z => h J p g σ H R0 r z Q q) fun z => h' J p g σ H R0 r z Q q
theorem ET.or {m m' m2 : M Bool} (h : ET X W e m) (h' : ET X W e m') (hp : ∀ g r, m2 g = some r → m g = some r ∨ m' g = some r) : ET X W e m2 := fun J p g σ H R0 r hm Q q => (hp g r hm).elim (fun z => h J p g σ H R0 r z Q q) fun z => h' J p g σ H R0 r z Q q
def orF {α : Type} (f f' : D → D → Option α) : D → D → Option α := fun x y => (f x y).or (f' x y)
theorem bin_or {α : Type} {f f' : D → D → Option α} {ma mb : M D} {g : G} {r : R α} (h : (ma.bind fun x => mb.bind fun y => lift (orF f f' x y)) g = some r) :
    (ma.bind fun x => mb.bind fun y => lift (f x y)) g = some r ∨ (ma.bind fun x => mb.bind fun y => lift (f' x y)) g = some r := by
  unfold M.bind at h ⊢
  cases e1 : ma g with
  | none =>
    rw [e1] at h
    cases h
  | some r1 =>
    rw [e1] at h
    cases r1 with
    | ex E g1 => exact .inl h
    | ok x g1 =>
      dsimp only at h ⊢
      cases e2 : mb g1 with
      | none =>
        rw [e2] at h
        cases h
      | some r2 =>
        rw [e2] at h
        cases r2 with
        | ex E g2 => exact .inl h
        | ok y g2 =>
          dsimp only at h ⊢
          unfold orF at h
          cases e3 : f x y with
          | none =>
            rw [e3] at h
            exact .inr h
          | some z =>
            rw [e3] at h
            exact .inl h
theorem e_orB {f f' : D → D → Option D} {ma mb : M D} (h : EF X W e (mBin f ma mb)) (h' : EF X W e (mBin f' ma mb)) : EF X W e (mBin (orF f f') ma mb) := h.or h' fun _ _ z => bin_or z
/-- a test of two -/
def mT2 (f : D → D → Option D) (ma mb : M D) : M Bool := ma.bind fun x => mb.bind fun y => lift ((f x y).bind asB)
theorem t_or {f f' : D → D → Option D} {ma mb : M D} (h : ET X W e (mT2 f ma mb)) (h' : ET X W e (mT2 f' ma mb)) : ET X W e (mT2 (orF f f') ma mb) := h.or h' fun g r z => by
  unfold mT2 M.bind at z ⊢
  cases e1 : ma g with
  | none =>
    rw [e1] at z
    cases z
  | some r1 =>
    rw [e1] at z
    cases r1 with
    | ex E g1 => exact .inl z
    | ok x g1 =>
      dsimp only at z ⊢
      cases e2 : mb g1 with
      | none =>
        rw [e2] at z
        cases z
      | some r2 =>
        rw [e2] at z
        cases r2 with
        | ex E g2 => exact .inl z
        | ok y g2 =>
          dsimp only at z ⊢
          unfold orF at z
          cases e3 : f x y with
          | none =>
            rw [e3] at z
            exact .inr z
          | some u =>
            rw [e3] at z
            exact .inl z
/-! ### signs between numbers, texts, tuples -/
/-- () + u is u itself -/
def rCatT0 (K : PySem.W.Frag) : R2 := fun x y H Q => ∃ a b ys, x = .ref a ∧ y = .ref b ∧ SqT K H a [] ∧ SqT K H b ys ∧ ys.length ≤ sizeLine ∧ Q (.ref b) H
theorem op_catT0 {X : Cx} : OpR X (binaryOp .Add) (rCatT0 X.K) := by
  intro pins s σ H x y v u Q I rx ry h
  obtain ⟨a, b, ys, rfl, rfl, ha, hb, hz, q⟩ := h
  cases rx
  cases ry
  obtain ⟨its, r1, p1, _⟩ := I.tuple ha
  obtain ⟨its2, r2, p2, _⟩ := I.tuple hb
  cases r1
  obtain ⟨⟨c1, d1, da1, sl1⟩, ho1, hc1, n1, hd1⟩ := id p1
  obtain ⟨⟨c2, d2, da2, sl2⟩, ho2, hc2, n2, hd2⟩ := id p2
  simp only at hc1 hd1 hc2 hd2
  subst hc1 hd1 hc2 hd2
  exact PySem.concat_meets ⟨_, ho1, rfl⟩ ⟨_, ho2, rfl⟩ PySem.noFill_tuple_add PySem.seq_tuple_add PySem.F.slot_tuple_add PySem.F.entry_tuple_add (PySem.F.args_tuple_add_2 _ _)
    (PyProof.Rows.tuple_addW0 a b #[] its2.toArray n1 n2 d1 d2 sl1 sl2 (by simp)) ⟨ho1, ho2, .ref b, H, I, rfl, q⟩
def fCatT0 : D → D → Option D
  | .tup [], .tup ys => if ys.length ≤ sizeLine then some (.tup ys) else none
  | _, _ => none
theorem os_catT0 {K : PySem.W.Frag} : OpS K (rCatT0 K) fCatT0 := fun J p g σ H v w x y z Q R0 rv rw' e q => by
  unfold fCatT0 at e
  split at e
  · split at e
    · rename_i hz
      cases e
      obtain ⟨a, vs, rfl, sa, ra⟩ := rep_tup rv
      obtain ⟨b, ws, rfl, sb, rb⟩ := rep_tup rw'
      cases ra
      exact ⟨a, b, ws, rfl, rfl, st_del sa, st_del sb, by rw [rb.len]; exact hz, q p H .refl R0 _ rw'⟩
    · cases e
  · cases e
def uAdd : D → D → Option D := orF (fI0 fun i j => .int (i + j)) (orF fCat (orF fCatT fCatT0))
theorem e_add {ma mb : M D} (ha : EF X W a ma) (hb : EF X W b mb) : EF X W (.BinOp a .Add b pos) (mBin uAdd ma mb) := e_orB (e_bin op_add os_I0 ha hb) (e_orB (e_bin op_add_str os_cat ha hb) (e_orB (e_bin op_catT os_catT ha hb) (e_bin op_catT0 os_catT0 ha hb)))
def uSub : D → D → Option D := fI0 fun i j => .int (i - j)
theorem e_sub {ma mb : M D} (ha : EF X W a ma) (hb : EF X W b mb) : EF X W (.BinOp a .Sub b pos) (mBin uSub ma mb) := e_bin op_sub os_I0 ha hb
def cMul (i j : Int) : Bool := decide (i.natAbs.log2 + j.natAbs.log2 < 1000000)
def uMul : D → D → Option D := fI cMul fun i j => .int (i * j)
theorem e_mul {ma mb : M D} (ha : EF X W a ma) (hb : EF X W b mb) : EF X W (.BinOp a .Mult b pos) (mBin uMul ma mb) := e_bin op_mulW (os_I fun i j h => show i.natAbs.log2 + j.natAbs.log2 < 1000000 from of_decide_eq_true h) ha hb
def cDiv (_ j : Int) : Bool := decide (0 < j ∧ j.natAbs.log2 < 9000)
def uDiv : D → D → Option D := fI cDiv fun i j => .int (i / j)
theorem e_div {ma mb : M D} (ha : EF X W a ma) (hb : EF X W b mb) : EF X W (.BinOp a .FloorDiv b pos) (mBin uDiv ma mb) := e_bin op_fdivW (os_I fun _ j h => show 0 < j ∧ j.natAbs.log2 < 9000 from of_decide_eq_true h) ha hb
def cMod (_ j : Int) : Bool := decide (0 < j)
def uMod : D → D → Option D := fI cMod fun i j => .int (i % j)
theorem e_mod {ma mb : M D} (ha : EF X W a ma) (hb : EF X W b mb) : EF X W (.BinOp a .Mod b pos) (mBin uMod ma mb) := e_bin op_mod (os_I fun _ _ h => of_decide_eq_true h) ha hb
def cPow (i j : Int) : Bool := decide (0 ≤ j ∧ j ≤ 1000000 ∧ i.natAbs < 2 ^ 64)
def uPow : D → D → Option D := fI cPow fun i j => .int (i ^ j.toNat)
theorem e_pow {ma mb : M D} (ha : EF X W a ma) (hb : EF X W b mb) : EF X W (.BinOp a .Pow b pos) (mBin uPow ma mb) := e_bin op_pow (os_I fun i j h => show 0 ≤ j ∧ j ≤ 1000000 ∧ i.natAbs < 2 ^ 64 from of_decide_eq_true h) ha hb
/-! ### comparisons -/
def fLtS : D → D → Option D
  | .str i, .str j => some (.bl (decide (i.cps.toList < j.cps.toList)))
  | _, _ => none
theorem os_ltS {K : PySem.W.Frag} : OpS K (fun x y H Q => ∃ i j, x = .str i ∧ y = .str j ∧ Q (.bl (decide (i.cps.toList < j.cps.toList))) H) fLtS := fun J p g σ H v w x y z Q R rv rw' e q => by
  cases x <;> first | (cases e; done) | skip
  cases y <;> first | (cases e; done) | skip
  cases rep_str rv
  cases rep_str rw'
  cases e
  exact ⟨_, _, rfl, rfl, q p H .refl R _ (.bl _)⟩
def iLt : D → D → Option D := fI0 fun i j => .bl (decide (i < j))
def iLe : D → D → Option D := fI0 fun i j => .bl (decide (i ≤ j))
def iGt : D → D → Option D := fI0 fun i j => .bl (decide (j < i))
def iGe : D → D → Option D := fI0 fun i j => .bl (decide (j ≤ i))
def uLt : D → D → Option D := orF iLt fLtS
section
variable {ma mb : M D}
theorem e_lt (ha : EF X W a ma) (hb : EF X W b mb) : EF X W (.Compare a [.Lt] [b] pos) (mBin uLt ma mb) := e_orB (e_cmp op_lt os_IB ha hb) (e_cmp op_lt_str os_ltS ha hb)
theorem e_le (ha : EF X W a ma) (hb : EF X W b mb) : EF X W (.Compare a [.LtE] [b] pos) (mBin iLe ma mb) := e_cmp op_le os_IB ha hb
theorem e_ge (ha : EF X W a ma) (hb : EF X W b mb) : EF X W (.Compare a [.GtE] [b] pos) (mBin iGe ma mb) := e_cmp op_ge os_IB ha hb
theorem e_eq (hu : X.A.units + 64 < cLine) (ha : EF X W a ma) (hb : EF X W b mb) (hm : behindInMarks .Eq b = false := by first | exact nomark _ | rfl) : EF X W (.Compare a [.Eq] [b] pos) (mBin (fEq false) ma mb) := e_cmp (op_eqD hu) os_eq ha hb hm
theorem e_ne (hu : X.A.units + 64 < cLine) (ha : EF X W a ma) (hb : EF X W b mb) (hm : behindInMarks .NotEq b = false := by first | exact nomark _ | rfl) : EF X W (.Compare a [.NotEq] [b] pos) (mBin (fEq true) ma mb) := e_cmp (op_neD hu) os_ne ha hb hm
theorem t_lt (ha : EF X W a ma) (hb : EF X W b mb) : ET X W (.Compare a [.Lt] [b] pos) (mT2 uLt ma mb) := t_or (t_cmp op_lt os_IB ha hb) (t_cmp op_lt_str os_ltS ha hb)
theorem t_gt (ha : EF X W a ma) (hb : EF X W b mb) : ET X W (.Compare a [.Gt] [b] pos) (mT2 iGt ma mb) := t_cmp op_gt os_IB ha hb
theorem t_eq (hu : X.A.units + 64 < cLine) (ha : EF X W a ma) (hb : EF X W b mb) (hm : behindInMarks .Eq b = false := by first | exact nomark _ | rfl) : ET X W (.Compare a [.Eq] [b] pos) (mT2 (fEq false) ma mb) := t_cmp (op_eqD hu) os_eq ha hb hm
theorem t_ne (hu : X.A.units + 64 < cLine) (ha : EF X W a ma) (hb : EF X W b mb) (hm : behindInMarks .NotEq b = false := by first | exact nomark _ | rfl) : ET X W (.Compare a [.NotEq] [b] pos) (mT2 (fEq true) ma mb) := t_cmp (op_neD hu) os_ne ha hb hm
theorem e_isnot (ha : EF X W a ma) (hb : EF X W b mb) (hm : behindInMarks .IsNot b = false := by first | exact nomark _ | rfl) : EF X W (.Compare a [.IsNot] [b] pos) (mBin (fIs true) ma mb) := e_cmp op_notN os_isnot ha hb hm
/-! ### in, subscripts: dicts, lists, tuples, texts -/
def uIn (neg : Bool) : D → D → Option D := orF (fDIn neg) (orF (fIn neg) (fInS neg))
theorem e_in (hu : X.A.units + 1 < cLine) (ha : EF X W a ma) (hb : EF X W b mb) (hm : behindInMarks .In b = false := by rfl) : EF X W (.Compare a [.In] [b] pos) (mBin (uIn false) ma mb) := e_orB (e_din hu ha hb hm) (e_orB (e_cmp op_in_seq (os_in false) ha hb hm) (e_cmp op_in_str os_inS ha hb hm))
theorem e_nin (hu : X.A.units + 1 < cLine) (ha : EF X W a ma) (hb : EF X W b mb) (hm : behindInMarks .NotIn b = false := by rfl) : EF X W (.Compare a [.NotIn] [b] pos) (mBin (uIn true) ma mb) := e_orB (e_dnin hu ha hb hm) (e_orB (e_cmp op_notIn_seq (os_in true) ha hb hm) (e_cmp op_notIn_str os_ninS ha hb hm))
def uIx : D → D → Option D := orF fDGet fIx
theorem e_sbs (hu : X.A.units + 1 < cLine) (ha : EF X W a ma) (hb : EF X W b mb) (hs : L2.NoSl b := by exact fun _ _ => rfl) (hs2 : PlainIx b := by exact fun _ _ => rfl) : EF X W (.Subscript a b pos) (mBin uIx ma mb) := e_orB (e_dget hu ha hb hs) (e_ix ha hb hs2)
end
/-- a test by the value of an expression that is a truth -/
theorem t_e {m : M D} (h : EF X W e m) (he : ∀ whole, isTrue e X.env whole = (do let v ← whole; standAt e.pos; holding [v] (truthy v)) := by intro _; rfl) : ET X W e (mTru m) := t_truth h he
end
end Mo
set_option Elab.async false
set_option linter.all false
set_option maxRecDepth 100000
set_option maxHeartbeats 4000000
/-! Mo, part seventeen: what the printer of derivations names. -/
namespace Mo
open PySem PySem.Spec L2
def frz (m : M O) : M D := m.bind fun o => ret o.d
section
variable {X : Cx} {W : WW} {e a b c : Expr} {es : List Expr} {pos ps : Pos} {ma mb mc : M D}
theorem e_bad : EF X W e bad := fun J p g σ H R0 r hm Q hp => by cases hm
/-- + of numbers, texts, tuples, lists -/
def uPlus : D → D → Option D := orF uAdd fun x y => (fCatL x y).map O.d
theorem catL_frz {g : G} {r : R D} (h : (ma.bind fun x => mb.bind fun y => lift ((fCatL x y).map O.d)) g = some r) : frz (mBinO fCatL ma mb) g = some r := by
  unfold frz mBinO M.bind at *
  cases e1 : ma g with
  | none =>
    rw [e1] at h
    cases h
  | some r1 =>
    rw [e1] at h
    cases r1 with
    | ex E g1 => exact h
    | ok x g1 =>
      dsimp only at h ⊢
      cases e2 : mb g1 with
      | none =>
        rw [e2] at h
        cases h
      | some r2 =>
        rw [e2] at h
        cases r2 with
        | ex E g2 => exact h
        | ok y g2 =>
          dsimp only at h ⊢
          cases e3 : fCatL x y with
          | none =>
            rw [e3] at h
            cases h
          | some z =>
            rw [e3] at h
            exact h
theorem e_plus (ha : EF X W a ma) (hb : EF X W b mb) : EF X W (.BinOp a .Add b pos) (mBin uPlus ma mb) := (e_add ha hb).or (eo_cat ha hb).f fun g r z => (bin_or z).imp id catL_frz
/-- xs[a:b] of texts, tuples, lists -/
def mSlU (ma : M D) (ml mh : M (Option Int)) : M D := mSl (fun x l u => (fSlS x l u).or ((fSlL x l u).map O.d)) ma ml mh
theorem sl_or {g : G} {r : R D} {ml mh : M (Option Int)} (h : mSlU ma ml mh g = some r) : mSl fSlS ma ml mh g = some r ∨ frz (mSl fSlL ma ml mh) g = some r := by
  unfold mSlU frz mSl M.bind at *
  cases e1 : ma g with
  | none =>
    rw [e1] at h
    cases h
  | some r1 =>
    rw [e1] at h
    cases r1 with
    | ex E g1 => exact .inl h
    | ok x g1 =>
      dsimp only at h ⊢
      cases e2 : ml g1 with
      | none =>
        rw [e2] at h
        cases h
      | some r2 =>
        rw [e2] at h
        cases r2 with
        | ex E g2 => exact .inl h
        | ok l g2 =>
          dsimp only at h ⊢
          cases e3 : mh g2 with
          | none =>
            rw [e3] at h
            cases h
          | some r3 =>
            rw [e3] at h
            cases r3 with
            | ex E g3 => exact .inl h
            | ok u g3 =>
              dsimp only at h ⊢
              cases e4 : fSlS x l u with
              | some z =>
                rw [e4] at h
                exact .inl h
              | none =>
                rw [e4] at h
                cases e5 : fSlL x l u with
                | none =>
                  rw [e5] at h
                  cases h
                | some z =>
                  rw [e5] at h
                  exact .inr h
theorem e_slU {lo hi : Option Expr} {p2 : Pos} {ml mh : M (Option Int)} (ha : EF X W a ma) (hl : EP' X W lo ml) (hh : EP' X W hi mh) : EF X W (.Subscript a (.Slice lo hi none p2) pos) (mSlU ma ml mh) := (e_sl ha hl hh).or (eo_sl ha hl hh).f fun _ _ z => sl_or z
/-- a op b op' c -/
def mChain (f f' : D → D → Option D) (ma mb mc : M D) : M D := ma.bind fun x => mb.bind fun y => match f x y with
  | some (.bl true) => mc.bind fun z => lift (f' y z)
  | some (.bl false) => ret (.bl false)
  | _ => bad
/-- `in` as a test -/
theorem t_din (hu : X.A.units + 1 < cLine) (ha : EF X W a ma) (hb : EF X W b mb) (hm0 : behindInMarks .In b = false := by rfl) : ET X W (.Compare a [.In] [b] pos) (mT2 (fDIn false) ma mb) := fun J p g σ H R0 r hm Q hp =>
  of_pt (pt_cmp (pc_din hu semE semE) hm0) (ha.then R0 hm hp fun x g1 p1 H1 v ad1 R1 rv hm1 hp1 => hb.then R1 hm1 hp1 fun y g2 p2 H2 w ad2 R2 rw' hm2 hp2 => by
    cases e : getD y x with
    | none =>
      simp only [fDIn, e] at hm2
      cases hm2
    | some u =>
      simp only [fDIn, e] at hm2
      cases hm2
      obtain ⟨A, u', ev, g1', g2', g3'⟩ := dget_of rw' (rv.le ad2.le) e
      refine ⟨A, u', ev, g1', ?_⟩
      rw [dget_some g2' g3']
      exact ⟨_, rfl, hp2 p2 H2 .refl R2⟩)
theorem t_dnin (hu : X.A.units + 1 < cLine) (ha : EF X W a ma) (hb : EF X W b mb) (hm0 : behindInMarks .NotIn b = false := by rfl) : ET X W (.Compare a [.NotIn] [b] pos) (mT2 (fDIn true) ma mb) := fun J p g σ H R0 r hm Q hp =>
  of_pt (pt_cmp (pc_dnotin hu semE semE) hm0) (ha.then R0 hm hp fun x g1 p1 H1 v ad1 R1 rv hm1 hp1 => hb.then R1 hm1 hp1 fun y g2 p2 H2 w ad2 R2 rw' hm2 hp2 => by
    cases e : getD y x with
    | none =>
      simp only [fDIn, e] at hm2
      cases hm2
    | some u =>
      simp only [fDIn, e] at hm2
      cases hm2
      obtain ⟨A, u', ev, g1', g2', g3'⟩ := dget_of rw' (rv.le ad2.le) e
      refine ⟨A, u', ev, g1', ?_⟩
      rw [dget_some g2' g3']
      exact ⟨_, rfl, hp2 p2 H2 .refl R2⟩)
theorem t_in (hu : X.A.units + 1 < cLine) (ha : EF X W a ma) (hb : EF X W b mb) (hm : behindInMarks .In b = false := by rfl) : ET X W (.Compare a [.In] [b] pos) (mT2 (uIn false) ma mb) := t_or (t_din hu ha hb hm) (t_or (t_cmp op_in_seq (os_in false) ha hb hm) (t_cmp op_in_str os_inS ha hb hm))
theorem t_nin (hu : X.A.units + 1 < cLine) (ha : EF X W a ma) (hb : EF X W b mb) (hm : behindInMarks .NotIn b = false := by rfl) : ET X W (.Compare a [.NotIn] [b] pos) (mT2 (uIn true) ma mb) := t_or (t_dnin hu ha hb hm) (t_or (t_cmp op_notIn_seq (os_in true) ha hb hm) (t_cmp op_notIn_str os_ninS ha hb hm))
end
end Mo
set_option Elab.async false
set_option linter.all false
set_option maxRecDepth 100000
set_option maxHeartbeats 4000000
/-! Mo, part eighteen: several names at once. -/
namespace Mo
open PySem PySem.Spec L2
/-- a value, shown or still the def's own -/
inductive Vx where
  | d (x : D) | o (x : O)
def Vx.sl : Vx → Sl
  | .d x => .v x
  | .o x => .o x
/-- what v stands for, seen from the heap H0 of before -/
def VxAt (K : PySem.W.Frag) (H0 : Hp) (σ : St) (g : G) (p : Mt) (H : Hp) (v : V) : Vx → Prop
  | .d x => Rep K (del p H) v x
  | .o x => ∃ q, v = .ref q ∧ q ∈ p.o ∧ H0 q = none ∧ H q ≠ none ∧ NoSl g σ q ∧ OwnAt K (del p H) H q x
def qX (K : PySem.W.Frag) (H : Hp) (σ : St) (Q : VK) : Vx → G → Mt → Hp → Prop := fun x g' p' H' => ∀ v, VxAt K H σ g' p' H' v x → Q v H'
def EX (X : Cx) (W : WW) (e : Expr) (m : M Vx) : Prop := ∀ J p g σ H, Rl X.K J p g σ H → ∀ r, m g = some r → ∀ Q : VK, Post X.K W J p g σ H r (qX X.K H σ Q) → SemE X e σ H Q
def mXd (m : M D) : M Vx := m.bind fun d => ret (.d d)
def mXo (m : M O) : M Vx := m.bind fun d => ret (.o d)
section
variable {X : Cx} {W : WW} {e a b c : Expr} {es : List Expr} {pos ps : Pos}
theorem x_d {m : M D} (h : EF X W e m) : EX X W e (mXd m) := fun J p g σ H R0 r hm Q hp =>
  h.then R0 hm hp fun d g1 p1 H1 v ad R1 rv hk hq => by
    cases hk
    exact hq p1 H1 .refl R1 v rv
theorem x_o {m : M O} (h : EO X W e m) : EX X W e (mXo m) := fun J p g σ H R0 r hm Q hp =>
  h.then R0 hm hp fun d g1 p1 H1 q ad R1 h1 h2 h3 h4 hk hq => by
    cases hk
    exact hq p1 H1 .refl R1 _ ⟨q, rfl, h1, h2, h4.there, h3, h4⟩
theorem EX.then {β : Type} {J : Hp} {p : Mt} {g : G} {σ : St} {H : Hp} {q : β → G → Mt → Hp → Prop} {r : R β} {m : M Vx} {k : Vx → M β} (h : EX X W e m) (R0 : Rl X.K J p g σ H) (hm : m.bind k g = some r) (hp : Post X.K W J p g σ H r q) {Q : VK}
    (hk : ∀ d g1 p1 H1 v, Ad g σ p H g1 p1 H1 → Rl X.K J p1 g1 σ H1 → VxAt X.K H σ g1 p1 H1 v d → k d g1 = some r → Post X.K W J p1 g1 σ H1 r q → Q v H1) : SemE X e σ H Q := by
  unfold M.bind at hm
  cases e1 : m g with
  | none => rw [e1] at hm; cases hm
  | some r1 =>
    cases r1 with
    | ok d g1 =>
      rw [e1] at hm
      exact h J p g σ H R0 _ e1 Q fun p1 H1 ad R1 v rv => hk d g1 p1 H1 v ad R1 rv hm (hp.adv ad)
    | ex E g1 =>
      rw [e1] at hm
      cases hm
      exact h J p g σ H R0 _ e1 Q hp
/-- kept while something else is computed -/
theorem VxAt.ad {K : PySem.W.Frag} {H0 : Hp} {σ : St} {g g' : G} {p p' : Mt} {H H' : Hp} {v : V} {x : Vx} (h : VxAt K H0 σ g p H v x) (a : Ad g σ p H g' p' H') : VxAt K H0 σ g' p' H' v x := by
  cases x with
  | d x => exact Rep.le a.le h
  | o x =>
    obtain ⟨q, h1, h2, h3, h4, h5, h6⟩ := h
    obtain ⟨x1, x2⟩ := a.ex q h2 h5
    exact ⟨q, h1, x1, h3, by rw [x2]; exact h4, a.sl q h5, h6.le a.le x2⟩
/-- two values that came one behind the other -/
def Apart : V → Vx → V → Vx → Prop
  | v, .o _, w, .o _ => v ≠ w
  | _, _, _, _ => True
theorem apart_of {K : PySem.W.Frag} {H0 : Hp} {σ σ' : St} {g g' : G} {p p' : Mt} {H H' : Hp} {v w : V} {x y : Vx} (h : VxAt K H0 σ g p H v x) (h' : VxAt K H σ' g' p' H' w y) : Apart v x w y := by
  cases x with
  | d x => exact True.intro
  | o x =>
    cases y with
    | d y => exact True.intro
    | o y =>
      obtain ⟨q, h1, h2, h3, h4, h5, h6⟩ := h
      obtain ⟨q', h1', h2', h3', _⟩ := h'
      subst h1 h1'
      exact fun z => by
        cases z
        exact h4 h3'
theorem noSl_set {g : G} {σ : St} {q : Addr} {i : Nat} {v : V} {x : Vx} (h : NoSl g σ q) (hl : g.s.length = σ.length) (hv : (∃ d, x = .d d) ∨ v ≠ .ref q) : NoSl (g.set i x.sl) (σ.set i (some v)) q := fun j o e1 e2 => by
  rcases getE_set e1 with ⟨i1, z, l1⟩ | ⟨n1, e1⟩
  · rw [getV_set, if_pos ⟨i1, hl ▸ l1⟩] at e2
    cases e2
    rcases hv with ⟨d, rfl⟩ | hv
    · cases z
    · exact hv rfl
  · rw [getV_set, if_neg fun z => n1 z.1] at e2
    exact h j o e1 e2
theorem Rl.setX {K : PySem.W.Frag} {J H0 : Hp} {p : Mt} {g : G} {σ : St} {H : Hp} {i : Nat} {v : V} {x : Vx} (R : Rl K J p g σ H) (jn : ∀ q, H0 q = none → J q = none) (h : VxAt K H0 σ g p H v x) : Rl K J p (g.set i x.sl) (σ.set i (some v)) H := by
  cases x with
  | d x => exact R.setV h
  | o x =>
    obtain ⟨q, rfl, h2, h3, h4, h5, h6⟩ := h
    exact R.setO h2 (jn q h3) h5 h6
/-- the second of two that are stored -/
theorem VxAt.set {K : PySem.W.Frag} {H0 : Hp} {σ : St} {g : G} {p : Mt} {H : Hp} {i : Nat} {v w : V} {x y : Vx} (h : VxAt K H0 σ g p H w y) (hl : g.s.length = σ.length) (ap : Apart v x w y) : VxAt K H0 (σ.set i (some v)) (g.set i x.sl) p H w y := by
  cases y with
  | d y => exact h
  | o y =>
    obtain ⟨q, rfl, h2, h3, h4, h5, h6⟩ := h
    refine ⟨q, rfl, h2, h3, h4, noSl_set h5 hl ?_, h6⟩
    cases x with
    | d x => exact .inl ⟨x, rfl⟩
    | o x => exact .inr ap
/-- x, y = e, f -/
def mPar (i j : Nat) (ma mb : M Vx) : M Oc := ma.bind fun x => mb.bind fun y g => some (.ok .nx ((g.set i x.sl).set j y.sl))
theorem s_par {x y : Str} {px py pt pt2 : Pos} {kt k2 : Nat} {ma mb : M Vx} (i j : Nat) (hc : X.calm = true) (nd : X.N.Nodup) (ha : EX X W a ma) (hb : EX X W b mb) (hij : i ≠ j := by decide) (hi : X.N[i]? = some x := by rfl) (hj : X.N[j]? = some y := by rfl)
    (hx : X.env.scope.names.lookup x = some .local := by rfl) (hy : X.env.scope.names.lookup y = some .local := by rfl)
    (hw : swappedStores [.Tuple [.Name x px, .Name y py] kt pt] (.Tuple [a, b] k2 pt2) X.env = pure (some [x, y]) := by rfl) (hs : swapsWithSole [.Tuple [.Name x px, .Name y py] kt pt] (.Tuple [a, b] k2 pt2) pos.line X.env = pure false := by rfl)
    (he : starEach [a, b] X.env = (false, eval a X.env) :: starEach [b] X.env := by rfl) (he2 : starEach [b] X.env = (false, eval b X.env) :: starEach [] X.env := by rfl) :
    SS X W (.Assign [.Tuple [.Name x px, .Name y py] kt pt] (.Tuple [a, b] k2 pt2) pos) (mPar i j ma mb) := fun J p g σ H R0 r hm Dd hp => by
  obtain ⟨r1, e1, hq⟩ := post_s R0 hm hp
  refine of_ps (ps_par (i := i) (j := j) hc nd hi hj hij hx hy (pa_cons semE (pa_cons semE pa_nil he2) he) hw hs) (ha J p g σ H R0 r1 e1 _ (hq _ fun u g1 p1 H1 er ad R1 hk hp1 v hv => ?_))
  obtain ⟨r2, e2, hq2⟩ := post_s R1 hk hp1
  refine hb J p1 g1 σ H1 R1 r2 e2 _ (hq2 _ fun u2 g2 p2 H2 er2 ad2 R2 hk2 hp2 w hw' => ?_)
  cases hk2
  have ap := apart_of hv hw'
  have hv2 := hv.ad ad2
  exact ⟨v, w, rfl, hp2 _ p2 H2 .refl ((R2.setX (fun q e => R0.jn e) hv2).setX (fun q e => R1.jn e) (hw'.set R2.len ap))⟩
/-- x, y, z = e, f, h -/
def mPar3 (i j k : Nat) (ma mb mc : M Vx) : M Oc := ma.bind fun x => mb.bind fun y => mc.bind fun z g => some (.ok .nx (((g.set i x.sl).set j y.sl).set k z.sl))
/-- target = e, the value taken apart -/
def mAsg (f : D → G → Option G) (m : M D) : M Oc := m.bind fun d g => (f d g).map fun g' => .ok .nx g'
theorem s_asg {tg : Expr} {vs : List Nat} {f : D → G → Option G} {m : M D} (h : EF X W e m) (ht : ES X vs tg f) (hs : swapsWithSole [tg] e pos.line X.env = pure false := by rfl) (hw : swappedStores [tg] e X.env = pure none := by rfl)
    (h1 : (assignEach [tg] X.env).map (·.2) = [assign tg X.env] := by rfl) : SS X W (.Assign [tg] e pos) (mAsg f m) := fun J p g σ H R0 r hm Dd hp => by
  obtain ⟨r1, e1, hq⟩ := post_s R0 hm hp
  refine of_ps (ps_asg semE semG hs hw h1) (h J p g σ H R0 r1 e1 _ (hq _ fun d g1 p1 H1 er ad R1 hk hp1 v rv => ?_))
  cases e2 : f d g1 with
  | none =>
    rw [e2] at hk
    cases hk
  | some g2 =>
    rw [e2] at hk
    cases hk
    exact ht J p1 g1 σ H1 v d g2 R1 rv e2 _ fun σ' sm R2 => hp1 σ' p1 H1 .refl R2
end
end Mo
set_option Elab.async false
set_option linter.all false
set_option maxRecDepth 100000
set_option maxHeartbeats 4000000
/-! Mo, part nineteen: displays of dicts, stars in displays. -/
namespace Mo
open PySem PySem.Spec L2
section
variable {X : Cx} {W : WW} {e a b c : Expr} {es : List Expr} {pos ps : Pos}
/-! ### {k: v, ..}, keys numbers or texts -/
def mPairs (mk mv : M D) (ms : M (List (Key × D))) : M (List (Key × D)) := mk.bind fun k => mv.bind fun v => ms.bind fun r => lift ((asKey k).map fun kk => (kk, v) :: r)
def mergeD (acc : List (Key × D)) (more : List (Key × D)) : List (Key × D) := more.foldl (fun acc kv => putD acc kv.1 kv.2) acc
def mDisp (ms : M (List (Key × D))) : M O := ms.bind fun es => if es.length ≤ 15 then ret (.k (mergeD [] es)) else bad
/-! ### *e in a display -/
def mStar (m : M D) (ms : M (List D)) : M (List D) := m.bind fun d => match seqD d with
  | some xs => ms.bind fun ds => ret (xs ++ ds)
  | none => bad
/-! ### f'..' -/
def fFmt : D → Option D
  | .str y => if y.length ≤ sizeLine then some (.str y) else none
  | .int i => if i.natAbs.log2 < 1920 then some (.str (toString i)) else none
  | _ => none
def mFmt (m : M D) : M D := m.bind fun d => lift (fFmt d)
theorem e_fmt {m : M D} (h : EF X W e m) : EF X W (.FormattedValue e (-1) none pos) (mFmt m) := fun J p g σ H R0 r hm Q hp =>
  of_pe (pe_fmt semE) (h.then R0 hm hp fun d g1 p1 H1 v ad R1 rv hk hq => by
    obtain ⟨z, e1, q⟩ := post_lift hk hq R1
    cases d <;> first | (cases e1; done) | skip
    · simp only [fFmt] at e1
      split at e1
      · rename_i hz
        cases e1
        cases rep_int rv
        exact .inr ⟨_, rfl, hz, q p1 H1 .refl R1 _ (.str _)⟩
      · cases e1
    · simp only [fFmt] at e1
      split at e1
      · rename_i hz
        cases e1
        cases rep_str rv
        exact .inl ⟨_, rfl, hz, q p1 H1 .refl R1 _ (.str _)⟩
      · cases e1)
def mJs : List (M D) → Str → M D
  | [], acc => ret (.str acc)
  | m :: ms, acc => m.bind fun d => match d with
    | .str y => if (acc ++ y).length ≤ sizeLine then mJs ms (acc ++ y) else bad
    | _ => bad
structure EJ (X : Cx) (W : WW) (es : List Expr) (ts : List TE) (ms : List (M D)) : Prop where
  pj : PJ X es ts
  run : ∀ J p g σ H, Rl X.K J p g σ H → ∀ r acc, mJs ms acc g = some r → ∀ Q : Str → Hp → Prop, Post X.K W J p g σ H r (fun d _ _ H' => ∀ x, d = .str x → Q x H') → tJs ts acc σ H Q
theorem ej_nil : EJ X W [] [] [] := ⟨.nil, fun J p g σ H R0 r acc hm Q hp => by
  cases hm
  exact hp p H .refl R0 _ rfl⟩
theorem ej_cons {ts : List TE} {m : M D} {ms : List (M D)} (h : EF X W e m) (hr : EJ X W es ts ms) : EJ X W (e :: es) (SemE X e :: ts) (m :: ms) := ⟨.cons semE hr.pj, fun J p g σ H R0 r acc hm Q hp => by
  show SemE X e σ H _
  refine h.then R0 hm hp fun x g1 p1 H1 u ad1 R1 ru hm1 hp1 => ?_
  cases x <;> first | (cases hm1; done) | skip
  rename_i y
  dsimp only at hm1
  split at hm1
  · rename_i hz
    cases rep_str ru
    exact ⟨y, rfl, hz, hr.run J p1 g1 σ H1 R1 r _ hm1 Q hp1⟩
  · cases hm1⟩
theorem e_joined {e2 : Expr} {ts : List TE} {ms : List (M D)} (h : EJ X W (e :: e2 :: es) ts ms) : EF X W (.JoinedStr (e :: e2 :: es) pos) (mJs ms Str.empty) := fun J p g σ H R0 r hm Q hp =>
  of_pe (pe_joined h.pj) (by
    refine h.run J p g σ H R0 r Str.empty hm _ ?_
    cases r with
    | ex E g' => exact hp
    | ok d g' =>
      refine fun p' H' ad R' x z => ?_
      subst z
      exact hp p' H' ad R' _ (.str x))
end
end Mo
set_option Elab.async false
set_option linter.all false
set_option maxRecDepth 100000
set_option maxHeartbeats 1000000
/-! Lp, part nine: more of texts, lists that are filled, more comprehensions. -/
namespace Lp
open PySem PySem.Spec L2
/-! ### texts -/
theorem str_ext {x y : Str} (h : x.cps.toList = y.cps.toList) : x = y := by
  obtain ⟨⟨a⟩⟩ := x
  obtain ⟨⟨b⟩⟩ := y
  have e : a = b := h
  rw [e]
section
variable {X : Cx} {p : OA} {σ : St} {H H' : Hp} {e a b c : Expr} {es : List Expr} {pos ps : Pos} {α β γ : Type} [Enc α] [Enc β] [Enc γ] {D : Ends}
/-- x, y = e1, e2 (two names) -/
theorem s_par {A : α → Prop} {B : β → Prop} {x y : Str} {px py pt : Pos} {kt k2 pt2} (i j : Nat) (dk : DOk p H) (hc : X.calm = true) (nd : X.N.Nodup) (ha : JE X p a σ H A) (hb : JE X p b σ H B)
    (k : ∀ v1 v2 H1 u1 u2, Go p H H1 → A u1 → B u2 → Rep X.K (del p H1) v1 (enc u1) → Rep X.K (del p H1) v2 (enc u2) → D.nx ((σ.set i (some v1)).set j (some v2)) H1) (hij : i ≠ j) (hi : X.N[i]? = some x := by rfl) (hj : X.N[j]? = some y := by rfl)
    (hx : X.env.scope.names.lookup x = some .local := by rfl) (hy : X.env.scope.names.lookup y = some .local := by rfl) (hw : swappedStores [.Tuple [.Name x px, .Name y py] kt pt] (.Tuple [a, b] k2 pt2) X.env = pure (some [x, y]) := by rfl)
    (hs : swapsWithSole [.Tuple [.Name x px, .Name y py] kt pt] (.Tuple [a, b] k2 pt2) pos.line X.env = pure false := by rfl) (he : starEach [a, b] X.env = (false, eval a X.env) :: starEach [b] X.env := by rfl) (he2 : starEach [b] X.env = (false, eval b X.env) :: starEach [] X.env := by rfl) :
    SemS X (.Assign [.Tuple [.Name x px, .Name y py] kt pt] (.Tuple [a, b] k2 pt2) pos) D σ H :=
  of_ps (ps_par hc nd hi hj hij hx hy (pa_cons semE (pa_cons semE pa_nil he2) he) hw hs) (ha H (.refl dk) _ fun v H1 u g1 pu r1 => hb H1 g1 _ fun v2 H2 u2 g2 pu2 r2 => ⟨v, v2, rfl, k v v2 H2 u u2 (g1.trans g2) pu pu2 (r1.go g2) r2⟩)
/-! ### a list that is filled -/
/-- the list at l is being filled: it holds ds -/
def Fill (X : Cx) (p : OA) (l : Addr) (J : Hp) (ds : List PyData) : Prop := ∃ xs, J l = some (.lst xs) ∧ Reps X.K (del (p.add l) J) xs ds
theorem Fill.go {l : Addr} {J J1 : Hp} {ds : List PyData} (f : Fill X p l J ds) (n : p.d ≠ some l) (g : Go (p.add l) J J1) : Fill X p l J1 ds := by
  obtain ⟨xs, e, r⟩ := f
  exact ⟨xs, g.ex l _ n e, r.go g⟩
theorem Fill.rep {l : Addr} {J : Hp} {ds : List PyData} (f : Fill X p l J ds) (n : ¬ Hid p l) : Rep X.K (del p J) (.ref l) (.list ds) := by
  obtain ⟨xs, e, r⟩ := f
  exact .lst (by rw [del_at n]; exact e) r.sub
end
/-! ### comprehensions without a test -/
end Lp
set_option Elab.async false
set_option linter.all false
set_option maxRecDepth 100000
set_option maxHeartbeats 4000000
/-! Mo, part twenty: sorted. -/
namespace Mo
open PySem PySem.Spec L2 PyProof.Rows PyProof.Rows.G
/-! ### order of keys -/
end Mo
set_option Elab.async false
set_option linter.all false
set_option maxRecDepth 100000
set_option maxHeartbeats 4000000
/-! Mo, part twenty-one: sorted, on data. -/
namespace Mo
open PySem PySem.Spec L2 PyProof.Rows PyProof.Rows.G
/-! ### texts in order -/
def leS (x y : Str) : Bool := !decide (y.cps.toList < x.cps.toList)
theorem leS_total (x y : Str) : (leS x y || leS y x) = true := by
  unfold leS
  by_cases h : y.cps.toList < x.cps.toList
  · have := strKind.irrefl y.cps.toList
    by_cases h2 : x.cps.toList < y.cps.toList
    · exact absurd (List.lt_trans h h2) (List.lt_irrefl _)
    · simp [h2]
  · simp [h]
theorem leS_trans (x y z : Str) (h1 : leS x y = true) (h2 : leS y z = true) : leS x z = true := by
  unfold leS at *
  simp only [Bool.not_eq_true', decide_eq_false_iff_not] at *
  intro h
  rcases strKind.negTrans z.cps.toList y.cps.toList x.cps.toList (decide_eq_true h) with q | q
  · exact h2 (of_decide_eq_true q)
  · exact h1 (of_decide_eq_true q)
theorem str_ext {x y : Str} (h : x.cps.toList = y.cps.toList) : x = y := by
  cases x; cases y
  exact congrArg Str.mk (Array.ext' h)
theorem leS_anti {x y : Str} (h1 : leS x y = true) (h2 : leS y x = true) : x = y := by
  unfold leS at *
  simp only [Bool.not_eq_true', decide_eq_false_iff_not] at *
  exact str_ext (List.le_antisymm (List.not_lt.mp h1) (List.not_lt.mp h2))
def sortS (xs : List Str) : List Str := xs.mergeSort leS
theorem sortS_uniq {xs ys : List Str} (p : ys.Perm xs) (s : ys.Pairwise fun x y => leS x y = true) : ys = sortS xs :=
  List.Perm.eq_of_pairwise (le := fun x y => leS x y = true) (fun a b _ _ => leS_anti) s (List.pairwise_mergeSort leS_trans leS_total xs) (p.trans (List.mergeSort_perm xs leS).symm)
theorem rising_pw : ∀ {r : List Str} {x : Str}, risingS x r = true → (x :: r).Pairwise fun x y => leS x y = true
  | [], x, _ => List.pairwise_cons.mpr ⟨fun _ m => (nomatch m), List.Pairwise.nil⟩
  | y :: r, x, h => by
    have h' : (!ltCps y.cps.toList x.cps.toList && risingS y r) = true := h
    rw [Bool.and_eq_true] at h'
    have ih := rising_pw h'.2
    have hxy : leS x y = true := by
      unfold leS
      have := h'.1
      rw [PyProof.Rows.ltCps_eq] at this
      exact this
    refine List.pairwise_cons.mpr ⟨fun z m => ?_, ih⟩
    rcases List.mem_cons.mp m with e | m
    · rw [e]
      exact hxy
    · exact leS_trans _ _ _ hxy ((List.pairwise_cons.mp ih).1 z m)
theorem sortedS_pw : ∀ {ys : List Str}, sortedS ys = true → ys.Pairwise fun x y => leS x y = true
  | [], _ => List.Pairwise.nil
  | _ :: _, h => rising_pw h
def nub : List Str → List Str
  | [] => []
  | x :: r => if x ∈ nub r then nub r else x :: nub r
theorem mem_nub {x : Str} : ∀ {xs : List Str}, x ∈ nub xs ↔ x ∈ xs
  | [] => Iff.rfl
  | y :: r => by
    unfold nub
    split
    · rename_i h
      rw [mem_nub, List.mem_cons]
      refine ⟨.inr, fun z => z.elim (fun e => ?_) id⟩
      rw [e]
      exact mem_nub.mp h
    · rw [List.mem_cons, List.mem_cons, mem_nub]
theorem nodup_nub : ∀ (xs : List Str), (nub xs).Nodup
  | [] => List.nodup_nil
  | y :: r => by
    unfold nub
    split
    · exact nodup_nub r
    · rename_i h
      exact List.nodup_cons.mpr ⟨h, nodup_nub r⟩
def sortU (xs : List Str) : List Str := sortS (nub xs)
theorem sortU_uniq {xs ys : List Str} (s : ys.Pairwise fun x y => leS x y = true) (nd : ys.Nodup) (m : ∀ x, x ∈ ys ↔ x ∈ xs) : ys = sortU xs :=
  sortS_uniq ((List.perm_ext_iff_of_nodup nd (nodup_nub xs)).mpr fun x => (m x).trans mem_nub.symm) s
/-! ### numbers in order -/
theorem CO.or {K : PySem.W.Frag} {r r' : List V → Hp → VK → Prop} {f f' : List D → Option O} (h : CO K r f) (h' : CO K r' f') : CO K (fun xs H Q => r xs H Q ∨ r' xs H Q) (fun xs => (f xs).or (f' xs)) := fun J p g σ H vs ds z Q R0 rs e q => by
  dsimp only at e
  cases e1 : f ds with
  | some z' =>
    rw [e1] at e
    cases e
    exact .inl (h J p g σ H vs ds _ Q R0 rs e1 q)
  | none =>
    rw [e1] at e
    exact .inr (h' J p g σ H vs ds z Q R0 rs e q)
section
variable {K : PySem.W.Frag}
theorem strs_reps' {F : Hp} : ∀ {xs : List Str}, Reps K F (xs.map V.str) (xs.map D.str)
  | [] => .nil
  | x :: _ => .cons (.str x) strs_reps'
end
end Mo
set_option Elab.async false
set_option linter.all false
set_option maxRecDepth 100000
set_option maxHeartbeats 4000000
/-! Mo, part twenty-two: sets of texts. -/
namespace Mo
open PySem PySem.Spec PySem.Calls PyProof.Rows L2
open Lp (TxAt newSet tx_new tx_loop SetX setX_new rSetX cr_setX rSortX cr_sortX call_set_tx)
section
variable {P : Program} {w : World} {A : Around} {E : Value → Shared → Prop} {s : Shared}
theorem signs_at {x : Str} {i : Nat} {v : Value} (h : SignAt x i v) : ∃ y u, (x.cps.toList.map fun c => (⟨#[c]⟩ : Str))[i]? = some y ∧ v = .str y u := by
  obtain ⟨c, u, h1, h2⟩ := h
  exact ⟨⟨#[c]⟩, u, by rw [List.getElem?_map, Array.getElem?_toList, h1]; rfl, h2⟩
/-- set(x), x a text -/
theorem call_set_sx {x : Str} {tk0 : Tok} {Q : Value → Shared → Prop} (hh : A.handled = none) (sm : x.cps.size + 1 < scanBound)
    (q : ∀ h1 tk ys, TxAt w h1 s.heap.objs.size ys → (∀ y, y ∈ ys ↔ y ∈ x.cps.toList.map fun c => (⟨#[c]⟩ : Str)) → (∀ b o, s.heap.get? b = some o → h1.get? b = some o) → Q (.ref s.heap.objs.size) { s with heap := h1, toks := tk }) :
    wpAny (model P w) A (call (.type "set") [.str x tk0]) Q E s := by
  have hm := F.called_set.made
  have hb := F.called_set.sub
  have h1 := F.called_set.notType
  have h2 := F.called_set.canCreate
  have hct := F.typeCall_set_1 (.str x tk0)
  obtain ⟨c, tl, hmro⟩ := F.called_set.mro
  apply wpAny_call
  apply codeAny_of_tree
  show wpAny _ _ (callAny (.type "set") _) _ _ _
  apply wpAny_pure
  refine ⟨Code.quiet_builtin _ (by decide +kernel), codeAny_builtin F.entry_type_call ?_⟩
  rw [Around.under_plain (weight_type_call_type "set" [.str x tk0] []) rfl]
  repeat (any_goals (first | assumption | wp_step))
  refine codeAny_mono (code_set_led1 (.str x tk0) (E := E) (Q₁ := fun ob s1 => ob = .ref s.heap.objs.size ∧ s1 = { s with heap := s.heap.push (newSet w) }) ⟨rfl, rfl⟩) fun r s1 hr => ?_
  match r, hr with
  | .error e, hr => exact hr
  | .ok (.ret ob), ⟨e1, e2⟩ =>
    subst e1 e2
    have gS : (s.heap.push (newSet w)).get? s.heap.objs.size = some (newSet w) := Heap.get?_push_size _ rfl
    have hT : Shared.TypeIs { s with heap := s.heap.push (newSet w) } (.ref s.heap.objs.size) "set" := ⟨_, gS, rfl⟩
    have hli := F.called_set.init.lookup
    have hbi := F.called_set.init.bind (.ref s.heap.objs.size)
    repeat (any_goals (first | assumption | wp_step))
    refine codeAny_mono (codeAny_call_builtin (R := wants (fun r s2 => r = .none ∧ ∃ h1 tk ys, s2 = { s with heap := h1, toks := tk } ∧ TxAt w h1 s.heap.objs.size ys ∧ (∀ y, y ∈ ys ↔ y ∈ x.cps.toList.map fun c => (⟨#[c]⟩ : Str)) ∧ ∀ b o, s.heap.get? b = some o → h1.get? b = some o) E)
      F.called_set.init.plain F.entry_set_init (check_set_init_1 hT ?_)) fun r2 s2 hr2 => ?_
    · have i1 := F.sub_str_set
      have i2 := F.sub_str_frozenset
      have i3 : (Value.type "str" == Value.type "dict") = false := by decide
      have hand : A.in1.in1.in1.handled = none := by simp [hh]
      unfold Builtin.«set.__init__» noKeywords Builtin.Frozenset.updateFrom
      generalize hPI : pyIter = PI
      wp_walk
      subst hPI
      refine wpAny_pyIter_str fun o St W st0 => ?_
      apply wpAny_bind
      apply wpAny_runValue
      have zS : (s.heap.push (newSet w)).objs.size = s.heap.objs.size + 1 := Heap.size_push ..
      have outS : s.heap.objs.size ∉ [(s.heap.push (newSet w)).objs.size] := fun m => Nat.ne_of_lt (Nat.lt_succ_self _) ((List.mem_singleton.mp m).trans zS)
      have len : x.cps.size = (x.cps.toList.map fun c => (⟨#[c]⟩ : Str)).length := by rw [List.length_map, Array.length_toList]
      refine tx_loop ((W A.in1.in1.in1 (by simp [hh])).toS) s.heap.objs.size outS (x.cps.toList.map fun c => (⟨#[c]⟩ : Str)) len (by rw [← len]; exact sm) (fun i v hv => signs_at hv) (x.cps.size - 0) 0 { s with heap := (s.heap.push (newSet w)).push o } (by omega) (Nat.zero_le _)
        st0 ⟨[], tx_new (Heap.get?_push_of_some _ gS), fun y => by simp, Nat.zero_le _⟩ fun s3 ys mv T mem => ?_
      obtain ⟨h3, g3, d3, tk3, os3⟩ := s3
      obtain rfl : g3 = s.gens := mv.gens
      obtain rfl : d3 = s.drawn := mv.drawn
      obtain rfl : os3 = s.os := mv.os
      apply wpAny_pure
      apply wpAny_pure
      refine ⟨rfl, h3, tk3, ys, rfl, T, mem, fun b o e => ?_⟩
      have lb : b < s.heap.objs.size := Heap.lt_size e
      refine mv.heap b o (fun m => ?_) (Heap.get?_push_of_some _ (Heap.get?_push_of_some _ e))
      rcases List.mem_cons.mp m with m | m
      · exact Nat.ne_of_lt lb m
      · exact Nat.ne_of_lt (Nat.lt_succ_of_lt lb) ((List.mem_singleton.mp m).trans zS)
    · match r2, hr2 with
      | .error e, hr2 => exact hr2
      | .ok (.ret v), ⟨e1, h3, tk, ys, e2, T, mem, kp⟩ =>
        subst e1 e2
        repeat (any_goals (first | assumption | wp_step))
        exact q _ _ _ T mem kp
end
section
variable {X : Cx}
def signsS (x : Str) : List Str := x.cps.toList.map fun c => (⟨#[c]⟩ : Str)
def rSetSX (w : World) : List V → Hp → VK → Prop := fun vs H Q => ∃ (x : Str), vs = [.str x] ∧ x.length ≤ 4000 ∧ ∀ p ys, H p = none → (∀ y, y ∈ ys ↔ y ∈ signsS x) → Q (.ref p) (upd H p (SetX w p ys))
theorem cr_setSX (hc : X.calm = true) : CallR X (.type "set") (rSetSX X.w) := by
  intro pins s σ H vs us Q I r h
  obtain ⟨x, rfl, hz, q⟩ := h
  obtain ⟨u, rfl, rx⟩ := r.one
  obtain ⟨t, rfl⟩ := rx
  have hz' : x.cps.size ≤ 4000 := hz
  refine call_set_sx (P := X.prog) (w := X.w) (I.ok.hd hc) (by unfold scanBound; omega) fun h1 tk ys T mem k => ?_
  exact ⟨.ref s.heap.objs.size, _, I.laid (t' := tk) k (Nat.le_refl _) (setX_new T), rfl, q _ ys (I.hok.fresh (Nat.le_refl _)) mem⟩
/-- what sorted(set(e)) gives -/
def rSetXS (K : PySem.W.Frag) (w : World) : List V → Hp → VK → Prop := fun vs H Q => ∃ (l : Addr) (xs : List Str), vs = [.ref l] ∧ SqL K H l (xs.map V.str) ∧ xs.length ≤ 4000 ∧
  ∀ p ys, H p = none → (∀ x, x ∈ ys ↔ x ∈ xs) → Q (.ref p) (upd H p (SetX w p ys))
theorem cr_setXS (hc : X.calm = true) : CallR X (.type "set") (rSetXS X.K X.w) := by
  intro pins s σ H vs us Q I r h
  obtain ⟨l, xs, rfl, hl, hz, q⟩ := h
  obtain ⟨its, rv, pl, _⟩ := I.list hl
  rw [Vals.ref1 r]
  refine call_set_tx (P := X.prog) (w := X.w) (I.ok.hd hc) pl.isList rv.strs (by unfold scanBound; omega) fun h1 tk ys T mem k => ?_
  exact ⟨.ref s.heap.objs.size, _, I.laid (t' := tk) k (Nat.le_refl _) (setX_new T), rfl, q _ ys (I.hok.fresh (Nat.le_refl _)) mem⟩
def fSetS : D → Option (List Str)
  | .lst ds => (asStrs ds).bind fun xs => if xs.length ≤ 4000 then some xs else none
  | .str x => if x.length ≤ 4000 then some (signsS x) else none
  | _ => none
def fSortSet (d : D) : Option O := (fSetS d).map fun xs => .l ((sortU xs).map .str)
theorem eo_sortset {W : WW} {e : Expr} {m : M D} {p1 p2 q1 q2 : Pos} (hc : X.calm = true) (hm1 : X.mg "sorted" = none) (hm2 : X.mg "set" = none) (ha : EF X W e m)
    (hg1 : Gl X "sorted" := by rfl) (hg2 : Gl X "set" := by rfl) (he : starEach [e] X.env = (false, eval e X.env) :: starEach [] X.env := by rfl) (he2 : starEach [.Call (.Name "set" p2) [e] [] q2] X.env = (false, eval (.Call (.Name "set" p2) [e] [] q2) X.env) :: starEach [] X.env := by rfl)
    (hp1 : (backTo q1 (starEach [] X.env)).any (·.1) = false := by rfl) (hp2 : (backTo q2 (starEach [] X.env)).any (·.1) = false := by rfl) :
    EO X W (.Call (.Name "sorted" p1) [.Call (.Name "set" p2) [e] [] q2] [] q1) (m.bind fun d => lift (fSortSet d)) := fun J p g σ H R0 r hm Q hp =>
  of_pe (pe_callB (cr_sortX hc) hg1 hm1 (by decide +kernel) (pa_cons (pe_callTy ((cr_setXS hc).or (cr_setSX hc)) hg2 hm2 (by decide +kernel) (pa_cons semE pa_nil he) (by decide) (by decide) he hp2) pa_nil he2) (by decide) (by decide) he2 hp1)
    (ha.then R0 hm hp fun d g1 p1 H1 v ad1 R1 rv hm1 hp1 => by
      obtain ⟨z, hz, hq⟩ := post_liftO hm1 hp1 ad1
      unfold fSortSet at hz
      cases hx : fSetS d with
      | none => rw [hx] at hz; cases hz
      | some xs =>
        rw [hx] at hz
        cases hz
        -- the set, then the list
        have fin : ∀ m ys, H1 m = none → (∀ y, y ∈ ys ↔ y ∈ xs) → ∃ (a : Addr) (zs : List Str), [V.ref m] = [V.ref a] ∧ upd H1 m (SetX X.w m ys) a = some (SetX X.w a zs) ∧
            ∀ q ws, upd H1 m (SetX X.w m ys) q = none → ws.Perm zs → sortedS ws = true → ws.Nodup → Q (.ref q) (upd (upd H1 m (SetX X.w m ys)) q (.lst (ws.map V.str))) := fun m ys hm' mem => by
          refine ⟨m, ys, rfl, upd_same, fun q ws hq' pm srt nd => ?_⟩
          obtain ⟨R2, ad2, e2⟩ := R1.new (o := SetX X.w m ys) hm' rfl
          obtain ⟨R3, ad3, m3, j3, n3, le3⟩ := R2.hide (o := .lst (ws.map V.str)) hq'
          have eU : ws = sortU xs := sortU_uniq (sortedS_pw srt) nd fun x => pm.mem_iff.trans (mem x)
          refine hq _ _ (ad2.trans ad3) R3 q m3 (ad2.gone hq') n3 ⟨_, upd_same, ?_⟩
          rw [← eU]
          exact strs_reps'
        cases d <;> first | (cases hx; done) | skip
        · rename_i x
          unfold fSetS at hx
          dsimp only at hx
          split at hx
          · rename_i hz
            cases hx
            cases rep_str rv
            exact .inr ⟨x, rfl, hz, fun m ys hm' mem => fin m ys hm' mem⟩
          · cases hx
        · rename_i ds
          unfold fSetS at hx
          dsimp only at hx
          cases h2 : asStrs ds with
          | none => rw [h2] at hx; cases hx
          | some ws =>
            rw [h2] at hx
            have hx' : (if ws.length ≤ 4000 then some ws else none) = some xs := hx
            split at hx'
            · rename_i hz
              cases hx'
              obtain ⟨a, us, rfl, s, r⟩ := rep_lst rv
              have ew := reps_strs r h2
              subst ew
              exact .inl ⟨a, xs, rfl, sl_of s, hz, fun m ys hm' mem => fin m ys hm' mem⟩
            · cases hx')
end
end Mo
set_option Elab.async false
set_option linter.all false
set_option maxRecDepth 100000
set_option maxHeartbeats 4000000
/-! Mo, part twenty-three: min and max with a default. -/
namespace Mo
open PySem PySem.Spec PySem.Calls PyProof.Rows L2
end Mo
set_option Elab.async false
set_option linter.all false
set_option maxRecDepth 100000
set_option maxHeartbeats 4000000
/-! Mo, part twenty-four: min and max with a default, on data. -/
namespace Mo
open PySem PySem.Spec PyProof.Rows L2
end Mo
set_option Elab.async false
set_option linter.all false
set_option maxRecDepth 100000
set_option maxHeartbeats 4000000
/-! Mo, part twenty-five: specials of own classes. -/
namespace Mo
open PySem PySem.Spec PySem.Calls L2
open Lp (FnG okN callG)
/-- an own def that is a special of the class -/
structure SpecM (K : PySem.W.Frag) (C : Addr) (m : Str) (f : Addr) : Prop where
  at_ : PySem.W.findIn K (.ref C) m = some (some (.ref f))
  fn : PySem.W.isFn K (.ref f) = true
section
variable {X : Cx} {W : WW} {e a b : Expr} {es : List Expr} {pos ps : Pos} {C ff : Addr} {k : Nat} {fd : FuncData} {qs : List Str} {sp : Sp} {m : Str}
theorem specG {x dx : Addr} {fs : List (Str × V)} {pins : List (Addr × Obj)} {σ : L2.St} {H : Hp} {s : Shared} {Q : VK} {us : List Value} {vs : List V} {E' : Value → Shared → Prop} (I : Inv X pins σ H s) (ea : H x = some (.ins C dx fs)) (hm : SpecM X.K C m ff)
    (F : FnG X.prog X.w X.K X.mg X.base CX0 k ff fd qs sp) (hr : Room (k + 1) X.A) (hgd : X.A.guards = some []) (hb : Binds X.K fd qs []) (rv : Vals vs us) (h : sp (.ref x :: vs) H Q fun _ _ _ => False) :
    wpAny (model X.prog X.w) X.A.in1 (callSpecial? (.ref x) m us) (fun r s' => ∃ u v H', r = some u ∧ Inv X pins σ H' s' ∧ RelV v u ∧ Q v H') E' s := by
  obtain ⟨mA, O, _, _, _, _⟩ := ins_get I.hok ea
  obtain ⟨od, Jo, _⟩ := O.look
  have rv2 : Vals (V.ref x :: vs) (Value.ref x :: us) := .cons rfl rv
  have bt := hb s (Value.ref x :: us) I.kIn (by rw [List.append_nil, ← rv2.length]; exact F.len _ _ _ _ h)
  rw [List.append_nil] at bt
  refine PySem.W.special_fn I.kIn Jo hm.at_ (beq_iff_eq.mp hm.fn) (wpAny_call (codeAny_mono (F.go X.A.in1 X.stack s H ⟨Value.ref x :: us, []⟩ _ _ Q _ hr.in1 hgd I.env0.in1 bt rv2 h) fun w s' hq => ?_))
  match w, hq with
  | .error er, hq => exact False.elim (pass0 (X := X.nox) pins σ H s er s' (I.wish _) hq)
  | .ok (.ret u), hq =>
    obtain ⟨v, H', I3, rv3, q3⟩ := I.after hq
    exact ⟨u, v, H', rfl, I3, rv3, q3⟩
/-- len(o), o's class with an own __len__ -/
def rLenOwn (C : Addr) (sp : Sp) : List V → Hp → VK → Prop := fun vs H Q => ∃ (a dx : Addr) (fs : List (Str × V)), vs = [.ref a] ∧ H a = some (.ins C dx fs) ∧ sp [.ref a] H (fun v H' => ∃ n : Int, v = .int n ∧ 0 ≤ n ∧ n < 2 ^ 63 ∧ Q (.int n) H') fun _ _ _ => False
theorem call_lenOwn (hm : SpecM X.K C "__len__" ff) (F : FnG X.prog X.w X.K X.mg X.base CX0 k ff fd qs sp) (hr : Room (k + 1) X.A) (hgd : X.A.guards = some []) (hb : Binds X.K fd qs []) : CallR X (.builtin "len") (rLenOwn C sp) := by
  intro pins s σ H vs us Q I r h
  obtain ⟨x, dx, fs, rfl, ea, q⟩ := h
  rw [Vals.ref1 r]
  refine call_function_entry PySem.kind_len PySem.plain_len PySem.entry_len (PySem.args_len1 _) ?_
  unfold Builtin.«len»
  refine wpAny_bind (m := oneArg "len" _) (wpAny_pure ?_)
  refine wpAny_bind (m := callSpecial? (.ref x) (Str.ofString "__len__")) (wpAny_mono (specG I ea hm F hr hgd hb .nil q) (fun r s' hr' => ?_) fun _ _ z => z)
  obtain ⟨u, v, H', rfl, I', rv, n, rfl, h0, h1, q'⟩ := hr'
  obtain ⟨t, rfl⟩ := rv
  refine wpAny_bind (wpAny_holding (wpAny_pure ?_))
  refine wpAny_bind (wpAny_letGo ?_)
  show wpAny _ _ (if n < 0 then _ else _) _ _ _
  rw [if_neg (by omega)]
  show wpAny _ _ (if n ≥ 2 ^ 63 then _ else _) _ _ _
  rw [if_neg (by omega)]
  exact wpAny_bind (wpAny_mkInt (wpAny_pure ⟨_, rfl, .int n, H', I'.tok _, ⟨_, rfl⟩, q'⟩))
/-- on data: len(o) by the def F -/
def mLenI (C : Addr) (F : FD) (mo : M D) : M D := mo.bind fun d => match d with
  | .ins C' fs => if C' = C then (liftC (F [.ins C' fs])).bind fun v => (match v with
    | .int n => if 0 ≤ n ∧ n < 2 ^ 63 then ret (.int n) else bad
    | _ => bad) else bad
  | _ => bad
theorem e_lenI {F : FD} {mo : M D} {p1 : Pos} (hm : SpecM X.K C "__len__" ff) (hF : FnG X.prog X.w X.K X.mg X.base CX0 k ff fd qs (spM X.K false F)) (hr : Room (k + 1) X.A) (hgd : X.A.guards = some []) (hb : Binds X.K fd qs []) (hm0 : X.mg "len" = none) (ho : EF X W e mo)
    (hg : Gl X "len" := by rfl) (he : starEach [e] X.env = (false, eval e X.env) :: starEach [] X.env := by rfl) (hpl : (backTo pos (starEach [] X.env)).any (·.1) = false := by rfl) : EF X W (.Call (.Name "len" p1) [e] [] pos) (mLenI C F mo) := fun J p g σ H R0 r hmm Q hp =>
  of_pe (pe_callB (call_lenOwn hm hF hr hgd hb) hg hm0 PySem.boot_len (pa_cons semE pa_nil he) (by decide) (by decide) he hpl) (ho.then R0 hmm hp fun d g1 p1 H1 v ad R1 rv hk hq => by
    cases d <;> first | (cases hk; done) | skip
    rename_i C' fs
    dsimp only at hk
    split at hk
    · rename_i hC
      subst hC
      obtain ⟨a, dx, vs, rfl, h1, h2⟩ := rep_ins rv
      unfold M.bind liftC at hk
      cases e1 : F [.ins C' fs] g1.c with
      | none => rw [e1] at hk; cases hk
      | some z =>
        obtain ⟨d, c'⟩ := z
        rw [e1] at hk
        dsimp only at hk
        refine ⟨a, dx, vs, rfl, del_of h1, p1, g1.c, [.ins C' fs], [.ref a], d, c', rfl, R1.hd, .cons rv .nil, e1, fun v J2 af rv2 => ?_⟩
        obtain ⟨R3, ad3⟩ := R1.after af
        cases d <;> first | (cases hk; done) | skip
        rename_i n
        dsimp only at hk
        split at hk
        · rename_i hn
          cases hk
          cases rep_int rv2
          exact ⟨n, rfl, hn.1, hn.2, hq p1 J2 ad3 R3 _ (.int _)⟩
        · cases hk
    · cases hk)
/-! ### isinstance(e, C), C a class of one's own -/
/-- isinstance(e, C), e's class C itself -/
def fIsC (C : Addr) : D → Option D
  | .ins C' _ => if C' = C then some (.bl true) else none
  | _ => none
def mIsC (C : Addr) (m : M D) : M D := m.bind fun d => lift (fIsC C d)
end
end Mo
set_option Elab.async false
set_option linter.all false
set_option maxRecDepth 100000
set_option maxHeartbeats 4000000
/-! Mo, part twenty-six: dict comprehensions, whatever the keys. -/
namespace Mo
open PySem PySem.Spec L2 PyProof.Rows
end Mo
set_option Elab.async false
set_option linter.all false
set_option maxRecDepth 100000
set_option maxHeartbeats 4000000
/-! Mo, part twenty-seven: dict comprehensions, on data. -/
namespace Mo
open PySem PySem.Spec L2 PyProof.Rows
/-- the turns -/
def dcGo (vs : List Nat) (f : D → G → Option G) (mt : M Bool) (mk mv : M D) : List D → O → M O
  | [], acc => ret acc
  | d :: ds, acc => fun g => match f d g with
    | none => none
    | some g1 => match mt g1 with
      | some (.ok true g2) => match mk g2 with
        | some (.ok y g3) => match mv g3 with
          | some (.ok z g4) => match putO acc y z with
            | some acc' => dcGo vs f mt mk mv ds acc' (wipeG g4 vs)
            | none => none
          | _ => none
        | _ => none
      | some (.ok false g2) => dcGo vs f mt mk mv ds acc (wipeG g2 vs)
      | _ => none
def mDc (o0 : O) (vs : List Nat) (mi : M (List D)) (f : D → G → Option G) (mt : M Bool) (mk mv : M D) : M O := mi.bind fun ds g1 => if noOwn vs g1 = true then lcEnd vs g1 id (dcGo vs f mt mk mv ds o0 (wipeG g1 vs)) else none
end Mo
set_option Elab.async false
set_option linter.all false
set_option maxRecDepth 100000
set_option maxHeartbeats 4000000
/-! Mo, part twenty-eight: repr, dict of pairs, is of truths. -/
namespace Mo
open PySem PySem.Spec L2
end Mo
set_option Elab.async false
set_option linter.all false
set_option maxRecDepth 100000
set_option maxHeartbeats 4000000
/-! Mo, part twenty-nine: y = [..]; what the second printer names. -/
namespace Mo
open PySem PySem.Spec L2
noncomputable def mSortSet (m : M D) : M O := m.bind fun d => lift (fSortSet d)
end Mo
set_option Elab.async false
set_option linter.all false
set_option maxRecDepth 100000
set_option maxHeartbeats 4000000
/-! Mo, part thirty: what a function of the state comes to. -/
namespace Mo
open PySem PySem.Spec L2
/-- m runs through from g, and Q holds of what comes of it -/
def Ev {α : Type} (m : M α) (g : G) (Q : α → G → Prop) : Prop := ∃ a g', m g = some (.ok a g') ∧ Q a g'
section
variable {α β γ : Type} {g : G} {i : Nat} {d : D} {o : O}
theorem Ev.mono {m : M α} {Q Q' : α → G → Prop} (h : Ev m g Q) (k : ∀ a g', Q a g' → Q' a g') : Ev m g Q' := let ⟨a, g', e, q⟩ := h; ⟨a, g', e, k a g' q⟩
@[simp] theorem ev_ret {a : α} {Q : α → G → Prop} : Ev (ret a) g Q ↔ Q a g := ⟨fun ⟨_, _, e, q⟩ => by cases e; exact q, fun q => ⟨a, g, rfl, q⟩⟩
@[simp] theorem ev_bad {Q : α → G → Prop} : Ev bad g Q ↔ False := ⟨fun ⟨_, _, e, q⟩ => by (cases e), False.elim⟩
@[simp] theorem ev_bind {m : M α} {k : α → M β} {Q : β → G → Prop} : Ev (m.bind k) g Q ↔ Ev m g fun a g' => Ev (k a) g' Q := by
  constructor
  · rintro ⟨b, g2, e, q⟩
    unfold M.bind at e
    split at e
    · exact ⟨_, _, by assumption, b, g2, e, q⟩
    · cases e
    · cases e
  · rintro ⟨a, g1, e1, b, g2, e2, q⟩
    refine ⟨b, g2, ?_, q⟩
    unfold M.bind
    rw [e1]
    exact e2
@[simp] theorem ev_lift_some {a : α} {Q : α → G → Prop} : Ev (lift (some a)) g Q ↔ Q a g := ⟨fun ⟨_, _, e, q⟩ => by cases e; exact q, fun q => ⟨a, g, rfl, q⟩⟩
@[simp] theorem ev_lift_none {Q : α → G → Prop} : Ev (lift (none : Option α)) g Q ↔ False := ⟨fun ⟨_, _, e, q⟩ => by (cases e), False.elim⟩
@[simp] theorem ev_fun {a : α} {g1 : G → G} {Q : α → G → Prop} : Ev (fun g => some (.ok a (g1 g))) g Q ↔ Q a (g1 g) := ⟨fun ⟨_, _, e, q⟩ => by cases e; exact q, fun q => ⟨a, _, rfl, q⟩⟩
@[simp] theorem gset_mk {s : List Sl} {c : C3} {x : Sl} : G.set ⟨s, c⟩ i x = ⟨s.set i x, c⟩ := rfl
theorem ev_name_v {s : List Sl} {c : C3} {Q : D → G → Prop} (h : s[i]? = some (.v d)) : Ev (mName i) ⟨s, c⟩ Q ↔ Q d ⟨s, c⟩ := by
  constructor
  · rintro ⟨_, _, e, q⟩
    simp only [mName, h] at e
    cases e
    exact q
  · exact fun q => ⟨d, _, by simp only [mName, h], q⟩
theorem ev_name_o {s : List Sl} {c : C3} {Q : D → G → Prop} (h : s[i]? = some (.o o)) : Ev (mName i) ⟨s, c⟩ Q ↔ Q o.d ⟨s.set i (.v o.d), c⟩ := by
  constructor
  · rintro ⟨_, _, e, q⟩
    simp only [mName, h] at e
    cases e
    exact q
  · exact fun q => ⟨o.d, _, by simp only [mName, h, G.set], q⟩
@[simp] theorem ev_set {m : M D} {Q : Oc → G → Prop} : Ev (mSet i m) g Q ↔ Ev m g fun d g' => Q .nx (g'.set i (.v d)) := by
  unfold mSet
  rw [ev_bind]
  exact ⟨fun h => h.mono fun d g' ⟨_, _, e, q⟩ => (by cases e; exact q), fun h => h.mono fun d g' q => ⟨_, _, rfl, q⟩⟩
@[simp] theorem ev_setO {m : M O} {Q : Oc → G → Prop} : Ev (mSetO i m) g Q ↔ Ev m g fun d g' => Q .nx (g'.set i (.o d)) := by
  unfold mSetO
  rw [ev_bind]
  exact ⟨fun h => h.mono fun d g' ⟨_, _, e, q⟩ => (by cases e; exact q), fun h => h.mono fun d g' q => ⟨_, _, rfl, q⟩⟩
@[simp] theorem ev_mret {m : M D} {Q : Oc → G → Prop} : Ev (mRet m) g Q ↔ Ev m g fun d g' => Q (.rt d) g' := by
  unfold mRet
  simp
@[simp] theorem ev_mretO {m : M O} {Q : Oc → G → Prop} : Ev (mRetO m) g Q ↔ Ev m g fun d g' => Q (.rto d) g' := by
  unfold mRetO
  simp
/-- what stands behind a statement's end -/
def After (k : M Oc) (Q : Oc → G → Prop) : Oc → G → Prop
  | .nx, g => Ev k g Q
  | o, g => Q o g
@[simp] theorem after_nx {k : M Oc} {Q : Oc → G → Prop} : After k Q .nx g ↔ Ev k g Q := Iff.rfl
@[simp] theorem after_rt {k : M Oc} {Q : Oc → G → Prop} : After k Q (.rt d) g ↔ Q (.rt d) g := Iff.rfl
@[simp] theorem after_rto {k : M Oc} {Q : Oc → G → Prop} : After k Q (.rto o) g ↔ Q (.rto o) g := Iff.rfl
@[simp] theorem after_bk {k : M Oc} {Q : Oc → G → Prop} : After k Q .bk g ↔ Q .bk g := Iff.rfl
@[simp] theorem after_ct {k : M Oc} {Q : Oc → G → Prop} : After k Q .ct g ↔ Q .ct g := Iff.rfl
@[simp] theorem ev_seq {m k : M Oc} {Q : Oc → G → Prop} : Ev (seq m k) g Q ↔ Ev m g (After k Q) := by
  constructor
  · rintro ⟨a, g2, e, q⟩
    unfold seq at e
    split at e
    · exact ⟨.nx, _, by assumption, a, g2, e, q⟩
    · rename_i r h
      refine ⟨a, g2, e, ?_⟩
      cases a <;> first | exact q | (rw [e] at h; exact (h _ rfl).elim)
  · rintro ⟨a, g1, e1, q⟩
    cases a with
    | nx =>
      obtain ⟨b, g2, e2, q⟩ := q
      exact ⟨b, g2, by unfold seq; rw [e1]; exact e2, q⟩
    | _ => exact ⟨_, g1, by unfold seq; rw [e1], q⟩
@[simp] theorem ev_if {mc : M Bool} {ma mb : M γ} {Q : γ → G → Prop} : Ev (mIf mc ma mb) g Q ↔ Ev mc g fun b g' => if b = true then Ev ma g' Q else Ev mb g' Q := by
  unfold mIf
  rw [ev_bind]
  refine ⟨fun h => h.mono fun b g' q => ?_, fun h => h.mono fun b g' q => ?_⟩
  · cases b <;> simpa using q
  · cases b <;> simpa using q
@[simp] theorem ev_bin {f : D → D → Option D} {ma mb : M D} {Q : D → G → Prop} : Ev (mBin f ma mb) g Q ↔ Ev ma g fun x g' => Ev mb g' fun y g2 => Ev (lift (f x y)) g2 Q := by
  unfold mBin
  simp
@[simp] theorem ev_t2 {f : D → D → Option D} {ma mb : M D} {Q : Bool → G → Prop} : Ev (mT2 f ma mb) g Q ↔ Ev ma g fun x g' => Ev mb g' fun y g2 => Ev (lift ((f x y).bind asB)) g2 Q := by
  unfold mT2
  simp
@[simp] theorem ev_tru {m : M D} {Q : Bool → G → Prop} : Ev (mTru m) g Q ↔ Ev m g fun x g' => Ev (lift (truD x)) g' Q := by
  unfold mTru
  simp
@[simp] theorem ev_tst {m : M D} {Q : Bool → G → Prop} : Ev (mTst m) g Q ↔ Ev m g fun x g' => Ev (lift (asB x)) g' Q := by
  unfold mTst
  simp
@[simp] theorem ev_tnot {m : M Bool} {Q : Bool → G → Prop} : Ev (mtNot m) g Q ↔ Ev m g fun x g' => Q (!x) g' := by
  unfold mtNot
  simp
@[simp] theorem ev_tand {ma mb : M Bool} {Q : Bool → G → Prop} : Ev (mtAnd ma mb) g Q ↔ Ev ma g fun b g' => if b = true then Ev mb g' Q else Q false g' := by
  unfold mtAnd
  rw [ev_bind]
  refine ⟨fun h => h.mono fun b g' q => ?_, fun h => h.mono fun b g' q => ?_⟩
  · cases b <;> simpa using q
  · cases b <;> simpa using q
@[simp] theorem ev_tor {ma mb : M Bool} {Q : Bool → G → Prop} : Ev (mtOr ma mb) g Q ↔ Ev ma g fun b g' => if b = true then Q true g' else Ev mb g' Q := by
  unfold mtOr
  rw [ev_bind]
  refine ⟨fun h => h.mono fun b g' q => ?_, fun h => h.mono fun b g' q => ?_⟩
  · cases b <;> simpa using q
  · cases b <;> simpa using q
@[simp] theorem ev_cons {m : M D} {ms : M (List D)} {Q : List D → G → Prop} : Ev (mCons m ms) g Q ↔ Ev m g fun x g' => Ev ms g' fun r g2 => Q (x :: r) g2 := by
  unfold mCons
  simp
@[simp] theorem ev_call {f : List D → Option D} {ms : M (List D)} {Q : D → G → Prop} : Ev (mCall f ms) g Q ↔ Ev ms g fun r g2 => Ev (lift (f r)) g2 Q := by
  unfold mCall
  simp
@[simp] theorem ev_callO {f : List D → Option O} {ms : M (List D)} {Q : O → G → Prop} : Ev (mCallO f ms) g Q ↔ Ev ms g fun r g2 => Ev (lift (f r)) g2 Q := by
  unfold mCallO
  simp
@[simp] theorem ev_frz {m : M O} {Q : D → G → Prop} : Ev (frz m) g Q ↔ Ev m g fun x g2 => Q x.d g2 := by
  unfold frz
  simp
theorem ev_ite {p : Prop} [Decidable p] {a b : M α} {Q : α → G → Prop} : Ev (if p then a else b) g Q ↔ if p then Ev a g Q else Ev b g Q := by
  split <;> exact Iff.rfl
@[simp] theorem ev_tup {ms : M (List D)} {Q : D → G → Prop} : Ev (mTup ms) g Q ↔ Ev ms g fun r g2 => r.length ≤ sizeLine ∧ Q (.tup r) g2 := by
  unfold mTup
  rw [ev_bind]
  refine ⟨fun h => h.mono fun b g' q => ?_, fun h => h.mono fun b g' q => ?_⟩
  · rw [ev_ite] at q
    split at q
    · exact ⟨by assumption, ev_ret.mp q⟩
    · exact (ev_bad.mp q).elim
  · rw [ev_ite, if_pos q.1]
    exact ev_ret.mpr q.2
@[simp] theorem ev_lst {ms : M (List D)} {Q : O → G → Prop} : Ev (mLst ms) g Q ↔ Ev ms g fun r g2 => r.length ≤ sizeLine ∧ Q (.l r) g2 := by
  unfold mLst
  rw [ev_bind]
  refine ⟨fun h => h.mono fun b g' q => ?_, fun h => h.mono fun b g' q => ?_⟩
  · rw [ev_ite] at q
    split at q
    · exact ⟨by assumption, ev_ret.mp q⟩
    · exact (ev_bad.mp q).elim
  · rw [ev_ite, if_pos q.1]
    exact ev_ret.mpr q.2
@[simp] theorem ev_liftC {f : C3 → Option (α × C3)} {Q : α → G → Prop} : Ev (liftC f) g Q ↔ ∃ a c, f g.c = some (a, c) ∧ Q a ⟨g.s, c⟩ := by
  constructor
  · rintro ⟨a, g', e, q⟩
    obtain ⟨d, c, e1, e2⟩ := liftC_some e
    cases e2
    exact ⟨a, c, e1, q⟩
  · rintro ⟨a, c, e, q⟩
    exact ⟨a, _, by unfold liftC; rw [e], q⟩
@[simp] theorem ev_fn {F : FD} {ms : M (List D)} {Q : D → G → Prop} : Ev (mFn F ms) g Q ↔ Ev ms g fun ds g' => ∃ a c, F ds g'.c = some (a, c) ∧ Q a ⟨g'.s, c⟩ := by
  unfold mFn
  simp
@[simp] theorem ev_fnO {F : FO} {ms : M (List D)} {Q : O → G → Prop} : Ev (mFnO F ms) g Q ↔ Ev ms g fun ds g' => ∃ a c, F ds g'.c = some (a, c) ∧ Q a ⟨g'.s, c⟩ := by
  unfold mFnO
  simp
@[simp] theorem ev_isDi {m : M α} {Q : α → G → Prop} : Ev (isDi i m) g Q ↔ g.s[i]? = some .di ∧ Ev m g Q := by
  constructor
  · rintro ⟨a, g', e, q⟩
    obtain ⟨h1, h2⟩ := isDi_some e
    exact ⟨h1, a, g', h2, q⟩
  · rintro ⟨h, a, g', e, q⟩
    exact ⟨a, g', by unfold isDi; rw [h]; exact e, q⟩
@[simp] theorem ev_expr {m : M D} {Q : Oc → G → Prop} : Ev (mExpr m) g Q ↔ Ev m g fun _ g' => Q .nx g' := by
  unfold mExpr
  simp
@[simp] theorem ev_xd {m : M D} {Q : Vx → G → Prop} : Ev (mXd m) g Q ↔ Ev m g fun d g' => Q (.d d) g' := by
  unfold mXd
  simp
@[simp] theorem ev_xo {m : M O} {Q : Vx → G → Prop} : Ev (mXo m) g Q ↔ Ev m g fun d g' => Q (.o d) g' := by
  unfold mXo
  simp
@[simp] theorem ev_par {j : Nat} {ma mb : M Vx} {Q : Oc → G → Prop} : Ev (mPar i j ma mb) g Q ↔ Ev ma g fun x g' => Ev mb g' fun y g2 => Q .nx ((g2.set i x.sl).set j y.sl) := by
  unfold mPar
  simp only [ev_bind]
  exact ⟨fun h => h.mono fun x g' h => h.mono fun y g2 ⟨_, _, e, q⟩ => (by cases e; exact q), fun h => h.mono fun x g' h => h.mono fun y g2 q => ⟨_, _, rfl, q⟩⟩
@[simp] theorem ev_par3 {j k : Nat} {ma mb mc : M Vx} {Q : Oc → G → Prop} : Ev (mPar3 i j k ma mb mc) g Q ↔ Ev ma g fun x g' => Ev mb g' fun y g2 => Ev mc g2 fun z g3 => Q .nx (((g3.set i x.sl).set j y.sl).set k z.sl) := by
  unfold mPar3
  simp only [ev_bind]
  exact ⟨fun h => h.mono fun x g' h => h.mono fun y g2 h => h.mono fun z gg ⟨_, _, e, q⟩ => (by cases e; exact q), fun h => h.mono fun x g' h => h.mono fun y g2 h => h.mono fun z gg q => ⟨_, _, rfl, q⟩⟩
@[simp] theorem vxd_sl {x : D} : (Vx.d x).sl = .v x := rfl
@[simp] theorem vxo_sl {x : O} : (Vx.o x).sl = .o x := rfl
@[simp] theorem ev_asg {f : D → G → Option G} {m : M D} {Q : Oc → G → Prop} : Ev (mAsg f m) g Q ↔ Ev m g fun d g' => ∃ g2, f d g' = some g2 ∧ Q .nx g2 := by
  unfold mAsg
  rw [ev_bind]
  refine ⟨fun h => h.mono fun d g' ⟨a, g2, e, q⟩ => ?_, fun h => h.mono fun d g' ⟨g2, e, q⟩ => ⟨.nx, g2, by dsimp only; rw [e]; rfl, q⟩⟩
  dsimp only at e
  cases e2 : f d g' with
  | none => rw [e2] at e; cases e
  | some g3 => rw [e2] at e; cases e; exact ⟨g2, rfl, q⟩
end
/-! ### loops -/
section
variable {f : D → G → Option G} {mb : M Oc}
/-- how a turn ends -/
def Turn (I : G → Prop) (Q : Oc → G → Prop) : Oc → G → Prop
  | .nx, g => I g
  | .ct, g => I g
  | .bk, g => Q .nx g
  | .rt d, g => Q (.rt d) g
  | .rto o, g => Q (.rto o) g
theorem ev_loop {Q : Oc → G → Prop} (I : List D → G → Prop) (hs : ∀ d r g, I (d :: r) g → ∃ g1, f d g = some g1 ∧ Ev mb g1 (Turn (I r) Q)) (he : ∀ g, I [] g → Q .nx g) : ∀ (ds : List D) (g : G), I ds g → Ev (mLoop f mb ds) g Q
  | [], g, h => ev_ret.mpr (he g h)
  | d :: r, g, h => by
    obtain ⟨g1, e1, o, g2, e2, q⟩ := hs d r g h
    have key : ∀ x, mLoop f mb (d :: r) g = x → (∃ a g', x = some (.ok a g') ∧ Q a g') → Ev (mLoop f mb (d :: r)) g Q := fun x e ⟨a, g', e', q⟩ => ⟨a, g', e.trans e', q⟩
    refine key _ rfl ?_
    simp only [mLoop, e1, e2]
    cases o with
    | nx => exact ev_loop I hs he r g2 q
    | ct => exact ev_loop I hs he r g2 q
    | bk => exact ⟨_, _, rfl, q⟩
    | rt d => exact ⟨_, _, rfl, q⟩
    | rto d => exact ⟨_, _, rfl, q⟩
@[simp] theorem ev_for {mi : M (List D)} {g : G} {Q : Oc → G → Prop} : Ev (mFor f mi mb) g Q ↔ Ev mi g fun ds g' => Ev (mLoop f mb ds) g' Q := by
  unfold mFor
  simp
/-- a comprehension's turns -/
theorem ev_lcGo {vs : List Nat} {mt : M Bool} {me : M D} {Q : List D → G → Prop} (I : List D → List D → G → Prop)
    (hs : ∀ d r acc g, I (d :: r) acc g → ∃ g1, f d g = some g1 ∧ Ev mt g1 fun b g2 => if b = true then acc.length < sizeLine ∧ Ev me g2 fun y g3 => I r (acc ++ [y]) (wipeG g3 vs) else I r acc (wipeG g2 vs))
    (he : ∀ acc g, I [] acc g → Q acc g) : ∀ (ds acc : List D) (g : G), I ds acc g → Ev (lcGo vs f mt me ds acc) g Q
  | [], acc, g, h => ev_ret.mpr (he acc g h)
  | d :: r, acc, g, h => by
    obtain ⟨g1, e1, b, g2, e2, q⟩ := hs d r acc g h
    have key : ∀ x, lcGo vs f mt me (d :: r) acc g = x → (∃ a g', x = some (.ok a g') ∧ Q a g') → Ev (lcGo vs f mt me (d :: r) acc) g Q := fun x e ⟨a, g', e', q⟩ => ⟨a, g', e.trans e', q⟩
    refine key _ rfl ?_
    simp only [lcGo, e1, e2]
    cases b with
    | false => exact ev_lcGo I hs he r acc _ q
    | true =>
      obtain ⟨hl, y, g3, e3, q⟩ := q
      simp only [e3, if_pos hl]
      exact ev_lcGo I hs he r _ _ q
@[simp] theorem ev_lc {vs : List Nat} {mi : M (List D)} {mt : M Bool} {me : M D} {g : G} {Q : O → G → Prop} : Ev (mLc vs mi f mt me) g Q ↔ Ev mi g fun ds g1 => noOwn vs g1 = true ∧ Ev (lcGo vs f mt me ds []) (wipeG g1 vs) fun ys g2 => Q (.l ys) (backG g1 g2 vs) := by
  unfold mLc
  rw [ev_bind]
  refine ⟨fun h => h.mono fun ds g1 q => ?_, fun h => h.mono fun ds g1 ⟨h1, ys, g2, e, q⟩ => ?_⟩
  · obtain ⟨a, g', e, q⟩ := q
    dsimp only at e
    split at e
    · rename_i h1
      refine ⟨h1, ?_⟩
      cases e2 : lcGo vs f mt me ds [] (wipeG g1 vs) with
      | none => rw [e2] at e; cases e
      | some r =>
        cases r with
        | ex E g2 => rw [e2] at e; cases e
        | ok ys g2 =>
          rw [e2] at e
          cases e
          exact ⟨ys, g2, e2, q⟩
    · cases e
  · refine ⟨.l ys, backG g1 g2 vs, ?_, q⟩
    dsimp only
    rw [if_pos h1, e]
    rfl
end
/-! ### a def's function -/
def RetP (P : D → C3 → Prop) : Oc → G → Prop
  | .nx, g => P .non g.c
  | .rt d, g => P d g.c
  | .rto o, g => P o.d g.c
  | _, _ => False
@[simp] theorem retp_nx {P : D → C3 → Prop} {g : G} : RetP P .nx g ↔ P .non g.c := Iff.rfl
@[simp] theorem retp_rt {P : D → C3 → Prop} {g : G} {d : D} : RetP P (.rt d) g ↔ P d g.c := Iff.rfl
@[simp] theorem retp_rto {P : D → C3 → Prop} {g : G} {d : O} : RetP P (.rto d) g ↔ P d.d g.c := Iff.rfl
theorem run_ev {dice : Bool} {n k : Nat} {m : M Oc} {ds : List D} {c : C3} {P : D → C3 → Prop} (hl : ds.length + dice.toNat = k) (h : Ev m ⟨ini dice n ds, c⟩ (RetP P)) : ∃ d c', runM dice n k m ds c = some (d, c') ∧ P d c' := by
  obtain ⟨o, g, e, q⟩ := h
  unfold runM
  rw [if_pos hl, e]
  cases o with
  | nx => exact ⟨_, _, rfl, q⟩
  | rt d => exact ⟨_, _, rfl, q⟩
  | rto d => exact ⟨_, _, rfl, q⟩
  | bk => exact q.elim
  | ct => exact q.elim
def RetO (P : O → C3 → Prop) : Oc → G → Prop
  | .rto o, g => P o g.c
  | _, _ => False
@[simp] theorem reto_rto {P : O → C3 → Prop} {g : G} {d : O} : RetO P (.rto d) g ↔ P d g.c := Iff.rfl
theorem runO_ev {dice : Bool} {n k : Nat} {m : M Oc} {ds : List D} {c : C3} {P : O → C3 → Prop} (hl : ds.length + dice.toNat = k) (h : Ev m ⟨ini dice n ds, c⟩ (RetO P)) : ∃ d c', runO dice n k m ds c = some (d, c') ∧ P d c' := by
  obtain ⟨o, g, e, q⟩ := h
  unfold runO
  rw [if_pos hl, e]
  cases o with
  | rto d => exact ⟨_, _, rfl, q⟩
  | _ => exact q.elim
@[simp] theorem ini_t {n : Nat} {ds : List D} : ini true n ds = .di :: (ds.map .v ++ List.replicate (n - (ds.length + 1)) .un) := rfl
@[simp] theorem ini_f {n : Nat} {ds : List D} : ini false n ds = ds.map .v ++ List.replicate (n - ds.length) .un := rfl
/-! ### operators on known data -/
section
variable {i j : Int} {x y : Str} {b : Bool}
@[simp] theorem uPlus_int : uPlus (.int i) (.int j) = some (.int (i + j)) := rfl
@[simp] theorem uSub_int : uSub (.int i) (.int j) = some (.int (i - j)) := rfl
@[simp] theorem iGt_int : iGt (.int i) (.int j) = some (.bl (decide (j < i))) := rfl
@[simp] theorem iGe_int : iGe (.int i) (.int j) = some (.bl (decide (j ≤ i))) := rfl
@[simp] theorem iLe_int : iLe (.int i) (.int j) = some (.bl (decide (i ≤ j))) := rfl
@[simp] theorem iLt_int : iLt (.int i) (.int j) = some (.bl (decide (i < j))) := rfl
@[simp] theorem uLt_int : uLt (.int i) (.int j) = some (.bl (decide (i < j))) := rfl
@[simp] theorem asB_bl : asB (.bl b) = some b := rfl
@[simp] theorem fInt1_int : fInt1 [.int i] = some (.int i) := rfl
@[simp] theorem fLen_lst {xs : List D} : fLen [.lst xs] = some (.int xs.length) := rfl
@[simp] theorem fLen_tup {xs : List D} : fLen [.tup xs] = some (.int xs.length) := rfl
theorem uMul_int (h : i.natAbs.log2 + j.natAbs.log2 < 1000000) : uMul (.int i) (.int j) = some (.int (i * j)) := by
  show (if cMul i j = true then some (D.int (i * j)) else none) = _
  rw [if_pos (show cMul i j = true from decide_eq_true h)]
theorem uDiv_int (h : 0 < j ∧ j.natAbs.log2 < 9000) : uDiv (.int i) (.int j) = some (.int (i / j)) := by
  show (if cDiv i j = true then some (D.int (i / j)) else none) = _
  rw [if_pos (show cDiv i j = true from decide_eq_true h)]
theorem uMod_int (h : 0 < j) : uMod (.int i) (.int j) = some (.int (i % j)) := by
  show (if cMod i j = true then some (D.int (i % j)) else none) = _
  rw [if_pos (show cMod i j = true from decide_eq_true h)]
end
end Mo
set_option Elab.async false
set_option linter.all false
set_option maxRecDepth 100000
set_option maxHeartbeats 4000000
/-! Mo, part thirty-one: the same of the rest of the signs. -/
namespace Mo
open PySem PySem.Spec L2
section
variable {α β γ : Type} {g : G} {i : Nat} {d : D} {o : O} {C : Addr} {fl : Str}
theorem ev_onDL {k : List D → M α} {Q : α → G → Prop} : Ev (onDL i k) g Q ↔ g.s[i]? = some .di ∧ ∃ xs, g.c = .l xs ∧ Ev (k xs) g Q := by
  constructor
  · rintro ⟨a, g', e, q⟩
    obtain ⟨h1, xs, h2, h3⟩ := onDL_some e
    exact ⟨h1, xs, h2, a, g', h3, q⟩
  · rintro ⟨h1, xs, h2, a, g', h3, q⟩
    refine ⟨a, g', ?_, q⟩
    unfold onDL isDi
    rw [h1]
    dsimp only
    rw [h2]
    exact h3
theorem ev_onDN {k : List (Str × D) → M α} {Q : α → G → Prop} : Ev (onDN i C k) g Q ↔ g.s[i]? = some .di ∧ ∃ xs, g.c = .n C xs ∧ Ev (k xs) g Q := by
  constructor
  · rintro ⟨a, g', e, q⟩
    obtain ⟨h1, xs, h2, h3⟩ := onDN_some e
    exact ⟨h1, xs, h2, a, g', h3, q⟩
  · rintro ⟨h1, xs, h2, a, g', h3, q⟩
    refine ⟨a, g', ?_, q⟩
    unfold onDN isDi
    rw [h1]
    dsimp only
    rw [h2]
    dsimp only
    rw [if_pos rfl]
    exact h3
theorem ev_onO {k : O → M α} {Q : α → G → Prop} : Ev (onO i k) g Q ↔ ∃ o, g.s[i]? = some (.o o) ∧ Ev (k o) g Q := by
  constructor
  · rintro ⟨a, g', e, q⟩
    obtain ⟨xs, h2, h3⟩ := onO_some e
    exact ⟨xs, h2, a, g', h3, q⟩
  · rintro ⟨xs, h2, a, g', h3, q⟩
    refine ⟨a, g', ?_, q⟩
    unfold onO
    rw [h2]
    exact h3
theorem ev_onL {k : List D → M α} {Q : α → G → Prop} : Ev (onL i k) g Q ↔ ∃ xs, g.s[i]? = some (.o (.l xs)) ∧ Ev (k xs) g Q := by
  constructor
  · rintro ⟨a, g', e, q⟩
    obtain ⟨xs, h2, h3⟩ := onL_some e
    exact ⟨xs, h2, a, g', h3, q⟩
  · rintro ⟨xs, h2, a, g', h3, q⟩
    refine ⟨a, g', ?_, q⟩
    unfold onL
    rw [h2]
    exact h3
@[simp] theorem ev_ixD {mk : M D} {Q : D → G → Prop} : Ev (mIxD i mk) g Q ↔ g.s[i]? = some .di ∧ Ev mk g fun k g' => g'.s[i]? = some .di ∧ ∃ xs, g'.c = .l xs ∧ Ev (lift (fIx (.lst xs) k)) g' Q := by
  unfold mIxD
  simp only [ev_isDi, ev_bind, ev_onDL]
@[simp] theorem ev_ixPutD {n : Int} {mv : M D} {Q : Oc → G → Prop} : Ev (mIxPutD i n mv) g Q ↔ Ev mv g fun v g' => g'.s[i]? = some .di ∧ ∃ xs, g'.c = .l xs ∧ ∃ j, ixN xs.length n = some j ∧ Q .nx ⟨g'.s, .l (xs.set j v)⟩ := by
  unfold mIxPutD
  simp only [ev_bind, ev_onDL]
  refine ⟨fun h => h.mono fun v g' ⟨h1, xs, h2, a, g2, e, q⟩ => ?_, fun h => h.mono fun v g' ⟨h1, xs, h2, j, e, q⟩ => ⟨h1, xs, h2, .nx, _, by dsimp only; rw [e], q⟩⟩
  dsimp only at e
  split at e
  · rename_i j hj
    cases e
    exact ⟨h1, xs, h2, j, hj, q⟩
  · cases e
@[simp] theorem ev_fldD {Q : D → G → Prop} : Ev (mFldD i C fl) g Q ↔ g.s[i]? = some .di ∧ ∃ xs, g.c = .n C xs ∧ Ev (lift (getF fl xs)) g Q := by
  unfold mFldD
  rw [ev_onDN]
@[simp] theorem ev_fldPutD {mv : M D} {Q : Oc → G → Prop} : Ev (mFldPutD i C fl mv) g Q ↔ Ev mv g fun v g' => g'.s[i]? = some .di ∧ ∃ xs, g'.c = .n C xs ∧ xs.length < 1000 ∧ Q .nx ⟨g'.s, .n C (setF fl v xs)⟩ := by
  unfold mFldPutD
  simp only [ev_bind, ev_onDN]
  refine ⟨fun h => h.mono fun v g' ⟨h1, xs, h2, a, g2, e, q⟩ => ?_, fun h => h.mono fun v g' ⟨h1, xs, h2, j, q⟩ => ⟨h1, xs, h2, .nx, _, by dsimp only; rw [if_pos j], q⟩⟩
  dsimp only at e
  split at e
  · rename_i hj
    cases e
    exact ⟨h1, xs, h2, hj, q⟩
  · cases e
@[simp] theorem ev_dput {mk mv : M D} {Q : Oc → G → Prop} : Ev (mDPut i mk mv) g Q ↔ Ev mv g fun v g1 => (∃ o0, g1.s[i]? = some (.o o0)) ∧ Ev mk g1 fun k g2 => ∃ o, g2.s[i]? = some (.o o) ∧ ∃ o', putO o k v = some o' ∧ Q .nx (g2.set i (.o o')) := by
  unfold mDPut
  simp only [ev_bind, ev_onO]
  refine ⟨fun h => h.mono fun v g1 ⟨o0, h0, h⟩ => ⟨⟨o0, h0⟩, h.mono fun k g2 ⟨o, h1, a, g3, e, q⟩ => ?_⟩, fun h => h.mono fun v g1 ⟨⟨o0, h0⟩, h⟩ => ⟨o0, h0, h.mono fun k g2 ⟨o, h1, o', e, q⟩ => ⟨o, h1, .nx, _, by dsimp only; rw [e], q⟩⟩⟩
  dsimp only at e
  split at e
  · rename_i o' hj
    cases e
    exact ⟨o, h1, o', hj, q⟩
  · cases e
@[simp] theorem ev_get2Q {mk mx : M D} {Q : D → G → Prop} : Ev (mGet2Q i mk mx) g Q ↔ ∃ o0, g.s[i]? = some (.o o0) ∧ isDic o0.d = true ∧ Ev mk g fun k g1 => Ev mx g1 fun x g2 => ∃ o, g2.s[i]? = some (.o o) ∧ Ev (lift (fDGet2 o.d k x)) g2 Q := by
  unfold mGet2Q
  simp only [ev_onO]
  refine ⟨fun ⟨o, h, q⟩ => ⟨o, h, ?_⟩, fun ⟨o, h, hd, q⟩ => ⟨o, h, ?_⟩⟩
  · rw [ev_ite] at q
    split at q
    · refine ⟨by assumption, ?_⟩
      simpa only [ev_bind, ev_onO] using q
    · exact (ev_bad.mp q).elim
  · rw [ev_ite, if_pos hd]
    simpa only [ev_bind, ev_onO] using q
@[simp] theorem ev_get2 {md mk mx : M D} {Q : D → G → Prop} : Ev (mGet2 md mk mx) g Q ↔ Ev md g fun d g0 => isDic d = true ∧ Ev mk g0 fun k g1 => Ev mx g1 fun x g2 => Ev (lift (fDGet2 d k x)) g2 Q := by
  unfold mGet2
  rw [ev_bind]
  refine ⟨fun h => h.mono fun d g0 q => ?_, fun h => h.mono fun d g0 ⟨hd, q⟩ => ?_⟩
  · rw [ev_ite] at q
    split at q
    · refine ⟨by assumption, ?_⟩
      simpa only [ev_bind] using q
    · exact (ev_bad.mp q).elim
  · rw [ev_ite, if_pos hd]
    simpa only [ev_bind] using q
@[simp] theorem ev_dinQ {neg : Bool} {mk : M D} {Q : D → G → Prop} : Ev (mDInQ neg i mk) g Q ↔ Ev mk g fun k g1 => ∃ o, g1.s[i]? = some (.o o) ∧ Ev (lift (fDIn neg k o.d)) g1 Q := by
  unfold mDInQ
  simp only [ev_bind, ev_onO]
@[simp] theorem ev_ixQ {mk : M D} {Q : D → G → Prop} : Ev (mIxQ i mk) g Q ↔ (∃ xs, g.s[i]? = some (.o (.l xs))) ∧ Ev mk g fun k g1 => ∃ xs, g1.s[i]? = some (.o (.l xs)) ∧ Ev (lift (fIx (.lst xs) k)) g1 Q := by
  unfold mIxQ
  simp only [ev_bind, ev_onL]
  exact ⟨fun ⟨xs, h, q⟩ => ⟨⟨xs, h⟩, q⟩, fun ⟨⟨xs, h⟩, q⟩ => ⟨xs, h, q⟩⟩
@[simp] theorem ev_lenQ {Q : D → G → Prop} : Ev (mLenQ i) g Q ↔ ∃ xs, g.s[i]? = some (.o (.l xs)) ∧ Q (.int xs.length) g := by
  unfold mLenQ
  simp only [ev_onL, ev_ret]
theorem ev_toL {x : Option (List D × D)} {Q : D → G → Prop} : Ev (toL i x) g Q ↔ ∃ ys d, x = some (ys, d) ∧ Q d (g.set i (.o (.l ys))) := by
  constructor
  · rintro ⟨a, g', e, q⟩
    unfold toL at e
    split at e
    · cases e
      exact ⟨_, _, rfl, q⟩
    · cases e
  · rintro ⟨ys, d, rfl, q⟩
    exact ⟨_, _, rfl, q⟩
@[simp] theorem ev_lm1 {f : List D → D → Option (List D × D)} {m : M D} {Q : D → G → Prop} : Ev (mLm1 i f m) g Q ↔ (∃ xs, g.s[i]? = some (.o (.l xs))) ∧ Ev m g fun d g1 => ∃ xs, g1.s[i]? = some (.o (.l xs)) ∧ ∃ ys y, f xs d = some (ys, y) ∧ Q y (g1.set i (.o (.l ys))) := by
  unfold mLm1
  simp only [ev_bind, ev_onL, ev_toL]
  exact ⟨fun ⟨xs, h, q⟩ => ⟨⟨xs, h⟩, q⟩, fun ⟨⟨xs, h⟩, q⟩ => ⟨xs, h, q⟩⟩
@[simp] theorem ev_fnQ {F : FD} {ms : M (List D)} {Q : D → G → Prop} : Ev (mFnQ i F ms) g Q ↔ (∃ o, g.s[i]? = some (.o o)) ∧ Ev ms g fun ds g1 => ∃ o, g1.s[i]? = some (.o o) ∧ ∃ d o', F ds o = some (d, o') ∧ Q d (g1.set i (.o o')) := by
  unfold mFnQ
  simp only [ev_bind, ev_onO]
  refine ⟨fun ⟨o, h, q⟩ => ⟨⟨o, h⟩, q.mono fun ds g1 ⟨o, h1, a, g2, e, q⟩ => ⟨o, h1, ?_⟩⟩, fun ⟨⟨o, h⟩, q⟩ => ⟨o, h, q.mono fun ds g1 ⟨o, h1, d, o', e, q⟩ => ⟨o, h1, d, _, by dsimp only; rw [e], q⟩⟩⟩
  dsimp only at e
  split at e
  · rename_i d o' hj
    cases e
    exact ⟨_, _, hj, q⟩
  · cases e
@[simp] theorem ev_fnE {F : FD} {mo : M O} {ms : M (List D)} {Q : D → G → Prop} : Ev (mFnE F mo ms) g Q ↔ Ev mo g fun o g1 => Ev ms g1 fun ds g2 => ∃ d o', F ds o = some (d, o') ∧ Q d g2 := by
  unfold mFnE
  simp only [ev_bind]
  refine ⟨fun h => h.mono fun o g1 h => h.mono fun ds g2 q => ?_, fun h => h.mono fun o g1 h => h.mono fun ds g2 ⟨d, o', e, q⟩ => ?_⟩
  · cases e : F ds o with
    | none => rw [e] at q; exact (ev_lift_none.mp q).elim
    | some z => rw [e] at q; exact ⟨z.1, z.2, rfl, ev_lift_some.mp q⟩
  · rw [e]
    exact ev_lift_some.mpr q
@[simp] theorem ev_make {F : FD} {ms : M (List D)} {Q : O → G → Prop} : Ev (mMake C F ms) g Q ↔ Ev ms g fun ds g1 => ∃ fs, F ds (.n C []) = some (.non, .n C fs) ∧ Q (.n C fs) g1 := by
  unfold mMake
  simp only [ev_bind]
  refine ⟨fun h => h.mono fun ds g1 ⟨a, g2, e, q⟩ => ?_, fun h => h.mono fun ds g1 ⟨fs, e, q⟩ => ⟨_, _, by dsimp only; rw [e]; dsimp only; rw [if_pos rfl], q⟩⟩
  dsimp only at e
  split at e
  · rename_i C' fs hj
    split at e
    · rename_i hc
      subst hc
      cases e
      exact ⟨fs, hj, q⟩
    · cases e
  · cases e
@[simp] theorem ev_fld {m : M D} {Q : D → G → Prop} : Ev (mFld C fl m) g Q ↔ Ev m g fun d g1 => Ev (lift (fldD C fl d)) g1 Q := by
  unfold mFld
  simp only [ev_bind]
@[simp] theorem fldD_ins {fs : List (Str × D)} : fldD C fl (.ins C fs) = getF fl fs := if_pos rfl
@[simp] theorem ev_prop {F : FD} {mo : M D} {Q : D → G → Prop} : Ev (mProp C F mo) g Q ↔ Ev mo g fun d g1 => ∃ fs, d = .ins C fs ∧ ∃ x c', F [.ins C fs] g1.c = some (x, c') ∧ Q x ⟨g1.s, c'⟩ := by
  unfold mProp
  simp only [ev_bind]
  refine ⟨fun h => h.mono fun d g1 q => ?_, fun h => h.mono fun d g1 ⟨fs, e, q⟩ => ?_⟩
  · cases d <;> first | exact (ev_bad.mp q).elim | skip
    rename_i C' fs
    dsimp only at q
    rw [ev_ite] at q
    split at q
    · rename_i hc
      subst hc
      exact ⟨fs, rfl, ev_liftC.mp q⟩
    · exact (ev_bad.mp q).elim
  · subst e
    dsimp only
    rw [if_pos rfl]
    exact ev_liftC.mpr q
@[simp] theorem ev_meth {m : Str} {F : FD} {mo : M D} {ms : M (List D)} {Q : D → G → Prop} : Ev (mMeth C m F mo ms) g Q ↔ Ev mo g fun d g1 => ∃ fs, d = .ins C fs ∧ getF m fs = none ∧ Ev ms g1 fun ds g2 => ∃ x c', F (.ins C fs :: ds) g2.c = some (x, c') ∧ Q x ⟨g2.s, c'⟩ := by
  unfold mMeth
  simp only [ev_bind]
  refine ⟨fun h => h.mono fun d g1 q => ?_, fun h => h.mono fun d g1 ⟨fs, e, h1, q⟩ => ?_⟩
  · cases d <;> first | exact (ev_bad.mp q).elim | skip
    rename_i C' fs
    dsimp only at q
    rw [ev_ite] at q
    split at q
    · rename_i hc
      obtain ⟨rfl, hc⟩ := hc
      refine ⟨fs, rfl, hc, ?_⟩
      simpa only [ev_bind, ev_liftC] using q
    · exact (ev_bad.mp q).elim
  · subst e
    dsimp only
    rw [if_pos ⟨rfl, h1⟩]
    simpa only [ev_bind, ev_liftC] using q
@[simp] theorem ev_lenI {F : FD} {mo : M D} {Q : D → G → Prop} : Ev (mLenI C F mo) g Q ↔ Ev mo g fun d g1 => ∃ fs, d = .ins C fs ∧ ∃ n c', F [.ins C fs] g1.c = some (.int n, c') ∧ 0 ≤ n ∧ n < 2 ^ 63 ∧ Q (.int n) ⟨g1.s, c'⟩ := by
  unfold mLenI
  simp only [ev_bind]
  refine ⟨fun h => h.mono fun d g1 q => ?_, fun h => h.mono fun d g1 ⟨fs, e, n, c', h1, h2, h3, q⟩ => ?_⟩
  · cases d <;> first | exact (ev_bad.mp q).elim | skip
    rename_i C' fs
    dsimp only at q
    rw [ev_ite] at q
    split at q
    · rename_i hc
      subst hc
      rw [ev_bind, ev_liftC] at q
      obtain ⟨x, c', e, q⟩ := q
      cases x <;> first | exact (ev_bad.mp q).elim | skip
      rename_i n
      dsimp only at q
      rw [ev_ite] at q
      split at q
      · rename_i hn
        exact ⟨fs, rfl, n, c', e, hn.1, hn.2, ev_ret.mp q⟩
      · exact (ev_bad.mp q).elim
    · exact (ev_bad.mp q).elim
  · subst e
    dsimp only
    rw [if_pos rfl, ev_bind, ev_liftC]
    refine ⟨_, c', h1, ?_⟩
    dsimp only
    rw [if_pos ⟨h2, h3⟩]
    exact ev_ret.mpr q
@[simp] theorem ev_isC {m : M D} {Q : D → G → Prop} : Ev (mIsC C m) g Q ↔ Ev m g fun d g1 => Ev (lift (fIsC C d)) g1 Q := by
  unfold mIsC
  simp only [ev_bind]
@[simp] theorem fIsC_ins {fs : List (Str × D)} : fIsC C (.ins C fs) = some (.bl true) := if_pos rfl
@[simp] theorem ev_isi {cls : String} {m : M D} {Q : D → G → Prop} : Ev (mIsi cls m) g Q ↔ Ev m g fun d g1 => Ev (lift (fIsi cls d)) g1 Q := by
  unfold mIsi
  simp only [ev_bind]
@[simp] theorem ev_sortSet {m : M D} {Q : O → G → Prop} : Ev (mSortSet m) g Q ↔ Ev m g fun d g1 => Ev (lift (fSortSet d)) g1 Q := by
  unfold mSortSet
  simp only [ev_bind]
@[simp] theorem ev_pairs {mk mv : M D} {ms : M (List (Key × D))} {Q : List (Key × D) → G → Prop} : Ev (mPairs mk mv ms) g Q ↔ Ev mk g fun k g1 => Ev mv g1 fun v g2 => Ev ms g2 fun r g3 => Ev (lift ((asKey k).map fun kk => (kk, v) :: r)) g3 Q := by
  unfold mPairs
  simp only [ev_bind]
@[simp] theorem ev_disp {ms : M (List (Key × D))} {Q : O → G → Prop} : Ev (mDisp ms) g Q ↔ Ev ms g fun es g1 => es.length ≤ 15 ∧ Q (.k (mergeD [] es)) g1 := by
  unfold mDisp
  rw [ev_bind]
  refine ⟨fun h => h.mono fun es g1 q => ?_, fun h => h.mono fun es g1 q => ?_⟩
  · rw [ev_ite] at q
    split at q
    · exact ⟨by assumption, ev_ret.mp q⟩
    · exact (ev_bad.mp q).elim
  · rw [ev_ite, if_pos q.1]
    exact ev_ret.mpr q.2
@[simp] theorem ev_star {m : M D} {ms : M (List D)} {Q : List D → G → Prop} : Ev (mStar m ms) g Q ↔ Ev m g fun d g1 => ∃ xs, seqD d = some xs ∧ Ev ms g1 fun ds g2 => Q (xs ++ ds) g2 := by
  unfold mStar
  rw [ev_bind]
  refine ⟨fun h => h.mono fun d g1 q => ?_, fun h => h.mono fun d g1 ⟨xs, e, q⟩ => ?_⟩
  · cases e : seqD d with
    | none => rw [e] at q; exact (ev_bad.mp q).elim
    | some xs =>
      rw [e] at q
      refine ⟨xs, rfl, ?_⟩
      simpa using q
  · rw [e]
    simpa using q
@[simp] theorem seqD_lst {xs : List D} : seqD (.lst xs) = some xs := rfl
@[simp] theorem seqD_tup {xs : List D} : seqD (.tup xs) = some xs := rfl
@[simp] theorem ev_fmt {m : M D} {Q : D → G → Prop} : Ev (mFmt m) g Q ↔ Ev m g fun d g1 => Ev (lift (fFmt d)) g1 Q := by
  unfold mFmt
  simp only [ev_bind]
@[simp] theorem ev_js_nil {acc : Str} {Q : D → G → Prop} : Ev (mJs [] acc) g Q ↔ Q (.str acc) g := ev_ret
@[simp] theorem ev_js_cons {m : M D} {ms : List (M D)} {acc : Str} {Q : D → G → Prop} : Ev (mJs (m :: ms) acc) g Q ↔ Ev m g fun d g1 => ∃ y, d = .str y ∧ (acc ++ y).length ≤ sizeLine ∧ Ev (mJs ms (acc ++ y)) g1 Q := by
  show Ev (m.bind fun d => match d with
    | .str y => if (acc ++ y).length ≤ sizeLine then mJs ms (acc ++ y) else bad
    | _ => bad) g Q ↔ _
  rw [ev_bind]
  refine ⟨fun h => h.mono fun d g1 q => ?_, fun h => h.mono fun d g1 ⟨y, e, h1, q⟩ => ?_⟩
  · cases d <;> first | exact (ev_bad.mp q).elim | skip
    rename_i y
    dsimp only at q
    rw [ev_ite] at q
    split at q
    · exact ⟨y, rfl, by assumption, q⟩
    · exact (ev_bad.mp q).elim
  · subst e
    dsimp only
    rw [ev_ite, if_pos h1]
    exact q
@[simp] theorem ev_ms1 {f : D → D → Option α} {ma mb : M D} {Q : α → G → Prop} : Ev (mMs1 f ma mb) g Q ↔ Ev ma g fun x g1 => ∃ y, x = .str y ∧ Ev mb g1 fun z g2 => Ev (lift (f (.str y) z)) g2 Q := by
  unfold mMs1
  rw [ev_bind]
  refine ⟨fun h => h.mono fun d g1 q => ?_, fun h => h.mono fun d g1 ⟨y, e, q⟩ => ?_⟩
  · cases d <;> first | exact (ev_bad.mp q).elim | skip
    exact ⟨_, rfl, by simpa using q⟩
  · subst e
    simpa using q
@[simp] theorem ev_part {m : M D} {Q : Option Int → G → Prop} : Ev (mPart m) g Q ↔ Ev m g fun d g1 => Ev (lift (asI d)) g1 Q := by
  unfold mPart
  simp only [ev_bind]
@[simp] theorem ev_sl {f : D → Option Int → Option Int → Option α} {ma : M D} {ml mh : M (Option Int)} {Q : α → G → Prop} : Ev (mSl f ma ml mh) g Q ↔ Ev ma g fun x g1 => Ev ml g1 fun l g2 => Ev mh g2 fun h g3 => Ev (lift (f x l h)) g3 Q := by
  unfold mSl
  simp only [ev_bind]
@[simp] theorem ev_slU {ma : M D} {ml mh : M (Option Int)} {Q : D → G → Prop} : Ev (mSlU ma ml mh) g Q ↔ Ev ma g fun x g1 => Ev ml g1 fun l g2 => Ev mh g2 fun h g3 => Ev (lift ((fSlS x l h).or ((fSlL x l h).map O.d))) g3 Q := by
  unfold mSlU
  simp only [ev_sl]
@[simp] theorem ev_not {m : M D} {Q : D → G → Prop} : Ev (mNot m) g Q ↔ Ev m g fun x g1 => Ev (lift (fNot x)) g1 Q := by
  unfold mNot
  simp only [ev_bind]
@[simp] theorem fNot_bl {b : Bool} : fNot (.bl b) = some (.bl (!b)) := rfl
@[simp] theorem ev_neg {m : M D} {Q : D → G → Prop} : Ev (mNeg m) g Q ↔ Ev m g fun x g1 => Ev (lift (fNeg x)) g1 Q := by
  unfold mNeg
  simp only [ev_bind]
@[simp] theorem fNeg_int {n : Int} : fNeg (.int n) = some (.int (-n)) := rfl
@[simp] theorem ev_and {ma mb : M D} {Q : D → G → Prop} : Ev (mAnd ma mb) g Q ↔ Ev ma g fun x g1 => ∃ b, x = .bl b ∧ if b = true then Ev mb g1 Q else Q (.bl false) g1 := by
  unfold mAnd
  rw [ev_bind]
  refine ⟨fun h => h.mono fun d g1 q => ?_, fun h => h.mono fun d g1 ⟨y, e, q⟩ => ?_⟩
  · cases d <;> first | exact (ev_bad.mp q).elim | skip
    rename_i b
    refine ⟨b, rfl, ?_⟩
    cases b <;> simpa using q
  · subst e
    cases y <;> simpa using q
@[simp] theorem ev_or {ma mb : M D} {Q : D → G → Prop} : Ev (mOr ma mb) g Q ↔ Ev ma g fun x g1 => ∃ b, x = .bl b ∧ if b = true then Q (.bl true) g1 else Ev mb g1 Q := by
  unfold mOr
  rw [ev_bind]
  refine ⟨fun h => h.mono fun d g1 q => ?_, fun h => h.mono fun d g1 ⟨y, e, q⟩ => ?_⟩
  · cases d <;> first | exact (ev_bad.mp q).elim | skip
    rename_i b
    refine ⟨b, rfl, ?_⟩
    cases b <;> simpa using q
  · subst e
    cases y <;> simpa using q
@[simp] theorem ev_iter {m : M D} {Q : List D → G → Prop} : Ev (mIter m) g Q ↔ Ev m g fun d g1 => Ev (lift (iterD d)) g1 Q := by
  unfold mIter
  simp only [ev_bind]
@[simp] theorem ev_wk {f : List D → Option (List D)} {ms : M (List D)} {Q : List D → G → Prop} : Ev (mWk f ms) g Q ↔ Ev ms g fun d g1 => Ev (lift (f d)) g1 Q := by
  unfold mWk
  simp only [ev_bind]
@[simp] theorem ev_binO {f : D → D → Option O} {ma mb : M D} {Q : O → G → Prop} : Ev (mBinO f ma mb) g Q ↔ Ev ma g fun x g' => Ev mb g' fun y g2 => Ev (lift (f x y)) g2 Q := by
  unfold mBinO
  simp only [ev_bind]
@[simp] theorem iterD_lst {xs : List D} : iterD (.lst xs) = some xs := rfl
@[simp] theorem iterD_tup {xs : List D} : iterD (.tup xs) = some xs := rfl
@[simp] theorem iterD_dt {kvs : List (List Key × D)} : iterD (.dt kvs) = some (kvs.map fun kv => .tup (kv.1.map kD)) := rfl
@[simp] theorem iterD_dk {kvs : List (Key × D)} : iterD (.dk kvs) = some (kvs.map fun kv => kD kv.1) := rfl
@[simp] theorem iterD_str {x : Str} : iterD (.str x) = some (chars x) := rfl
@[simp] theorem ev_dc {o0 : O} {vs : List Nat} {mi : M (List D)} {f : D → G → Option G} {mt : M Bool} {mk mv : M D} {Q : O → G → Prop} : Ev (mDc o0 vs mi f mt mk mv) g Q ↔ Ev mi g fun ds g1 => noOwn vs g1 = true ∧ Ev (dcGo vs f mt mk mv ds o0) (wipeG g1 vs) fun ys g2 => Q ys (backG g1 g2 vs) := by
  unfold mDc
  rw [ev_bind]
  refine ⟨fun h => h.mono fun ds g1 q => ?_, fun h => h.mono fun ds g1 ⟨h1, ys, g2, e, q⟩ => ?_⟩
  · obtain ⟨a, g', e, q⟩ := q
    dsimp only at e
    split at e
    · rename_i h1
      refine ⟨h1, ?_⟩
      cases e2 : dcGo vs f mt mk mv ds o0 (wipeG g1 vs) with
      | none => rw [e2] at e; cases e
      | some r =>
        cases r with
        | ex E g2 => rw [e2] at e; cases e
        | ok ys g2 =>
          rw [e2] at e
          cases e
          exact ⟨ys, g2, e2, q⟩
    · cases e
  · refine ⟨ys, backG g1 g2 vs, ?_, q⟩
    dsimp only
    rw [if_pos h1, e]
    rfl
end
end Mo
set_option Elab.async false
set_option linter.all false
set_option maxRecDepth 100000
set_option maxHeartbeats 4000000
/-! Mo, part thirty-two: the law's own promise. -/
namespace Mo
open PySem PySem.Spec L2
open Lp (FnG)
def spLaw (K : PySem.W.Frag) : Sp := fun vs J Q _ => ∃ (a : Addr) (ns : List Int), vs = [.ref a] ∧ SqL K J a (ns.map V.int) ∧ ns.length ≤ 63 ∧ ∀ J', Q (.bl true) J'
theorem reps_ints' {K : PySem.W.Frag} {H : Hp} : ∀ ns : List Int, Reps K H (ns.map V.int) (ns.map D.int)
  | [] => .nil
  | n :: r => .cons (.int n) (reps_ints' r)
theorem kit_self {K : PySem.W.Frag} {C : Addr} : PySem.W.kitOne K (.ref C) (.ref C) = some true := if_pos (by simp)
theorem del_0 {H : Hp} : del ⟨none, []⟩ H = H := by
  funext b
  exact del_at fun z : Hid ⟨none, []⟩ b => z.elim (fun e => by cases e) fun m => nomatch m
theorem law_end {P : Program} {w : World} {K : PySem.W.Frag} {mg : Str → Option Value} {base : Heap} {k : Nat} {f : Addr} {fd : FuncData} {F : FD} (h : FnG P w K mg base CX0 k f fd ["_law_script"] (spM K false F))
    (hF : ∀ ns : List Int, ns.length ≤ 63 → ∃ c', F [.lst (ns.map .int)] (.l []) = some (.bl true, c')) : FnG P w K mg base CX0 k f fd ["_law_script"] (spLaw K) := by
  have key : ∀ {vs : List V} {J : Hp} {Q : VK} {E : XK}, spLaw K vs J Q E → spM K false F vs J Q E := fun {vs J Q E} ⟨a, ns, e, hS, hl, hq⟩ => by
    obtain ⟨c', e2⟩ := hF ns hl
    refine ⟨⟨none, []⟩, .l [], [.lst (ns.map .int)], vs, .bl true, c', rfl, ⟨fun a e => (by cases e), fun a e => (by cases e), fun a m => (nomatch m)⟩, ?_, e2, fun v J2 _ rv => ?_⟩
    · subst e
      rw [del_0]
      exact .cons (.lst hS (reps_ints' ns)) .nil
    · rw [rep_bl rv]
      exact hq J2
  exact ⟨fun vs H Q E hs => h.len vs H Q E (key hs), fun B fr st J ar ws xs R Z r hg e0 hb hv hs => h.go B fr st J ar ws xs R Z r hg e0 hb hv (key hs)⟩
end Mo
set_option Elab.async false
set_option linter.all false
set_option maxRecDepth 100000
set_option maxHeartbeats 4000000
/-! Mo, part thirty-three: k in an own dict as a test; calls without arguments. -/
namespace Mo
open PySem PySem.Spec L2
open Lp (FnG callG)
section
variable {X : Cx} {W : WW} {b : Expr} {x : Str} {px pos : Pos}
def mtInQ (neg : Bool) (i : Nat) (mk : M D) : M Bool := mk.bind fun k => onO i fun o => lift ((fDIn neg k o.d).bind asB)
@[simp] theorem ev_tinQ {neg : Bool} {i : Nat} {mk : M D} {g : G} {Q : Bool → G → Prop} : Ev (mtInQ neg i mk) g Q ↔ Ev mk g fun k g1 => ∃ o, g1.s[i]? = some (.o o) ∧ Ev (lift ((fDIn neg k o.d).bind asB)) g1 Q := by
  unfold mtInQ
  simp [ev_onO]
@[simp] theorem ev_dgetQ {i : Nat} {mk : M D} {g : G} {Q : D → G → Prop} : Ev (mDGetQ i mk) g Q ↔ (∃ o, g.s[i]? = some (.o o)) ∧ Ev mk g fun k g1 => ∃ o, g1.s[i]? = some (.o o) ∧ Ev (lift (fDGet o.d k)) g1 Q := by
  unfold mDGetQ
  simp [ev_onO]
end
end Mo
set_option Elab.async false
set_option linter.all false
set_option maxRecDepth 100000
set_option maxHeartbeats 4000000
/-! Mo, part thirty-four: a dict of a dict that a def fills: the plain parts of a machine, read from lines. -/
namespace Mo
open PySem PySem.Spec L2
open Lp (FnG)
structure PlS where
  F : D
  L : D
  A : List (List Key × D)
  x : Sl
  y : Sl
abbrev plG (ls : D) (c : C3) (s : PlS) : G := ⟨[.v ls, .un, s.x, s.y], c⟩
def NoO (x : Sl) : Prop := ∀ o, x ≠ .o o
theorem nosl_pl {ls : D} {c : C3} {s : PlS} {σ : St} (hx : NoO s.x) (hy : NoO s.y) (a : Addr) : NoSl (plG ls c s) σ a := fun i o e => by
  exfalso
  match i, e with
  | 0, e => cases e
  | 1, e => cases e
  | 2, e => exact hx o (Option.some.inj e)
  | 3, e => exact hy o (Option.some.inj e)
  | (i + 4), e => cases e
structure PlI (K : PySem.W.Frag) (J : Hp) (p0 : Mt) (H0 : Hp) (c : C3) (ls : D) (p : Mt) (σ : St) (H : Hp) (s : PlS) : Prop where
  R : Rl K J p (plG ls c s) σ H
  a : As J p0 H0 p H
  nx : NoO s.x
  ny : NoO s.y
  ex : ∃ q r u1 u2 es, σ[1]? = some (some (.ref q)) ∧ q ∈ p.o ∧ r ∈ p.o ∧ q ≠ r ∧ J q = none ∧ J r = none ∧ H q = some (.dK [(.inr "firsts", u1), (.inr "lasts", u2), (.inr "arcs", .ref r)]) ∧
    Rep K (del p H) u1 s.F ∧ Rep K (del p H) u2 s.L ∧ H r = some (.dT es) ∧ RepT K (del p H) es s.A
section
variable {K : PySem.W.Frag} {J : Hp} {p0 p p1 : Mt} {H0 H H1 : Hp} {c : C3} {ls : D} {σ : St} {s : PlS}
theorem PlI.ad (I : PlI K J p0 H0 c ls p σ H s) (ad : Ad (plG ls c s) σ p H (plG ls c s) p1 H1) (R1 : Rl K J p1 (plG ls c s) σ H1) : PlI K J p0 H0 c ls p1 σ H1 s := by
  obtain ⟨q, r, u1, u2, es, h1, h2, h3, h4, h5, h6, h7, h8, h9, h10, h11⟩ := I.ex
  obtain ⟨a1, b1⟩ := ad.ex q h2 (nosl_pl I.nx I.ny q)
  obtain ⟨a2, b2⟩ := ad.ex r h3 (nosl_pl I.nx I.ny r)
  exact ⟨R1, I.a.trans (ad.as I.R), I.nx, I.ny, q, r, u1, u2, es, h1, a1, a2, h4, h5, h6, by rw [b1, h7], h8.le ad.le, h9.le ad.le, by rw [b2, h10], RepT.le ad.le h11⟩
theorem PlI.words (I : PlI K J p0 H0 c ls p σ H s) {v : V} {w : D} (rv : Rep K (del p H) v w) : PlI K J p0 H0 c ls p (σ.set 3 (some v)) H ⟨s.F, s.L, s.A, s.x, .v w⟩ := by
  obtain ⟨q, r, u1, u2, es, h1, h⟩ := I.ex
  exact ⟨I.R.setV (i := 3) rv, I.a, I.nx, (fun o e => nomatch e), q, r, u1, u2, es, by rw [List.getElem?_set_ne (by decide)]; exact h1, h⟩
end
end Mo
set_option Elab.async false
set_option linter.all false
set_option maxRecDepth 100000
set_option maxHeartbeats 4000000
/-! Mo, part thirty-five: int of a text; the pieces of the def that reads lines. -/
namespace Mo
open PySem PySem.Spec L2
section
variable {X : Cx} {ew c1 c2 v1 v2 kk vv : Expr}
theorem ob {α β : Type} {o : Option α} {f : α → Option β} {b : β} (h : o.bind f = some b) : ∃ a, o = some a ∧ f a = some b := by
  cases o with
  | none => cases h
  | some a => exact ⟨a, rfl, h⟩
end
end Mo
set_option Elab.async false
set_option linter.all false
set_option maxRecDepth 100000
set_option maxHeartbeats 4000000
/-! Mo, part thirty-six: a dict whose keys are pairs of a text and of a tuple of numbers. -/
namespace Mo
open PySem PySem.Spec L2
def nk (l : Str) (row : List Int) : NestedKey := .tup [.text l, .tup (row.map .num)]
theorem nums_inj : ∀ {a b : List Int}, a.map NestedKey.num = b.map NestedKey.num → a = b
  | [], [], _ => rfl
  | [], _ :: _, h => by cases h
  | _ :: _, [], h => by cases h
  | x :: a, y :: b, h => by
    simp only [List.map_cons, List.cons.injEq] at h
    obtain ⟨h1, h2⟩ := h
    cases h1
    rw [nums_inj h2]
theorem nk_inj {l l' : Str} {r r' : List Int} : nk l r = nk l' r' ↔ l = l' ∧ r = r' := by
  constructor
  · intro h
    unfold nk at h
    injection h with h
    injection h with h1 h2
    injection h1 with h1
    injection h2 with h2 _
    injection h2 with h2
    exact ⟨h1, nums_inj h2⟩
  · rintro ⟨rfl, rfl⟩
    rfl
abbrev NE := NestedKey × Addr × Value
/-- the dict with these entries at q -/
def ND (P : Program) (w : World) (q : Addr) (xs : List NE) : HO := .ext fun h => (q == sysModules) = false ∧ xs.length ≤ sizeLine ∧
  ∃ o es ep, h.get? q = some o ∧ o.ExactDict ∧ o.data = .dict es ep ∧ es.toList = xs.map (entryOfKey (nestedKind P w)) ∧ (xs.map fun x => x.1).Nodup
/-- such a key at b -/
def KeyAt (H : Hp) (b : Addr) (l : Str) (row : List Int) : Prop := ∃ c, H b = some (.tup [.str l, .ref c]) ∧ H c = some (.tup (row.map V.int))
section
variable {X : Cx} {pins : List (Addr × Obj)} {σ : St} {H : Hp} {s : Shared} {q b : Addr} {l : Str} {row : List Int} {xs : List NE} {E' : Value → Shared → Prop}
/-- the entry of a key -/
def entry (xs : List NE) (l : Str) (row : List Int) : Option (Addr × Value) := atKey xs (nk l row)
end
end Mo
set_option Elab.async false
set_option linter.all false
set_option maxRecDepth 100000
set_option maxHeartbeats 4000000
/-! Mo, part thirty-seven: a walk along a text that keeps what it found in a dict. -/
namespace Mo
open PySem PySem.Spec L2
def nsD (ns : List Int) : List D := ns.map .int
def pD (x : List Int × Int) : D := .tup [.tup (nsD x.1), .int x.2]
abbrev StepF := Str → List Int → Option (List Int × Int)
/-- the entries are what the steps come to -/
def Ent (K : PySem.W.Frag) (F : Hp) (step : StepF) (xs : List NE) : Prop := ∀ x ∈ xs, ∃ l row out v, x.1 = nk l row ∧ KeyAt F x.2.1 l row ∧ step l row = some out ∧ RelV v x.2.2 ∧ Rep K F v (pD out)
section
variable {K : PySem.W.Frag} {F F' H : Hp} {step : StepF} {xs : List NE} {p : Mt}
theorem KeyAt.le {b : Addr} {l : Str} {row : List Int} (k : KeyAt F b l row) (e : Le F F') : KeyAt F' b l row := by
  obtain ⟨c, h1, h2⟩ := k
  exact ⟨c, e.ex h1 rfl, e.ex h2 rfl⟩
theorem Ent.le (e : Ent K F step xs) (l : Le F F') : Ent K F' step xs := fun x m => by
  obtain ⟨a, row, out, v, h1, h2, h3, h4, h5⟩ := e x m
  exact ⟨a, row, out, v, h1, h2.le l, h3, h4, h5.le l⟩
theorem Ent.get (e : Ent K F step xs) {l : Str} {row : List Int} {y : Addr × Value} (h : entry xs l row = some y) : ∃ out v, step l row = some out ∧ RelV v y.2 ∧ Rep K F v (pD out) := by
  unfold entry atKey at h
  obtain ⟨x, h1, h2⟩ := Option.map_eq_some_iff.mp h
  have m := List.mem_of_find?_eq_some h1
  have hk := List.find?_some h1
  obtain ⟨a, row', out, v, e1, e2, e3, e4, e5⟩ := e x m
  have hk' : x.1 = nk l row := by simpa using hk
  rw [e1] at hk'
  obtain ⟨rfl, rfl⟩ := nk_inj.mp hk'
  exact ⟨out, v, e3, by rw [← h2]; exact e4, e5⟩
end
section
variable {g : G} {σ : St} {q x : Addr} {i : Nat}
theorem nosl_setV {d : D} {v : Option V} (n : NoSl g σ q) : NoSl (g.set i (.v d)) (σ.set i v) q := fun j o e => by
  rcases getE_set e with ⟨_, z, _⟩ | ⟨ne, e⟩
  · cases z
  · rw [getV_set, if_neg fun z => ne z.1]
    exact n j o e
theorem nosl_setO {o' : O} (n : NoSl g σ q) (h : x ≠ q) (hl : g.s.length = σ.length) : NoSl (g.set i (.o o')) (σ.set i (some (.ref x))) q := fun j o e => by
  rcases getE_set e with ⟨rfl, z, l⟩ | ⟨ne, e⟩
  · rw [getV_set, if_pos ⟨rfl, hl ▸ l⟩]
    intro z
    cases z
    exact h rfl
  · rw [getV_set, if_neg fun z => ne z.1]
    exact n j o e
end
/-- the dict under way, beside the slots -/
structure RwI (X : Cx) (J : Hp) (p0 : Mt) (H0 : Hp) (step : StepF) (g : G) (p : Mt) (σ : St) (H : Hp) (xs : List NE) : Prop where
  R : Rl X.K J p g σ H
  a : As J p0 H0 p H
  ex : ∃ q, σ[3]? = some (some (.ref q)) ∧ q ∈ p.o ∧ J q = none ∧ NoSl g σ q ∧ H q = some (ND X.prog X.w q xs) ∧ Ent X.K (del p H) step xs
section
variable {X : Cx} {J : Hp} {p0 p p1 : Mt} {H0 H H1 : Hp} {step : StepF} {g g1 : G} {σ : St} {xs : List NE} {i : Nat}
theorem RwI.ad (I : RwI X J p0 H0 step g p σ H xs) (ad : Ad g σ p H g1 p1 H1) (R1 : Rl X.K J p1 g1 σ H1) : RwI X J p0 H0 step g1 p1 σ H1 xs := by
  obtain ⟨q, h1, h2, h3, h4, h5, h6⟩ := I.ex
  obtain ⟨a1, b1⟩ := ad.ex q h2 h4
  exact ⟨R1, I.a.trans (ad.as I.R), q, h1, a1, h3, ad.sl q h4, by rw [b1, h5], h6.le ad.le⟩
theorem RwI.setV {v : V} {d : D} (I : RwI X J p0 H0 step g p σ H xs) (rv : Rep X.K (del p H) v d) (n3 : i ≠ 3) : RwI X J p0 H0 step (g.set i (.v d)) p (σ.set i (some v)) H xs := by
  obtain ⟨q, h1, h2, h3, h4, h5, h6⟩ := I.ex
  exact ⟨I.R.setV rv, I.a, q, by rw [List.getElem?_set_ne n3]; exact h1, h2, h3, nosl_setV h4, h5, h6⟩
theorem RwI.setO {x : Addr} {o : O} (I : RwI X J p0 H0 step g p σ H xs) (m : x ∈ p.o) (jn : J x = none) (n : NoSl g σ x) (ow : OwnAt X.K (del p H) H x o) (n3 : i ≠ 3) : RwI X J p0 H0 step (g.set i (.o o)) p (σ.set i (some (.ref x))) H xs := by
  obtain ⟨q, h1, h2, h3, h4, h5, h6⟩ := I.ex
  refine ⟨I.R.setO m jn n ow, I.a, q, by rw [List.getElem?_set_ne n3]; exact h1, h2, h3, nosl_setO h4 (fun z => ?_) I.R.len, h5, h6⟩
  subst z
  cases o with
  | l _ => obtain ⟨_, z, _⟩ := ow; rw [h5] at z; cases z
  | k _ => obtain ⟨_, z, _⟩ := ow; rw [h5] at z; cases z
  | t _ => obtain ⟨_, z, _⟩ := ow; rw [h5] at z; cases z
  | n _ _ => obtain ⟨_, _, z, _⟩ := ow; rw [h5] at z; cases z
end
end Mo
set_option Elab.async false
set_option linter.all false
set_option maxRecDepth 100000
set_option maxHeartbeats 8000000
/-! Mo, part thirty-eight: the walk's body. -/
namespace Mo
open PySem PySem.Spec L2
end Mo
set_option Elab.async false
set_option linter.all false
set_option maxRecDepth 100000
set_option maxHeartbeats 8000000
/-! Mo, part thirty-nine: the walk's loops. -/
namespace Mo
open PySem PySem.Spec L2
end Mo
set_option Elab.async false
set_option linter.all false
set_option maxRecDepth 100000
set_option maxHeartbeats 8000000
/-! Mo, part forty: the walk, whole. -/
namespace Mo
open PySem PySem.Spec L2
section
variable {X : Cx} {J : Hp} {p0 p : Mt} {H0 H : Hp} {sf : D → StepF} {σ : St} {xs : List NE} {ep e2 er ea : Expr} {mp m2 : M D} {mr : M O} {ma : M D} {c : C3}
variable {a0 a1 a2 a3 a4 a5 a6 a7 a8 a9 b1 b2 b3 b4 b5 b6 b7 c1 c2 c3 d1 d2 d3 d4 d5 d6 d7 d8 d9 f1 f2 f3 f4 f5 : Pos}
theorem RwI.base {step : StepF} {g' : G} {p' : Mt} {σ' : St} {H' : Hp} (I : RwI X J p H step g' p' σ' H' xs) (a : As J p0 H0 p H) : RwI X J p0 H0 step g' p' σ' H' xs := ⟨I.R, a.trans I.a, I.ex⟩
end
end Mo
set_option Elab.async false
set_option linter.all false
set_option maxRecDepth 100000
set_option maxHeartbeats 4000000
/-! Mo, part forty-one: the walk's pieces. -/
namespace Mo
open PySem PySem.Spec L2
end Mo
set_option Elab.async false
set_option linter.all false
set_option maxRecDepth 100000
set_option maxHeartbeats 4000000
/-! Mo: an own thing that is called. -/
namespace Mo
open PySem PySem.Spec PySem.Calls L2 PyProof.Rows
open Lp (FnG okN callG)
section
variable {X : Cx} {W : WW} {fe : Expr} {es : List Expr} {pos : Pos} {C ff : Addr} {k : Nat} {fd : FuncData} {qs : List Str} {sp : Sp}
theorem run_ocallG {pins : List (Addr × Obj)} {σ : L2.St} {H : Hp} {s : Shared} {Q : VK} {a dx : Addr} {fs : List (Str × V)} {us : List Value} {vs : List V} (c : StX.CallO X.K C ff) (F : FnG X.prog X.w X.K X.mg X.base CX0 k ff fd qs sp) (hr : Room k X.A) (hgd : X.A.guards = some []) (hb : Binds X.K fd qs [])
    (I : Inv X pins σ H s) (ea : H a = some (.ins C dx fs)) (rv : Vals vs us) (h : sp (V.ref a :: vs) H Q fun _ _ _ => False) : wpAny (model X.prog X.w) X.A (call (.ref a) us) (EP X pins σ Q) X.xe s := by
  obtain ⟨ox, od, J, hd⟩ := StX.insC_at I (.inr ⟨dx, fs, ea⟩)
  have rv2 : Vals (V.ref a :: vs) (Value.ref a :: us) := .cons rfl rv
  have bt := hb s (Value.ref a :: us) I.kIn (by rw [List.append_nil, ← rv2.length]; exact F.len _ _ _ _ h)
  rw [List.append_nil] at bt
  refine wpAny_call (PySem.W.kco_code I.kIn J hd c.at_ c.fn c.fi (codeAny_mono (F.go X.A X.stack s H ⟨Value.ref a :: us, []⟩ (Value.ref a :: us) (V.ref a :: vs) Q _ hr hgd I.env0 bt rv2 h) fun w s2 hw => ?_))
  match w, hw with
  | .error e, hw => exact pass0 pins σ H s e s2 I hw
  | .ok (.ret u), hw => exact I.after hw
def mOCall (C : Addr) (F : FD) (mo : M D) (ms : M (List D)) : M D := mo.bind fun d => match d with
  | .ins C' fs => if C' = C then ms.bind fun ds => liftC (F (.ins C' fs :: ds)) else bad
  | _ => bad
def tOCall (C : Addr) (sp : Sp) (tf : TE) (t : TA) : TE := fun σ H Q => tf σ H fun y H1 => ∃ a, y = V.ref a ∧ t σ H1 fun vs H2 => (∃ dx fs, H2 a = some (.ins C dx fs)) ∧ sp (V.ref a :: vs) H2 Q fun _ _ _ => False
theorem pe_ocall {a0 : Expr} {tf : TE} {t : TA} (hf : PE X fe tf) (c : StX.CallO X.K C ff) (F : FnG X.prog X.w X.K X.mg X.base CX0 k ff fd qs sp) (hr : Room k X.A) (hgd : X.A.guards = some []) (hb : Binds X.K fd qs []) (ha : PA X (a0 :: es) t)
    (ht : eval (.Call fe (a0 :: es) [] pos) X.env = (do callWith pos (← eval fe X.env) [] (backTo pos (starEach (a0 :: es) X.env)) (backToKw pos (keywordEach [] X.env))))
    (he : starEach (a0 :: es) X.env = (false, eval a0 X.env) :: starEach es X.env) (hpl : (backTo pos (starEach es X.env)).any (·.1) = false) : PE X (.Call fe (a0 :: es) [] pos) (tOCall C sp tf t) := by
  refine ⟨fun pins s σ H Q I h => ?_⟩
  refine Call_ (thn (hf.run pins s σ H _ I h) fun u s1 ⟨y, H1, I1, ry, a, ey, q⟩ => ?_) ht
  subst ey
  obtain rfl : u = Value.ref a := ry
  refine StX.callO_with (thn (ha.run pos pins s1 σ H1 _ I1 q) fun us s2 ⟨vs, H2, I2, r, ⟨dx, fs, hi⟩, q2⟩ => ?_) he hpl
  obtain ⟨ox, od, J, hd⟩ := StX.insC_at I2 (.inr ⟨dx, fs, hi⟩)
  exact ⟨⟨C, ox, od, J, hd⟩, run_ocallG c F hr hgd hb I2 hi r q2⟩
/-- o(e, ..) -/
theorem e_ocall {a0 : Expr} {F : FD} {mo : M D} {ms : M (List D)} (c : StX.CallO X.K C ff) (hF : FnG X.prog X.w X.K X.mg X.base CX0 k ff fd qs (spM X.K false F)) (hr : Room k X.A) (hgd : X.A.guards = some []) (hb : Binds X.K fd qs []) (ho : EF X W fe mo) (ha : EA X W (a0 :: es) ms)
    (ht : eval (.Call fe (a0 :: es) [] pos) X.env = (do callWith pos (← eval fe X.env) [] (backTo pos (starEach (a0 :: es) X.env)) (backToKw pos (keywordEach [] X.env))) := by rfl)
    (he : starEach (a0 :: es) X.env = (false, eval a0 X.env) :: starEach es X.env := by rfl) (hpl : (backTo pos (starEach es X.env)).any (·.1) = false := by rfl) : EF X W (.Call fe (a0 :: es) [] pos) (mOCall C F mo ms) := fun J p g σ H R0 r hmm Q hp =>
  of_pe (pe_ocall semE c hF hr hgd hb semA ht he hpl) (ho.then R0 hmm hp fun d g1 p1 H1 v ad R1 rv hk hq => by
    cases d <;> first | (cases hk; done) | skip
    rename_i C' fs
    dsimp only at hk
    split at hk
    · rename_i hC
      subst hC
      obtain ⟨a, dx, vs, rfl, h1, h2⟩ := rep_ins rv
      refine ⟨a, rfl, ha.then R1 hk hq fun ds g2 p2 H2 us ad2 R2 rs hk2 hq2 => ?_⟩
      have rv2 := rv.le ad2.le
      obtain ⟨a2, dx2, vs2, e2, h3, h4⟩ := rep_ins rv2
      cases e2
      refine ⟨⟨dx2, vs2, del_of h3⟩, ?_⟩
      obtain ⟨d, c', e1, rfl⟩ := liftC_some hk2
      refine ⟨p2, g2.c, _, _, d, c', rfl, R2.hd, .cons rv2 rs, e1, fun v J2 af rv3 => ?_⟩
      obtain ⟨R3, ad3⟩ := R2.after af
      exact hq2 p2 J2 ad3 R3 v rv3
    · cases hk)
@[simp] theorem ev_ocall {F : FD} {mo : M D} {ms : M (List D)} {g : G} {Q : D → G → Prop} : Ev (mOCall C F mo ms) g Q ↔ Ev mo g fun d g1 => ∃ fs, d = .ins C fs ∧ Ev ms g1 fun ds g2 => ∃ x c', F (.ins C fs :: ds) g2.c = some (x, c') ∧ Q x ⟨g2.s, c'⟩ := by
  unfold mOCall
  simp only [ev_bind]
  refine ⟨fun h => h.mono fun d g1 q => ?_, fun h => h.mono fun d g1 ⟨fs, e, q⟩ => ?_⟩
  · cases d <;> first | exact (ev_bad.mp q).elim | skip
    rename_i C' fs
    dsimp only at q
    rw [ev_ite] at q
    split at q
    · rename_i hc
      subst hc
      exact ⟨fs, rfl, (ev_bind.mp q).mono fun ds g2 z => ev_liftC.mp z⟩
    · exact (ev_bad.mp q).elim
  · subst e
    dsimp only
    rw [if_pos rfl]
    exact ev_bind.mpr (q.mono fun ds g2 z => ev_liftC.mpr z)
end
end Mo
set_option Elab.async false
set_option linter.all false
set_option maxRecDepth 100000
set_option maxHeartbeats 4000000
/-! Mo: == and != of a class with an own __eq__ (and no own __ne__). -/
namespace Mo
open PySem PySem.Spec PySem.Calls L2 PyProof.Rows
open Lp (FnG okN callG)
/-- what the text's class tells of == and != -/
structure EqC (K : PySem.W.Frag) (C f : Addr) : Prop where
  eq : SpecM K C "__eq__" f
  ne : PySem.W.findIn K (.ref C) "__ne__" = some (some (.builtin "object.__ne__"))
  ob : PySem.W.mroIn K C (.type "object") = some true
section
variable {prog : Program} {w : World} {B : Around} {Er : Value → Shared → Prop} {st : Shared} {K : PySem.W.Frag} {y C f : Addr} {oy : Obj} {dy : Option Obj} {b : Value}
theorem ne_bound {ar : List Value} {R : Option Value → Shared → Prop} (KX : K.In st.heap) (J : PySem.W.InstAt st.heap y oy C dy) (c : EqC K C f)
    (h : wpAny (model prog w) B (call (.builtin "object.__ne__") (.ref y :: ar)) (fun v => R (some v)) Er st) : wpAny (model prog w) B (callSpecialIfBound? (.ref y) "__ne__" ar) R Er st := by
  have last : wpAny (model prog w) B (call (.builtin "object.__ne__") ([.ref y] ++ ar) >>= fun v => pure (some v)) R Er st :=
    wpAny_bind (wpAny_mono h (fun _ _ z => wpAny_pure z) fun _ _ z => z)
  have lk := (PySem.W.looks_findIn (M := model prog w) KX c.ne)
  unfold callSpecialIfBound? bindSpecialIfBound? specialOf
  refine wpAny_holding ?_
  refine wpAny_bind (wpAny_bind (wpAny_bind (J.type.here (lk.here ?_))))
  refine wpAny_bind (wpAny_askSetting (wpAny_ite ?_))
  split
  · exact wpAny_bind (wpAny_of_eq (F.cmp_object.ne.bind _) (wpAny_pure (by exact last)))
  · exact wpAny_tryCatch (wpAny_bind (wpAny_of_eq (F.cmp_object.ne.bind _) (wpAny_pure (by exact last))))
theorem ne_entry {R : Fin → Shared → Prop} (hu : B.units < cLine) (KX : K.In st.heap) (J : PySem.W.InstAt st.heap y oy C dy) (c : EqC K C f)
    (h : wpAny (model prog w) B (call (.ref f) [.ref y, b]) (fun v s' => ∃ t, v = .bool t ∧ R (.done (.ret (.bool (!t)))) s') Er st) : wpAny (model prog w) B (Builtin.«object.__ne__» ⟨[.ref y, b], []⟩) R Er st := by
  have mid : wpAny (model prog w) B (callSpecialIfBound? (.ref y) "__eq__" [b]) (fun r s' => ∃ t, r = some (.bool t) ∧ R (.done (.ret (.bool (!t)))) s') Er st :=
    PySem.W.ifBound_K KX J c.eq.at_ c.eq.fn (wpAny_mono h (fun v s' ⟨t, e, z⟩ => ⟨t, by rw [e], z⟩) fun _ _ z => z)
  unfold Builtin.«object.__ne__»
  repeat (first
    | with_reducible refine wpAny_cRoomFor hu ?_
    | (refine wpAny_bind (m := callSpecialIfBound? (.ref y) (Str.ofString "__eq__") [b]) (wpAny_mono mid (fun r s' hr => by
        obtain ⟨t, rfl, hq⟩ := hr
        repeat (first | exact hq | exact wpAny_pure hq | exact wpAny_truthy_bool hq | (refine wpAny_bind (m := truthy (.bool _)) (wpAny_truthy_bool ?_)) | wp_step)) fun _ _ e => e))
    | wp_step)
theorem ne_rich {tb : Value} {R : Value → Shared → Prop} (hu : B.units + 1 < cLine) (KX : K.In st.heap) (J : PySem.W.InstAt st.heap y oy C dy) (ht : PySem.W.Looks (model prog w) st.heap (typeOf b) tb) (hn : PySem.W.notFirst K C tb = true) (c : EqC K C f)
    (h : wpAny (model prog w) B.in1 (call (.ref f) [.ref y, b]) (fun v s' => ∃ t, v = .bool t ∧ R (.bool (!t)) s') Er st) : wpAny (model prog w) B (richCompare .NotEq (.ref y) b) R Er st := by
  have one : wpAny (model prog w) B (tryCompare (.ref y) (cmpInfo .NotEq).2.1 b) (fun r s' => ∃ t, r = some (.bool t) ∧ R (.bool t) s') Er st := by
    unfold tryCompare
    refine wpAny_bind (ne_bound KX J c (wpAny_call (codeAny_call_builtin F.cmp_object.ne.plain F.cmpEntry_ne
      (PySem.W.check_slot F.cmpKind_ne F.cmpSplit_ne (J.type.andThen (PySem.W.looks_mroIn KX c.ob)) (F.cmpArgs_ne _ _) (ne_entry (B := B.in1) hu KX J c (wpAny_mono h (fun v s' hv => ?_) fun _ _ e => e))))))
    obtain ⟨t, rfl, hq⟩ := hv
    refine ⟨t, rfl, ?_⟩
    first | exact wpAny_pure ⟨_, rfl, hq⟩ | exact wpAny_pure (wpAny_pure ⟨_, rfl, hq⟩)
  unfold richCompare
  simp only [oneThing_ref]
  refine wpAny_holding ?_
  refine wpAny_bind (wpAny_cRoomFor (Nat.lt_of_succ_lt hu) ?_)
  refine wpAny_bind (J.type.here ?_)
  refine wpAny_bind (ht.here ?_)
  split
  · rename_i q
    have e : PySem.W.subIn K tb (.ref C) = some false := by
      rcases Bool.or_eq_true_iff.mp hn with e | e
      · rw [beq_iff_eq.mp e] at q; simp at q
      · exact beq_iff_eq.mp e
    refine wpAny_bind ((PySem.W.looks_subIn KX e).here ?_)
    simp only [Bool.false_eq_true, if_false]
    refine wpAny_bind (wpAny_mono one (fun r s' ⟨t, e, z⟩ => ?_) fun _ _ e => e)
    subst e
    exact wpAny_pure z
  · refine wpAny_bind (wpAny_pure ?_)
    simp only [Bool.false_eq_true, if_false]
    refine wpAny_bind (wpAny_mono one (fun r s' ⟨t, e, z⟩ => ?_) fun _ _ e => e)
    subst e
    exact wpAny_pure z
end
section
variable {X : Cx} {W : WW} {a b : Expr} {pos : Pos} {C ff : Addr} {k : Nat} {fd : FuncData} {qs : List Str} {sp : Sp}
/-- on data -/
def mEqI (neg : Bool) (C : Addr) (F : FD) (ma mb : M D) : M D := ma.bind fun x => mb.bind fun y => match x, y with
  | .ins C1 fs, .ins C2 gs => if C1 = C ∧ C2 = C then (liftC (F [.ins C fs, .ins C gs])).bind fun v => (match v with
    | .bl t => ret (.bl (bif neg then !t else t))
    | _ => bad) else bad
  | _, _ => bad
@[simp] theorem ev_eqI {neg : Bool} {F : FD} {ma mb : M D} {g : G} {Q : D → G → Prop} : Ev (mEqI neg C F ma mb) g Q ↔ Ev ma g fun x g1 => Ev mb g1 fun y g2 => ∃ fs gs, x = .ins C fs ∧ y = .ins C gs ∧ ∃ t c', F [.ins C fs, .ins C gs] g2.c = some (.bl t, c') ∧ Q (.bl (bif neg then !t else t)) ⟨g2.s, c'⟩ := by
  unfold mEqI
  simp only [ev_bind]
  refine ⟨fun h => h.mono fun x g1 q => q.mono fun y g2 z => ?_, fun h => h.mono fun x g1 q => q.mono fun y g2 ⟨fs, gs, e1, e2, t, c', e3, z⟩ => ?_⟩
  · cases x <;> first | exact (ev_bad.mp z).elim | skip
    cases y <;> first | exact (ev_bad.mp z).elim | skip
    rename_i C1 fs C2 gs
    dsimp only at z
    rw [ev_ite] at z
    split at z
    · rename_i hC
      obtain ⟨e1, e2⟩ := hC
      subst e1 e2
      refine ⟨fs, gs, rfl, rfl, ?_⟩
      obtain ⟨d, c', e, z⟩ := ev_liftC.mp (ev_bind.mp z)
      cases d <;> first | exact (ev_bad.mp z).elim | skip
      exact ⟨_, c', e, ev_ret.mp z⟩
    · exact (ev_bad.mp z).elim
  · subst e1 e2
    dsimp only
    rw [if_pos ⟨rfl, rfl⟩]
    exact ev_bind.mpr (ev_liftC.mpr ⟨_, _, e3, ev_ret.mpr z⟩)
end
end Mo
set_option Elab.async false
set_option linter.all false
set_option maxRecDepth 100000
set_option maxHeartbeats 4000000
/-! Mo: {(k, ..): v, ..}, a dict display whose keys are tuples. -/
namespace Mo
open PySem PySem.Spec PySem.Calls L2 PyProof.Rows
open Lp (FnG okN callG)
section
variable {X : Cx} {W : WW} {e a b c : Expr} {es : List Expr} {pos ps : Pos}
def asTK : D → Option (List Key)
  | .tup ds => asKeys ds
  | _ => none
def mPairsT (mk mv : M D) (ms : M (List (List Key × D))) : M (List (List Key × D)) := mk.bind fun k => mv.bind fun v => ms.bind fun r => lift ((asTK k).map fun kk => (kk, v) :: r)
def putsD (acc : List (List Key × D)) (more : List (List Key × D)) : List (List Key × D) := more.foldl (fun acc kv => putD acc kv.1 kv.2) acc
def mDispT (ms : M (List (List Key × D))) : M O := ms.bind fun es => if es.length ≤ 15 then ret (.t (putsD [] es)) else bad
@[simp] theorem ev_pairsT {mk mv : M D} {ms : M (List (List Key × D))} {g : G} {Q : List (List Key × D) → G → Prop} : Ev (mPairsT mk mv ms) g Q ↔ Ev mk g fun k g1 => Ev mv g1 fun v g2 => Ev ms g2 fun r g3 => ∃ kk, asTK k = some kk ∧ Q ((kk, v) :: r) g3 := by
  unfold mPairsT
  simp only [ev_bind]
  refine ⟨fun h => h.mono fun k g1 q => q.mono fun v g2 z => z.mono fun r g3 y => ?_, fun h => h.mono fun k g1 q => q.mono fun v g2 z => z.mono fun r g3 ⟨kk, e, y⟩ => ?_⟩
  · cases e : asTK k with
    | none =>
      rw [e] at y
      obtain ⟨_, _, z, _⟩ := y
      cases z
    | some kk =>
      rw [e] at y
      exact ⟨kk, rfl, ev_lift_some.mp y⟩
  · rw [e]
    exact ev_lift_some.mpr y
@[simp] theorem ev_dispT {ms : M (List (List Key × D))} {g : G} {Q : O → G → Prop} : Ev (mDispT ms) g Q ↔ Ev ms g fun es g1 => es.length ≤ 15 ∧ Q (.t (putsD [] es)) g1 := by
  unfold mDispT
  simp only [ev_bind]
  refine ⟨fun h => h.mono fun es g1 q => ?_, fun h => h.mono fun es g1 ⟨e, q⟩ => ?_⟩
  · rw [ev_ite] at q
    split at q
    · rename_i e
      exact ⟨e, ev_ret.mp q⟩
    · exact (ev_bad.mp q).elim
  · rw [if_pos e]
    exact ev_ret.mpr q
end
end Mo
set_option Elab.async false
set_option linter.all false
set_option maxRecDepth 100000
set_option maxHeartbeats 4000000
/-! Mo: y = {k: v for ..} on one line. -/
namespace Mo
open PySem PySem.Spec PySem.Calls L2 PyProof.Rows
end Mo
set_option Elab.async false
set_option linter.all false
set_option maxRecDepth 100000
set_option maxHeartbeats 4000000
/-! Mo: == of own classes as a test; list * int, text * int; xs[i] = v of an own list. -/
namespace L2
open PySem PySem.Spec PyProof.Rows
/-- a text times a number -/
def rTimesT : R2 := fun x y H Q => ∃ z k, x = .str z ∧ y = .int k ∧ 0 ≤ k ∧ k < 2 ^ 40 ∧ z.length * k.toNat ≤ 1000000 ∧ Q (.str (Txt.mul z k)) H
theorem op_timesT {X : Cx} : OpR X (binaryOp .Mult) rTimesT := by
  intro pins s σ H x y v u Q I rx ry h
  obtain ⟨z, k, rfl, rfl, h1, h2, hz, q⟩ := h
  obtain ⟨t1, rfl⟩ := rx
  obtain ⟨t2, rfl⟩ := ry
  refine SB.mul ⟨?_, fun a b => ?_, fun a b => ?_⟩ fun t' k' => ⟨.str (Txt.mul z k), H, I.tok _, ⟨_, rfl⟩, q⟩
  · rw [decide_eq_false (show ¬ k < -(2 ^ 63 : Int) by omega), decide_eq_false (show ¬ k ≥ 2 ^ 63 by omega)]
    rfl
  · obtain ⟨n, rfl⟩ := Int.eq_ofNat_of_zero_le h1
    have hn : 0 < (n : Int) := by omega
    intro c
    have c2 : (2 ^ 63 - 1 : Int) < (z.length : Int) * (n : Int) := by
      have := Int.lt_mul_of_ediv_lt hn (show (2 ^ 63 - 1 : Int) / (n : Int) < z.length from c)
      omega
    rw [Int.toNat_natCast] at hz
    have : ((z.length * n : Nat) : Int) = (z.length : Int) * (n : Int) := by simp
    omega
  · rw [show Builtin.Str.tooLong (z.length * k.toNat) = decide (z.length * k.toNat > sizeLine) from rfl]
    exact decide_eq_false (by rw [sizeLine_eq]; omega)
end L2
namespace Mo
open PySem PySem.Spec PySem.Calls L2 PyProof.Rows
open Lp (FnG)
section
variable {X : Cx} {W : WW} {a b e : Expr} {es : List Expr} {pos ps : Pos} {C ff : Addr} {k : Nat} {fd : FuncData} {qs : List Str} {sp : Sp}
/-! ### == of own classes, as a test -/
def mtEqI (neg : Bool) (C : Addr) (F : FD) (ma mb : M D) : M Bool := ma.bind fun x => mb.bind fun y => match x, y with
  | .ins C1 fs, .ins C2 gs => if C1 = C ∧ C2 = C then (liftC (F [.ins C fs, .ins C gs])).bind fun v => (match v with
    | .bl t => ret (bif neg then !t else t)
    | _ => bad) else bad
  | _, _ => bad
@[simp] theorem ev_teqI {neg : Bool} {F : FD} {ma mb : M D} {g : G} {Q : Bool → G → Prop} : Ev (mtEqI neg C F ma mb) g Q ↔ Ev ma g fun x g1 => Ev mb g1 fun y g2 => ∃ fs gs, x = .ins C fs ∧ y = .ins C gs ∧ ∃ t c', F [.ins C fs, .ins C gs] g2.c = some (.bl t, c') ∧ Q (bif neg then !t else t) ⟨g2.s, c'⟩ := by
  unfold mtEqI
  simp only [ev_bind]
  refine ⟨fun h => h.mono fun x g1 q => q.mono fun y g2 z => ?_, fun h => h.mono fun x g1 q => q.mono fun y g2 ⟨fs, gs, e1, e2, t, c', e3, z⟩ => ?_⟩
  · cases x <;> first | exact (ev_bad.mp z).elim | skip
    cases y <;> first | exact (ev_bad.mp z).elim | skip
    rename_i C1 fs C2 gs
    dsimp only at z
    rw [ev_ite] at z
    split at z
    · rename_i hC
      obtain ⟨e1, e2⟩ := hC
      subst e1 e2
      refine ⟨fs, gs, rfl, rfl, ?_⟩
      obtain ⟨d, c', e, z⟩ := ev_liftC.mp (ev_bind.mp z)
      cases d <;> first | exact (ev_bad.mp z).elim | skip
      exact ⟨_, c', e, ev_ret.mp z⟩
    · exact (ev_bad.mp z).elim
  · subst e1 e2
    dsimp only
    rw [if_pos ⟨rfl, rfl⟩]
    exact ev_bind.mpr (ev_liftC.mpr ⟨_, _, e3, ev_ret.mpr z⟩)
/-! ### list * number, text * number -/
def uTimesT : D → D → Option D
  | .str z, .int k => if 0 ≤ k ∧ k < 2 ^ 40 ∧ z.length * k.toNat ≤ 1000000 then some (.str (Txt.mul z k)) else none
  | _, _ => none
theorem os_timesT {K : PySem.W.Frag} : OpS K rTimesT uTimesT := fun J p g σ H v w x y z Q R0 rv rw' e q => by
  unfold uTimesT at e
  split at e
  · split at e
    · rename_i hl
      cases e
      cases rep_str rv
      cases rep_int rw'
      exact ⟨_, _, rfl, rfl, hl.1, hl.2.1, hl.2.2, q p H .refl R0 _ (.str _)⟩
    · cases e
  · cases e
theorem e_timesT {ma mb : M D} (ha : EF X W a ma) (hb : EF X W b mb) : EF X W (.BinOp a .Mult b pos) (mBin uTimesT ma mb) := e_bin op_timesT os_timesT ha hb
end
/-! ### xs[i] = v, xs the def's own list -/
end Mo
set_option Elab.async false
set_option linter.all false
set_option maxRecDepth 100000
set_option maxHeartbeats 4000000
/-! Mo: == of two dicts whose keys are tuples and whose values are numbers. -/
namespace L2
open PySem PySem.Spec PyProof.Rows
end L2
namespace Mo
open PySem PySem.Spec PySem.Calls L2 PyProof.Rows
end Mo
set_option Elab.async false
set_option linter.all false
set_option maxRecDepth 100000
set_option maxHeartbeats 4000000
/-! Mo: zip(e, text), e a list or a tuple. -/
namespace Mo
open PySem PySem.Spec L2
open PyProof.Rows hiding St
section
variable {P : Program} {w : World} {K : PySem.W.Frag}
theorem si_keep {h h' : Heap} {it : Addr} {ty : String} {x : Str} {t : Tok} {i : Nat} (z : h.IsStrIter it ty x t i) (kp : ∀ o, h.get? it = some o → h'.get? it = some o) : h'.IsStrIter it ty x t i := by
  obtain ⟨o, e, r⟩ := z
  exact ⟨o, kp o e, r⟩
theorem si_obj {h : Heap} {it : Addr} {ty : String} {x : Str} {t : Tok} {i : Nat} (z : h.IsStrIter it ty x t i) : ∃ o, h.get? it = some o ∧ ∀ v, o.data ≠ .cell v := by
  obtain ⟨o, e, _, d⟩ := z
  exact ⟨o, e, fun v q => by rw [d] at q; cases q⟩
end
def chV (x : Str) : List V := x.cps.toList.map fun c => V.str ⟨#[c]⟩
theorem chV_at {x : Str} {i : Nat} {c : Nat} (h : x.cps[i]? = some c) : (chV x)[i]? = some (.str ⟨#[c]⟩) := by
  unfold chV
  rw [List.getElem?_map, Array.getElem?_toList, h]
  rfl
section
variable {X : Cx} {W : WW} {a b : Expr} {pos ps : Pos}
def chD (x : Str) : List D := x.cps.toList.map fun c => D.str ⟨#[c]⟩
theorem reps_ch {K : PySem.W.Frag} {H : Hp} (x : Str) : Reps K H (chV x) (chD x) := by
  unfold chV chD
  generalize x.cps.toList = l
  induction l with
  | nil => exact .nil
  | cons c r ih => exact .cons (.str _) ih
end
end Mo
set_option Elab.async false
set_option linter.all false
set_option maxRecDepth 100000
set_option maxHeartbeats 4000000
/-! Mo: list(d) of a dict with tuples for keys. -/
namespace Mo
open PySem PySem.Spec PySem.Calls L2 PyProof.Rows
end Mo
set_option Elab.async false
set_option linter.all false
set_option maxRecDepth 100000
set_option maxHeartbeats 4000000
/-! Mo: dict(xs) of a list of pairs whose keys are tuples. -/
namespace Mo
open PySem PySem.Spec PySem.Calls L2 PyProof.Rows
end Mo
set_option Elab.async false
set_option linter.all false
set_option maxRecDepth 100000
set_option maxHeartbeats 4000000
/-! Mo: list(d), d the def's own dict with tuples for keys. -/
namespace Mo
open PySem PySem.Spec PySem.Calls L2 PyProof.Rows
end Mo
set_option Elab.async false
set_option linter.all false
set_option maxRecDepth 100000
set_option maxHeartbeats 4000000
/-! Mo: len(d) of a dict with tuples for keys. -/
namespace Mo
open PySem PySem.Spec PySem.Calls L2 PyProof.Rows
end Mo
set_option Elab.async false
set_option linter.all false
set_option maxRecDepth 100000
set_option maxHeartbeats 4000000
/-! Mo: a | b, a + b, a * b of a class with own methods for them. -/
namespace Mo
open PySem PySem.Spec PySem.Calls L2 PyProof.Rows
open Lp (FnG okN callG)
/-- what the text's class tells of an operator -/
structure BinC (K : PySem.W.Frag) (op : Operator) (C f : Addr) : Prop where
  sp : SpecM K C (PySem.dunder op.info.2) f
  own : PySem.W.selfFirst K C = true
section
variable {X : Cx} {W : WW} {a b : Expr} {pos : Pos} {C ff : Addr} {k : Nat} {fd : FuncData} {qs : List Str} {sp : Sp} {op : Operator}
def rOwnBin (C : Addr) (sp : Sp) : R2 := fun x y H Q => ∃ (p q dx dy : Addr) (fs gs : List (Str × V)), x = .ref p ∧ y = .ref q ∧ H p = some (.ins C dx fs) ∧ H q = some (.ins C dy gs) ∧
  sp [.ref p, .ref q] H Q fun _ _ _ => False
theorem own_bin_call {pins : List (Addr × Obj)} {σ : L2.St} {H : Hp} {s : Shared} {p q : Addr} {Q : VK} {B : Around} {E' : Value → Shared → Prop} (F : FnG X.prog X.w X.K X.mg X.base CX0 k ff fd qs sp) (hr : Room k B) (hgd : B.guards = some []) (e0 : Env0 X.prog X.w X.K X.mg X.base B X.stack s H) (hb : Binds X.K fd qs [])
    (I : Inv X pins σ H s) (h : sp [.ref p, .ref q] H Q fun _ _ _ => False) : wpAny (model X.prog X.w) B (call (.ref ff) [.ref p, .ref q]) (PySem.W.CmpBack (EP X pins σ Q)) E' s := by
  have rv : Vals [V.ref p, V.ref q] [Value.ref p, Value.ref q] := .cons rfl (.cons rfl .nil)
  have bt := hb s [.ref p, .ref q] I.kIn (by rw [List.append_nil, ← rv.length]; exact F.len _ _ _ _ h)
  rw [List.append_nil] at bt
  refine wpAny_call (codeAny_mono (F.go B X.stack s H ⟨[.ref p, .ref q], []⟩ _ _ _ _ hr hgd e0 bt rv h) fun o s2 w2 => ?_)
  match o, w2 with
  | .error e, w2 => exact False.elim (pass0 (X := X.nox) pins σ H s e s2 (I.wish _) w2)
  | .ok (.ret u), w2 =>
    obtain ⟨v, H', I3, rv3, q3⟩ := I.after w2
    cases u <;> first | exact ⟨v, H', I3, rv3, q3⟩ | (exfalso; cases v <;> first | (cases rv3; done) | (obtain ⟨_, z⟩ := rv3; cases z))
theorem op_own_bin (c : BinC X.K op C ff) (F : FnG X.prog X.w X.K X.mg X.base CX0 k ff fd qs sp) (hr : Room (k + 1) X.A) (hgd : X.A.guards = some []) (hb : Binds X.K fd qs []) : OpR X (binaryOp op) (rOwnBin C sp) := by
  intro pins s σ H x y v u Q I rx ry hq
  obtain ⟨p, q, dx, dy, fs, gs, rfl, rfl, hp, hq', h⟩ := hq
  cases rx
  cases ry
  obtain ⟨mA, O, _⟩ := ins_get I.hok hp
  obtain ⟨mB, O', _⟩ := ins_get I.hok hq'
  obtain ⟨od, J, _⟩ := O.look
  obtain ⟨od', J', _⟩ := O'.look
  obtain ⟨mm, hF⟩ := I.fr
  exact PySem.W.binop_K hF I.ok.mod.kin J J'.type c.own c.sp.at_ c.sp.fn (own_bin_call F (hr.mono (Nat.le_succ _)) hgd I.env0 hb I h)
/-- on data -/
def mBinI (C : Addr) (F : FD) (ma mb : M D) : M D := ma.bind fun x => mb.bind fun y => match x, y with
  | .ins C1 fs, .ins C2 gs => if C1 = C ∧ C2 = C then liftC (F [.ins C fs, .ins C gs]) else bad
  | _, _ => bad
theorem own_bin_data {F : FD} {ma mb : M D} (ho : OpR X (binaryOp op) (rOwnBin C (spM X.K false F))) (ha : EF X W a ma) (hb : EF X W b mb) : EF X W (.BinOp a op b pos) (mBinI C F ma mb) := fun J p g σ H R0 r hm' Q hp =>
  of_pe (pe_op ho semE semE) (ha.then R0 hm' hp fun x g1 p1 H1 v ad1 R1 rv hm1 hp1 => hb.then R1 hm1 hp1 fun y g2 p2 H2 w ad2 R2 rw' hm2 hp2 => by
    cases x <;> first | (cases hm2; done) | skip
    cases y <;> first | (cases hm2; done) | skip
    rename_i C1 fs C2 gs
    dsimp only at hm2
    split at hm2
    · rename_i hC
      obtain ⟨e1, e2⟩ := hC
      subst e1 e2
      have rv2 := rv.le ad2.le
      obtain ⟨a1, dx, vs, rfl, h1, h2⟩ := rep_ins rv2
      obtain ⟨a2, dy, us, rfl, h3, h4⟩ := rep_ins rw'
      unfold liftC at hm2
      cases e1 : F [.ins C2 fs, .ins C2 gs] g2.c with
      | none => rw [e1] at hm2; cases hm2
      | some z =>
        obtain ⟨d, c'⟩ := z
        rw [e1] at hm2
        refine ⟨a1, a2, dx, dy, vs, us, rfl, rfl, del_of h1, del_of h3, p2, g2.c, [.ins C2 fs, .ins C2 gs], [.ref a1, .ref a2], d, c', rfl, R2.hd, .cons rv2 (.cons rw' .nil), e1, fun v J2 af rv3 => ?_⟩
        obtain ⟨R3, ad3⟩ := R2.after af
        cases hm2
        exact hp2 p2 J2 ad3 R3 _ rv3
    · cases hm2)
theorem e_binI {F : FD} {ma mb : M D} (c : BinC X.K op C ff) (hF : FnG X.prog X.w X.K X.mg X.base CX0 k ff fd qs (spM X.K false F)) (hr : Room (k + 1) X.A) (hgd : X.A.guards = some []) (hq : Binds X.K fd qs []) (ha : EF X W a ma) (hb : EF X W b mb) :
    EF X W (.BinOp a op b pos) (mBinI C F ma mb) := own_bin_data (op_own_bin c hF hr hgd hq) ha hb
end
theorem ev_binI {C : Addr} {F : FD} {ma mb : M D} {g : G} {Q : D → G → Prop} (h : Ev ma g fun x g1 => Ev mb g1 fun y g2 => ∃ fs gs, x = .ins C fs ∧ y = .ins C gs ∧ ∃ v c', F [.ins C fs, .ins C gs] g2.c = some (v, c') ∧ Q v ⟨g2.s, c'⟩) : Ev (mBinI C F ma mb) g Q := by
  unfold mBinI
  refine ev_bind.mpr (h.mono fun x g1 h => ev_bind.mpr (h.mono fun y g2 h => ?_))
  obtain ⟨fs, gs, rfl, rfl, v, c', e, q⟩ := h
  show Ev (if C = C ∧ C = C then liftC (F [.ins C fs, .ins C gs]) else bad) g2 Q
  rw [if_pos ⟨rfl, rfl⟩]
  exact ev_liftC.mpr ⟨v, c', e, q⟩
end Mo
set_option Elab.async false
set_option linter.all false
set_option maxRecDepth 100000
set_option maxHeartbeats 4000000
/-! Mo: return y, y the def's own thing, given away. -/
namespace Mo
open PySem PySem.Spec PySem.Calls L2 PyProof.Rows
end Mo
set_option Elab.async false
set_option linter.all false
set_option maxRecDepth 100000
set_option maxHeartbeats 4000000
/-! Mo: a set of texts as a value: set(xs), sorted(s), len(s); a << b, a | b of numbers. -/
namespace Mo
open PySem PySem.Spec PySem.Calls L2 PyProof.Rows
open Lp
end Mo
namespace Mo
open PySem PySem.Spec PySem.Calls L2 PyProof.Rows
open Lp
end Mo
set_option Elab.async false
set_option linter.all false
set_option maxRecDepth 100000
set_option maxHeartbeats 4000000
/-! Mo: list comprehensions with two for; what the second goes over is a list, a tuple or a text. -/
namespace Mo
open PySem PySem.Spec L2
/-- as Ad, the slots' values may change, too -/
structure Adv (g0 : G) (σ0 : St) (p1 : Mt) (H1 : Hp) (g : G) (σ : St) (p : Mt) (H : Hp) : Prop where
  dd : p.d = p1.d
  le : Le (del p1 H1) (del p H)
  ex : ∀ a ∈ p1.o, NoSl g0 σ0 a → a ∈ p.o ∧ H a = H1 a
  sl : ∀ a, NoSl g0 σ0 a → NoSl g σ a
  th : ∀ a, H1 a ≠ none → H a ≠ none
section
variable {g0 g g' : G} {σ0 σ σ' : St} {p1 p p' : Mt} {H1 H H' : Hp} {q : Addr} {u : HO}
theorem Adv.refl : Adv g0 σ0 p1 H1 g0 σ0 p1 H1 := ⟨rfl, .refl _, fun _ h _ => ⟨h, rfl⟩, fun _ h => h, fun _ h => h⟩
theorem Adv.ad (a : Adv g0 σ0 p1 H1 g σ p H) (b : Ad g σ p H g' p' H') : Adv g0 σ0 p1 H1 g' σ p' H' := ⟨b.dd.trans a.dd, a.le.trans b.le, fun x hx n => by
    obtain ⟨h1, h2⟩ := a.ex x hx n
    obtain ⟨h3, h4⟩ := b.ex x h1 (a.sl x n)
    exact ⟨h3, h4.trans h2⟩, fun x n => b.sl x (a.sl x n), fun x n => b.th x (a.th x n)⟩
theorem Adv.wipe (a : Adv g0 σ0 p1 H1 g σ p H) (vs : List Nat) : Adv g0 σ0 p1 H1 (wipeG g vs) (L2.wipe σ vs) p H := ⟨a.dd, a.le, a.ex, fun x n => (a.sl x n).wipe vs, a.th⟩
theorem Adv.put (a : Adv g0 σ0 p1 H1 g σ p H) (hq : H1 q = none) (lv : ∀ a ∈ p1.o, H1 a ≠ none) (le : Le (del p H) (del p (upd H q u))) : Adv g0 σ0 p1 H1 g σ p (upd H q u) := ⟨a.dd, a.le.trans le, fun x hx n => by
    obtain ⟨h1, h2⟩ := a.ex x hx n
    exact ⟨h1, by rw [upd_ne fun z : x = q => lv x hx (by rw [z]; exact hq)]; exact h2⟩, a.sl, fun x n => by
    by_cases z : x = q
    · rw [z, upd_same]
      exact Option.some_ne_none _
    · rw [upd_ne z]
      exact a.th x n⟩
end
/-! ### what the inner for goes over -/
def iterS : D → Option (List D)
  | .lst ds => some ds
  | .tup ds => some ds
  | .str x => some (chars x)
  | _ => none
def mIterS (m : M D) : M (List D) := m.bind fun d => lift (iterS d)
section
variable {X : Cx} {W : WW} {it tg it1 tg1 : Expr} {pos : Pos}
def lcGo2 (vs vs1 : List Nat) (f : D → G → Option G) (mt : M Bool) (mi1 : M (List D)) (f1 : D → G → Option G) (mt1 : M Bool) (me : M D) : List D → List D → M (List D)
  | [], acc => ret acc
  | d :: ds, acc => fun g => match f d g with
    | none => none
    | some g1 => match mt g1 with
      | some (.ok true g2) => match mi1 g2 with
        | some (.ok es g3) => match lcGo vs1 f1 mt1 me es acc (wipeG g3 vs1) with
          | some (.ok acc2 g4) => lcGo2 vs vs1 f mt mi1 f1 mt1 me ds acc2 (wipeG g4 vs)
          | _ => none
        | _ => none
      | some (.ok false g2) => lcGo2 vs vs1 f mt mi1 f1 mt1 me ds acc (wipeG g2 vs)
      | _ => none
def mLc2 (vs vs1 : List Nat) (mi : M (List D)) (f : D → G → Option G) (mt : M Bool) (mi1 : M (List D)) (f1 : D → G → Option G) (mt1 : M Bool) (me : M D) : M O :=
  mi.bind fun ds g1 => if noOwn vs g1 = true then lcEnd vs g1 .l (lcGo2 vs vs1 f mt mi1 f1 mt1 me ds [] (wipeG g1 vs)) else none
end
end Mo
set_option Elab.async false
set_option linter.all false
set_option maxRecDepth 100000
set_option maxHeartbeats 4000000
/-! Mo: list(d.values()), dict(d.items()); x, y = e, f where a name is a cell. -/
namespace Mo
open PySem PySem.Spec PySem.Calls L2 PyProof.Rows
/-! ### of the def's own -/
end Mo
set_option Elab.async false
set_option linter.all false
set_option maxRecDepth 100000
set_option maxHeartbeats 4000000
/-! Mo: d != e of two dicts with plain keys and whole numbers, where they are alike. -/
namespace Mo
open PySem PySem.Spec PySem.Calls L2 PyProof.Rows
end Mo
/-! ### isinstance(e, C), C a class of one's own, e of a type that is none of it -/
namespace Mo
open PySem PySem.Spec L2
/-- the types of which no thing is a C -/
structure NotIn (K : PySem.W.Frag) (C : Addr) : Prop where
  no : ∀ n : String, n ∈ ["NoneType", "bool", "int", "str", "list", "tuple", "dict"] → PySem.W.kitOne K (.type n) (.ref C) = some false
def fIsN (C : Addr) (d : D) : Option D := (fIsC C d).or ((tyN d).map fun _ => .bl false)
def mIsN (C : Addr) (m : M D) : M D := m.bind fun d => lift (fIsN C d)
theorem tyN_in {d : D} {n : String} (h : tyN d = some n) : n ∈ ["NoneType", "bool", "int", "str", "list", "tuple", "dict"] := by
  cases d <;> simp only [tyN] at h <;> first | (cases h; done) | (cases h; decide)
def rIsDC (K : PySem.W.Frag) (C : Addr) : List V → Hp → VK → Prop := fun xs H Q => ∃ (a : Addr) (n : String) (b : Bool), xs = [.ref a, .ref C] ∧ (((∃ kvs : List (List Key × V), Rd H a (.dT kvs)) ∧ n = "dict") ∨ ((∃ ys : List V, Rd H a (.lst ys)) ∧ n = "list")) ∧ PySem.W.kitOne K (.type n) (.ref C) = some b ∧ Q (.bl b) H
theorem call_isDC {X : Cx} {C : Addr} : CallR X (.builtin "isinstance") (rIsDC X.K C) := by
  intro pins s σ H xs us Q I r h
  obtain ⟨a, n, b, rfl, hr, e, q⟩ := h
  obtain ⟨u1, u2, rfl, r1, r2⟩ := L2.vals2 r
  cases (show u1 = Value.ref a from r1)
  cases (show u2 = Value.ref C from r2)
  rcases hr with ⟨⟨kvs, hr⟩, rfl⟩ | ⟨⟨ys, hr⟩, rfl⟩
  · obtain ⟨_, _, xs, _, o, es, ep, h1, h2, _⟩ := dt_rd I.hok hr
    exact PySem.W.kia_one PySem.W.kitx_dict I.kIn ⟨o, h1, h2.1⟩ e (fun z => nomatch z) fun tk => ⟨.bl b, H, I.kept (t' := tk) fun _ _ z => z, rfl, q⟩
  · obtain ⟨z, its, n, r, e2⟩ := hr.ok I.hok
    exact PySem.W.kia_one PySem.W.kitx_list I.kIn ⟨_, e2, rfl⟩ e (fun z => nomatch z) fun tk => ⟨.bl b, H, I.kept (t' := tk) fun _ _ z => z, rfl, q⟩
@[simp] theorem ev_isN {C : Addr} {m : M D} {g : G} {Q : D → G → Prop} : Ev (mIsN C m) g Q ↔ Ev m g fun d g1 => Ev (lift (fIsN C d)) g1 Q := by
  unfold mIsN
  simp
end Mo
/-! ### len of a dict, whatever its keys -/
namespace Mo
open PySem PySem.Spec L2
end Mo
set_option Elab.async false
set_option linter.all false
set_option maxRecDepth 100000
set_option maxHeartbeats 4000000
set_option exponentiation.threshold 9000
/-! Lw, part one: what all laws have in common: the dice. -/
namespace Lw
open PySem PySem.Spec L2 Mo
/-- the dice, rolled at most N times -/
def Di (c : C3) (N : Nat) : Prop := ∃ a b n : Int, c = .l [.int a, .int b, .int n] ∧ 0 ≤ a ∧ a < 10 ^ 120 ∧ 0 ≤ b ∧ b < 10 ^ 12 ∧ 0 ≤ n ∧ n ≤ N
theorem Di.mono {c : C3} {N N' : Nat} (h : Di c N) (l : N ≤ N') : Di c N' := by
  obtain ⟨a, b, n, e, h1, h2, h3, h4, h5, h6⟩ := h
  exact ⟨a, b, n, e, h1, h2, h3, h4, h5, by omega⟩
theorem log_le {i : Int} {k : Nat} (h0 : 0 ≤ i) (h : i < 2 ^ k) (hk : 0 < k) : i.natAbs.log2 < k := by
  have : i.natAbs < 2 ^ k := by
    have e : ((2 ^ k : Nat) : Int) = 2 ^ k := by simp
    omega
  by_cases z : i.natAbs = 0
  · rw [z]
    exact hk
  · exact (Nat.log2_lt z).mpr this
def mRoll : M Oc := (seq (mIf (mT2 iGt (mIxD 0 (ret (.int 0))) (ret (.int 0))) (seq (mSet 4 (mBin uMod (mCall fInt1 (mCons (mIxD 0 (ret (.int 0))) (ret []))) (mName 1))) (seq (mIxPutD 0 0 (mBin uDiv (mIxD 0 (ret (.int 0))) (mName 1))) (seq (mRet (mName 4)) (ret .nx)))) (ret .nx)) (seq (mIxPutD 0 2 (mBin uPlus (mIxD 0 (ret (.int 2))) (ret (.int 1)))) (seq (mSet 2 (mBin uMod (mCall fInt1 (mCons (mBin uPlus (mIxD 0 (ret (.int 1))) (mBin uMul (ret (.int 7907)) (mIxD 0 (ret (.int 2))))) (ret []))) (ret (.int 2305843009213693907)))) (seq (mSet 3 (mBin uPlus (mBin uMul (mBin uMod (mCall fInt1 (mCons (mBin uPlus (mBin uMul (mName 2) (mName 2)) (mBin uMul (ret (.int 67)) (mIxD 0 (ret (.int 2))))) (ret []))) (ret (.int 2305843009213693921))) (ret (.int 6700417))) (mName 2))) (seq (mRet (mBin uMod (mCall fInt1 (mCons (mBin uDiv (mName 3) (ret (.int 32768))) (ret []))) (mName 1))) (ret .nx))))))
@[simp] theorem ix3_0 {x y z : D} : fIx (.lst [x, y, z]) (.int 0) = some x := rfl
@[simp] theorem ix3_1 {x y z : D} : fIx (.lst [x, y, z]) (.int 1) = some y := rfl
@[simp] theorem ix3_2 {x y z : D} : fIx (.lst [x, y, z]) (.int 2) = some z := rfl
theorem ixN3_0 : ixN 3 (0 : Int) = some 0 := rfl
theorem ixN3_2 : ixN 3 (2 : Int) = some 2 := rfl
/-- what a roll promises -/
def RollS (F : FD) : Prop := ∀ (c : C3) (N : Nat) (n : Int), Di c N → N ≤ 1000000 → 0 < n → n ≤ 10 ^ 60 → ∃ r c', F [.int n] c = some (.int r, c') ∧ 0 ≤ r ∧ r < n ∧ Di c' (N + 1)
theorem log_small {i : Int} (h0 : 0 ≤ i) (h : i < 10 ^ 130) : i.natAbs.log2 < 433 := log_le h0 (Int.lt_trans h (by decide)) (by decide)
theorem roll_spec : RollS (runM true 5 2 mRoll) := fun c N n ⟨a, b, k, e, a0, a1, b0, b1, k0, k1⟩ hN hn hn2 => by
  subst e
  suffices h : ∃ d c', runM true 5 2 mRoll [.int n] (.l [.int a, .int b, .int k]) = some (d, c') ∧ ∃ r, d = .int r ∧ 0 ≤ r ∧ r < n ∧ Di c' (N + 1) by
    obtain ⟨d, c', e, r, rfl, h⟩ := h
    exact ⟨r, c', e, h⟩
  refine run_ev rfl ?_
  have hm1 : ∀ {x : Int}, uMod (.int x) (.int n) = some (.int (x % n)) := uMod_int hn
  have hd1 : ∀ {x : Int}, uDiv (.int x) (.int n) = some (.int (x / n)) := uDiv_int ⟨hn, Nat.lt_trans (log_small (Int.le_of_lt hn) (Int.lt_of_le_of_lt hn2 (by decide))) (by decide)⟩
  have hm2 : ∀ {x : Int}, uMod (.int x) (.int 2305843009213693907) = some (.int (x % 2305843009213693907)) := uMod_int (by decide)
  have hm3 : ∀ {x : Int}, uMod (.int x) (.int 2305843009213693921) = some (.int (x % 2305843009213693921)) := uMod_int (by decide)
  have hd2 : ∀ {x : Int}, uDiv (.int x) (.int 32768) = some (.int (x / 32768)) := uDiv_int (by decide)
  have k2 : k + 1 < 10 ^ 130 := by omega
  have ml : ∀ {x y : Int}, 0 ≤ x → x < 10 ^ 130 → 0 ≤ y → y < 10 ^ 130 → uMul (.int x) (.int y) = some (.int (x * y)) := fun a b c d => uMul_int (by have := log_small a b; have := log_small c d; omega)
  have h1 := ml (x := 7907) (by decide) (by decide) (by omega : 0 ≤ k + 1) k2
  have h2 := ml (x := 67) (by decide) (by decide) (by omega : 0 ≤ k + 1) k2
  have r1 : ∀ x : Int, 0 ≤ x % 2305843009213693907 ∧ x % 2305843009213693907 < 2305843009213693907 := fun x => ⟨Int.emod_nonneg _ (by decide), Int.emod_lt_of_pos _ (by decide)⟩
  have r2 : ∀ x : Int, 0 ≤ x % 2305843009213693921 ∧ x % 2305843009213693921 < 2305843009213693921 := fun x => ⟨Int.emod_nonneg _ (by decide), Int.emod_lt_of_pos _ (by decide)⟩
  have h3 : ∀ {x : Int}, uMul (.int (x % 2305843009213693907)) (.int (x % 2305843009213693907)) = some (.int (x % 2305843009213693907 * (x % 2305843009213693907))) := fun {x} => ml (r1 x).1 (Int.lt_trans (r1 x).2 (by decide)) (r1 x).1 (Int.lt_trans (r1 x).2 (by decide))
  have h4 : ∀ {x : Int}, uMul (.int (x % 2305843009213693921)) (.int 6700417) = some (.int (x % 2305843009213693921 * 6700417)) := fun {x} => ml (r2 x).1 (Int.lt_trans (r2 x).2 (by decide)) (by decide) (by decide)
  simp [mRoll, ev_name_v, hm1, hd1, hm2, hm3, hd2, h1, h2, h3, h4, ixN3_0, ixN3_2]
  split
  · refine ⟨Int.emod_nonneg _ (by omega), Int.emod_lt_of_pos _ hn, a / n, b, k, rfl, Int.ediv_nonneg a0 (by omega), ?_, b0, b1, k0, by omega⟩
    exact Int.lt_of_le_of_lt (Int.ediv_le_self _ a0) a1
  · refine ⟨Int.emod_nonneg _ (by omega), Int.emod_lt_of_pos _ hn, a, b, k + 1, rfl, a0, a1, b0, b1, by omega, by omega⟩
end Lw
set_option Elab.async false
set_option linter.all false
set_option maxRecDepth 100000
set_option maxHeartbeats 4000000
set_option exponentiation.threshold 9000
/-! Lw, part two: dice made, picks, mixtures. -/
namespace Lw
open PySem PySem.Spec L2 Mo
def mDice : M Oc := (seq (mSet 2 (mIf (mT2 uLt (mName 1) (mCall fLen (mCons (mName 0) (ret [])))) (mCall fInt1 (mCons (mBin uIx (mName 0) (mName 1)) (ret []))) (mBin uPlus (mBin uMul (ret (.int 43)) (mName 1)) (ret (.int 7))))) (seq (mSet 3 (mBin uMod (mCall fAbs (mCons (mName 2) (ret []))) (mBin uPow (ret (.int 10)) (ret (.int 59))))) (seq (mSet 4 (mCall fMax2 (mCons (ret (.int 0)) (mCons (mBin uSub (mCall fAbs (mCons (mName 2) (ret []))) (mBin uPow (ret (.int 10)) (ret (.int 17)))) (ret []))))) (seq (mRetO (mLst (mCons (mBin uMod (mName 4) (mBin uMul (mBin uPow (ret (.int 10)) (ret (.int 60))) (mBin uPow (ret (.int 10)) (ret (.int 60))))) (mCons (mBin uPlus (mBin uPlus (mBin uPlus (mBin uMul (mBin uMod (mName 3) (ret (.int 2147483587))) (ret (.int 37))) (mBin uMul (ret (.int 601)) (mName 1))) (mBin uMul (ret (.int 11)) (mCall fInt1 (mCons (mBin uLt (mName 2) (ret (.int 0))) (ret []))))) (ret (.int 5))) (mCons (ret (.int 0)) (ret [])))))) (ret .nx)))))
theorem uIx_lst {xs : List D} {i : Int} (h0 : 0 ≤ i) (h1 : i < xs.length) : ∃ d, xs[i.toNat]? = some d ∧ uIx (.lst xs) (.int i) = some d := by
  have h2 : i.toNat < xs.length := by omega
  refine ⟨xs[i.toNat], List.getElem?_eq_getElem h2, ?_⟩
  show atI xs i = _
  have e := atI_nat (List.getElem?_eq_getElem h2)
  rw [Int.toNat_of_nonneg h0] at e
  exact e
theorem uPow_nat {i : Int} {j : Nat} (h : (j : Int) ≤ 1000000 ∧ i.natAbs < 2 ^ 64) : uPow (.int i) (.int (j : Int)) = some (.int (i ^ j)) := by
  show (if cPow i j = true then some (D.int (i ^ (j : Int).toNat)) else none) = _
  rw [if_pos (show cPow i j = true from decide_eq_true ⟨by omega, h.1, h.2⟩)]
  rfl
theorem pow59 : uPow (.int 10) (.int 59) = some (.int (10 ^ 59)) := uPow_nat (i := 10) (j := 59) (by decide)
theorem pow17 : uPow (.int 10) (.int 17) = some (.int (10 ^ 17)) := uPow_nat (i := 10) (j := 17) (by decide)
theorem pow60 : uPow (.int 10) (.int 60) = some (.int (10 ^ 60)) := uPow_nat (i := 10) (j := 60) (by decide)
@[simp] theorem fAbs_int {i : Int} : fAbs [.int i] = some (.int (if i < 0 then -i else i)) := rfl
@[simp] theorem fMax2_int {i j : Int} : fMax2 [.int i, .int j] = some (.int (if j > i then j else i)) := rfl
@[simp] theorem fMin2_int {i j : Int} : fMin2 [.int i, .int j] = some (.int (if j < i then j else i)) := rfl
@[simp] theorem fInt1_bl {b : Bool} : fInt1 [.bl b] = some (.int (if b then 1 else 0)) := rfl
def DiceS (F : FO) : Prop := ∀ (ns : List Int) (spot : Int) (c : C3), 0 ≤ spot → spot < 100 → ∃ o c', F [.lst (ns.map .int), .int spot] c = some (o, c') ∧ Di o 0
theorem dice_spec : DiceS (runO false 5 2 mDice) := fun ns spot c s0 s1 => by
  refine runO_ev rfl ?_
  have hm1 : ∀ {x : Int}, uMod (.int x) (.int (10 ^ 59)) = some (.int (x % 10 ^ 59)) := uMod_int (by decide)
  have hm2 : ∀ {x : Int}, uMod (.int x) (.int (10 ^ 60 * 10 ^ 60)) = some (.int (x % (10 ^ 60 * 10 ^ 60))) := uMod_int (by decide)
  have hm3 : ∀ {x : Int}, uMod (.int x) (.int 2147483587) = some (.int (x % 2147483587)) := uMod_int (by decide)
  have ml : ∀ {x y : Int}, 0 ≤ x → x < 10 ^ 130 → 0 ≤ y → y < 10 ^ 130 → uMul (.int x) (.int y) = some (.int (x * y)) := fun a b c d => uMul_int (by have := log_small a b; have := log_small c d; omega)
  have h1 : uMul (.int 43) (.int spot) = some (.int (43 * spot)) := ml (by decide) (by decide) s0 (by omega)
  have h2 : uMul (.int 601) (.int spot) = some (.int (601 * spot)) := ml (by decide) (by decide) s0 (by omega)
  have h3 : uMul (.int (10 ^ 60)) (.int (10 ^ 60)) = some (.int (10 ^ 60 * 10 ^ 60)) := ml (by decide) (by decide) (by decide) (by decide)
  have r3 : ∀ x : Int, 0 ≤ x % 2147483587 ∧ x % 2147483587 < 2147483587 := fun x => ⟨Int.emod_nonneg _ (by decide), Int.emod_lt_of_pos _ (by decide)⟩
  have h4 : ∀ {x : Int}, uMul (.int (x % 2147483587)) (.int 37) = some (.int (x % 2147483587 * 37)) := fun {x} => ml (r3 x).1 (Int.lt_trans (r3 x).2 (by decide)) (by decide) (by decide)
  have h5 : ∀ {x : Int}, uMul (.int 11) (.int (if x < 0 then 1 else 0)) = some (.int (11 * if x < 0 then 1 else 0)) := fun {x} => by
    split
    · exact ml (by decide) (by decide) (by decide) (by decide)
    · exact ml (by decide) (by decide) (by decide) (by decide)
  have fin : ∀ x : Int, Ev (seq (mSet 3 (mBin uMod (mCall fAbs (mCons (mName 2) (ret []))) (mBin uPow (ret (.int 10)) (ret (.int 59))))) (seq (mSet 4 (mCall fMax2 (mCons (ret (.int 0)) (mCons (mBin uSub (mCall fAbs (mCons (mName 2) (ret []))) (mBin uPow (ret (.int 10)) (ret (.int 17)))) (ret []))))) (seq (mRetO (mLst (mCons (mBin uMod (mName 4) (mBin uMul (mBin uPow (ret (.int 10)) (ret (.int 60))) (mBin uPow (ret (.int 10)) (ret (.int 60))))) (mCons (mBin uPlus (mBin uPlus (mBin uPlus (mBin uMul (mBin uMod (mName 3) (ret (.int 2147483587))) (ret (.int 37))) (mBin uMul (ret (.int 601)) (mName 1))) (mBin uMul (ret (.int 11)) (mCall fInt1 (mCons (mBin uLt (mName 2) (ret (.int 0))) (ret []))))) (ret (.int 5))) (mCons (ret (.int 0)) (ret [])))))) (ret .nx))))
      ⟨[.v (.lst (ns.map .int)), .v (.int spot), .v (.int x), .un, .un], c⟩ (RetO fun o _ => Di o 0) := fun x => by
    simp [ev_name_v, pow59, pow17, pow60, hm1, hm2, hm3, h2, h3, h4, h5, -Int.reducePow, -Int.reduceMul]
    refine ⟨by decide, _, _, 0, rfl, Int.emod_nonneg _ (by decide), ?_, ?_, ?_, Int.le_refl _, Int.le_refl _⟩
    · exact Int.emod_lt_of_pos _ (by decide)
    · have := (r3 ((if x < 0 then -x else x) % 10 ^ 59)).1
      split <;> omega
    · have := (r3 ((if x < 0 then -x else x) % 10 ^ 59)).2
      split <;> omega
  unfold mDice
  rw [ev_seq]
  by_cases hl : spot < ns.length
  · obtain ⟨d, e1, e2⟩ := uIx_lst (xs := ns.map .int) s0 (by rw [List.length_map]; exact hl)
    rw [List.getElem?_map] at e1
    cases e3 : ns[spot.toNat]? with
    | none => rw [e3] at e1; cases e1
    | some x =>
      rw [e3] at e1
      cases e1
      have := fin x
      simp only [ini_f, List.map_cons, List.map_nil, List.length_cons, List.length_nil]
      simp [ev_name_v, hl, e2] at this ⊢
      exact this
  · have := fin (43 * spot + 7)
    simp only [ini_f, List.map_cons, List.map_nil, List.length_cons, List.length_nil]
    simp [ev_name_v, hl, h1] at this ⊢
    exact this
end Lw
set_option Elab.async false
set_option linter.all false
set_option maxRecDepth 100000
set_option maxHeartbeats 4000000
/-! Lw, part three: picks, mixtures, some of a list. -/
namespace Lw
open PySem PySem.Spec L2 Mo
@[simp] theorem ex2 {α β : Type} {x : α} {y : β} {P : α → β → Prop} : (∃ a c, (x = a ∧ y = c) ∧ P a c) ↔ P x y := ⟨fun ⟨_, _, ⟨h1, h2⟩, p⟩ => h1 ▸ h2 ▸ p, fun p => ⟨x, y, ⟨rfl, rfl⟩, p⟩⟩
def mPick (Fr : FD) : M Oc := (seq (mRet (mBin uIx (mName 1) (isDi 0 (mFn Fr (mCons (mCall fLen (mCons (mName 1) (ret []))) (ret [])))))) (ret .nx))
def PickS (F : FD) : Prop := ∀ (c : C3) (N : Nat) (xs : List D), Di c N → N ≤ 1000000 → xs ≠ [] → xs.length ≤ 1000000 → ∃ x c', F [.lst xs] c = some (x, c') ∧ x ∈ xs ∧ Di c' (N + 1)
theorem pick_spec {Fr : FD} (hr : RollS Fr) : PickS (runM true 2 2 (mPick Fr)) := fun c N xs h hN hx hl => by
  refine run_ev rfl ?_
  have h0 : 0 < xs.length := List.length_pos_iff.mpr hx
  obtain ⟨r, c', e, r0, r1, hd⟩ := hr c N xs.length h hN (by omega) (by omega)
  obtain ⟨d, e1, e2⟩ := uIx_lst (xs := xs) r0 r1
  simp [mPick, ev_name_v, e, e2]
  exact ⟨List.mem_of_getElem? e1, hd⟩
/-! ### mixtures -/
def mMixed (Fr : FD) : M Oc := (seq (mPar 2 3 (mXo (mCallO fList (mCons (mName 1) (ret [])))) (mXo (mLst (ret [])))) (seq (mFor (stName 4) (mWk fRng1 (mCons (mCall fLen (mCons (mName 1) (ret []))) (ret []))) (seq (mExpr (mLm1 3 fApp (mLm1 2 fPopAt (isDi 0 (mFn Fr (mCons (mLenQ 2) (ret []))))))) (ret .nx))) (seq (mRet (mName 3)) (ret .nx))))
theorem popAt {xs : List D} {i : Int} (h0 : 0 ≤ i) (h1 : i < xs.length) (hl : xs.length ≤ 1000000) : ∃ d, xs[i.toNat]? = some d ∧ fPopAt xs (.int i) = some (xs.eraseIdx i.toNat, d) := by
  have h2 : i.toNat < xs.length := by omega
  refine ⟨xs[i.toNat], List.getElem?_eq_getElem h2, ?_⟩
  have e : seqIndex? i xs.length = some i.toNat := by
    unfold seqIndex?
    have n : ¬ i < 0 := by omega
    simp [n, h0, h1]
  show (if -(2 ^ 63) ≤ i ∧ i < 2 ^ 63 then (match seqIndex? i xs.length with
    | some k => (xs[k]?).map fun d => (xs.eraseIdx k, d)
    | none => none) else none) = _
  rw [if_pos ⟨by omega, by omega⟩, e]
  simp only [List.getElem?_eq_getElem h2]
  rfl
theorem perm_pop : ∀ {xs : List D} {k : Nat} {d : D}, xs[k]? = some d → (d :: xs.eraseIdx k).Perm xs
  | [], k, d, h => by simp at h
  | x :: xs, 0, d, h => by
    simp at h
    subst h
    exact .refl _
  | x :: xs, k + 1, d, h => by
    rw [List.getElem?_cons_succ] at h
    exact (List.Perm.swap x d _).trans ((perm_pop h).cons x)
def MixS (F : FD) : Prop := ∀ (c : C3) (N : Nat) (xs : List D), Di c N → N + xs.length ≤ 1000000 → ∃ ys c', F [.lst xs] c = some (.lst ys, c') ∧ ys.Perm xs ∧ Di c' (N + xs.length)
theorem rngD_len {lo : Int} {n : Nat} : (rngD lo n).length = n := by unfold rngD; simp
theorem rng1_nat {n : Nat} (h : n ≤ 1000000) : fRng1 [.int (n : Int)] = some (rngD 0 n) := by
  dsimp only [fRng1]
  rw [if_pos ⟨by omega, by omega⟩, Int.toNat_natCast]
theorem fApp_ok {xs : List D} {d : D} (h : xs.length < sizeLine) : fApp xs d = some (xs ++ [d], .non) := if_pos h
theorem mixed_spec {Fr : FD} (hr : RollS Fr) : MixS (runM true 5 2 (mMixed Fr)) := fun c N xs h hN => by
  suffices hh : ∃ d c', runM true 5 2 (mMixed Fr) [.lst xs] c = some (d, c') ∧ ∃ ys, d = .lst ys ∧ ys.Perm xs ∧ Di c' (N + xs.length) by
    obtain ⟨d, c', e, ys, rfl, q⟩ := hh
    exact ⟨ys, c', e, q⟩
  refine run_ev rfl ?_
  have hrng := rng1_nat (n := xs.length) (by omega)
  have hls : fList [.lst xs] = some (.l xs) := rfl
  simp [mMixed, ev_name_v, hrng, hls]
  refine ev_loop (fun ds g => ∃ left found x c', g = ⟨[.di, .v (.lst xs), .o (.l left), .o (.l found), x], c'⟩ ∧ left.length = ds.length ∧ (found ++ left).Perm xs ∧ Di c' (N + found.length)) ?_ ?_ _ _ ⟨xs, [], _, c, rfl, by rw [rngD_len], .refl _, h⟩
  · rintro d r g ⟨left, found, x, c', rfl, hl, hp, hd⟩
    have hx : left.length ≤ xs.length := by have := hp.length_eq; simp at this; omega
    have hx2 : found.length ≤ xs.length := by have := hp.length_eq; simp at this; omega
    refine ⟨_, rfl, ?_⟩
    have hlp : 0 < left.length := by rw [hl]; simp
    obtain ⟨n, c2, e, n0, n1, hd2⟩ := hr c' _ left.length hd (by omega) (by omega) (by omega)
    obtain ⟨y, e1, e2⟩ := popAt n0 n1 (by omega)
    have ha := fApp_ok (d := y) (show found.length < sizeLine by rw [sizeLine_eq]; omega)
    simp [e, e2, ha]
    refine ⟨_, _, _, _, rfl, ?_, ?_, ?_⟩
    · have h2 : n.toNat < left.length := by omega
      rw [List.length_eraseIdx_of_lt h2, hl]
      simp
    · rw [List.append_assoc]
      exact (List.Perm.append_left found (perm_pop e1)).trans hp
    · rw [List.length_append, List.length_singleton, ← Nat.add_assoc]
      exact hd2
  · rintro g ⟨left, found, x, c', rfl, hl, hp, hd⟩
    have : left = [] := List.length_eq_zero_iff.mp hl
    subst this
    simp at hp
    have hlen := hp.length_eq
    simp [ev_name_o]
    exact ⟨found, rfl, hp, by rw [← hlen]; exact hd⟩
end Lw
set_option Elab.async false
set_option linter.all false
set_option maxRecDepth 100000
set_option maxHeartbeats 4000000
/-! Lw, part four: some of a list; names of states. -/
namespace Lw
open PySem PySem.Spec L2 Mo
@[simp] theorem wipeG_n {g : G} : wipeG g [] = g := rfl
@[simp] theorem wipeG_c' {g : G} {v : Nat} {vs : List Nat} : wipeG g (v :: vs) = (wipeG g vs).set v .un := rfl
@[simp] theorem backG_n {g0 g : G} : backG g0 g [] = g := rfl
@[simp] theorem backG_c {g0 g : G} {v : Nat} {vs : List Nat} : backG g0 g (v :: vs) = match g0.s[v]? with
  | some x => (backG g0 g vs).set v x
  | none => backG g0 g vs := rfl
@[simp] theorem od_l {xs : List D} : (O.l xs).d = .lst xs := rfl
@[simp] theorem od_k {xs : List (Key × D)} : (O.k xs).d = .dk xs := rfl
@[simp] theorem od_t {xs : List (List Key × D)} : (O.t xs).d = .dt xs := rfl
@[simp] theorem od_n {C : Addr} {xs : List (Str × D)} : (O.n C xs).d = .ins C xs := rfl
def sL (ss : List Str) : List D := ss.map .str
theorem sL_len {ss : List Str} : (sL ss).length = ss.length := List.length_map _
theorem pys_strs : ∀ ss : List Str, D.pys (sL ss) = some (ss.map .str)
  | [] => rfl
  | s :: r => by
    show (match D.py (.str s), D.pys (sL r) with | some x, some r => some (x :: r) | _, _ => none) = _
    rw [pys_strs r]
    rfl
def OkS (ss : List Str) : Prop := ∀ x ∈ ss, PyData.strOk x = true
theorem lay_strs : ∀ {ss : List Str}, OkS ss → PyData.canLayAll0 (ss.map .str) = true
  | [], _ => rfl
  | s :: ss, h => by
    show (PyData.canLay0 (.str s) && PyData.canLayAll0 (ss.map .str)) = true
    rw [lay_strs fun x m => h x (List.mem_cons_of_mem _ m)]
    show (PyData.strOk s && true) = true
    rw [h s List.mem_cons_self]
    rfl
theorem dep_strs : ∀ ss : List Str, PyData.depthAll (ss.map .str) = 0
  | [] => rfl
  | s :: ss => by simp [PyData.depthAll, PyData.depth, dep_strs ss]
@[simp] theorem fEq_int {neg : Bool} {i j : Int} : fEq neg (.int i) (.int j) = some (.bl (if neg then !(i == j) else (i == j))) := rfl
def SomeS (F : FD) : Prop := ∀ (c : C3) (N : Nat) (ss : List Str), Di c N → N + ss.length < 1000000 → ss ≠ [] → OkS ss → ∃ tt c', F [.lst (sL ss)] c = some (.lst (sL tt), c') ∧ tt.Sublist ss ∧ tt ≠ [] ∧ Di c' (N + ss.length + 1)
/-! ### names of states -/
def drawPool : List Str := ["s", "t", "p", "q", "qa", "first", "last", "arc", "zzzzzzzz", "u"]
def namePool : List Str := drawPool ++ ((["r", "c", "x", "xa", "xb", "xc", "xd", "xe", "y", "v"] : List Str) ++ ((["qb", "qc", "qd", "qe", "qf", "qg", "qh", "qi", "qj", "qk", "ql", "qm"] : List Str) ++ (["qn", "qo", "qp", "qq", "qr", "qs", "qt", "qu", "qv", "qw", "qx", "new", "later", "z", "e", "k", "a", "zz", "m", "b", "yy", "g", "h", "zzz"] : List Str)))
/-- strictly ascending names from the pool -/
structure NamesOk (ss : List Str) : Prop where
  up : ss.Pairwise fun x y => x.cps.toList < y.cps.toList
  mem : ∀ x ∈ ss, x ∈ namePool
  ne : ss ≠ []
  len : ss.length ≤ 24
theorem NamesOk.sub {ss tt : List Str} (h : NamesOk ss) (s : tt.Sublist ss) (n : tt ≠ []) : NamesOk tt := ⟨h.up.sublist s, fun x m => h.mem x (s.subset m), n, Nat.le_trans s.length_le h.len⟩
theorem pool_ok : OkS namePool := List.all_eq_true.mp (by decide +kernel : namePool.all PyData.strOk = true)
theorem NamesOk.ok {ss : List Str} (h : NamesOk ss) : OkS ss := fun x m => pool_ok x (h.mem x m)
theorem lt_of_leS {x y : Str} (h : leS x y = true) (n : x ≠ y) : x.cps.toList < y.cps.toList := by
  unfold leS at h
  have h1 : ¬ y.cps.toList < x.cps.toList := by simpa using h
  rcases Decidable.em (x.cps.toList < y.cps.toList) with h2 | h2
  · exact h2
  · exact absurd (str_ext (List.le_antisymm (List.not_lt.mp h1) (List.not_lt.mp h2))) n
theorem sortS_lt {ss : List Str} (nd : ss.Nodup) : (sortS ss).Pairwise fun x y => x.cps.toList < y.cps.toList := by
  have h1 := List.pairwise_mergeSort leS_trans leS_total ss
  have h2 : (sortS ss).Nodup := (List.mergeSort_perm ss leS).symm.nodup nd
  exact List.Pairwise.imp₂ (fun _ _ a b => lt_of_leS a b) h1 h2
def NamesS (F : FD) : Prop := ∀ (c : C3) (N : Nat) (n : Int), Di c N → N ≤ 200010 → 1 ≤ n → n ≤ 10 → ∃ tt c', F [.int n] c = some (.lst (sL tt), c') ∧ NamesOk tt ∧ (tt.length : Int) = n ∧ Di c' (N + 10)
end Lw
set_option Elab.async false
set_option linter.all false
set_option maxRecDepth 100000
set_option maxHeartbeats 4000000
/-! Lw, part five: a drawn machine. -/
namespace Lw
open PySem PySem.Spec L2 Mo
structure Arc where
  a : Str
  l : Str
  b : Str
  p : Int
def keyA (a l b : Str) : List Key := [.inr a, .inr l, .inr b]
def arcT (x : Arc) : List Key × D := (keyA x.a x.l x.b, .int x.p)
def sameA (x : Arc) (a l b : Str) : Prop := x.a = a ∧ x.l = l ∧ x.b = b
instance {x : Arc} {a l b : Str} : Decidable (sameA x a l b) := inferInstanceAs (Decidable (_ ∧ _ ∧ _))
theorem keyA_inj {a l b a' l' b' : Str} : keyA a l b = keyA a' l' b' ↔ a = a' ∧ l = l' ∧ b = b' := by
  unfold keyA
  simp
def putA (xs : List Arc) (a l b : Str) (p : Int) : List Arc := if (xs.any fun x => decide (sameA x a l b)) = true then xs.map (fun x => if sameA x a l b then ⟨x.a, x.l, x.b, p⟩ else x) else xs ++ [⟨a, l, b, p⟩]
theorem putD_arc {xs : List Arc} {a l b : Str} {p : Int} : putD (xs.map arcT) (keyA a l b) (.int p) = (putA xs a l b p).map arcT := by
  have e : ((xs.map arcT).any fun kv => decide (kv.1 = keyA a l b)) = xs.any fun x => decide (sameA x a l b) := by
    rw [List.any_map]
    refine congrArg (fun f => List.any xs f) (funext fun x => ?_)
    show decide (keyA x.a x.l x.b = keyA a l b) = _
    exact decide_eq_decide.mpr keyA_inj
  unfold putD putA
  rw [e]
  split
  · rw [List.map_map, List.map_map]
    refine List.map_congr_left fun x _ => ?_
    show (if keyA x.a x.l x.b = keyA a l b then (keyA x.a x.l x.b, D.int p) else arcT x) = arcT (if sameA x a l b then ⟨x.a, x.l, x.b, p⟩ else x)
    by_cases h : sameA x a l b
    · rw [if_pos h, if_pos (keyA_inj.mpr h)]
      rfl
    · rw [if_neg h, if_neg fun z => h (keyA_inj.mp z)]
  · rw [List.map_append]
    rfl
theorem putA_len {xs : List Arc} {a l b : Str} {p : Int} : (putA xs a l b p).length ≤ xs.length + 1 := by
  unfold putA
  split
  · simp
  · simp
/-- arcs as they come: the places differ, the names are known -/
structure ArcsOk (names signs : List Str) (xs : List Arc) : Prop where
  nd : xs.Pairwise fun x y => ¬ sameA x y.a y.l y.b
  at' : ∀ x ∈ xs, x.a ∈ names ∧ x.l ∈ signs ∧ x.b ∈ names ∧ 0 ≤ x.p ∧ x.p ≤ 9
theorem ArcsOk.put {names signs : List Str} {xs : List Arc} {a l b : Str} {p : Int} (h : ArcsOk names signs xs) (ha : a ∈ names) (hl : l ∈ signs) (hb : b ∈ names) (p0 : 0 ≤ p) (p9 : p ≤ 9) : ArcsOk names signs (putA xs a l b p) := by
  unfold putA
  split
  · refine ⟨?_, fun x m => ?_⟩
    · rw [List.pairwise_map]
      refine h.nd.imp fun {x y} n => ?_
      by_cases h1 : sameA x a l b <;> by_cases h2 : sameA y a l b <;> simp only [h1, h2, if_true, if_false] <;> exact n
    · obtain ⟨y, my, rfl⟩ := List.mem_map.mp m
      obtain ⟨h1, h2, h3, h4, h5⟩ := h.at' y my
      split
      · exact ⟨h1, h2, h3, p0, p9⟩
      · exact ⟨h1, h2, h3, h4, h5⟩
  · rename_i hn
    refine ⟨?_, fun x m => ?_⟩
    · rw [List.pairwise_append]
      refine ⟨h.nd, List.pairwise_singleton _ _, fun x m y my => ?_⟩
      cases List.mem_singleton.mp my
      intro z
      exact hn (List.any_eq_true.mpr ⟨x, m, decide_eq_true z⟩)
    · rcases List.mem_append.mp m with m | m
      · exact h.at' x m
      · cases List.mem_singleton.mp m
        exact ⟨ha, hl, hb, p0, p9⟩
def lets : List Str := ["a", "b", "c"]
/-- a machine of plain parts -/
structure Pl where
  fs : List Str
  ls : List Str
  arcs : List Arc
def Pl.d (p : Pl) : D := .dk [(.inr "firsts", .lst (sL p.fs)), (.inr "lasts", .lst (sL p.ls)), (.inr "arcs", .dt (p.arcs.map arcT))]
structure PlOk (p : Pl) (n : Nat) : Prop where
  fs : NamesOk p.fs
  ls : NamesOk p.ls
  all : ∃ names, NamesOk names ∧ names.length ≤ n ∧ (∀ x ∈ p.fs, x ∈ names) ∧ (∀ x ∈ p.ls, x ∈ names) ∧ ArcsOk names lets p.arcs
  few : p.arcs.length ≤ 1000
def mDrawn (Fr Fp Fn Fs : FD) : M Oc := (seq (mSet 3 (isDi 0 (mFn Fn (mCons (mBin uPlus (ret (.int 1)) (isDi 0 (mFn Fr (mCons (mName 1) (ret []))))) (ret []))))) (seq (mPar 4 5 (mXd (mSlU (frz (mLst (mCons (ret (.str "a")) (mCons (ret (.str "b")) (mCons (ret (.str "c")) (ret [])))))) (ret none) (mPart (mBin uPlus (ret (.int 1)) (isDi 0 (mFn Fr (mCons (mName 2) (ret [])))))))) (mXo (ret (.t [])))) (seq (mFor (stName 6) (mIter (mName 3)) (seq (mFor (stName 7) (mIter (mName 4)) (seq (mFor (stName 8) (mIter (mName 3)) (seq (mIf (mT2 (fEq false) (isDi 0 (mFn Fr (mCons (mBin uPlus (ret (.int 2)) (mCall fInt1 (mCons (mBin iGt (mCall fLen (mCons (mName 3) (ret []))) (ret (.int 2))) (ret [])))) (ret [])))) (ret (.int 0))) (seq (mDPut 5 (mTup (mCons (mName 6) (mCons (mName 7) (mCons (mName 8) (ret []))))) (isDi 0 (mFn Fp (mCons (frz (mLst (mCons (ret (.int 0)) (mCons (ret (.int 0)) (mCons (ret (.int 0)) (mCons (ret (.int 1)) (mCons (ret (.int 1)) (mCons (ret (.int 2)) (mCons (ret (.int 9)) (ret [])))))))))) (ret []))))) (ret .nx)) (ret .nx)) (ret .nx))) (ret .nx))) (ret .nx))) (seq (mRet (frz (mDisp (mPairs (ret (.str "firsts")) (isDi 0 (mFn Fs (mCons (mName 3) (ret [])))) (mPairs (ret (.str "lasts")) (isDi 0 (mFn Fs (mCons (mName 3) (ret [])))) (mPairs (ret (.str "arcs")) (mName 5) (ret []))))))) (ret .nx)))))
def DrawnS (F : FD) : Prop := ∀ (c : C3) (N : Nat) (n m : Int), Di c N → N ≤ 200000 → 1 ≤ n → n ≤ 10 → 1 ≤ m → m ≤ 3 → ∃ p c', F [.int n, .int m] c = some (Pl.d p, c') ∧ PlOk p n.toNat ∧ Di c' (N + 1000)
theorem uPut {xs : List Arc} {a l b : Str} {p : Int} (h : xs.length ≤ 1000) : putO (.t (xs.map arcT)) (.tup [.str a, .str l, .str b]) (.int p) = some (.t ((putA xs a l b p).map arcT)) := by
  show (match asKeys [.str a, .str l, .str b] with
    | some k => if (xs.map arcT).length < sizeLine then some (O.t (putD (xs.map arcT) k (.int p))) else none
    | none => none) = _
  show (if (xs.map arcT).length < sizeLine then some (O.t (putD (xs.map arcT) (keyA a l b) (.int p))) else none) = _
  rw [if_pos (by rw [List.length_map, sizeLine_eq]; omega), putD_arc]
theorem asKey_str {x : Str} : asKey (.str x) = some (.inr x) := rfl
theorem merge3 {x y z : D} : mergeD [] [(.inr "firsts", x), (.inr "lasts", y), (.inr "arcs", z)] = [(.inr "firsts", x), (.inr "lasts", y), (.inr "arcs", z)] := by
  have h1 : (Sum.inr "firsts" : Key) ≠ .inr "lasts" := by decide +kernel
  have h2 : (Sum.inr "firsts" : Key) ≠ .inr "arcs" := by decide +kernel
  have h3 : (Sum.inr "lasts" : Key) ≠ .inr "arcs" := by decide +kernel
  simp only [mergeD, List.foldl_cons, List.foldl_nil]
  unfold putD
  simp [h1, h2, h3]
theorem drawn_spec {Fr Fp Fn Fs : FD} (hr : RollS Fr) (hp : PickS Fp) (hn : NamesS Fn) (hs : SomeS Fs) : DrawnS (runM true 9 3 (mDrawn Fr Fp Fn Fs)) := fun c N n m h hN n1 n2 m1 m2 => by
  suffices hh : ∃ d c', runM true 9 3 (mDrawn Fr Fp Fn Fs) [.int n, .int m] c = some (d, c') ∧ ∃ p, d = Pl.d p ∧ PlOk p n.toNat ∧ Di c' (N + 1000) by
    obtain ⟨d, c', e, ys, rfl, q⟩ := hh
    exact ⟨ys, c', e, q⟩
  refine run_ev rfl ?_
  obtain ⟨r1, c1, e1, r10, r11, d1⟩ := hr c N n h (by omega) (by omega) (by omega)
  obtain ⟨names, c2, e2, no, nl, d2⟩ := hn c1 (N + 1) (1 + r1) d1 (by omega) (by omega) (by omega)
  obtain ⟨r3, c3, e3, r30, r31, d3⟩ := hr c2 _ m d2 (by omega) (by omega) (by omega)
  have hz : ∀ k : Nat, k ≤ 16 → k ≤ sizeLine := fun k h => by rw [sizeLine_eq]; omega
  have hsl : fSlL (.lst [.str "a", .str "b", .str "c"]) none (some (1 + r3)) = some (.l (sL (lets.take (1 + r3).toNat))) := by
    show some (O.l (cutD _ _ _)) = _
    unfold cutD
    obtain ⟨k, hk⟩ := Int.eq_ofNat_of_zero_le (by omega : 0 ≤ 1 + r3)
    rw [hk, HT.sIx_none, HT.sIx_nat]
    simp only [List.drop_zero, Nat.sub_zero, Int.toNat_natCast]
    have : k ≤ 3 := by omega
    rw [Nat.min_eq_left (by exact this)]
    unfold sL
    rw [List.map_take]
    rfl
  have hsl2 : fSlS (.lst [.str "a", .str "b", .str "c"]) none (some (1 + r3)) = none := rfl
  obtain ⟨signs, hsg, s1, s2⟩ : ∃ signs, lets.take (1 + r3).toNat = signs ∧ signs.length ≤ 3 ∧ ∀ x ∈ signs, x ∈ lets := ⟨_, rfl, by rw [List.length_take]; exact Nat.min_le_right _ _, fun x m => List.take_subset _ _ m⟩
  rw [hsg] at hsl
  have nl2 : names.length ≤ 10 := by omega
  have hpk : ∀ (c : C3) (N : Nat), Di c N → N ≤ 900000 → ∃ (i : Int) (c' : C3), Fp [.lst [.int 0, .int 0, .int 0, .int 1, .int 1, .int 2, .int 9]] c = some (.int i, c') ∧ 0 ≤ i ∧ i ≤ 9 ∧ Di c' (N + 1) := fun c N h hN => by
    obtain ⟨x, c', e, mm, h'⟩ := hp c N [.int 0, .int 0, .int 0, .int 1, .int 1, .int 2, .int 9] h (by omega) (by simp) (by simp)
    simp only [List.mem_cons, List.not_mem_nil, or_false] at mm
    have : ∃ i : Int, x = .int i ∧ 0 ≤ i ∧ i ≤ 9 := by
      rcases mm with rfl | rfl | rfl | rfl | rfl | rfl | rfl <;> exact ⟨_, rfl, by decide, by decide⟩
    obtain ⟨i, rfl, i0, i9⟩ := this
    exact ⟨i, c', e, i0, i9, h'⟩
  simp [mDrawn, ev_name_v, e1, e2, e3, asI, hsl, hsl2, hz]
  obtain ⟨I1, hI1⟩ : ∃ I : List D → G → Prop, ∀ ds g, I ds g ↔ ∃ rr xs x y z c' B, g = ⟨[.di, .v (.int n), .v (.int m), .v (.lst (sL names)), .v (.lst (sL signs)), .o (.t (xs.map arcT)), x, y, z], c'⟩ ∧ ds = sL rr ∧ (∀ x ∈ rr, x ∈ names) ∧ rr.length ≤ 10 ∧ Di c' B ∧ B + 60 * rr.length ≤ N + 20 + 600 ∧ xs.length + N ≤ B ∧ ArcsOk names lets xs := ⟨_, fun _ _ => Iff.rfl⟩
  refine ev_loop I1 ?_ ?_ _ _ ((hI1 _ _).mpr ⟨names, [], _, _, _, c3, N + 12, rfl, rfl, fun _ h => h, nl2, d3, by omega, by simp, ⟨List.Pairwise.nil, fun _ m => nomatch m⟩⟩)
  · intro d r g hI
    obtain ⟨rr, xs, x, y, z, c', B, rfl, hd, hrr, hl, hdi, hB, hx, ho⟩ := (hI1 _ _).mp hI
    cases rr with
    | nil => cases hd
    | cons s rr =>
      cases hd
      have hs0 := hrr s List.mem_cons_self
      have hrr' : ∀ x ∈ rr, x ∈ names := fun x m => hrr x (List.mem_cons_of_mem _ m)
      simp only [List.length_cons] at hl hB
      refine ⟨_, rfl, ?_⟩
      simp [ev_name_v]
      obtain ⟨I2, hI2⟩ : ∃ I : List D → G → Prop, ∀ ds g, I ds g ↔ ∃ r2 xs y z c' B, g = ⟨[.di, .v (.int n), .v (.int m), .v (.lst (sL names)), .v (.lst (sL signs)), .o (.t (xs.map arcT)), .v (.str s), y, z], c'⟩ ∧ ds = sL r2 ∧ (∀ x ∈ r2, x ∈ signs) ∧ r2.length ≤ 3 ∧ Di c' B ∧ B + 20 * r2.length + 60 * rr.length ≤ N + 20 + 600 ∧ xs.length + N ≤ B ∧ ArcsOk names lets xs := ⟨_, fun _ _ => Iff.rfl⟩
      refine ev_loop I2 ?_ ?_ _ _ ((hI2 _ _).mpr ⟨signs, xs, _, _, c', B, rfl, rfl, fun _ h => h, s1, hdi, by omega, hx, ho⟩)
      · intro d r g hI
        obtain ⟨r2, xs, y, z, c', B, rfl, hd, hr2, hl2, hdi, hB, hx, ho⟩ := (hI2 _ _).mp hI
        cases r2 with
        | nil => cases hd
        | cons l r2 =>
          cases hd
          have hl0 := s2 l (hr2 l List.mem_cons_self)
          have hr2' : ∀ x ∈ r2, x ∈ signs := fun x m => hr2 x (List.mem_cons_of_mem _ m)
          simp only [List.length_cons] at hl2 hB
          refine ⟨_, rfl, ?_⟩
          simp [ev_name_v]
          obtain ⟨I3, hI3⟩ : ∃ I : List D → G → Prop, ∀ ds g, I ds g ↔ ∃ r3 xs z c' B, g = ⟨[.di, .v (.int n), .v (.int m), .v (.lst (sL names)), .v (.lst (sL signs)), .o (.t (xs.map arcT)), .v (.str s), .v (.str l), z], c'⟩ ∧ ds = sL r3 ∧ (∀ x ∈ r3, x ∈ names) ∧ r3.length ≤ 10 ∧ Di c' B ∧ B + 2 * r3.length + 20 * r2.length + 60 * rr.length ≤ N + 20 + 600 ∧ xs.length + N ≤ B ∧ ArcsOk names lets xs := ⟨_, fun _ _ => Iff.rfl⟩
          refine ev_loop I3 ?_ ?_ _ _ ((hI3 _ _).mpr ⟨names, xs, _, c', B, rfl, rfl, fun _ h => h, nl2, hdi, by omega, hx, ho⟩)
          · intro d r g hI
            obtain ⟨r3, xs, z, c', B, rfl, hd, hr3, hl3, hdi, hB, hx, ho⟩ := (hI3 _ _).mp hI
            cases r3 with
            | nil => cases hd
            | cons b r3 =>
              cases hd
              have hb0 := hr3 b List.mem_cons_self
              have hr3' : ∀ x ∈ r3, x ∈ names := fun x m => hr3 x (List.mem_cons_of_mem _ m)
              simp only [List.length_cons] at hl3 hB
              refine ⟨_, rfl, ?_⟩
              obtain ⟨q, c5, e5, q0, q1, d5⟩ := hr c' B (2 + (if (2 : Int) < (names.length : Int) then 1 else 0)) hdi (by omega) (by split <;> omega) (by split <;> omega)
              obtain ⟨i, c6, e6, i0, i9, d6⟩ := hpk c5 _ d5 (by omega)
              have eu := uPut (xs := xs) (a := s) (l := l) (b := b) (p := i) (by omega)
              simp [ev_name_v, sL_len, e5, e6, hz, eu]
              split
              · exact (hI3 _ _).mpr ⟨r3, putA xs s l b i, _, _, B + 1 + 1, rfl, rfl, hr3', by omega, d6, by omega, by have := putA_len (xs := xs) (a := s) (l := l) (b := b) (p := i); omega, ho.put hs0 hl0 hb0 i0 i9⟩
              · exact (hI3 _ _).mpr ⟨r3, xs, _, _, B + 1, rfl, rfl, hr3', by omega, d5, by omega, by omega, ho⟩
          · intro g hI
            obtain ⟨r3, xs, z, c', B, rfl, hd, hr3, hl3, hdi, hB, hx, ho⟩ := (hI3 _ _).mp hI
            cases r3 with
            | cons b r3 => cases hd
            | nil =>
              simp at hB ⊢
              exact (hI2 _ _).mpr ⟨r2, xs, _, _, c', B, rfl, rfl, hr2', by omega, hdi, by omega, hx, ho⟩
      · intro g hI
        obtain ⟨r2, xs, y, z, c', B, rfl, hd, hr2, hl2, hdi, hB, hx, ho⟩ := (hI2 _ _).mp hI
        cases r2 with
        | cons b r3 => cases hd
        | nil =>
          simp at hB ⊢
          exact (hI1 _ _).mpr ⟨rr, xs, _, _, _, c', B, rfl, rfl, hrr', by omega, hdi, by omega, hx, ho⟩
  · intro g hI
    obtain ⟨rr, xs, x, y, z, c', B, rfl, hd, hrr, hl, hdi, hB, hx, ho⟩ := (hI1 _ _).mp hI
    cases rr with
    | cons b r3 => cases hd
    | nil =>
      simp at hB
      obtain ⟨t1, c4, e4, u1, v1, d4⟩ := hs c' B names hdi (by omega) no.ne no.ok
      obtain ⟨t2, c5, e5, u2, v2, d5⟩ := hs c4 _ names d4 (by omega) no.ne no.ok
      simp [ev_name_v, ev_name_o, e4, e5, asKey_str]
      refine ⟨⟨t1, t2, xs⟩, by simp [Pl.d, merge3], ⟨no.sub u1 v1, no.sub u2 v2, ⟨names, no, by omega, fun x m => u1.subset m, fun x m => u2.subset m, ho⟩, by show xs.length ≤ 1000; omega⟩, d5.mono (by omega)⟩
end Lw
set_option Elab.async false
set_option linter.all false
set_option maxRecDepth 100000
set_option maxHeartbeats 4000000
/-! Lw, part six: pure comprehensions; the states and letters of plain parts. -/
namespace Lw
open PySem PySem.Spec L2 Mo
theorem run_pure {dice : Bool} {n k : Nat} {m : M Oc} {ds : List D} {c : C3} {r : D} (hl : ds.length + dice.toNat = k) (h : Ev m ⟨ini dice n ds, c⟩ (RetP fun d c' => d = r ∧ c' = c)) : runM dice n k m ds c = some (r, c) := by
  obtain ⟨d, c', e, rfl, rfl⟩ := run_ev hl h
  exact e
theorem ev_lcPure {β : Type} {vs : List Nat} {f : D → G → Option G} {mt : M Bool} {me : M D} {g0 : G} {Q : List D → G → Prop} (xs : List β) (tD : β → D) (keep : β → Bool) (out : β → D)
    (hs : ∀ x ∈ xs, ∃ g1, f (tD x) g0 = some g1 ∧ Ev mt g1 fun b g2 => b = keep x ∧ if b = true then Ev me g2 fun y g3 => y = out x ∧ wipeG g3 vs = g0 else wipeG g2 vs = g0)
    (hl : xs.length < sizeLine) (q : Q ((xs.filter keep).map out) g0) : Ev (lcGo vs f mt me (xs.map tD) []) g0 Q := by
  obtain ⟨I, hI⟩ : ∃ I : List D → List D → G → Prop, ∀ ds acc g, I ds acc g ↔ ∃ pre rr, xs = pre ++ rr ∧ ds = rr.map tD ∧ acc = (pre.filter keep).map out ∧ g = g0 := ⟨_, fun _ _ _ => Iff.rfl⟩
  refine ev_lcGo I ?_ ?_ _ _ _ ((hI _ _ _).mpr ⟨[], xs, rfl, rfl, rfl, rfl⟩)
  · intro d r acc g hi
    obtain ⟨pre, rr, e1, e2, e3, e4⟩ := (hI _ _ _).mp hi
    cases rr with
    | nil => cases e2
    | cons x rr =>
      cases e2
      subst e4
      obtain ⟨g1, e5, h5⟩ := hs x (by rw [e1]; simp)
      refine ⟨g1, e5, h5.mono fun b g2 ⟨hb, h6⟩ => ?_⟩
      have eap : xs = (pre ++ [x]) ++ rr := by rw [e1]; simp
      cases b with
      | true =>
        rw [if_pos rfl] at h6 ⊢
        refine ⟨?_, h6.mono fun y g3 ⟨ey, eg⟩ => (hI _ _ _).mpr ⟨pre ++ [x], rr, eap, rfl, ?_, eg⟩⟩
        · have h7 : (pre.filter keep).length ≤ pre.length := List.length_filter_le _ _
          have h8 : xs.length = pre.length + (rr.length + 1) := by rw [e1]; simp
          rw [e3, List.length_map]
          omega
        · rw [e3, ey, List.filter_append, List.map_append, List.filter_cons, if_pos hb.symm]
          rfl
      | false =>
        rw [if_neg Bool.false_ne_true] at h6 ⊢
        refine (hI _ _ _).mpr ⟨pre ++ [x], rr, eap, rfl, ?_, h6⟩
        rw [e3, List.filter_append, List.filter_cons, if_neg (by rw [← hb]; exact Bool.false_ne_true)]
        simp
  · intro acc g hi
    obtain ⟨pre, rr, e1, e2, e3, e4⟩ := (hI _ _ _).mp hi
    cases rr with
    | cons x rr => cases e2
    | nil =>
      rw [List.append_nil] at e1
      subst e4 e1 e3
      exact q
theorem filter_tt {α : Type} (xs : List α) : xs.filter (fun _ => true) = xs := List.filter_eq_self.mpr fun _ _ => rfl
def arcD (x : Arc) : D := .tup [.str x.a, .str x.l, .str x.b]
theorem uPlus_lst {xs ys : List D} (h : xs.length + ys.length ≤ sizeLine) : uPlus (.lst xs) (.lst ys) = some (.lst (xs ++ ys)) := by
  show (uAdd (.lst xs) (.lst ys)).or ((fCatL (.lst xs) (.lst ys)).map O.d) = _
  have : fCatL (.lst xs) (.lst ys) = some (.l (xs ++ ys)) := if_pos h
  rw [this]
  rfl
def endsOf (xs : List Arc) : List Str := xs.flatMap fun x => [x.a, x.b]
def Pl.all (p : Pl) : List Str := p.fs ++ p.ls ++ endsOf p.arcs
def Pl.states (p : Pl) : List Str := sortU p.all
def Pl.letters (p : Pl) : List Str := sortU (p.arcs.map (·.l))
def StatesS (F : FD) : Prop := ∀ (p : Pl) (n : Nat) (c : C3), PlOk p n → F [p.d] c = some (.lst (sL p.states), c)
end Lw
set_option Elab.async false
set_option linter.all false
set_option maxRecDepth 100000
set_option maxHeartbeats 4000000
/-! Mo: what comprehensions with two for come to. -/
namespace Mo
open PySem PySem.Spec L2
@[simp] theorem ev_lc2 {vs vs1 : List Nat} {f f1 : D → G → Option G} {mi mi1 : M (List D)} {mt mt1 : M Bool} {me : M D} {g : G} {Q : O → G → Prop} : Ev (mLc2 vs vs1 mi f mt mi1 f1 mt1 me) g Q ↔ Ev mi g fun ds g1 => noOwn vs g1 = true ∧ Ev (lcGo2 vs vs1 f mt mi1 f1 mt1 me ds []) (wipeG g1 vs) fun ys g2 => Q (.l ys) (backG g1 g2 vs) := by
  unfold mLc2
  rw [ev_bind]
  refine ⟨fun h => h.mono fun ds g1 q => ?_, fun h => h.mono fun ds g1 ⟨h1, ys, g2, e, q⟩ => ?_⟩
  · obtain ⟨a, g', e, q⟩ := q
    dsimp only at e
    split at e
    · rename_i h1
      refine ⟨h1, ?_⟩
      cases e2 : lcGo2 vs vs1 f mt mi1 f1 mt1 me ds [] (wipeG g1 vs) with
      | none => rw [e2] at e; cases e
      | some r =>
        cases r with
        | ex E g2 => rw [e2] at e; cases e
        | ok ys g2 =>
          rw [e2] at e
          cases e
          exact ⟨ys, g2, e2, q⟩
    · cases e
  · refine ⟨.l ys, backG g1 g2 vs, ?_, q⟩
    dsimp only
    rw [if_pos h1, e]
    rfl
@[simp] theorem ev_iterS {m : M D} {g : G} {Q : List D → G → Prop} : Ev (mIterS m) g Q ↔ Ev m g fun d g1 => Ev (lift (iterS d)) g1 Q := by
  unfold mIterS
  simp
end Mo
set_option Elab.async false
set_option linter.all false
set_option maxRecDepth 100000
set_option maxHeartbeats 4000000
/-! Mo: xs.pop() and the truth of an own list; while: its bound, what it comes to. -/
namespace Mo
open PySem PySem.Spec PySem.Calls L2
open Lp (FnG)
section
variable {K : PySem.W.Frag} {X : Cx} {W : WW} {x : Str} {px pos : Pos}
/-- the truth of an own list -/
def mtOwnQ (i : Nat) : M Bool := onL i fun xs => ret (!xs.isEmpty)
end
section
variable {g : G} {i : Nat}
@[simp] theorem ev_lm0 {f : List D → Option (List D × D)} {Q : D → G → Prop} : Ev (mLm0 i f) g Q ↔ ∃ xs, g.s[i]? = some (.o (.l xs)) ∧ ∃ ys y, f xs = some (ys, y) ∧ Q y (g.set i (.o (.l ys))) := by
  unfold mLm0
  simp only [ev_onL, ev_toL]
@[simp] theorem ev_ownQ {Q : Bool → G → Prop} : Ev (mtOwnQ i) g Q ↔ ∃ xs, g.s[i]? = some (.o (.l xs)) ∧ Q (!xs.isEmpty) g := by
  unfold mtOwnQ
  simp only [ev_onL, ev_ret]
end
end Mo
set_option Elab.async false
set_option linter.all false
set_option maxRecDepth 100000
set_option maxHeartbeats 4000000
/-! Mo: x in o, x not in o, str(o): o of a class with its own specials. -/
namespace Mo
open PySem PySem.Spec PySem.Calls L2 PyProof.Rows
open Lp (FnG okN callG)
section
variable {X : Cx} {W : WW} {a b : Expr} {pos ps : Pos} {C ff : Addr} {k : Nat} {fd : FuncData} {qs : List Str} {sp : Sp}
/-- x in o, x not in o -/
def rOwnIn (C : Addr) (sp : Sp) (neg : Bool) : R2 := fun x y H Q => ∃ (q dy : Addr) (gs : List (Str × V)), y = .ref q ∧ H q = some (.ins C dy gs) ∧
  sp [.ref q, x] H (fun v H' => ∃ t, v = .bl t ∧ Q (.bl (bif neg then !t else t)) H') fun _ _ _ => False
theorem own_in_call {pins : List (Addr × Obj)} {σ : L2.St} {H : Hp} {s : Shared} {q : Addr} {x : V} {v : Value} {Q : Bool → Hp → Prop} {B : Around} {E' : Value → Shared → Prop} (F : FnG X.prog X.w X.K X.mg X.base CX0 k ff fd qs sp) (hr : Room k B) (hgd : B.guards = some []) (e0 : Env0 X.prog X.w X.K X.mg X.base B X.stack s H) (hb : Binds X.K fd qs [])
    (I : Inv X pins σ H s) (rx : RelV x v) (h : sp [.ref q, x] H (fun v H' => ∃ t, v = .bl t ∧ Q t H') fun _ _ _ => False) : wpAny (model X.prog X.w) B (call (.ref ff) [.ref q, v]) (fun v s' => ∃ t, v = .bool t ∧ ∃ H', Inv X pins σ H' s' ∧ Q t H') E' s := by
  have rv : Vals [V.ref q, x] [Value.ref q, v] := .cons rfl (.cons rx .nil)
  have bt := hb s [.ref q, v] I.kIn (by rw [List.append_nil, ← rv.length]; exact F.len _ _ _ _ h)
  rw [List.append_nil] at bt
  refine wpAny_call (codeAny_mono (F.go B X.stack s H ⟨[.ref q, v], []⟩ _ _ _ _ hr hgd e0 bt rv h) fun o s2 w2 => ?_)
  match o, w2 with
  | .error e, w2 => exact False.elim (pass0 (X := X.nox) pins σ H s e s2 (I.wish _) w2)
  | .ok (.ret u), w2 =>
    obtain ⟨v, H', I3, rv3, t, e, q3⟩ := I.after w2
    subst e
    cases rv3
    exact ⟨t, rfl, H', I3, q3⟩
theorem op_own_in (c : SpecM X.K C "__contains__" ff) (F : FnG X.prog X.w X.K X.mg X.base CX0 k ff fd qs sp) (hr : Room k X.A) (hgd : X.A.guards = some []) (hb : Binds X.K fd qs []) : OpR X (compareOp .In) (rOwnIn C sp false) := by
  intro pins s σ H x y v u Q I rx ry hq
  obtain ⟨q, dy, gs, rfl, hq', h⟩ := hq
  cases ry
  obtain ⟨mB, O', _⟩ := ins_get I.hok hq'
  obtain ⟨od', J', _⟩ := O'.look
  obtain ⟨mm, hF⟩ := I.fr
  refine PySem.W.in_K hF I.ok.mod.kin J' c.at_ c.fn ?_
  refine wpAny_mono (own_in_call (Q := fun t H' => Q (.bl t) H') F hr hgd I.env0 hb I rx h) (fun v s' hv => ?_) fun _ _ z => z
  obtain ⟨t, rfl, H', I', z⟩ := hv
  exact wpAny_truthy_bool ⟨.bl t, H', I', rfl, z⟩
/-- on data -/
def inGo {α : Type} (neg : Bool) (C : Addr) (F : FD) (kk : Bool → M α) (x y : D) : M α := match y with
  | .ins C2 gs => if C2 = C then (liftC (F [.ins C gs, x])).bind fun v => (match v with
    | .bl t => kk (bif neg then !t else t)
    | _ => bad) else bad
  | _ => bad
def mInI (neg : Bool) (C : Addr) (F : FD) (ma mb : M D) : M D := ma.bind fun x => mb.bind fun y => inGo neg C F (fun b => ret (.bl b)) x y
def mtInI (neg : Bool) (C : Addr) (F : FD) (ma mb : M D) : M Bool := ma.bind fun x => mb.bind fun y => inGo neg C F ret x y
theorem in_core {α : Type} {kk : Bool → M α} {F : FD} {neg : Bool} {J : Hp} {p2 : Mt} {g2 : G} {σ : L2.St} {H2 : Hp} {x y : D} {v w : V} {r : R α} {Q : VK} (R2 : Rl X.K J p2 g2 σ H2) (rv2 : Rep X.K (del p2 H2) v x) (rw' : Rep X.K (del p2 H2) w y)
    (hm2 : inGo neg C F kk x y g2 = some r) (k : ∀ t g3, kk t g3 = some r → ∀ J2 p3, Ad g2 σ p2 H2 g3 p3 J2 → Rl X.K J p3 g3 σ J2 → Q (V.bl t) J2) : rOwnIn C (spM X.K false F) neg v w H2 Q := by
  unfold inGo at hm2
  cases y <;> first | (cases hm2; done) | skip
  rename_i C2 gs
  dsimp only at hm2
  split at hm2
  · rename_i hC
    subst hC
    obtain ⟨a2, dy, us, rfl, h3, h4⟩ := rep_ins rw'
    unfold M.bind liftC at hm2
    cases e1 : F [.ins C2 gs, x] g2.c with
    | none => rw [e1] at hm2; cases hm2
    | some z =>
      obtain ⟨d, c'⟩ := z
      rw [e1] at hm2
      dsimp only at hm2
      refine ⟨a2, dy, us, rfl, del_of h3, p2, g2.c, [.ins C2 gs, x], [.ref a2, v], d, c', rfl, R2.hd, .cons rw' (.cons rv2 .nil), e1, fun v J2 af rv3 => ?_⟩
      obtain ⟨R3, ad3⟩ := R2.after af
      cases d <;> first | (cases hm2; done) | skip
      rename_i t
      cases rep_bl rv3
      exact ⟨t, rfl, k _ _ hm2 J2 _ ad3 R3⟩
  · cases hm2
theorem own_in_data {F : FD} {neg : Bool} {op : CmpOp} {ma mb : M D} (ho : OpR X (compareOp op) (rOwnIn C (spM X.K false F) neg)) (ha : EF X W a ma) (hb : EF X W b mb) (hm : behindInMarks op b = false) : EF X W (.Compare a [op] [b] pos) (mInI neg C F ma mb) := fun J p g σ H R0 r hm' Q hp =>
  of_pe (pe_cmpR ho semE semE hm) (ha.then R0 hm' hp fun x g1 p1 H1 v ad1 R1 rv hm1 hp1 => hb.then R1 hm1 hp1 fun y g2 p2 H2 w ad2 R2 rw' hm2 hp2 =>
    in_core R2 (rv.le ad2.le) rw' hm2 fun t g3 er J2 p3 ad3 R3 => by
      cases er
      exact hp2 p3 J2 ad3 R3 _ (.bl _))
theorem own_in_test {F : FD} {neg : Bool} {op : CmpOp} {ma mb : M D} (ho : OpR X (compareOp op) (rOwnIn C (spM X.K false F) neg)) (ha : EF X W a ma) (hb : EF X W b mb) (hm : behindInMarks op b = false) : ET X W (.Compare a [op] [b] pos) (mtInI neg C F ma mb) := fun J p g σ H R0 r hm' Q hp =>
  of_pt (pt_cmpR ho semE semE hm) (ha.then R0 hm' hp fun x g1 p1 H1 v ad1 R1 rv hm1 hp1 => hb.then R1 hm1 hp1 fun y g2 p2 H2 w ad2 R2 rw' hm2 hp2 =>
    in_core R2 (rv.le ad2.le) rw' hm2 fun t g3 er J2 p3 ad3 R3 => by
      cases er
      exact ⟨t, rfl, hp2 p3 J2 ad3 R3⟩)
section
variable {F : FD} {ma mb : M D} (c : SpecM X.K C "__contains__" ff) (hF : FnG X.prog X.w X.K X.mg X.base CX0 k ff fd qs (spM X.K false F)) (hr : Room k X.A) (hgd : X.A.guards = some []) (hq : Binds X.K fd qs []) (ha : EF X W a ma) (hb : EF X W b mb)
include c hF hr hgd hq ha hb
theorem e_inI (hm : behindInMarks .In b = false := by first | exact nomark _ | rfl) : EF X W (.Compare a [.In] [b] pos) (mInI false C F ma mb) := own_in_data (op_own_in c hF hr hgd hq) ha hb hm
theorem t_inI (hm : behindInMarks .In b = false := by first | exact nomark _ | rfl) : ET X W (.Compare a [.In] [b] pos) (mtInI false C F ma mb) := own_in_test (op_own_in c hF hr hgd hq) ha hb hm
end
/-- str(o), o's class with an own __str__ -/
def rStrOwn (C : Addr) (sp : Sp) : List V → Hp → VK → Prop := fun vs H Q => ∃ (a dx : Addr) (fs : List (Str × V)), vs = [.ref a] ∧ H a = some (.ins C dx fs) ∧ sp [.ref a] H (fun v H' => ∃ z : Str, v = .str z ∧ Q (.str z) H') fun _ _ _ => False
theorem call_strOwn (hm : SpecM X.K C "__str__" ff) (F : FnG X.prog X.w X.K X.mg X.base CX0 k ff fd qs sp) (hr : Room (k + 2) X.A) (hgd : X.A.guards = some []) (hb : Binds X.K fd qs []) : CallR X (.type "str") (rStrOwn C sp) := by
  intro pins s σ H vs us Q I r h
  obtain ⟨x, dx, fs, rfl, ea, q⟩ := h
  rw [Vals.ref1 r]
  obtain ⟨mA, O, _⟩ := ins_get I.hok ea
  obtain ⟨od, Jo, _⟩ := O.look
  have r1 : Room (k + 1) X.A.in1 := Room.in1 hr
  have r2 : Room k X.A.in1.in1 := Room.in1 r1
  have rv2 : Vals [V.ref x] [Value.ref x] := .cons rfl .nil
  have bt := hb s [Value.ref x] I.kIn (by rw [List.append_nil, ← rv2.length]; exact F.len _ _ _ _ q)
  rw [List.append_nil] at bt
  refine PySem.W.kso_call (Nat.lt_of_le_of_lt (Nat.le_add_right _ _) r2.units) I.kIn Jo hm.at_ hm.fn (wpAny_call (codeAny_mono (F.go X.A.in1.in1 X.stack s H ⟨[Value.ref x], []⟩ _ _ _ _ r2 hgd I.env0.in1.in1 bt rv2 q) fun w s' hq => ?_))
  match w, hq with
  | .error er, hq => exact False.elim (pass0 (X := X.nox) pins σ H s er s' (I.wish _) hq)
  | .ok (.ret u), hq =>
    obtain ⟨v, H', I3, rv3, z, rfl, q3⟩ := I.after hq
    obtain ⟨t, rfl⟩ := rv3
    exact ⟨.str z, H', I3, ⟨t, rfl⟩, q3⟩
def mStrI (C : Addr) (F : FD) (mo : M D) : M D := mo.bind fun d => match d with
  | .ins C' fs => if C' = C then (liftC (F [.ins C' fs])).bind fun v => (match v with
    | .str z => ret (.str z)
    | _ => bad) else bad
  | _ => bad
theorem e_strI {e : Expr} {F : FD} {mo : M D} {p1 : Pos} (hm : SpecM X.K C "__str__" ff) (hF : FnG X.prog X.w X.K X.mg X.base CX0 k ff fd qs (spM X.K false F)) (hr : Room (k + 2) X.A) (hgd : X.A.guards = some []) (hb : Binds X.K fd qs []) (hm0 : X.mg "str" = none) (ho : EF X W e mo)
    (hv : bootBuiltins "str" = some (.type "str") := by decide +kernel) (hg : Gl X "str" := by rfl) (he : starEach [e] X.env = (false, eval e X.env) :: starEach [] X.env := by rfl) (hpl : (backTo pos (starEach [] X.env)).any (·.1) = false := by rfl) : EF X W (.Call (.Name "str" p1) [e] [] pos) (mStrI C F mo) := fun J p g σ H R0 r hmm Q hp =>
  of_pe (pe_callTy (call_strOwn hm hF hr hgd hb) hg hm0 hv (pa_cons semE pa_nil he) (by decide) (by decide) he hpl) (ho.then R0 hmm hp fun d g1 p1 H1 v ad R1 rv hk hq => by
    cases d <;> first | (cases hk; done) | skip
    rename_i C' fs
    dsimp only at hk
    split at hk
    · rename_i hC
      subst hC
      obtain ⟨a, dx, vs, rfl, h1, h2⟩ := rep_ins rv
      unfold M.bind liftC at hk
      cases e1 : F [.ins C' fs] g1.c with
      | none => rw [e1] at hk; cases hk
      | some z =>
        obtain ⟨d, c'⟩ := z
        rw [e1] at hk
        dsimp only at hk
        refine ⟨a, dx, vs, rfl, del_of h1, p1, g1.c, [.ins C' fs], [.ref a], d, c', rfl, R1.hd, .cons rv .nil, e1, fun v J2 af rv2 => ?_⟩
        obtain ⟨R3, ad3⟩ := R1.after af
        cases d <;> first | (cases hk; done) | skip
        rename_i z
        cases hk
        cases rep_str rv2
        exact ⟨z, rfl, hq p1 J2 ad3 R3 _ (.str _)⟩
    · cases hk)
end
theorem ev_inGo {α : Type} {C : Addr} {neg : Bool} {F : FD} {kk : Bool → M α} {x y : D} {g : G} {Q : α → G → Prop} : Ev (inGo neg C F kk x y) g Q ↔ ∃ gs, y = .ins C gs ∧ ∃ t c', F [.ins C gs, x] g.c = some (.bl t, c') ∧ Ev (kk (bif neg then !t else t)) ⟨g.s, c'⟩ Q := by
  unfold inGo
  refine ⟨fun z => ?_, fun ⟨gs, e2, t, c', e3, z⟩ => ?_⟩
  · cases y <;> first | exact (ev_bad.mp z).elim | skip
    rename_i C2 gs
    dsimp only at z
    rw [ev_ite] at z
    split at z
    · rename_i hC
      subst hC
      refine ⟨gs, rfl, ?_⟩
      obtain ⟨d, c', e, z⟩ := ev_liftC.mp (ev_bind.mp z)
      cases d <;> first | exact (ev_bad.mp z).elim | skip
      exact ⟨_, c', e, z⟩
    · exact (ev_bad.mp z).elim
  · subst e2
    dsimp only
    rw [if_pos rfl]
    exact ev_bind.mpr (ev_liftC.mpr ⟨_, _, e3, z⟩)
@[simp] theorem ev_inI {C : Addr} {neg : Bool} {F : FD} {ma mb : M D} {g : G} {Q : D → G → Prop} : Ev (mInI neg C F ma mb) g Q ↔ Ev ma g fun x g1 => Ev mb g1 fun y g2 => ∃ gs, y = .ins C gs ∧ ∃ t c', F [.ins C gs, x] g2.c = some (.bl t, c') ∧ Q (.bl (bif neg then !t else t)) ⟨g2.s, c'⟩ := by
  unfold mInI
  simp only [ev_bind, ev_inGo, ev_ret]
@[simp] theorem ev_tinI {C : Addr} {neg : Bool} {F : FD} {ma mb : M D} {g : G} {Q : Bool → G → Prop} : Ev (mtInI neg C F ma mb) g Q ↔ Ev ma g fun x g1 => Ev mb g1 fun y g2 => ∃ gs, y = .ins C gs ∧ ∃ t c', F [.ins C gs, x] g2.c = some (.bl t, c') ∧ Q (bif neg then !t else t) ⟨g2.s, c'⟩ := by
  unfold mtInI
  simp only [ev_bind, ev_inGo, ev_ret]
end Mo
set_option Elab.async false
set_option linter.all false
set_option maxRecDepth 100000
set_option maxHeartbeats 4000000
/-! Mo: xs[::-1] of a list. -/
namespace Mo
open PySem PySem.Spec PySem.Calls L2 PyProof.Rows
section
variable {X : Cx} {W : WW} {a se : Expr} {pos p2 : Pos}
def fRevL : D → Option Int → Option O
  | .lst ds, some (-1) => some (.l ds.reverse)
  | _, _ => none
def mRevL (ma : M D) (ms : M (Option Int)) : M O := ma.bind fun x => ms.bind fun o => lift (fRevL x o)
end
@[simp] theorem ev_revL {ma : M D} {ms : M (Option Int)} {g : G} {Q : O → G → Prop} : Ev (mRevL ma ms) g Q ↔ Ev ma g fun x g1 => Ev ms g1 fun o g2 => Ev (lift (fRevL x o)) g2 Q := by
  unfold mRevL
  simp only [ev_bind]
end Mo
set_option Elab.async false
set_option linter.all false
set_option maxRecDepth 100000
set_option maxHeartbeats 4000000
/-! Mo: == and != of a thing of an own class with a tuple, a text or None. -/
namespace Mo
open PySem PySem.Spec PySem.Calls L2 PyProof.Rows
open Lp (FnG okN callG)
/-- plain types do not come first -/
structure NtC (K : PySem.W.Frag) (C : Addr) : Prop where
  t : PySem.W.notFirst K C (.type "tuple") = true
  s : PySem.W.notFirst K C (.type "str") = true
  n : PySem.W.notFirst K C (.type "NoneType") = true
section
variable {X : Cx} {W : WW} {a b : Expr} {pos : Pos} {C ff : Addr} {k : Nat} {fd : FuncData} {qs : List Str} {sp : Sp}
/-- what a value's type is, by the abstract heap -/
inductive TyX (H : Hp) : V → String → Prop
  | tup {q : Addr} {xs : List V} : H q = some (.tup xs) → TyX H (.ref q) "tuple"
  | str (z : Str) : TyX H (.str z) "str"
  | non : TyX H .non "NoneType"
theorem NtC.of {K : PySem.W.Frag} (c : NtC K C) {H : Hp} {y : V} {T : String} (h : TyX H y T) : PySem.W.notFirst K C (.type T) = true := by
  cases h with
  | tup e => exact c.t
  | str z => exact c.s
  | non => exact c.n
/-- on data -/
def isTX : D → Bool
  | .tup _ => true
  | .str _ => true
  | .non => true
  | _ => false
def eqGo {α : Type} (neg : Bool) (C : Addr) (F : FD) (kk : Bool → M α) (x y : D) : M α := match x with
  | .ins C2 fs => if C2 = C ∧ isTX y = true then (liftC (F [.ins C fs, y])).bind fun v => (match v with
    | .bl t => kk (bif neg then !t else t)
    | _ => bad) else bad
  | _ => bad
def mEqX (neg : Bool) (C : Addr) (F : FD) (ma mb : M D) : M D := ma.bind fun x => mb.bind fun y => eqGo neg C F (fun b => ret (.bl b)) x y
def mtEqX (neg : Bool) (C : Addr) (F : FD) (ma mb : M D) : M Bool := ma.bind fun x => mb.bind fun y => eqGo neg C F ret x y
end
theorem ev_eqGo {α : Type} {C : Addr} {neg : Bool} {F : FD} {kk : Bool → M α} {x y : D} {g : G} {Q : α → G → Prop} : Ev (eqGo neg C F kk x y) g Q ↔ ∃ gs, x = .ins C gs ∧ isTX y = true ∧ ∃ t c', F [.ins C gs, y] g.c = some (.bl t, c') ∧ Ev (kk (bif neg then !t else t)) ⟨g.s, c'⟩ Q := by
  unfold eqGo
  refine ⟨fun z => ?_, fun ⟨gs, e2, hy, t, c', e3, z⟩ => ?_⟩
  · cases x <;> first | exact (ev_bad.mp z).elim | skip
    rename_i C2 gs
    dsimp only at z
    rw [ev_ite] at z
    split at z
    · rename_i hC
      obtain ⟨hC, hy⟩ := hC
      subst hC
      refine ⟨gs, rfl, hy, ?_⟩
      obtain ⟨d, c', e, z⟩ := ev_liftC.mp (ev_bind.mp z)
      cases d <;> first | exact (ev_bad.mp z).elim | skip
      exact ⟨_, c', e, z⟩
    · exact (ev_bad.mp z).elim
  · subst e2
    dsimp only
    rw [if_pos ⟨rfl, hy⟩]
    exact ev_bind.mpr (ev_liftC.mpr ⟨_, _, e3, z⟩)
@[simp] theorem ev_eqX {C : Addr} {neg : Bool} {F : FD} {ma mb : M D} {g : G} {Q : D → G → Prop} : Ev (mEqX neg C F ma mb) g Q ↔ Ev ma g fun x g1 => Ev mb g1 fun y g2 => ∃ gs, x = .ins C gs ∧ isTX y = true ∧ ∃ t c', F [.ins C gs, y] g2.c = some (.bl t, c') ∧ Q (.bl (bif neg then !t else t)) ⟨g2.s, c'⟩ := by
  unfold mEqX
  simp only [ev_bind, ev_eqGo, ev_ret]
@[simp] theorem ev_teqX {C : Addr} {neg : Bool} {F : FD} {ma mb : M D} {g : G} {Q : Bool → G → Prop} : Ev (mtEqX neg C F ma mb) g Q ↔ Ev ma g fun x g1 => Ev mb g1 fun y g2 => ∃ gs, x = .ins C gs ∧ isTX y = true ∧ ∃ t c', F [.ins C gs, y] g2.c = some (.bl t, c') ∧ Q (bif neg then !t else t) ⟨g2.s, c'⟩ := by
  unfold mtEqX
  simp only [ev_bind, ev_eqGo, ev_ret]
end Mo
set_option Elab.async false
set_option linter.all false
set_option maxRecDepth 100000
set_option maxHeartbeats 4000000
/-! Mo: for .. in e.items(), list(e.values()), e a dict with tuples for keys. -/
namespace Mo
open PySem PySem.Spec PySem.Calls L2 PyProof.Rows
def itemsT (kvs : List (List Key × D)) : List D := kvs.map fun kv => .tup [.tup (kv.1.map kD), kv.2]
def fItemsT : D → Option (List D)
  | .dt kvs => some (itemsT kvs)
  | _ => none
def mItemsT (m : M D) : M (List D) := m.bind fun d => lift (fItemsT d)
@[simp] theorem ev_itemsT {m : M D} {g : G} {Q : List D → G → Prop} : Ev (mItemsT m) g Q ↔ Ev m g fun d g1 => Ev (lift (fItemsT d)) g1 Q := by
  unfold mItemsT
  simp
@[simp] theorem fItemsT_dt {kvs : List (List Key × D)} : fItemsT (.dt kvs) = some (itemsT kvs) := rfl
/-! ### list(e.values()) -/
def fListValsT : D → Option O
  | .dt kvs => some (.l (kvs.map (·.2)))
  | _ => none
def mListValsT (m : M D) : M O := m.bind fun d => lift (fListValsT d)
@[simp] theorem ev_listValsT {m : M D} {g : G} {Q : O → G → Prop} : Ev (mListValsT m) g Q ↔ Ev m g fun d g1 => Ev (lift (fListValsT d)) g1 Q := by
  unfold mListValsT
  simp
end Mo
set_option Elab.async false
set_option linter.all false
set_option maxRecDepth 100000
set_option maxHeartbeats 4000000
/-! Mo: defs that let own errors out; raise, try. -/
namespace Mo
open PySem PySem.Spec PySem.Calls L2 PyProof.Rows
open Lp (FnG okG okN callG)
/-- what comes out: data, or an error of an own class, told by the class's name -/
abbrev FX := List D → C3 → Option (Sum D Str × C3)
/-- the error's class by its name; adr tells where the class of a name lies -/
def nmE (E : Exn) : Str := match E.fs with
  | (n, _) :: _ => n
  | [] => Str.empty
def mkE (adr : Str → Addr) (n : Str) : Exn := ⟨adr n, [(n, .non)]⟩
def liftX (adr : Str → Addr) (o : C3 → Option (Sum D Str × C3)) : M D := fun g => match o g.c with
  | some (.inl d, c) => some (.ok d ⟨g.s, c⟩)
  | some (.inr n, c) => some (.ex (mkE adr n) ⟨g.s, c⟩)
  | none => none
def mFx (adr : Str → Addr) (F : FX) (ms : M (List D)) : M D := ms.bind fun ds => liftX adr (F ds)
end Mo
set_option Elab.async false
set_option linter.all false
set_option maxRecDepth 100000
set_option maxHeartbeats 4000000
/-! Mo: try: .. except C: .. (clauses without a name). -/
namespace Mo
open PySem PySem.Spec PySem.Calls L2 PyProof.Rows
/-- the clauses for an error, one after the other -/
def pickH (tab : Str → Str → Bool) (E : Exn) (g : G) : List (Str × M Oc) → Option (R Oc)
  | [] => some (.ex E g)
  | (n, m) :: r => if tab (nmE E) n = true then (match m g with
    | some (.ok o g') => some (.ok o g')
    | _ => none) else pickH tab E g r
def mTry (adr : Str → Addr) (names : List Str) (tab : Str → Str → Bool) (mb : M Oc) (hs : List (Str × M Oc)) : M Oc := fun g => match mb g with
  | some (.ex E g') => if E.C = adr (nmE E) ∧ nmE E ∈ names then pickH tab E g' hs else none
  | r => r
def tsOf (X : Cx) (su : List Stmt) : Addr → Value → Option Addr → TS := fun a cls d D σ H => ∀ (oe : Obj) (pn : List (Addr × Obj)), Zc cls d oe → (∃ vs, oe.data = .fields vs) → SemSs (X.suite a ((a, oe) :: pn)) su D σ H
inductive HdM (X : Cx) (adr : Str → Addr) (names : List Str) (tab : Str → Str → Bool) : List ExceptHandler → List (Str × M Oc) → List (Value × (Addr → Value → Option Addr → TS)) → Prop
  | nil : HdM X adr names tab [] [] []
  | cons {y : Str} {b₀ : Stmt} {suite : List Stmt} {np pos' : Pos} {m : M Oc} {hds : List ExceptHandler} {ms : List (Str × M Oc)} {l : List (Value × (Addr → Value → Option Addr → TS))} (hc : Names X y (.ref (adr y))) (hx : ∀ n ∈ names, PySem.W.exmOne X.K (.ref (adr n)) (.ref (adr y)) = some (tab n y))
      (hsu : ∀ (a : Addr) (pn : List (Addr × Obj)), SB (X.suite a pn) WN (b₀ :: suite) m) (r : HdM X adr names tab hds ms l) :
      HdM X adr names tab (.ExceptHandler (some (.Name y np)) none (b₀ :: suite) pos' :: hds) ((y, m) :: ms) ((.ref (adr y), tsOf X (b₀ :: suite)) :: l)
section
variable {X : Cx} {W : WW} {adr : Str → Addr} {names : List Str} {tab : Str → Str → Bool}
theorem HdM.ok {hds : List ExceptHandler} {ms : List (Str × M Oc)} {l : List (Value × (Addr → Value → Option Addr → TS))} (h : HdM X adr names tab hds ms l) : HdsOk X hds l := by
  induction h with
  | nil => exact .nil
  | cons hc hx hsu r ih => exact .cons hc (fun a oe cls d pn hz hd => ⟨fun pins s σ H D I q => (q oe pn hz hd).run pins s I⟩) ih
theorem PostS.ch {K : PySem.W.Frag} {W W' : WW} {J : Hp} {p : Mt} {H : Hp} {o : Oc} {g : G} {Dd : Ends} (h : PostS K W J p H (.ok o g) Dd) : PostS K W' J p H (.ok o g) Dd := by
  cases o <;> exact h
end
end Mo
set_option Elab.async false
set_option linter.all false
set_option maxRecDepth 100000
set_option maxHeartbeats 4000000
/-! Mo: errors: what a function of the state comes to that lets one out; try. -/
namespace Mo
open PySem PySem.Spec PySem.Calls L2
open Lp (FnG)
/-- which class stands under which -/
def tabOf (l : List (Str × Str)) (n y : Str) : Bool := l.any fun p => decide (p.1 = n) && decide (p.2 = y)
/-- m lets the error n out -/
def Er {α : Type} (adr : Str → Addr) (m : M α) (g : G) (n : Str) (Q : G → Prop) : Prop := ∃ g', m g = some (.ex (mkE adr n) g') ∧ Q g'
section
variable {α β : Type} {adr : Str → Addr} {g : G} {n : Str} {Q : G → Prop}
theorem er_bind1 {m : M α} {k : α → M β} (h : Er adr m g n Q) : Er adr (m.bind k) g n Q := by
  obtain ⟨g', e, q⟩ := h
  refine ⟨g', ?_, q⟩
  unfold M.bind
  rw [e]
theorem er_bind2 {m : M α} {k : α → M β} (h : Ev m g fun a g1 => Er adr (k a) g1 n Q) : Er adr (m.bind k) g n Q := by
  obtain ⟨a, g1, e, g', e2, q⟩ := h
  refine ⟨g', ?_, q⟩
  unfold M.bind
  rw [e]
  exact e2
theorem er_seq1 {a b : M Oc} (h : Er adr a g n Q) : Er adr (seq a b) g n Q := by
  obtain ⟨g', e, q⟩ := h
  refine ⟨g', ?_, q⟩
  unfold seq
  rw [e]
theorem er_fx {F : FX} {ms : M (List D)} (h : Ev ms g fun ds g1 => ∃ c', F ds g1.c = some (.inr n, c') ∧ Q ⟨g1.s, c'⟩) : Er adr (mFx adr F ms) g n Q := by
  unfold mFx
  refine er_bind2 (h.mono fun ds g1 ⟨c', e, q⟩ => ⟨_, ?_, q⟩)
  unfold liftX
  rw [e]
theorem ev_fx {F : FX} {ms : M (List D)} {Q : D → G → Prop} (h : Ev ms g fun ds g1 => ∃ d c', F ds g1.c = some (.inl d, c') ∧ Q d ⟨g1.s, c'⟩) : Ev (mFx adr F ms) g Q := by
  unfold mFx
  refine ev_bind.mpr (h.mono fun ds g1 ⟨d, c', e, q⟩ => ⟨d, _, ?_, q⟩)
  unfold liftX
  rw [e]
variable {names : List Str} {tab : Str → Str → Bool} {mb : M Oc} {hs : List (Str × M Oc)}
theorem ev_try {Q : Oc → G → Prop} (h : Ev mb g Q) : Ev (mTry adr names tab mb hs) g Q := by
  obtain ⟨a, g', e, q⟩ := h
  refine ⟨a, g', ?_, q⟩
  unfold mTry
  rw [e]
theorem ev_try_er {y : Str} {m : M Oc} {Q : Oc → G → Prop} (hn : n ∈ names) (ht : tab n y = true) (h : Er adr mb g n fun g' => Ev m g' Q) : Ev (mTry adr names tab mb ((y, m) :: hs)) g Q := by
  obtain ⟨g', e, a, g2, e2, q⟩ := h
  refine ⟨a, g2, ?_, q⟩
  unfold mTry
  rw [e]
  show (if (mkE adr n).C = adr (nmE (mkE adr n)) ∧ nmE (mkE adr n) ∈ names then pickH tab (mkE adr n) g' ((y, m) :: hs) else none) = _
  rw [if_pos ⟨rfl, hn⟩]
  unfold pickH
  rw [if_pos (show tab (nmE (mkE adr n)) y = true from ht), e2]
end
/-- a statement that lets nothing out, wherever it stands -/
def noEx {α : Type} (m : M α) : M α := fun g => match m g with
  | some (.ok a g') => some (.ok a g')
  | _ => none
theorem noEx_ok {α : Type} {m : M α} {g : G} {r : R α} (h : noEx m g = some r) : ∃ a g', r = .ok a g' ∧ m g = some (.ok a g') := by
  unfold noEx at h
  split at h
  · rename_i a g' e
    cases h
    exact ⟨a, g', rfl, e⟩
  · cases h
@[simp] theorem ev_noEx {α : Type} {m : M α} {g : G} {Q : α → G → Prop} : Ev (noEx m) g Q ↔ Ev m g Q := by
  constructor
  · rintro ⟨a, g', e, q⟩
    obtain ⟨a2, g2, e2, e3⟩ := noEx_ok e
    cases e2
    exact ⟨a, g', e3, q⟩
  · rintro ⟨a, g', e, q⟩
    exact ⟨a, g', by unfold noEx; rw [e], q⟩
end Mo
set_option Elab.async false
set_option linter.all false
set_option maxRecDepth 100000
set_option maxHeartbeats 4000000
/-! Mo: a + b and the like of an own class, where its method may let an error out. -/
namespace Mo
open PySem PySem.Spec PySem.Calls L2 PyProof.Rows
open Lp (FnG)
end Mo
set_option Elab.async false
set_option linter.all false
set_option maxRecDepth 100000
set_option maxHeartbeats 4000000
/-! Mo: zip of three with a plain name as target: the pair's owner keeps the tuple that is out, so each turn makes its own. -/
namespace Mo
open PySem PySem.Spec L2
open PyProof.Rows hiding St
end Mo
set_option Elab.async false
set_option linter.all false
set_option maxRecDepth 100000
set_option maxHeartbeats 4000000
/-! Mo: zip(xs, text, ys) with a plain name as target, xs longer than the text; ys[::-1] of a tuple. -/
namespace Mo
open PySem PySem.Spec PySem.Calls L2
open PyProof.Rows hiding St
section
variable {X : Cx} {W : WW} {a b c tg : Expr} {pos ps : Pos}
theorem len_ch (y : Str) : (chD y).length = y.cps.size := by
  unfold chD
  rw [List.length_map, Array.length_toList]
end
end Mo
set_option Elab.async false
set_option linter.all false
set_option maxRecDepth 100000
set_option maxHeartbeats 4000000
/-! Mo: t[::-1] and t[i:j] of a tuple (also the whole). -/
namespace Mo
open PySem PySem.Spec PySem.Calls L2 PyProof.Rows
section
variable {X : Cx} {W : WW} {a se : Expr} {e : Expr} {te : TE} {ts : TO} {pos p2 : Pos}
def fRevT : D → Option Int → Option D
  | .tup ds, some (-1) => some (.tup ds.reverse)
  | _, _ => none
def mRevT (ma : M D) (ms : M (Option Int)) : M D := ma.bind fun x => ms.bind fun o => lift (fRevT x o)
@[simp] theorem ev_revT {ma : M D} {ms : M (Option Int)} {g : G} {Q : D → G → Prop} : Ev (mRevT ma ms) g Q ↔ Ev ma g fun x g1 => Ev ms g1 fun o g2 => Ev (lift (fRevT x o)) g2 Q := by
  unfold mRevT
  simp only [ev_bind]
end
end Mo
set_option Elab.async false
set_option linter.all false
set_option maxRecDepth 100000
set_option maxHeartbeats 4000000
/-! Mo: t[::-1] of a text. -/
namespace Mo
open PySem PySem.Spec PySem.Calls L2 PyProof.Rows
/-- a text from behind -/
def revS (x : Str) : Str := ⟨x.cps.toList.reverse.toArray⟩
section
variable {X : Cx} {W : WW} {a se : Expr} {e : Expr} {te : TE} {ts : TO} {pos p2 : Pos}
def fRevS : D → Option Int → Option D
  | .str x, some (-1) => if x.length ≤ sizeLine then some (.str (revS x)) else none
  | _, _ => none
def mRevS (ma : M D) (ms : M (Option Int)) : M D := ma.bind fun x => ms.bind fun o => lift (fRevS x o)
@[simp] theorem ev_revS {ma : M D} {ms : M (Option Int)} {g : G} {Q : D → G → Prop} : Ev (mRevS ma ms) g Q ↔ Ev ma g fun x g1 => Ev ms g1 fun o g2 => Ev (lift (fRevS x o)) g2 Q := by
  unfold mRevS
  simp only [ev_bind]
end
end Mo
set_option Elab.async false
set_option linter.all false
set_option maxRecDepth 100000
set_option maxHeartbeats 8000000
/-! Mo: the walk along a text from several rows, one dict for all. -/
namespace Mo
open PySem PySem.Spec L2
end Mo
set_option Elab.async false
set_option linter.all false
set_option maxRecDepth 100000
set_option maxHeartbeats 1000000
/-! Mo, part MtO: int(x, 8). -/
namespace Mo
open PySem PySem.Spec PySem.Calls L2 PyProof.Rows
end Mo
set_option Elab.async false
set_option linter.all false
set_option maxRecDepth 100000
set_option maxHeartbeats 1000000
/-! Mo, part MtP: f"{n:o}", f"{n:b}", translate by a dict, zfill, index, ord, int(x, 8). -/
namespace Mo
open PySem PySem.Spec PySem.Calls L2 PyProof.Rows
/-! ### as rules -/
section
variable {X : Cx} {W : WW} {K : PySem.W.Frag} {e o : Expr} {es : List Expr} {pos ps : Pos}
/-! methods of a text with one argument -/
/-! ord(x), int(x, 8) -/
def fOrd : List D → Option D
  | [.str x] => if x.length = 1 then some (.int (x.cps.getD 0 0 : Nat)) else none
  | _ => none
end
end Mo
set_option Elab.async false
set_option linter.all false
set_option maxRecDepth 100000
set_option maxHeartbeats 1000000
/-! Mo, part MtQ: a[i].replace(c, d), a a text. -/
namespace Mo
open PySem PySem.Spec PySem.Calls L2 PyProof.Rows
end Mo
set_option Elab.async false
set_option linter.all false
set_option maxRecDepth 100000
set_option maxHeartbeats 1000000
/-! Mo, part MtR: def f(a, .., *v). -/
namespace Mo
open PySem PySem.Spec PySem.Calls L2 PyProof.Rows
open StX (vals_split run_bnd env0_laid un_laid)
section
variable {P : Program} {w : World} {K : PySem.W.Frag} {mg : Str → Option Value} {base : Heap} {x qual pv : Str} {st : Stmt} {f : Addr} {fd : FuncData} {N ps : List Str} {k : Nat} {m : M Oc}
structure FnS (P : Program) (w : World) (K : PySem.W.Frag) (mg : Str → Option Value) (base : Heap) (k : Nat) (f : Addr) (n : Nat) (sp : Sp) : Prop where
  go : ∀ (B : Around) (fr : List Env) (s : Shared) (J : Hp) (ws : List Value) (xs : List V) (R : VK) (Z : XK), Room k B → B.guards = some [] → Env0 P w K mg base B fr s J → Vals xs ws → n ≤ xs.length → xs.length ≤ sizeLine →
    (∀ p, J p = none → sp (xs.take n ++ [V.ref p]) (upd J p (.tup (xs.drop n))) R Z) → codeAny (model P w) B (.call (.ref f) ⟨ws, []⟩) (CR CX0 fr P w J s R Z) s
theorem FnS.mono {j n : Nat} {sp : Sp} (F : FnS P w K mg base j f n sp) (h : j ≤ k) : FnS P w K mg base k f n sp := ⟨fun B fr s J ws xs R Z r => F.go B fr s J ws xs R Z (r.mono h)⟩
end
end Mo
set_option Elab.async false
set_option linter.all false
set_option maxRecDepth 100000
set_option maxHeartbeats 4000000
/-! Mo, part MtS: zip of texts, lists and tuples, in whatever order. -/
namespace Mo
open PySem PySem.Spec L2
open PyProof.Rows hiding St
end Mo
set_option Elab.async false
set_option linter.all false
set_option maxRecDepth 100000
set_option maxHeartbeats 4000000
/-! Mo: dict(zip(e, e2)) of two lists whose first one holds plain keys. -/
namespace Mo
open PySem PySem.Spec PySem.Calls L2 PyProof.Rows
end Mo
set_option Elab.async false
set_option linter.all false
set_option maxRecDepth 100000
set_option maxHeartbeats 4000000
/-! Mo: xs.index(t) of a list of texts. -/
namespace Mo
open PySem PySem.Spec PySem.Calls L2 PyProof.Rows
def mMl1 {α : Type} (f : D → D → Option α) (ma mb : M D) : M α := ma.bind fun x => (match x with | .lst _ => mb.bind fun y => lift (f x y) | _ => bad)
section
variable {X : Cx} {W : WW} {a b : Expr} {pa pos : Pos}
@[simp] theorem ev_ml1 {α : Type} {f : D → D → Option α} {ma mb : M D} {g : G} {Q : α → G → Prop} : Ev (mMl1 f ma mb) g Q ↔ Ev ma g fun x g1 => ∃ ys, x = .lst ys ∧ Ev mb g1 fun z g2 => Ev (lift (f (.lst ys) z)) g2 Q := by
  unfold mMl1
  rw [ev_bind]
  constructor
  · refine fun h => h.mono fun x g1 h => ?_
    cases x <;> first | exact (ev_bad.mp h).elim | skip
    exact ⟨_, rfl, ev_bind.mp h⟩
  · refine fun h => h.mono fun x g1 ⟨ys, e, h⟩ => ?_
    subst e
    exact ev_bind.mpr h
end
end Mo
set_option Elab.async false
set_option linter.all false
set_option maxRecDepth 100000
set_option maxHeartbeats 4000000
/-! Mo: list(t) of a text. -/
namespace Mo
open PySem PySem.Spec PySem.Calls L2 PyProof.Rows
end Mo
set_option Elab.async false
set_option linter.all false
set_option maxRecDepth 100000
set_option maxHeartbeats 4000000
/-! Mo: zip(*rows) of any number of tuples: the turn of such a zip. Iterators at B .. B + n - 1, behind them the zip's two tuples and the zip. -/
namespace Mo
open PySem PySem.Spec L2
open PyProof.Rows hiding St
/-- iterator j stands at p j -/
def AtI (B n : Nat) (t : Nat → Addr) (xs : Nat → Array Value) (p : Nat → Nat) (h : Heap) : Prop := ∀ j, j < n → h.IsTupleIter (B + j : Nat) (t j) (p j) ∧ h.IsTuple (t j) (xs j)
structure Cols (B n m : Nat) (t : Nat → Addr) (xs : Nat → Array Value) : Prop where
  lo : ∀ k, k < n → t k < B
  sz : ∀ k, k < n → (xs k).size = m
  nl : n ≤ sizeLine
/-- but for the zip's own -/
def ButZ (B n : Nat) (h h' : Heap) : Prop := ∀ c o, (c < B ∨ B + n + 2 < c) → h.get? c = some o → h'.get? c = some o
def turned (i k : Nat) : Nat → Nat := fun j => if j < k then i + 1 else i
section
variable {B n m i k : Nat} {t : Nat → Addr} {xs : Nat → Array Value} {h h' : Heap} {p : Nat → Nat} {ys : List Value}
theorem AtI.push (a : AtI B n t xs p h) (o : Obj) : AtI B n t xs p (h.push o) := fun j hj =>
  ⟨let ⟨o', ho, r⟩ := (a j hj).1; ⟨o', Heap.get?_push_of_some o ho, r⟩, (a j hj).2.push o⟩
theorem AtI.turn (C : Cols B n m t xs) (a : AtI B n t xs (turned i k) h) (hk : k < n) (h1 : h'.IsTupleIter (B + k : Nat) (t k) (i + 1)) (s : Heap.SameBut (B + k : Nat) h h') : AtI B n t xs (turned i (k + 1)) h' := fun j hj => by
  have h2 := C.lo j hj
  have e2 : @Ne Nat (t j) (B + k) := Nat.ne_of_lt (Nat.lt_of_lt_of_le h2 (Nat.le_add_right _ _))
  refine ⟨?_, (a j hj).2.extBut s.extBut e2⟩
  by_cases e : j = k
  · subst e
    have : turned i (j + 1) j = i + 1 := by simp [turned]
    rw [this]
    exact h1
  · have : turned i (k + 1) j = turned i k j := by
      unfold turned
      by_cases q : j < k
      · rw [if_pos q, if_pos (by omega)]
      · rw [if_neg q, if_neg (by omega)]
    rw [this]
    exact (a j hj).1.extBut s.extBut (show @Ne Nat (B + j) (B + k) by omega)
theorem ButZ.refl : ButZ B n h h := fun _ _ _ e => e
theorem ButZ.push {g0 : Heap} (k0 : ButZ B n g0 h) (o : Obj) : ButZ B n g0 (h.push o) := fun c o' hc e => Heap.get?_push_of_some _ (k0 c o' hc e)
end
end Mo
set_option Elab.async false
set_option linter.all false
set_option maxRecDepth 100000
set_option maxHeartbeats 4000000
/-! Mo: zip(*rows) of any number of tuples: it begins; list(..) of it. -/
namespace Mo
open PySem PySem.Spec L2
open PyProof.Rows hiding St
end Mo
set_option Elab.async false
set_option linter.all false
set_option maxRecDepth 100000
set_option maxHeartbeats 4000000
/-! Mo: zip(*rows) of any number of tuples: it begins. -/
namespace Mo
open PySem PySem.Spec L2
open PyProof.Rows hiding St
end Mo
set_option Elab.async false
set_option linter.all false
set_option maxRecDepth 100000
set_option maxHeartbeats 4000000
/-! Mo: list(zip(*rows)): the list grows by one tuple a turn. -/
namespace Mo
open PySem PySem.Spec PySem.Calls L2
open PyProof.Rows hiding St
end Mo
set_option Elab.async false
set_option linter.all false
set_option maxRecDepth 100000
set_option maxHeartbeats 4000000
/-! Mo: the expression list(zip(*e)), e a tuple or list of tuples of one length. -/
namespace Mo
open PySem PySem.Spec PySem.Calls L2 PyProof.Rows
end Mo
set_option Elab.async false
set_option linter.all false
set_option maxRecDepth 100000
set_option maxHeartbeats 4000000
/-! Mo: list(zip(*e)) over data. -/
namespace Mo
open PySem PySem.Spec PySem.Calls L2 PyProof.Rows
section
variable {K : PySem.W.Frag} {J H : Hp} {p : Mt} {g : G} {σ : L2.St}
inductive RCols (K : PySem.W.Frag) (F : Hp) : List (List V) → List (List D) → Prop
  | nil : RCols K F [] []
  | cons {c d cs ds} : Reps K F c d → RCols K F cs ds → RCols K F (c :: cs) (d :: ds)
theorem RCols.le {F F' : Hp} (e : Le F F') : ∀ {cs : List (List V)} {ds : List (List D)}, RCols K F cs ds → RCols K F' cs ds
  | _, _, .nil => .nil
  | _, _, .cons h r => .cons (h.le e) (RCols.le e r)
end
end Mo
set_option Elab.async false
set_option linter.all false
set_option maxRecDepth 100000
set_option maxHeartbeats 4000000
/-! Mo: x ** n of an own thing with its own method and a whole number. -/
namespace Mo
open PySem PySem.Spec PySem.Calls L2 PyProof.Rows
open Lp (FnG okN callG)
end Mo
set_option Elab.async false
set_option linter.all false
set_option maxRecDepth 100000
set_option maxHeartbeats 4000000
/-! Mo: enumerate(text). -/
namespace Mo
open PySem PySem.Spec PySem.Calls L2
open PyProof.Rows hiding St
def ItEx (K : PySem.W.Frag) (x : Str) : It :=
  ⟨fun i H => ∃ c : Nat, x.cps[i]? = some c, fun i H v H' => ∃ T c, v = .ref T ∧ H T = none ∧ H' = upd H T (.tup [.int (i : Nat), .str ⟨#[c]⟩]) ∧ x.cps[i]? = some c, fun i H => i = x.cps.size⟩
theorem turn_enumX {P : Program} {w : World} {K : PySem.W.Frag} {elts : List Expr} {kk : Nat} {tpos : Pos} {x : Str} {t : Tok} (e it : Addr) (ne : e ≠ it) :
    L2.Turn P w K (.Tuple elts kk tpos) (ItEx K x) [e, it] e (fun i h => (∃ old, IsEnum h e it ((i : Nat) : Int) old) ∧ h.IsStrIter it (strIterType x) x t i) where
  mem := by simp
  obj := fun i h ⟨⟨old, he⟩, hi⟩ b hb => by
    rcases (show b = e ∨ b = it by simpa using hb) with z | z
    · rw [z]
      exact ⟨_, he, fun v q => nomatch q⟩
    · rw [z]
      exact si_obj hi
  keep := fun i h h' ⟨⟨old, he⟩, hi⟩ kp => ⟨⟨old, kp e (by simp) _ he⟩, si_keep hi fun o q => kp it (by simp) o q⟩
  item := by
    intro X hP hw hK hc i pins s σ H E I hf ⟨⟨old, he⟩, hit⟩ ⟨c, hx⟩
    subst hP hw hK
    have hel : e < s.heap.objs.size := Heap.lt_size he
    have hil : it < s.heap.objs.size := by
      obtain ⟨o, q, _⟩ := si_obj hit
      exact Heap.lt_size q
    have hlt : i < x.cps.size := by
      obtain ⟨z, _⟩ := Array.getElem?_eq_some_iff.mp hx
      exact z
    refine wpAny_pyNext_enum_itemD (Draws.text (show X.A.in1.handled = none from I.ok.hd hc) it x t) he hit hlt ne (by simp [ne]) fun u' h' tk hP ho hit' hT hsz hk => ?_
    obtain ⟨c', t', hc', q2⟩ := hP
    rw [hx] at hc'
    cases hc'
    subst q2
    refine ⟨_, rfl, wpAny_letOwnedTupleGo_enum (s := { s with heap := h', toks := tk + 1 }) ho fun h'' he' sb => ?_⟩
    have hT2 : h''.get? s.heap.objs.size = some { cls := .type "tuple", data := .seq #[.int i tk, .str ⟨#[c]⟩ t'] } := (sb.2 _ (Nat.ne_of_gt hel)).trans hT
    have new : ObjOk X.prog X.w (upd H s.heap.objs.size (.tup [.int (i : Nat), .str ⟨#[c]⟩])) h'' s.heap.objs.size (.tup [.int (i : Nat), .str ⟨#[c]⟩]) :=
      ⟨by show 2 ≤ sizeLine; decide, [.int i tk, .str ⟨#[c]⟩ t'], .cons ⟨_, rfl⟩ (.cons ⟨_, rfl⟩ .nil), ⟨_, hT2, rfl, _, rfl⟩⟩
    have I1 : Inv X pins σ (upd H s.heap.objs.size (.tup [.int (i : Nat), .str ⟨#[c]⟩])) { s with heap := h'', toks := tk + 1 } :=
      I.turnedNew (ch := [e, it]) (fun b ob hb q => (sb.2 b (fun z => hb (by simp [z]))).trans (hk b ob (fun z => hb (by simp [z])) (fun z => hb (by simp [z])) q)) hf (Nat.le_refl _) new
    refine ⟨.ref s.heap.objs.size, _, I1, rfl, ⟨_, c, rfl, I.hok.fresh (Nat.le_refl _), rfl, hx⟩, ⟨⟨_, by simpa using he'⟩, si_keep hit' fun o q => (sb.2 it (Ne.symm ne)).trans q⟩, fun b hb => ?_⟩
    have hb' : b < s.heap.objs.size := by
      rcases (show b = e ∨ b = it by simpa using hb) with z | z
      · rw [z]
        exact hel
      · rw [z]
        exact hil
    rw [upd_ne (Nat.ne_of_lt hb')]
    exact (hf b hb).1
  done := by
    intro X hP hw hK hc i pins s σ H E I hf ⟨⟨old, he⟩, hit⟩ hx
    subst hP hw hK
    have hx : i = x.cps.size := hx
    subst hx
    obtain ⟨f0, f1, f2, f3, f4, f5⟩ := hf it (by simp)
    exact wpAny_pyNext_enum_endD (Draws.text (show X.A.in1.handled = none from I.ok.hd hc) it x t) he hit fun h' eb => ⟨rfl, I.turned (t' := s.toks) (fun b o hb q => eb b o hb q) f0 f1 f3 f4 f5⟩
  self := fun A i s Q E ⟨⟨_, he⟩, _⟩ h => wpAny_pyIter_enum he h
def iEnumX (K : PySem.W.Frag) (ta : TA) : TI := fun σ H R => ta σ H fun vs H1 => ∃ x, vs = [.str x] ∧ R (ItEx K x) H1
theorem pi_enumX {X : Cx} {e : Expr} {ta : TA} {p pos tpos : Pos} {elts : List Expr} {kk : Nat} (hg : Gl X "enumerate") (hm : X.mg "enumerate" = none) (ha : PA X [e] ta) (hs : starEach [e] X.env = [(false, eval e X.env)]) :
    PI X (.Tuple elts kk tpos) (.Call (.Name "enumerate" p) [e] [] pos) (iEnumX X.K ta) := by
  refine ⟨fun pins s σ H R I h => ?_⟩
  refine Call_ (ld_blt I hg hm boot_enumerate (PyProof.Rows.callWith_type1 (thn (ha.run pos pins s σ H _ I h) fun us s1 ⟨vs, H1, I1, r1, x, ex, q⟩ => ?_) hs rfl))
  subst ex
  cases r1 with
  | cons r rr =>
    cases rr
    obtain ⟨t, rfl⟩ := r
    refine enum1_call (begins_text x t) trivial fun h' he hit hk => wpAny_pyIter_enum he ?_
    have I2 : Inv X pins σ H1 { s1 with heap := h' } := I1.kept (t' := s1.toks) hk
    refine ⟨s1.heap.objs.size + 1, [s1.heap.objs.size + 1, s1.heap.objs.size], _, _, H1, rfl, I2, turn_enumX (x := x) (t := t) (s1.heap.objs.size + 1) s1.heap.objs.size (Nat.succ_ne_self _), ⟨⟨.none, he⟩, ⟨_, hit, rfl, rfl⟩⟩, fun b hb => ?_, q⟩
    have hle : s1.heap.objs.size ≤ b := by
      rcases (show b = s1.heap.objs.size + 1 ∨ b = s1.heap.objs.size by simpa using hb) with z | z
      · rw [z]
        exact Nat.le_succ _
      · rw [z]
        exact Nat.le_refl _
    exact I1.fpOk hle (I1.hok.fresh hle)
theorem walk_enumX {K : PySem.W.Frag} {x : Str} : Walk (ItEx K x) x.cps.size (fun _ => True) (YPair (fun i => some (.int (i : Nat))) (fun i => (chV x)[i]?)) := by
  refine ⟨fun i _ hi _ => ⟨x.cps[i], Array.getElem?_eq_getElem hi⟩, fun _ _ => rfl, fun i H v H' _ _ ⟨T, c, h1, h2, h3, h4⟩ => ?_⟩
  exact ⟨T, .int (i : Nat), .str ⟨#[c]⟩, h1, h2, h3, rfl, chV_at h4⟩
section
variable {X : Cx} {W : WW} {a : Expr} {pos ps : Pos}
def fEnumX : List D → Option (List D)
  | [.str x] => some (pairs (rngD 0 x.cps.size) (chD x))
  | _ => none
theorem ei_enumX {elts : List Expr} {kk : Nat} {tpos : Pos} {ms : M (List D)} (hn : X.mg "enumerate" = none) (h : EA X W [a] ms) (hg : Gl X "enumerate" := by rfl) (hs : starEach [a] X.env = [(false, eval a X.env)] := by rfl) :
    EI X W (.Tuple elts kk tpos) (.Call (.Name "enumerate" ps) [a] [] pos) (mWk fEnumX ms) := fun J p g σ H R0 r hm Q hp =>
  of_pi (pi_enumX hg hn semA hs) (h.then R0 hm hp fun ds g1 p1 H1 vs ad R1 rs hk hq => by
    obtain ⟨es, h1, h2⟩ := post_liftI hk hq R1
    unfold fEnumX at h1
    split at h1
    · rename_i x
      cases h1
      obtain ⟨v, e, rv⟩ := reps1 rs
      cases rep_str rv
      have hl : (rngD 0 x.cps.size).length = x.cps.size := by
        unfold rngD
        rw [List.length_map, List.length_range]
      have hnl : x.cps.size = min (rngD 0 x.cps.size).length (chD x).length := by rw [hl, len_ch, Nat.min_self]
      refine ⟨x, e, h2 _ J H1 .no (wk_pair (walk_enumX.mono (fun _ h => h) fun i H v H' hi _ y => ?_) hnl (fun p g σ H R dd le => trivial) (fx := fun i => if i < x.cps.size then some (.int (i : Nat)) else none) (fun p H i v le q => ?_) fun p H i v le q => (reps_ch x).get q)⟩
      · obtain ⟨T, u, w, y1, y2, y3, y4, y5⟩ := y
        refine ⟨T, u, w, y1, y2, y3, ?_, y5⟩
        show (if i < x.cps.size then some (V.int (i : Nat)) else none) = some u
        rw [if_pos hi]
        exact y4
      · split at q
        · rename_i hi
          cases q
          refine ⟨.int (i : Nat), ?_, .int _⟩
          unfold rngD
          rw [List.getElem?_map, List.getElem?_range hi]
          simp
        · cases q
    · cases h1)
end
end Mo
set_option Elab.async false
set_option linter.all false
set_option maxRecDepth 100000
set_option maxHeartbeats 4000000
/-! Mo: for .. in reversed(range(n)). -/
namespace Mo
open PySem PySem.Spec PySem.Calls L2
open PyProof.Rows hiding St
end Mo
set_option Elab.async false
set_option linter.all false
set_option maxRecDepth 100000
set_option maxHeartbeats 4000000
/-! Mo: an own error class is called; the __new__ that it inherits may be another class's than its nearest built-in base (KeyError's is LookupError's). -/
namespace PySem
end PySem
set_option Elab.async false
set_option linter.all false
set_option maxRecDepth 100000
set_option maxHeartbeats 4000000
/-! Mo: own errors over any built-in error, whose __init__ keeps its one argument in a field: made. -/
namespace PySem
end PySem
namespace L2
open PySem PySem.Spec PyProof.Rows
end L2
namespace Mo
open PySem PySem.Spec PySem.Calls L2 PyProof.Rows
open Lp (FnG okG callG)
end Mo
set_option Elab.async false
set_option linter.all false
set_option maxRecDepth 100000
set_option maxHeartbeats 4000000
/-! Mo: defs that may let out own errors that keep a field. -/
namespace Mo
open PySem PySem.Spec PySem.Calls L2 PyProof.Rows
open Lp (FnG okG callG)
/-- the error's dict -/
def EDict (K : PySem.W.Frag) (p : Mt) (H : Hp) (E : Exn) (d : Option Addr) : Prop := match E.fs with
  | _ :: (f, x) :: _ => ∃ (dd : Addr) (v : V), d = some dd ∧ H dd = some (.xd [(f, v)]) ∧ Rep K (del p H) v x
  | _ => d = none
theorem EDict.le {K : PySem.W.Frag} {p p' : Mt} {H : Hp} {E : Exn} {d : Option Addr} (h : EDict K p' H E d) (le : Le (del p' H) (del p H)) : EDict K p H E d := by
  unfold EDict at h ⊢
  split at h
  · obtain ⟨dd, v, e1, e2, e3⟩ := h
    exact ⟨dd, v, e1, e2, e3.le le⟩
  · exact h
end Mo
set_option Elab.async false
set_option linter.all false
set_option maxRecDepth 100000
set_option maxHeartbeats 4000000
/-! Mo: a call that may let such an error out; try: .. except C as e: .. -/
namespace Mo
open PySem PySem.Spec PySem.Calls L2 PyProof.Rows
open Lp (FnG okG callG)
/-! ### try: .. except C as e: .. -/
end Mo
set_option Elab.async false
set_option linter.all false
set_option maxRecDepth 100000
set_option maxHeartbeats 4000000
/-! Mo: except C as e: return [e.f] -/
namespace Mo
open PySem PySem.Spec PySem.Calls L2 PyProof.Rows
end Mo
set_option Elab.async false
set_option linter.all false
set_option maxRecDepth 100000
set_option maxHeartbeats 4000000
/-! Mo: x in [..] where the items are data of any depth; tuple * int. -/
namespace Mo
open PySem PySem.Spec PySem.Calls L2 PyProof.Rows
section
variable {K : PySem.W.Frag}
theorem Reps.rep {H : Hp} {vs : List V} {ds : List D} (h : Reps K H vs ds) : ∀ n : Nat, Reps K H (List.replicate n vs).flatten (List.replicate n ds).flatten
  | 0 => .nil
  | n + 1 => by
    have app : ∀ {as bs : List V} {cs es : List D}, Reps K H as cs → Reps K H bs es → Reps K H (as ++ bs) (cs ++ es) := fun {as} => by
      induction as with
      | nil => intro bs cs es a b; cases a; exact b
      | cons y ys ih => intro bs cs es a b; cases a with | cons a1 a2 => exact .cons a1 (ih a2 b)
    rw [List.replicate_succ, List.replicate_succ, List.flatten_cons, List.flatten_cons]
    exact app h (Reps.rep h n)
end
end Mo
set_option Elab.async false
set_option linter.all false
set_option maxRecDepth 100000
set_option maxHeartbeats 4000000
/-! Mo: what the printed texts want of errors with a field. -/
namespace Mo
open PySem PySem.Spec PySem.Calls L2 PyProof.Rows
open Lp (FnG okG callG)
end Mo
set_option Elab.async false
set_option linter.all false
set_option maxRecDepth 100000
set_option maxHeartbeats 4000000
/-! Mo: except C as e: return .., with e.f anywhere in it. -/
namespace Mo
open PySem PySem.Spec PySem.Calls L2 PyProof.Rows
/-- an expression read while something holds that stays -/
def EFp (X : Cx) (W : WW) (P : L2.St → Mt → Hp → Prop) (e : Expr) (m : M D) : Prop := ∀ J p g σ H, Rl X.K J p g σ H → P σ p H → ∀ r, m g = some r → ∀ Q : VK, Post X.K W J p g σ H r (qF X.K Q) → SemE X e σ H Q
def Stay (P : L2.St → Mt → Hp → Prop) : Prop := ∀ {g : G} {σ : L2.St} {p : Mt} {H : Hp} {g1 : G} {p1 : Mt} {H1 : Hp}, Ad g σ p H g1 p1 H1 → P σ p H → P σ p1 H1
section
variable {X : Cx} {W : WW} {P : L2.St → Mt → Hp → Prop} {a b e : Expr} {rest : List Expr} {pos : Pos} {ma mb m : M D} {β : Type}
theorem EF.p (h : EF X W e m) : EFp X W P e m := fun J p g σ H R _ => h J p g σ H R
section
variable {J : Hp} {p : Mt} {g : G} {σ : L2.St} {H : Hp} {q : β → G → Mt → Hp → Prop} {r : R β}
theorem EFp.then (hst : Stay P) {k : D → M β} (h : EFp X W P e m) (R0 : Rl X.K J p g σ H) (h0 : P σ p H) (hm : m.bind k g = some r) (hp : Post X.K W J p g σ H r q) {Q : VK}
    (hk : ∀ d g1 p1 H1 v, Ad g σ p H g1 p1 H1 → Rl X.K J p1 g1 σ H1 → P σ p1 H1 → Rep X.K (del p1 H1) v d → k d g1 = some r → Post X.K W J p1 g1 σ H1 r q → Q v H1) : SemE X e σ H Q := by
  unfold M.bind at hm
  cases e1 : m g with
  | none => rw [e1] at hm; cases hm
  | some r1 =>
    cases r1 with
    | ok d g1 =>
      rw [e1] at hm
      exact h J p g σ H R0 h0 _ e1 Q fun p1 H1 ad R1 v rv => hk d g1 p1 H1 v ad R1 (hst ad h0) rv hm (hp.adv ad)
    | ex E g1 =>
      rw [e1] at hm
      cases hm
      exact h J p g σ H R0 h0 _ e1 Q hp
end
end
end Mo
set_option Elab.async false
set_option linter.all false
set_option maxRecDepth 100000
set_option maxHeartbeats 4000000
/-! Mo: o.m(k = e), the other keyword-only parameters at their defaults. -/
namespace Mo
open PySem PySem.Spec PySem.Calls L2 PyProof.Rows
open Lp (FnG okG callG)
end Mo
set_option Elab.async false
set_option linter.all false
set_option maxRecDepth 100000
set_option maxHeartbeats 4000000
/-! Mo: a class as a value (cls(..) in a classmethod), C.m(..), o[k] by an own __getitem__. -/
namespace Mo
open PySem PySem.Spec PySem.Calls L2 PyProof.Rows
open Lp (FnG okG callG)
section
variable {X : Cx} {W : WW} {e fe o : Expr} {es : List Expr} {pos ps apos : Pos} {C ff : Addr} {m x : Str} {k : Nat} {fd : FuncData} {qs : List Str} {sp : Sp} {t : TA} {tf ta : TE}
def mMakeV (C : Addr) (F : FD) (mf : M D) (ms : M (List D)) : M O := mf.bind fun d => match d with
  | .cl C' => if C' = C then mMake C F ms else bad
  | _ => bad
/-! ### C.m(e, ..) -/
def mCm (C : Addr) (F : FD) (ms : M (List D)) : M D := ms.bind fun ds => liftC (F (.cl C :: ds))
/-! ### o[k], o's class with an own __getitem__ -/
def mGetI (C : Addr) (F : FD) (ma mb : M D) : M D := ma.bind fun x => mb.bind fun y => match x with
  | .ins C' fs => if C' = C then liftC (F [.ins C fs, y]) else bad
  | _ => bad
end
@[simp] theorem ev_makeV {C : Addr} {F : FD} {mf : M D} {ms : M (List D)} {g : G} {Q : O → G → Prop} : Ev (mMakeV C F mf ms) g Q ↔ Ev mf g fun d g1 => d = .cl C ∧ Ev (mMake C F ms) g1 Q := by
  unfold mMakeV
  rw [ev_bind]
  refine ⟨fun h => h.mono fun x g1 z => ?_, fun h => h.mono fun x g1 ⟨e, z⟩ => ?_⟩
  · cases x <;> first | exact (ev_bad.mp z).elim | skip
    dsimp only at z
    rw [ev_ite] at z
    split at z
    · rename_i hC
      exact ⟨by rw [hC], z⟩
    · exact (ev_bad.mp z).elim
  · subst e
    dsimp only
    rw [if_pos rfl]
    exact z
@[simp] theorem ev_cm {C : Addr} {F : FD} {ms : M (List D)} {g : G} {Q : D → G → Prop} : Ev (mCm C F ms) g Q ↔ Ev ms g fun ds g1 => ∃ d c', F (.cl C :: ds) g1.c = some (d, c') ∧ Q d ⟨g1.s, c'⟩ := by
  unfold mCm
  simp only [ev_bind, ev_liftC]
@[simp] theorem ev_getI {C : Addr} {F : FD} {ma mb : M D} {g : G} {Q : D → G → Prop} : Ev (mGetI C F ma mb) g Q ↔ Ev ma g fun x g1 => Ev mb g1 fun y g2 => ∃ fs, x = .ins C fs ∧ ∃ d c', F [.ins C fs, y] g2.c = some (d, c') ∧ Q d ⟨g2.s, c'⟩ := by
  unfold mGetI
  simp only [ev_bind]
  refine ⟨fun h => h.mono fun x g1 q => q.mono fun y g2 z => ?_, fun h => h.mono fun x g1 q => q.mono fun y g2 ⟨fs, e, d, c', e3, z⟩ => ?_⟩
  · cases x <;> first | exact (ev_bad.mp z).elim | skip
    rename_i C2 gs
    dsimp only at z
    rw [ev_ite] at z
    split at z
    · rename_i hC
      subst hC
      obtain ⟨d, c', e, z⟩ := ev_liftC.mp z
      exact ⟨gs, rfl, d, c', e, z⟩
    · exact (ev_bad.mp z).elim
  · subst e
    dsimp only
    rw [if_pos rfl]
    exact ev_liftC.mpr ⟨d, c', e3, z⟩
end Mo
set_option Elab.async false
set_option linter.all false
set_option maxRecDepth 100000
set_option maxHeartbeats 4000000
/-! Mo: ==, != of a thing of an own class with anything; isinstance of anything. -/
namespace Mo
open PySem PySem.Spec PySem.Calls L2 PyProof.Rows
open Lp (FnG okN callG)
/-- the type of what stands for data -/
theorem rep_looks {X : Cx} {M : Model} {pins : List (Addr × Obj)} {σ : L2.St} {H : Hp} {s : Shared} {p : Mt} {v : V} {u : Value} {d : D} {n : String} (I : Inv X pins σ H s) (h : Rep X.K (del p H) v d) (r : RelV v u) (e : tyN d = some n) : PySem.W.Looks M s.heap (typeOf u) (.type n) := by
  cases h <;> simp only [tyN] at e <;> first | (cases e; done) | skip
  · cases e
    cases r
    exact .of_pure rfl
  · cases e
    cases r
    exact .of_pure rfl
  · cases e
    obtain ⟨t, rfl⟩ := r
    exact .of_pure rfl
  · cases e
    obtain ⟨t, rfl⟩ := r
    exact .of_pure rfl
  · rename_i s0 r0
    cases e
    cases r
    rcases s0 with (z | ⟨o, z⟩) | ⟨o, arr, m, hk, hc, _⟩
    · obtain ⟨_, _, n, _, h1⟩ := (show ObjOk X.prog X.w H s.heap _ (.lst _) from I.hok _ _ (del_of z))
      exact (PySem.W.Looks.ld h1).andThen .now
    · obtain ⟨_, _, _, n, _, h1⟩ := (show ObjOk X.prog X.w H s.heap _ (.frz _ (.lst _)) from I.hok _ _ (del_of z))
      exact (PySem.W.Looks.ld h1).andThen .now
    · have := I.kIn _ _ hk
      exact hc ▸ (PySem.W.Looks.ld this).andThen .now
  · rename_i s0 r0
    cases e
    cases r
    obtain ⟨_, _, _, o, h1, h2, _⟩ := (show ObjOk X.prog X.w H s.heap _ (.tup _) from I.hok _ _ (del_of s0))
    exact h2 ▸ (PySem.W.Looks.ld h1).andThen .now
  · rename_i s0 r0
    cases e
    cases r
    obtain ⟨_, _, vs, _, o, es, ep, h1, h2, _⟩ := (show ObjOk X.prog X.w H s.heap _ (.dK _) from rd_of I.hok (vw_of s0).rd)
    exact h2.1 ▸ (PySem.W.Looks.ld h1).andThen .now
  · rename_i s0 r0
    cases e
    cases r
    obtain ⟨_, _, xs, _, o, es, ep, h1, h2, _⟩ := (show ObjOk X.prog X.w H s.heap _ (.dT _) from rd_of I.hok (vw_of s0).rd)
    exact h2.1 ▸ (PySem.W.Looks.ld h1).andThen .now
/-- which types and classes do not come first beside C -/
structure NtZ (K : PySem.W.Frag) (C : Addr) (Os : List Addr) : Prop where
  ty : ∀ n : String, n ∈ ["NoneType", "bool", "int", "str", "list", "tuple", "dict"] → PySem.W.notFirst K C (.type n) = true
  os : ∀ o ∈ Os, PySem.W.notFirst K C (.ref o) = true
section
variable {X : Cx} {W : WW} {a b : Expr} {pos : Pos} {C ff : Addr} {Os : List Addr} {k : Nat} {fd : FuncData} {qs : List Str} {sp : Sp}
def rOwnEqZ (C : Addr) (Os : List Addr) (sp : Sp) (neg : Bool) (K : PySem.W.Frag) : R2 := fun x y H Q => ∃ (p dx : Addr) (fs : List (Str × V)), x = .ref p ∧ H p = some (.ins C dx fs) ∧
  ((∃ (q dy c2 : Addr) (gs : List (Str × V)), y = .ref q ∧ H q = some (.ins c2 dy gs) ∧ (c2 = C ∨ c2 ∈ Os)) ∨ ∃ (p : Mt) (d : D) (n : String), Rep K (del p H) y d ∧ tyN d = some n) ∧
  sp [.ref p, y] H (fun v H' => ∃ t, v = .bl t ∧ Q (.bl (bif neg then !t else t)) H') fun _ _ _ => False
theorem z_looks {M : Model} {pins : List (Addr × Obj)} {σ : L2.St} {H : Hp} {s : Shared} {y : V} {u : Value} (nt : NtZ X.K C Os) (I : Inv X pins σ H s) (r : RelV y u)
    (h : (∃ (q dy c2 : Addr) (gs : List (Str × V)), y = .ref q ∧ H q = some (.ins c2 dy gs) ∧ (c2 = C ∨ c2 ∈ Os)) ∨ ∃ (p : Mt) (d : D) (n : String), Rep X.K (del p H) y d ∧ tyN d = some n) : ∃ t, PySem.W.Looks M s.heap (typeOf u) t ∧ PySem.W.notFirst X.K C t = true := by
  rcases h with ⟨q, dy, c2, gs, rfl, hq, hc⟩ | ⟨p, d, n, hr, hn⟩
  · cases r
    obtain ⟨mB, O', _⟩ := ins_get I.hok hq
    obtain ⟨od', J', _⟩ := O'.look
    refine ⟨.ref c2, J'.type, ?_⟩
    rcases hc with rfl | hc
    · simp [PySem.W.notFirst]
    · exact nt.os c2 hc
  · exact ⟨.type n, rep_looks I hr r hn, nt.ty n (tyN_in hn)⟩
theorem op_own_eqZ (c : EqC X.K C ff) (nt : NtZ X.K C Os) (F : FnG X.prog X.w X.K X.mg X.base CX0 k ff fd qs sp) (hr : Room (k + 1) X.A) (hgd : X.A.guards = some []) (hb : Binds X.K fd qs []) : OpR X (compareOp .Eq) (rOwnEqZ C Os sp false X.K) := by
  intro pins s σ H x y v u Q I rx ry hq
  obtain ⟨p, dx, fs, rfl, hp, hT, h⟩ := hq
  cases rx
  obtain ⟨mA, O, _⟩ := ins_get I.hok hp
  obtain ⟨od, J, _⟩ := O.look
  obtain ⟨mm, hF⟩ := I.fr
  obtain ⟨t, lk, nf⟩ := z_looks nt I ry hT
  have hu : X.A.units < cLine := Nat.lt_of_le_of_lt (Nat.le_add_right _ _) hr.units
  show wpAny (model X.prog X.w) X.A (richCompare .Eq (.ref p) u) (EP X pins σ Q) X.xe s
  refine PySem.W.cmp_K (op := .Eq) (tb := t) hu hF I.ok.mod.kin J lk nf c.eq.at_ c.eq.fn ?_
  refine wpAny_mono (own_in_call (Q := fun t H' => Q (.bl t) H') F (hr.mono (Nat.le_succ _)) hgd I.env0 hb I ry h) (fun v s' hv => ?_) fun _ _ z => z
  obtain ⟨t, rfl, H', I', z⟩ := hv
  exact ⟨.bl t, H', I', rfl, z⟩
theorem op_own_neZ (c : EqC X.K C ff) (nt : NtZ X.K C Os) (F : FnG X.prog X.w X.K X.mg X.base CX0 k ff fd qs sp) (hr : Room (k + 1) X.A) (hgd : X.A.guards = some []) (hb : Binds X.K fd qs []) : OpR X (compareOp .NotEq) (rOwnEqZ C Os sp true X.K) := by
  intro pins s σ H x y v u Q I rx ry hq
  obtain ⟨p, dx, fs, rfl, hp, hT, h⟩ := hq
  cases rx
  obtain ⟨mA, O, _⟩ := ins_get I.hok hp
  obtain ⟨od, J, _⟩ := O.look
  obtain ⟨t, lk, nf⟩ := z_looks nt I ry hT
  have hu : X.A.units + 1 < cLine := hu_of hr
  show wpAny (model X.prog X.w) X.A (richCompare .NotEq (.ref p) u) (EP X pins σ Q) X.xe s
  refine ne_rich (tb := t) hu I.kIn J lk nf c ?_
  refine wpAny_mono (own_in_call (Q := fun t H' => Q (.bl (!t)) H') F hr.in1 hgd I.env0.in1 hb I ry h) (fun v s' hv => ?_) fun _ _ z => z
  obtain ⟨t, rfl, H', I', z⟩ := hv
  exact ⟨t, rfl, .bl (!t), H', I', rfl, z⟩
/-- on data -/
def isTZ (C : Addr) (Os : List Addr) : D → Bool
  | .ins c _ => decide (c = C ∨ c ∈ Os)
  | d => (tyN d).isSome
def eqGoZ {α : Type} (neg : Bool) (C : Addr) (Os : List Addr) (F : FD) (kk : Bool → M α) (x y : D) : M α := match x with
  | .ins C2 fs => if C2 = C ∧ isTZ C Os y = true then (liftC (F [.ins C fs, y])).bind fun v => (match v with
    | .bl t => kk (bif neg then !t else t)
    | _ => bad) else bad
  | _ => bad
def mEqZ (neg : Bool) (C : Addr) (Os : List Addr) (F : FD) (ma mb : M D) : M D := ma.bind fun x => mb.bind fun y => eqGoZ neg C Os F (fun b => ret (.bl b)) x y
def mtEqZ (neg : Bool) (C : Addr) (Os : List Addr) (F : FD) (ma mb : M D) : M Bool := ma.bind fun x => mb.bind fun y => eqGoZ neg C Os F ret x y
theorem tz_of {K : PySem.W.Frag} {p : Mt} {H : Hp} {w : V} {y : D} (h : Rep K (del p H) w y) (e : isTZ C Os y = true) :
    (∃ (q dy c2 : Addr) (gs : List (Str × V)), w = .ref q ∧ H q = some (.ins c2 dy gs) ∧ (c2 = C ∨ c2 ∈ Os)) ∨ ∃ (p : Mt) (d : D) (n : String), Rep K (del p H) w d ∧ tyN d = some n := by
  cases y <;> first | (cases e; done) | skip
  case ins c2 fs =>
    obtain ⟨a1, dx, vs, rfl, h1, h2⟩ := rep_ins h
    exact .inl ⟨a1, dx, c2, vs, rfl, del_of h1, of_decide_eq_true e⟩
  all_goals exact .inr ⟨p, _, _, h, rfl⟩
theorem eqZ_core {α : Type} {kk : Bool → M α} {F : FD} {neg : Bool} {J : Hp} {p2 : Mt} {g2 : G} {σ : L2.St} {H2 : Hp} {x y : D} {v w : V} {r : R α} {Q : VK} (R2 : Rl X.K J p2 g2 σ H2) (rv2 : Rep X.K (del p2 H2) v x) (rw' : Rep X.K (del p2 H2) w y)
    (hm2 : eqGoZ neg C Os F kk x y g2 = some r) (k : ∀ t g3, kk t g3 = some r → ∀ J2 p3, Ad g2 σ p2 H2 g3 p3 J2 → Rl X.K J p3 g3 σ J2 → Q (V.bl t) J2) : rOwnEqZ C Os (spM X.K false F) neg X.K v w H2 Q := by
  unfold eqGoZ at hm2
  cases x <;> first | (cases hm2; done) | skip
  rename_i C2 fs
  dsimp only at hm2
  split at hm2
  · rename_i hC
    obtain ⟨hC, hy⟩ := hC
    subst hC
    obtain ⟨a2, dy, us, rfl, h3, h4⟩ := rep_ins rv2
    unfold M.bind liftC at hm2
    cases e1 : F [.ins C2 fs, y] g2.c with
    | none => rw [e1] at hm2; cases hm2
    | some z =>
      obtain ⟨d, c'⟩ := z
      rw [e1] at hm2
      dsimp only at hm2
      refine ⟨a2, dy, us, rfl, del_of h3, tz_of rw' hy, p2, g2.c, [.ins C2 fs, y], [.ref a2, w], d, c', rfl, R2.hd, .cons rv2 (.cons rw' .nil), e1, fun v J2 af rv3 => ?_⟩
      obtain ⟨R3, ad3⟩ := R2.after af
      cases d <;> first | (cases hm2; done) | skip
      rename_i t
      cases rep_bl rv3
      exact ⟨t, rfl, k _ _ hm2 J2 _ ad3 R3⟩
  · cases hm2
theorem own_eqZ_data {F : FD} {neg : Bool} {op : CmpOp} {ma mb : M D} (ho : OpR X (compareOp op) (rOwnEqZ C Os (spM X.K false F) neg X.K)) (ha : EF X W a ma) (hb : EF X W b mb) (hm : behindInMarks op b = false) : EF X W (.Compare a [op] [b] pos) (mEqZ neg C Os F ma mb) := fun J p g σ H R0 r hm' Q hp =>
  of_pe (pe_cmpR ho semE semE hm) (ha.then R0 hm' hp fun x g1 p1 H1 v ad1 R1 rv hm1 hp1 => hb.then R1 hm1 hp1 fun y g2 p2 H2 w ad2 R2 rw' hm2 hp2 =>
    eqZ_core R2 (rv.le ad2.le) rw' hm2 fun t g3 er J2 p3 ad3 R3 => by
      cases er
      exact hp2 p3 J2 ad3 R3 _ (.bl _))
theorem own_eqZ_test {F : FD} {neg : Bool} {op : CmpOp} {ma mb : M D} (ho : OpR X (compareOp op) (rOwnEqZ C Os (spM X.K false F) neg X.K)) (ha : EF X W a ma) (hb : EF X W b mb) (hm : behindInMarks op b = false) : ET X W (.Compare a [op] [b] pos) (mtEqZ neg C Os F ma mb) := fun J p g σ H R0 r hm' Q hp =>
  of_pt (pt_cmpR ho semE semE hm) (ha.then R0 hm' hp fun x g1 p1 H1 v ad1 R1 rv hm1 hp1 => hb.then R1 hm1 hp1 fun y g2 p2 H2 w ad2 R2 rw' hm2 hp2 =>
    eqZ_core R2 (rv.le ad2.le) rw' hm2 fun t g3 er J2 p3 ad3 R3 => by
      cases er
      exact ⟨t, rfl, hp2 p3 J2 ad3 R3⟩)
section
variable {F : FD} {ma mb : M D} (c : EqC X.K C ff) (nt : NtZ X.K C Os) (hF : FnG X.prog X.w X.K X.mg X.base CX0 k ff fd qs (spM X.K false F)) (hr : Room (k + 1) X.A) (hgd : X.A.guards = some []) (hq : Binds X.K fd qs []) (ha : EF X W a ma) (hb : EF X W b mb)
include c nt hF hr hgd hq ha hb
theorem e_eqZ (hm : behindInMarks .Eq b = false := by first | exact nomark _ | rfl) : EF X W (.Compare a [.Eq] [b] pos) (mEqZ false C Os F ma mb) := own_eqZ_data (op_own_eqZ c nt hF hr hgd hq) ha hb hm
theorem e_neZ (hm : behindInMarks .NotEq b = false := by first | exact nomark _ | rfl) : EF X W (.Compare a [.NotEq] [b] pos) (mEqZ true C Os F ma mb) := own_eqZ_data (op_own_neZ c nt hF hr hgd hq) ha hb hm
theorem t_eqZ (hm : behindInMarks .Eq b = false := by first | exact nomark _ | rfl) : ET X W (.Compare a [.Eq] [b] pos) (mtEqZ false C Os F ma mb) := own_eqZ_test (op_own_eqZ c nt hF hr hgd hq) ha hb hm
theorem t_neZ (hm : behindInMarks .NotEq b = false := by first | exact nomark _ | rfl) : ET X W (.Compare a [.NotEq] [b] pos) (mtEqZ true C Os F ma mb) := own_eqZ_test (op_own_neZ c nt hF hr hgd hq) ha hb hm
end
end
theorem ev_eqGoZ {α : Type} {C : Addr} {Os : List Addr} {neg : Bool} {F : FD} {kk : Bool → M α} {x y : D} {g : G} {Q : α → G → Prop} : Ev (eqGoZ neg C Os F kk x y) g Q ↔ ∃ gs, x = .ins C gs ∧ isTZ C Os y = true ∧ ∃ t c', F [.ins C gs, y] g.c = some (.bl t, c') ∧ Ev (kk (bif neg then !t else t)) ⟨g.s, c'⟩ Q := by
  unfold eqGoZ
  refine ⟨fun z => ?_, fun ⟨gs, e2, hy, t, c', e3, z⟩ => ?_⟩
  · cases x <;> first | exact (ev_bad.mp z).elim | skip
    rename_i C2 gs
    dsimp only at z
    rw [ev_ite] at z
    split at z
    · rename_i hC
      obtain ⟨hC, hy⟩ := hC
      subst hC
      refine ⟨gs, rfl, hy, ?_⟩
      obtain ⟨d, c', e, z⟩ := ev_liftC.mp (ev_bind.mp z)
      cases d <;> first | exact (ev_bad.mp z).elim | skip
      exact ⟨_, c', e, z⟩
    · exact (ev_bad.mp z).elim
  · subst e2
    dsimp only
    rw [if_pos ⟨rfl, hy⟩]
    exact ev_bind.mpr (ev_liftC.mpr ⟨_, _, e3, z⟩)
@[simp] theorem ev_eqZ {C : Addr} {Os : List Addr} {neg : Bool} {F : FD} {ma mb : M D} {g : G} {Q : D → G → Prop} : Ev (mEqZ neg C Os F ma mb) g Q ↔ Ev ma g fun x g1 => Ev mb g1 fun y g2 => ∃ gs, x = .ins C gs ∧ isTZ C Os y = true ∧ ∃ t c', F [.ins C gs, y] g2.c = some (.bl t, c') ∧ Q (.bl (bif neg then !t else t)) ⟨g2.s, c'⟩ := by
  unfold mEqZ
  simp only [ev_bind, ev_eqGoZ, ev_ret]
@[simp] theorem ev_teqZ {C : Addr} {Os : List Addr} {neg : Bool} {F : FD} {ma mb : M D} {g : G} {Q : Bool → G → Prop} : Ev (mtEqZ neg C Os F ma mb) g Q ↔ Ev ma g fun x g1 => Ev mb g1 fun y g2 => ∃ gs, x = .ins C gs ∧ isTZ C Os y = true ∧ ∃ t c', F [.ins C gs, y] g2.c = some (.bl t, c') ∧ Q (bif neg then !t else t) ⟨g2.s, c'⟩ := by
  unfold mtEqZ
  simp only [ev_bind, ev_eqGoZ, ev_ret]
/-! ### isinstance(e, C), e anything -/
structure IsZ (K : PySem.W.Frag) (C : Addr) (Os : List Addr) : Prop where
  me : C8.InsC K C
  ty : NotIn K C
  os : ∀ o ∈ Os, C8.InsC K o ∧ PySem.W.kitOne K (.ref o) (.ref C) = some false
def fIsZ (C : Addr) (Os : List Addr) : D → Option D
  | .ins c _ => if c = C then some (.bl true) else if c ∈ Os then some (.bl false) else none
  | d => (tyN d).map fun _ => .bl false
def mIsZ (C : Addr) (Os : List Addr) (m : M D) : M D := m.bind fun d => lift (fIsZ C Os d)
def rIsO (C : Addr) (Os : List Addr) : List V → Hp → VK → Prop := fun xs H Q => ∃ (a c dx : Addr) (fs : List (Str × V)), xs = [.ref a, .ref C] ∧ H a = some (.ins c dx fs) ∧ c ∈ Os ∧ Q (.bl false) H
theorem call_isO {X : Cx} {C : Addr} {Os : List Addr} (z : IsZ X.K C Os) : CallR X (.builtin "isinstance") (rIsO C Os) := by
  intro pins s σ H xs us Q I r h
  obtain ⟨a, c, dx, fs, rfl, ha, hc, q⟩ := h
  obtain ⟨u, w', rfl, ru, rw'⟩ := vals2 r
  cases rw'
  obtain ⟨k, e⟩ := z.os c hc
  exact isinst_ok I ru (TyOf.ins ha k.cl k.ha k.hn k.htk k.hm) e fun tk => ⟨.bl false, H, I.tok _, rfl, q⟩
theorem e_isZ {X : Cx} {W : WW} {e : Expr} {pos : Pos} {C : Addr} {Os : List Addr} {x : Str} {px pc : Pos} {m : M D} (c : IsZ X.K C Os) (hm0 : X.mg "isinstance" = none) (hmc : X.mg x = some (.ref C)) (ha : EF X W e m) (hg : Gl X "isinstance" := by rfl) (hgc : Gl X x := by rfl)
    (hd : (x == ("__debug__" : Str)) = false := by decide) (he : starEach [e, .Name x pc] X.env = (false, eval e X.env) :: starEach [.Name x pc] X.env := by rfl) (he2 : starEach [.Name x pc] X.env = (false, eval (.Name x pc) X.env) :: starEach [] X.env := by rfl) (hpl : (backTo pos (starEach [.Name x pc] X.env)).any (·.1) = false := by rfl) :
    EF X W (.Call (.Name "isinstance" px) [e, .Name x pc] [] pos) (mIsZ C Os m) := fun J p g σ H R0 r hm Q hp =>
  of_pe (pe_callB ((call_isO c).or ((C8.call_isC c.me).or (call_isi.or (call_isDC (C := C))))) hg hm0 (by decide +kernel) (pa_cons semE (pa_cons (pe_glob (v := .ref C) hgc hmc rfl hd) pa_nil he2) he) (by decide) (by decide) he hpl) (ha.then R0 hm hp fun d g1 p1 H1 v ad1 R1 rv hm1 hp1 => by
    obtain ⟨z, hz, hq⟩ := post_lift hm1 hp1 R1
    by_cases hi : ∃ c2 fs, d = .ins c2 fs
    · obtain ⟨c2, fs, rfl⟩ := hi
      obtain ⟨a, dx, vs, rfl, h1, h2⟩ := rep_ins rv
      unfold fIsZ at hz
      dsimp only at hz
      split at hz
      · rename_i hC
        subst hC
        cases hz
        exact .inr (.inl ⟨a, dx, vs, rfl, del_of h1, hq p1 H1 .refl R1 _ (.bl true)⟩)
      · split at hz
        · rename_i hO
          cases hz
          exact .inl ⟨a, c2, dx, vs, rfl, del_of h1, hO, hq p1 H1 .refl R1 _ (.bl false)⟩
        · cases hz
    · have e2 : fIsZ C Os d = (tyN d).map fun _ => .bl false := by
        cases d <;> first | rfl | exact absurd ⟨_, _, rfl⟩ hi
      rw [e2] at hz
      cases e1 : tyN d with
      | none => rw [e1] at hz; cases hz
      | some n =>
        rw [e1] at hz
        cases hz
        have k := c.ty.no n (tyN_in e1)
        rcases rep_ty rv e1 with ty | ⟨A, rfl, hr⟩
        · exact .inr (.inr (.inl ⟨v, .ref C, _, _, false, rfl, .own C, ty, k, hq p1 H1 .refl R1 _ (.bl false)⟩))
        · exact .inr (.inr (.inr ⟨A, n, false, rfl, hr, k, hq p1 H1 .refl R1 _ (.bl false)⟩)))
@[simp] theorem ev_isZ {C : Addr} {Os : List Addr} {m : M D} {g : G} {Q : D → G → Prop} : Ev (mIsZ C Os m) g Q ↔ Ev m g fun d g1 => Ev (lift (fIsZ C Os d)) g1 Q := by
  unfold mIsZ
  simp
end Mo
set_option Elab.async false
set_option linter.all false
set_option maxRecDepth 100000
set_option maxHeartbeats 4000000
/-! Mo, part MtU: a, b, .. = a list. -/
namespace Mo
open PySem PySem.Spec L2
end Mo
set_option Elab.async false
set_option linter.all false
set_option maxRecDepth 100000
set_option maxHeartbeats 1000000
/-! Mo, part MtZ: f(*e) of a def f(a, .., *v). -/
namespace Mo
open PySem PySem.Spec PySem.Calls L2 PyProof.Rows
end Mo
set_option Elab.async false
set_option linter.all false
set_option maxRecDepth 100000
set_option maxHeartbeats 4000000
/-! Mo, part MtW: a dict of texts that is filled behind all others' backs: opened, closed. -/
namespace Mo
open PySem PySem.Spec L2
theorem nd_len {α : Type} [DecidableEq α] : ∀ {l m : List α}, l.Nodup → (∀ x ∈ l, x ∈ m) → l.length ≤ m.length
  | [], _, _, _ => Nat.zero_le _
  | x :: l, m, nd, h => by
    have hx := h x List.mem_cons_self
    have h2 : ∀ y ∈ l, y ∈ m.erase x := fun y my => by
      have ne : y ≠ x := fun e => (List.nodup_cons.mp nd).1 (e ▸ my)
      exact (List.mem_erase_of_ne ne).mpr (h y (List.mem_cons_of_mem _ my))
    have := nd_len (List.nodup_cons.mp nd).2 h2
    rw [List.length_erase_of_mem hx] at this
    have : 0 < m.length := List.length_pos_of_mem hx
    rw [List.length_cons]
    omega
/-- what may stand in it -/
structure VagK (m kvs : List (Str × Str)) : Prop where
  nd : (kvs.map (·.1)).Nodup
  sub : ∀ x ∈ kvs, x ∈ m
theorem VagK.len {m kvs : List (Str × Str)} (h : VagK m kvs) : kvs.length ≤ m.length := by
  have e := nd_len (m := m.map (·.1)) h.nd fun x mx => by
    obtain ⟨y, my, rfl⟩ := List.mem_map.mp mx
    exact List.mem_map_of_mem (h.sub y my)
  simpa using e
end Mo
set_option Elab.async false
set_option linter.all false
set_option maxRecDepth 100000
set_option maxHeartbeats 4000000
/-! Mo, part MtX: the rest of a def over such a dict, as if it were the parameter that the def changes. -/
namespace Mo
open PySem PySem.Spec L2
/-! data that no such dict belongs to -/
def isExt : HO → Bool
  | .ext _ => true
  | _ => false
/-- what can be read in F can be read in F', but for what is told by hand -/
def LeX (F F' : Hp) : Prop := ∀ a u, isExt u = false → isFD u = false → Vw F a u → Vw F' a u
section
variable {K : PySem.W.Frag} {F F' : Hp}
theorem LeX.ex {a : Addr} {o : HO} (e : LeX F F') (h : F a = some o) (n : isD o = false) (x : isExt o = false) (f : isFD o = false := by rfl) : F' a = some o := (e a o x f (.inl h)).ex n
end
end Mo
set_option Elab.async false
set_option linter.all false
set_option maxRecDepth 100000
set_option maxHeartbeats 4000000
/-! Mo, part MtY: a dict that is the changed parameter's content: k in d, d[k], d[k] = v. -/
namespace Mo
open PySem PySem.Spec L2
end Mo
set_option Elab.async false
set_option linter.all false
/-! Vm: what a factor keeps of the rows that were put before it. -/
namespace Vm
open PySem Mo
def ch (r : Nat) : Nat := if r = 0 then 48 else if r = 1 then 49 else if r = 2 then 110 else 46
end Vm
set_option Elab.async false
set_option linter.all false
set_option maxRecDepth 100000
set_option maxHeartbeats 4000000
/-! Mo: where one token is out at least (replace wants it): readings, promises and statements beside the plain ones. -/
namespace Mo
open PySem PySem.Spec L2
open Lp (FnG)
/-! ### readings where a token is out -/
structure SemE1 (X : Cx) (e : Expr) (σ : St) (H : Hp) (Q : VK) : Prop where
  run : ∀ (pins : List (Addr × Obj)) (s : Shared), 1 ≤ s.toks → Inv X pins σ H s → wpAny (model X.prog X.w) X.A (eval e X.env) (EP X pins σ Q) X.xe s
structure SemI1 (X : Cx) (tg it : Expr) (σ : St) (H : Hp) (R : It → Hp → Prop) : Prop where
  run : ∀ (pins : List (Addr × Obj)) (s : Shared), 1 ≤ s.toks → Inv X pins σ H s → wpAny (model X.prog X.w) X.A (eval it X.env) (fun v s1 => wpAny (model X.prog X.w) X.A (pyIter v) (PIE X pins σ tg R) X.xe s1) X.xe s
structure SemS1 (X : Cx) (st : Stmt) (D : Ends) (σ : St) (H : Hp) : Prop where
  run : ∀ (pins : List (Addr × Obj)) (s : Shared), 1 ≤ s.toks → Inv X pins σ H s → wpAny (model X.prog X.w) X.A (exec st X.env) (SP X pins D) X.xe s
structure SemSs1 (X : Cx) (st : List Stmt) (D : Ends) (σ : St) (H : Hp) : Prop where
  run : ∀ (pins : List (Addr × Obj)) (s : Shared), 1 ≤ s.toks → Inv X pins σ H s → wpAny (model X.prog X.w) X.A (execs st X.env) (SP X pins D) X.xe s
section
variable {X : Cx}
theorem semE1 {e : Expr} : PET X e (SemE1 X e) := fun pins s _ _ _ h0 I h => h.run pins s h0 I
theorem semI1 {tg it : Expr} : PIT X tg it (SemI1 X tg it) := fun pins s _ _ _ h0 I h => h.run pins s h0 I
theorem semS1 {st : Stmt} : PST X st (SemS1 X st) := fun pins s _ _ _ h0 I h => h.run pins s h0 I
theorem semSs1 {st : List Stmt} : PSsT X st (SemSs1 X st) := fun pins s _ _ _ h0 I h => h.run pins s h0 I
theorem of_pe1 {e : Expr} {t : TE} {σ : St} {H : Hp} {Q : VK} (h : PET X e t) (q : t σ H Q) : SemE1 X e σ H Q := ⟨fun pins s h0 I => h pins s σ H Q h0 I q⟩
theorem of_pi1 {tg it : Expr} {t : TI} {σ : St} {H : Hp} {R : It → Hp → Prop} (h : PIT X tg it t) (q : t σ H R) : SemI1 X tg it σ H R := ⟨fun pins s h0 I => h pins s σ H R h0 I q⟩
theorem of_ps1 {st : Stmt} {t : TS} {σ : St} {H : Hp} {D : Ends} (h : PST X st t) (q : t D σ H) : SemS1 X st D σ H := ⟨fun pins s h0 I => h pins s σ H D h0 I q⟩
theorem of_pss1 {st : List Stmt} {t : TS} {σ : St} {H : Hp} {D : Ends} (h : PSsT X st t) (q : t D σ H) : SemSs1 X st D σ H := ⟨fun pins s h0 I => h pins s σ H D h0 I q⟩
theorem SemE.one {e : Expr} {σ : St} {H : Hp} {Q : VK} (h : SemE X e σ H Q) : SemE1 X e σ H Q := ⟨fun pins s _ I => h.run pins s I⟩
end
def EF1 (X : Cx) (W : WW) (e : Expr) (m : M D) : Prop := ∀ J p g σ H, Rl X.K J p g σ H → ∀ r, m g = some r → ∀ Q : VK, Post X.K W J p g σ H r (qF X.K Q) → SemE1 X e σ H Q
def EI1 (X : Cx) (W : WW) (tg it : Expr) (m : M (List D)) : Prop := ∀ J p g σ H, Rl X.K J p g σ H → ∀ r, m g = some r → ∀ Q : It → Hp → Prop, Post X.K W J p g σ H r (fun ds _ p' H1 => ∀ Jt J' H', Lk X p' J H1 J' H' → Wk X.K J' p' H' Jt ds → Q Jt H') → SemI1 X tg it σ H Q
def SS1 (X : Cx) (W : WW) (st : Stmt) (m : M Oc) : Prop := ∀ J p g σ H, Rl X.K J p g σ H → ∀ r, m g = some r → ∀ Dd : Ends, PostS X.K W J p H r Dd → SemS1 X st Dd σ H
def SB1 (X : Cx) (W : WW) (st : List Stmt) (m : M Oc) : Prop := ∀ J p g σ H, Rl X.K J p g σ H → ∀ r, m g = some r → ∀ Dd : Ends, PostS X.K W J p H r Dd → SemSs1 X st Dd σ H
section
variable {X : Cx} {W : WW} {e a b c o it tg : Expr} {es : List Expr} {st : Stmt} {sts th el body : List Stmt} {pos ps px apos : Pos} {x : Str}
theorem EF.one {m : M D} (h : EF X W e m) : EF1 X W e m := fun J p g σ H R0 r hm Q hp => (h J p g σ H R0 r hm Q hp).one
theorem SS.one {m : M Oc} (h : SS X W st m) : SS1 X W st m := fun J p g σ H R0 r hm Dd hp => ⟨fun pins s _ I => (h J p g σ H R0 r hm Dd hp).run pins s I⟩
theorem SB.one {m : M Oc} (h : SB X W sts m) : SB1 X W sts m := fun J p g σ H R0 r hm Dd hp => ⟨fun pins s _ I => (h J p g σ H R0 r hm Dd hp).run pins s I⟩
theorem EF1.then {β : Type} {J : Hp} {p : Mt} {g : G} {σ : St} {H : Hp} {q : β → G → Mt → Hp → Prop} {r : R β} {m : M D} {k : D → M β} (h : EF1 X W e m) (R0 : Rl X.K J p g σ H) (hm : m.bind k g = some r) (hp : Post X.K W J p g σ H r q) {Q : VK}
    (hk : ∀ d g1 p1 H1 v, Ad g σ p H g1 p1 H1 → Rl X.K J p1 g1 σ H1 → Rep X.K (del p1 H1) v d → k d g1 = some r → Post X.K W J p1 g1 σ H1 r q → Q v H1) : SemE1 X e σ H Q := by
  unfold M.bind at hm
  cases e1 : m g with
  | none => rw [e1] at hm; cases hm
  | some r1 =>
    cases r1 with
    | ok d g1 =>
      rw [e1] at hm
      exact h J p g σ H R0 _ e1 Q fun p1 H1 ad R1 v rv => hk d g1 p1 H1 v ad R1 rv hm (hp.adv ad)
    | ex E g1 =>
      rw [e1] at hm
      cases hm
      exact h J p g σ H R0 _ e1 Q hp
/-! ### o.replace(y, z), written texts -/
def fRepl (y z : Str) : D → Option D
  | .str x => if x.length + (x.length + 1) * z.length ≤ 16777216 then some (.str (Txt.replace x y z)) else none
  | _ => none
def mRepl (y z : Str) (m : M D) : M D := m.bind fun x => lift (fRepl y z x)
theorem e1_repl {m : M D} {y z : Str} {j k : Nat} {c0 c1 : Pos} (ho : EF1 X W o m) (hyz : (y == z) = false := by decide)
    (hst : starEach [.Constant (.str y) j c0, .Constant (.str z) k c1] X.env = [(false, eval (.Constant (.str y) j c0) X.env), (false, eval (.Constant (.str z) k c1) X.env)] := by rfl)
    (hbase : attributeBase o "replace" X.env (eval o X.env) = eval o X.env := by rfl) (hline : (apos.endLine == pos.line) = true := by rfl) :
    EF1 X W (.Call (.Attribute o "replace" apos) [.Constant (.str y) j c0, .Constant (.str z) k c1] [] pos) (mRepl y z m) := fun J p g σ H R0 r hm Q hp =>
  of_pe1 (CwR.pet_replT semE1 hyz hst hbase hline) (ho.then R0 hm hp fun d g1 p1 H1 v ad1 R1 rv hm1 hp1 => by
    obtain ⟨u, hu, hq⟩ := post_lift hm1 hp1 R1
    cases d <;> first
      | (cases hu; done)
      | (rename_i x
         cases rep_str rv
         simp only [fRepl] at hu
         split at hu
         · rename_i hl
           cases hu
           exact ⟨x, rfl, hl, hq p1 H1 .refl R1 _ (.str _)⟩
         · cases hu))
/-! ### o.split() -/
def fWords : D → Option D
  | .str x => if x.length + 2 ≤ sizeLine then some (.lst ((Txt.words x).map D.str)) else none
  | _ => none
def mWords (m : M D) : M D := m.bind fun x => lift (fWords x)
theorem reps_strsD {K : PySem.W.Frag} {H : Hp} : ∀ xs : List Str, Reps K H (xs.map V.str) (xs.map D.str)
  | [] => .nil
  | x :: r => .cons (.str x) (reps_strsD r)
theorem pet_m0 {id : String} {name : Str} {r : V → List V → Hp → VK → Prop} {to : TE} (slot : Slot "str" name id) (ty : typeOf (.builtin id) = pure (.type "method_descriptor")) (rule : MtR X id r) (ho : PET X o to)
    (hbase : attributeBase o name X.env (eval o X.env) = eval o X.env := by rfl) (hline : (apos.endLine == pos.line) = true := by rfl) : PET X (.Call (.Attribute o name apos) [] [] pos) (tM0 r to) := by
  intro pins s σ H Q h0 I h
  refine PySem.Call_method0 hbase hline (thn (ho pins s σ H _ h0 I h) fun v s1 ⟨x, H1, I1, r1, q1⟩ => ?_)
  obtain ⟨⟨a, rfl⟩, q1⟩ := q1
  obtain ⟨t, rfl⟩ := _root_.id r1
  exact ⟨"str", _, F.plainAttrs_str, slot, ty, typeIs_str _ _ _, (fun _ e => nomatch e), Calls.callWith_builtin rfl (PySem.evalArgs_none (rule pins s1 σ H1 _ [] _ [] Q I1 r1 .nil q1))⟩
theorem e1_words {m : M D} (ho : EF1 X W o m) (hbase : attributeBase o "split" X.env (eval o X.env) = eval o X.env := by rfl) (hline : (apos.endLine == pos.line) = true := by rfl) :
    EF1 X W (.Call (.Attribute o "split" apos) [] [] pos) (mWords m) := fun J p g σ H R0 r hm Q hp =>
  of_pe1 (pet_m0 F.slot_str_split F.type_str_split mt_words semE1 hbase hline) (ho.then R0 hm hp fun d g1 p1 H1 v ad1 R1 rv hm1 hp1 => by
    obtain ⟨u, hu, hq⟩ := post_lift hm1 hp1 R1
    cases d <;> first
      | (cases hu; done)
      | (rename_i x
         cases rep_str rv
         simp only [fWords] at hu
         split at hu
         · rename_i hl
           cases hu
           refine ⟨⟨x, rfl⟩, x, rfl, rfl, hl, fun q hq0 => ?_⟩
           obtain ⟨R2, ad2, e2⟩ := R1.new (o := .lst ((Txt.words x).map V.str)) hq0
           exact hq p1 _ ad2 R2 _ (.lst (.inl (.inl e2)) (reps_strsD _))
         · cases hu))
/-! ### statements -/
theorem pst_set {i : Nat} {te : TE} (hN : X.N.Nodup) (hi : X.N[i]? = some x) (hx : Loc X.env.scope x) (he : PET X e te) (hs : swapsWith e (some (.Name x px)) pos.line X.env = pure false := by rfl) (hf : X.fn x = true ∨ X.env.scope.names.lookup x = some .local := by first | exact .inl rfl | exact .inr rfl | assumption) :
    PST X (.Assign [.Name x px] e pos) (tAsg te (gName i)) := by
  intro pins s σ H D h0 I h
  refine wpAny_Assign_Name (thn (he pins s σ H _ h0 I h) fun v s1 ⟨y, H1, I1, r1, q1⟩ => ?_) hs
  exact store_ok I1 hN hi hx r1 (fun s2 I2 => ⟨_, H1, I2, q1⟩) hf
theorem pst_fld {f : Str} {ta tv : TE} {pos' : Pos} (ha : PE X o ta) (hv : PET X e tv) (hs : swapsWith e (some (.Attribute o f pos')) pos.line X.env = pure false) : PST X (.Assign [.Attribute o f pos'] e pos) (sFld X.K ta tv f) := by
  intro pins s σ H D h0 I h
  refine plainObj_wpAny_Assign_Attribute (thn (hv pins s σ H _ h0 I h) fun u s1 ⟨y, H1, I1, ry, q⟩ => thn (ha.run pins s1 σ H1 _ I1 q) fun ov s2 ⟨x, H2, I2, rx, a, C, dx, fs, ex, ea, c, n, l, q2⟩ => ?_) hs
  subst ex
  obtain rfl : ov = Value.ref a := rx
  exact setattr_ok I2 ea c n l ry fun s3 I3 => ⟨σ, _, I3, q2⟩
theorem s1_set {m : M D} (i : Nat) (nd : X.N.Nodup) (h : EF1 X W e m) (hi : X.N[i]? = some x := by rfl) (hx : Loc X.env.scope x := by first | exact Or.inl rfl | exact Or.inr rfl)
    (hs : swapsWith e (some (.Name x px)) pos.line X.env = pure false := by rfl) (hf : X.fn x = true ∨ X.env.scope.names.lookup x = some .local := by first | exact .inl rfl | exact .inr rfl) : SS1 X W (.Assign [.Name x px] e pos) (mSet i m) := fun J p g σ H R0 r hm Dd hp => by
  obtain ⟨r1, e1, hq⟩ := post_s R0 hm hp
  refine of_ps1 (pst_set (i := i) nd hi hx semE1 hs hf) (h J p g σ H R0 r1 e1 _ (hq _ fun d g1 p1 H1 er ad R1 hk hp1 v rv => ?_))
  cases hk
  exact hp1 _ p1 H1 .refl (R1.setV rv)
theorem s1_ret {m : M D} (h : EF1 X W e m) : SS1 X W (.Return (some e) pos) (mRet m) := fun J p g σ H R0 r hm Dd hp => by
  obtain ⟨r1, e1, hq⟩ := post_s R0 hm hp
  refine of_ps1 (CwR.pst_ret semE1) (h J p g σ H R0 r1 e1 _ (hq _ fun d g1 p1 H1 er ad R1 hk hp1 v rv => ?_))
  cases hk
  exact hp1 σ p1 H1 v .refl R1 rv
theorem b1_cons {m k : M Oc} (h : SS1 X W st m) (hr : SB1 X W sts k) : SB1 X W (st :: sts) (seq m k) := fun J p g σ H R0 r hm Dd hp =>
  of_pss1 (psst_cons semS1 semSs1) (by
    unfold seq at hm
    cases e1 : m g with
    | none => rw [e1] at hm; cases hm
    | some r1 =>
      rw [e1] at hm
      refine h J p g σ H R0 r1 e1 _ ?_
      cases r1 with
      | ex E g1 =>
        cases hm
        exact hp
      | ok o g1 =>
        cases o with
        | nx => exact fun σ' p' H' a1 R1 => hr J p' g1 σ' H' R1 r hm Dd (hp.adv a1)
        | bk => cases hm; exact hp
        | ct => cases hm; exact hp
        | rt d => cases hm; exact hp
        | rto d => cases hm; exact hp)
end
end Mo
set_option Elab.async false
set_option linter.all false
set_option maxRecDepth 100000
set_option maxHeartbeats 4000000
/-! Mo: for and calls where a token is out; what is sure to give one out. -/
namespace Mo
open PySem PySem.Spec L2
open Lp (FnG)
section
variable {X : Cx} {J J' H H' : Hp} {p p1 : Mt} {g g1 : G} {σ σ1 : St} {st : Stmt}
theorem semS1_unl {st : Stmt} {Dd : Ends} (h : SemS1 X st (unlD X Dd) σ H) : SemS1 X st Dd σ H := ⟨fun pins s h0 I => thn (h.run pins s h0 I) fun f s1 q => by
  cases f with
  | next =>
    obtain ⟨σ', H', I1, q⟩ := q
    obtain ⟨H6, I2, q⟩ := unlP_ok I1 q
    exact ⟨σ', H6, I2, q⟩
  | brk =>
    obtain ⟨σ', H', I1, q⟩ := q
    obtain ⟨H6, I2, q⟩ := unlP_ok I1 q
    exact ⟨σ', H6, I2, q⟩
  | cont =>
    obtain ⟨σ', H', I1, q⟩ := q
    obtain ⟨H6, I2, q⟩ := unlP_ok I1 q
    exact ⟨σ', H6, I2, q⟩
  | ret u =>
    obtain ⟨v, σ', H', I1, r, q⟩ := q
    obtain ⟨H6, I2, q⟩ := unlV_ok I1 q
    exact ⟨v, σ', H6, I2, r, q⟩⟩
end
section
variable {X : Cx} {W : WW} {e a b c o it tg : Expr} {es : List Expr} {st : Stmt} {sts th el body : List Stmt} {pos ps px apos : Pos} {x : Str}
def mLs (m : M D) : M D := m.bind fun d => match d with
  | .lst xs => ret (.lst xs)
  | _ => bad
theorem ei1_any {m : M D} (h : EF1 X W it m) : EI1 X W tg it (mIter (mLs m)) := fun J p g σ H R0 r hm Q hp => by
  unfold mLs mIter M.bind at hm
  cases e1 : m g with
  | none =>
    rw [e1] at hm
    cases hm
  | some r1 =>
    rw [e1] at hm
    cases r1 with
    | ex E g1 =>
      cases hm
      exact of_pi1 (pit_list semE1) (h J p g σ H R0 _ e1 _ hp)
    | ok d g1 =>
      cases d with
      | lst ds =>
        cases hm
        refine of_pi1 (pit_list semE1) (h J p g σ H R0 _ e1 _ fun p1 H1 ad R1 v rv => ?_)
        obtain ⟨a, vs, rfl, ha, ra⟩ := rep_lst rv
        exact ⟨a, rfl, ⟨vs, sl_of ha⟩, hp p1 H1 ad R1 _ J H1 .no (wk_list ha ra)⟩
      | _ => cases hm
theorem s1_for {tg it : Expr} {is : List Nat} {mi : M (List D)} {f : D → G → Option G} {mb : M Oc} (hc : X.calm = true) (hpa : PassesOwn (model X.prog X.w) X.A X.env X.xe) (hi : EI1 X WN tg it mi) (hg : ES X is tg f) (hb : SB X WN body mb) (hfs : ∀ y, foldedSetIterable it X.env y = pure y := by intro _; rfl) :
    SS1 X WN (.For tg it body [] pos) (mFor f mi mb) := fun J p g σ H R0 r hm Dd hp => semS1_unl (by
  obtain ⟨r1, e1, hq⟩ := post_s R0 hm hp
  refine of_ps1 (pst_for hpa hc semI1 semG semSs hfs) (hi J p g σ H R0 r1 e1 _ (hq _ fun ds g1 p1 H1 er ad R1 hk hp1 Jt J' H1' lk wk => ?_))
  obtain ⟨R1', ad1⟩ := lk.rl R1
  obtain ⟨Gg, Y, w, hG, hY⟩ := wk.ex
  have fin : ∀ {σ5 : St} {p5 : Mt} {H5 : Hp} {g5 : G}, As J' p1 H1' p5 H5 → Rl X.K J' p5 g5 σ5 H5 → ∃ H6, (H6 = H5 ∨ ∃ d od u, H5 d = some (.frz od u) ∧ (∀ o' u', X.H_0 d ≠ some (.frz o' u')) ∧ H6 = upd H5 d u) ∧
      As J p1 H1 p5 H6 ∧ Rl X.K J p5 g5 σ5 H6 ∧ Le (del p5 H5) (del p5 H6) ∧ (∀ a ∈ p5.o, H6 a = H5 a) ∧ ∀ a, J a ≠ none → J' a ≠ none := fun {σ5 p5 H5 g5} a5 R5 => by
    obtain ⟨H6, h1, h2, h3, h4, h5, h6⟩ := lk.off R1 a5.dd R5
    exact ⟨H6, h1, ⟨a5.dd, ad1.le.trans (a5.le.trans h3), fun x m n => a5.ex x m (h6 x n), fun x n => h4 x (a5.th x (ad1.th x n))⟩, h2, h3, h5, h6⟩
  refine for_it w (fun k σ' H' => ∃ g' p', As J' p1 H1' p' H' ∧ Rl X.K J' p' g' σ' H' ∧ mLoop f mb (ds.drop k) g' = some r) ⟨g1, p1, .refl, R1', hk⟩ (fun k σ' H' _ ⟨g', p', a', R', _⟩ => hG p' g' σ' H' R' a'.dd a'.le) (fun k x σ' H' H2 hlt ⟨g', p', a', R', e'⟩ y => ?_) (fun σ' H' ⟨g', p', a', R', e'⟩ => ?_)
  · obtain ⟨d, ed, R2, ad2, rx⟩ := hY p' g' σ' H' k x H2 R' a'.dd a'.le hlt y
    have a2 : As J' p1 H1' p' H2 := a'.trans (ad2.as R')
    have e2 : ds.drop k = d :: ds.drop (k + 1) := by
      rw [List.drop_eq_getElem_cons hlt]
      rw [List.getElem?_eq_getElem hlt] at ed
      cases ed
      rfl
    rw [e2] at e'
    simp only [mLoop] at e'
    cases q1 : f d g' with
    | none =>
      rw [q1] at e'
      cases e'
    | some g3 =>
      rw [q1] at e'
      simp only at e'
      refine hg J' p' g' σ' H2 x d g3 R2 rx q1 _ fun σ3 sm R3 => ?_
      cases q2 : mb g3 with
      | none =>
        rw [q2] at e'
        cases e'
      | some r2 =>
        rw [q2] at e'
        refine hb J' p' g3 σ3 H2 R3 r2 q2 _ ?_
        cases r2 with
        | ex E g4 =>
          cases e'
          intro σ5 p5 H5 a5 R5
          obtain ⟨H6, h1, h2, h3, _⟩ := fin (a2.trans a5) R5
          exact hp1 σ5 p5 H6 h2 h3
        | ok o g4 =>
          cases o with
          | nx => exact fun σ5 p5 H5 a5 R5 => ⟨g4, p5, a2.trans a5, R5, e'⟩
          | ct => exact fun σ5 p5 H5 a5 R5 => ⟨g4, p5, a2.trans a5, R5, e'⟩
          | bk =>
            cases e'
            intro σ5 p5 H5 a5 R5
            obtain ⟨H6, h1, h2, h3, _⟩ := fin (a2.trans a5) R5
            exact unl_of h1 (hp1 σ5 p5 H6 h2 h3)
          | rt d2 =>
            cases e'
            intro σ5 p5 H5 v a5 R5 rv
            obtain ⟨H6, h1, h2, h3, h4, _⟩ := fin (a2.trans a5) R5
            exact unlV_of h1 (hp1 σ5 p5 H6 v h2 h3 (rv.le h4))
          | rto d2 =>
            cases e'
            intro σ5 p5 H5 q a5 R5 m1 m2 m3 m4
            obtain ⟨H6, h1, h2, h3, h4, h5, h6⟩ := fin (a2.trans a5) R5
            refine unlV_of h1 (hp1 σ5 p5 H6 q h2 h3 m1 ?_ m3 (m4.le h4 (h5 q m1)))
            cases e : J q with
            | none => rfl
            | some o => exact absurd m2 (h6 q (by rw [e]; exact Option.some_ne_none _))
  · rw [List.drop_length] at e'
    cases e'
    obtain ⟨H6, h1, h2, h3, _⟩ := fin a' R'
    exact unl_of h1 (hp1 σ' p' H6 h2 h3))
end
end Mo
set_option Elab.async false
set_option linter.all false
set_option maxRecDepth 100000
set_option maxHeartbeats 4000000
/-! Mo: promises that want a token out, or give one out where they say yes. -/
namespace Mo
open PySem PySem.Spec L2
open Lp (FnG)
/-- as FnG, asked only where a token is out -/
structure FnP (P : Program) (w : World) (K : PySem.W.Frag) (mg : Str → Option Value) (base : Heap) (CX : CXT) (k : Nat) (f : Addr) (fd : FuncData) (ps : List Str) (sp : Sp) : Prop where
  len : ∀ vs H Q E, sp vs H Q E → vs.length = ps.length
  go : ∀ (B : Around) (fr : List Env) (st : Shared) (J : Hp) (ar : Args) (ws : List Value) (xs : List V) (R : VK) (Z : XK),
    Room k B → B.guards = some [] → 1 ≤ st.toks → Env0 P w K mg base B fr st J → BindsTo st fd ar (ps.zip ws) → Vals xs ws → sp xs J R Z →
    codeAny (model P w) B (.call (.ref f) ar) (CR CX fr P w J st R Z) st
/-- as FnG; where the end is True, a token is out -/
structure FnU (P : Program) (w : World) (K : PySem.W.Frag) (mg : Str → Option Value) (base : Heap) (CX : CXT) (k : Nat) (f : Addr) (fd : FuncData) (ps : List Str) (sp : Sp) : Prop where
  len : ∀ vs H Q E, sp vs H Q E → vs.length = ps.length
  go : ∀ (B : Around) (fr : List Env) (st : Shared) (J : Hp) (ar : Args) (ws : List Value) (xs : List V) (R : VK) (Z : XK),
    Room k B → B.guards = some [] → Env0 P w K mg base B fr st J → BindsTo st fd ar (ps.zip ws) → Vals xs ws → sp xs J R Z →
    codeAny (model P w) B (.call (.ref f) ar) (fun r s' => CR CX fr P w J st R Z r s' ∧ (r = .ok (.ret (.bool true)) → 1 ≤ s'.toks)) st
section
variable {P : Program} {w : World} {K : PySem.W.Frag} {mg : Str → Option Value} {base : Heap} {CX : CXT}
theorem FnP.mono {j k : Nat} {f : Addr} {fd : FuncData} {ps : List Str} {sp : Sp} (F : FnP P w K mg base CX j f fd ps sp) (h : j ≤ k) : FnP P w K mg base CX k f fd ps sp :=
  ⟨F.len, fun B fr st J ar ws xs R Z r => F.go B fr st J ar ws xs R Z (r.mono h)⟩
theorem FnU.mono {j k : Nat} {f : Addr} {fd : FuncData} {ps : List Str} {sp : Sp} (F : FnU P w K mg base CX j f fd ps sp) (h : j ≤ k) : FnU P w K mg base CX k f fd ps sp :=
  ⟨F.len, fun B fr st J ar ws xs R Z r => F.go B fr st J ar ws xs R Z (r.mono h)⟩
theorem FnU.g {k : Nat} {f : Addr} {fd : FuncData} {ps : List Str} {sp : Sp} (F : FnU P w K mg base CX k f fd ps sp) : FnG P w K mg base CX k f fd ps sp :=
  ⟨F.len, fun B fr st J ar ws xs R Z a b c d e f => codeAny_mono (F.go B fr st J ar ws xs R Z a b c d e f) fun _ _ z => z.1⟩
open PyProof.Rows in
theorem okG1 {x qual : Str} {st : Stmt} {f : Addr} {fd : FuncData} {N ps : List Str} {k : Nat} {sp : Sp} (F : Fun K x qual st f fd) (S : FnScope N ps (defScope st)) (len : ∀ vs H Q E, sp vs H Q E → vs.length = ps.length)
    (body : ∀ (cdv : Value) (B : Around) (fr : List Env) (s : Shared) (J : Hp) (xs : List V) (R : VK) (Z : XK),
      Room k (B.deeper (envOfC qual (defScope st) s.heap.objs.size f cdv)) → (B.deeper (envOfC qual (defScope st) s.heap.objs.size f cdv)).guards = some [] → sp xs J R Z →
      ∃ t, PSsT (cxOf CX P w K mg base N qual (defScope st) f cdv B fr s J Z) (defBody st) t ∧ t { nx := fun _ H' => R .non H', rt := R } (start N xs) J) :
    FnP P w K mg base CX (k + 1) f fd ps sp := by
  obtain ⟨oc, od, kV, doc, pm, an, cdv, ct, osl, rfl, lk, hcd⟩ := F.ex
  refine ⟨len, fun B fr s J ar ws xs R Z hr hg h0 e0 hb r hsp => ?_⟩
  have hl := len _ _ _ _ hsp
  have inH : ∀ b o, base.get? b = some o → s.heap.get? b = some o := fun b o e => (e0.bs b o e).1
  have KX : K.In s.heap := e0.mod.kin.keeps inH
  have par : ∀ y ∈ ps.zip ws, (defScope st).names.lookup y.1 = some .local ∨ ((defScope st).names.lookup y.1 = some .cell ∧ ((cellsFrom (s.heap.objs.size + 1) (defScope st).names []).lookup y.1).isSome = true) := fun y hy =>
    (S.par y.1 (List.of_mem_zip (show (y.1, y.2) ∈ ps.zip ws from hy)).1).elim .inl fun q => .inr ⟨q, PySem.W.cellsFrom_some _ _ _ (.inl q)⟩
  refine codeAny_call_function hr.depth (KX _ _ lk) rfl S.co S.gen rfl (PySem.W.codeRec_of KX hcd) (hb _ _ _ _ ?_)
  refine wpAny_with_toks h0 (wpAny_newFunctionEnv_cells S.kind par fun en hen s1 c1 h1 => ?_)
  subst hen
  refine ⟨(e0.mod.nolimit.keeps inH).keeps c1.toInCall.keep, codeAny_func ?_⟩
  obtain ⟨t, ht, hq⟩ := body cdv B fr s J xs R Z (hr.deeper _) hg hsp
  have I := inv_start (CX := CX) (cd := cdv) (qual := qual) (f := f) (E := Z) S hr.hd e0 hl r c1
  refine wpAny_mono (ht [] s1 (start N xs) J _ h1 I hq) (fun fl s2 hs => ?_) fun _ _ z => z
  match fl, hs with
  | .ret u, ⟨v, _, H2, I2, rv, q⟩ => exact ⟨v, H2, I2.os, I2.bare, I2.base, I2.hok, rv, q⟩
  | .next, ⟨_, H2, I2, q⟩ => exact ⟨V.non, H2, I2.os, I2.bare, I2.base, I2.hok, rfl, q⟩
  | .brk, ⟨_, _, _, q⟩ => exact q.elim
  | .cont, ⟨_, _, _, q⟩ => exact q.elim
/-- a body whose end True comes with a token -/
structure SemSsU (X : Cx) (st : List Stmt) (D : Ends) (σ : L2.St) (H : Hp) : Prop where
  run : ∀ (pins : List (Addr × Obj)) (s : Shared), Inv X pins σ H s → wpAny (model X.prog X.w) X.A (execs st X.env) (fun f s' => SP X pins D f s' ∧ (f = .ret (.bool true) → 1 ≤ s'.toks)) X.xe s
open PyProof.Rows in
theorem okGU {x qual : Str} {st : Stmt} {f : Addr} {fd : FuncData} {N ps : List Str} {k : Nat} {sp : Sp} (F : Fun K x qual st f fd) (S : FnScope N ps (defScope st)) (len : ∀ vs H Q E, sp vs H Q E → vs.length = ps.length)
    (body : ∀ (cdv : Value) (B : Around) (fr : List Env) (s : Shared) (J : Hp) (xs : List V) (R : VK) (Z : XK),
      Room k (B.deeper (envOfC qual (defScope st) s.heap.objs.size f cdv)) → (B.deeper (envOfC qual (defScope st) s.heap.objs.size f cdv)).guards = some [] → sp xs J R Z →
      SemSsU (cxOf CX P w K mg base N qual (defScope st) f cdv B fr s J Z).nox (defBody st) { nx := fun _ H' => R .non H', rt := R } (start N xs) J) :
    FnU P w K mg base CX (k + 1) f fd ps sp := by
  obtain ⟨oc, od, kV, doc, pm, an, cdv, ct, osl, rfl, lk, hcd⟩ := F.ex
  refine ⟨len, fun B fr s J ar ws xs R Z hr hg e0 hb r hsp => ?_⟩
  have hl := len _ _ _ _ hsp
  have inH : ∀ b o, base.get? b = some o → s.heap.get? b = some o := fun b o e => (e0.bs b o e).1
  have KX : K.In s.heap := e0.mod.kin.keeps inH
  have par : ∀ y ∈ ps.zip ws, (defScope st).names.lookup y.1 = some .local ∨ ((defScope st).names.lookup y.1 = some .cell ∧ ((cellsFrom (s.heap.objs.size + 1) (defScope st).names []).lookup y.1).isSome = true) := fun y hy =>
    (S.par y.1 (List.of_mem_zip (show (y.1, y.2) ∈ ps.zip ws from hy)).1).elim .inl fun q => .inr ⟨q, PySem.W.cellsFrom_some _ _ _ (.inl q)⟩
  refine codeAny_call_function hr.depth (KX _ _ lk) rfl S.co S.gen rfl (PySem.W.codeRec_of KX hcd) (hb _ _ _ _ ?_)
  refine wpAny_newFunctionEnv_cells S.kind par fun en hen s1 c1 => ?_
  subst hen
  refine ⟨(e0.mod.nolimit.keeps inH).keeps c1.toInCall.keep, codeAny_func ?_⟩
  have ht := body cdv B fr s J xs R Z (hr.deeper _) hg hsp
  have I := inv_start (CX := CX) (cd := cdv) (qual := qual) (f := f) (E := Z) S hr.hd e0 hl r c1
  refine wpAny_mono (ht.run [] s1 (I.wish _)) (fun fl s2 hs => ?_) fun _ _ z => False.elim z
  have hs : SP (cxOf CX P w K mg base N qual (defScope st) f cdv B fr s J Z) [] { nx := fun _ H' => R .non H', rt := R } fl s2 ∧ (fl = .ret (.bool true) → 1 ≤ s2.toks) := ⟨hs.1.unwish, hs.2⟩
  match fl, hs with
  | .ret u, ⟨⟨v, _, H2, I2, rv, q⟩, q2⟩ => exact ⟨⟨v, H2, I2.os, I2.bare, I2.base, I2.hok, rv, q⟩, fun z => q2 (by cases z; rfl)⟩
  | .next, ⟨⟨_, H2, I2, q⟩, q2⟩ => exact ⟨⟨V.non, H2, I2.os, I2.bare, I2.base, I2.hok, rfl, q⟩, fun z => by cases z⟩
  | .brk, ⟨⟨_, _, _, q⟩, _⟩ => exact q.elim
  | .cont, ⟨⟨_, _, _, q⟩, _⟩ => exact q.elim
end
section
variable {P : Program} {w : World} {K : PySem.W.Frag} {mg : Str → Option Value} {base : Heap} {dice : Bool} {x qual : Str} {st : Stmt} {f : Addr} {fd : FuncData} {N ps : List Str} {k : Nat} {m : M Oc}
def SBU (X : Cx) (W : WW) (st : List Stmt) (m : M Oc) : Prop := ∀ J p g σ H, Rl X.K J p g σ H → ∀ r, m g = some r → ∀ Dd : Ends, PostS X.K W J p H r Dd → SemSsU X st Dd σ H
/-- from a body's word to a def's, whichever reading the body has -/
theorem runM_post {J : Hp} {p : Mt} {c c' : C3} {ds : List D} {d : D} {Q : VK} {vs ws : List V} (ha : argsM dice p vs ws) (hd : Hd K p J c) (r : Reps K (del p J) ws ds) (e : runM dice N.length ps.length m ds c = some (d, c')) (q : ∀ v J2, Af K p p J J2 c' → Rep K (del p J2) v d → Q v J2) :
    ∃ r1, m ⟨ini dice N.length ds, c⟩ = some r1 ∧ PostS K WN J p J r1 { nx := fun _ H' => Q .non H', rt := Q } := by
  unfold runM at e
  split at e
  · cases e1 : m ⟨ini dice N.length ds, c⟩ with
    | none =>
      rw [e1] at e
      cases e
    | some r1 =>
      rw [e1] at e
      refine ⟨r1, rfl, ?_⟩
      have fin : ∀ {p' : Mt} {H' : Hp} {g' : G} {σ' : L2.St}, As J p J p' H' → Rl K J p' g' σ' H' → Af K p p J H' g'.c := fun a R => ⟨fun b o n e => R.old b o (by rw [a.dd]; exact n) e, fun b e => (R.dice b (by rw [a.dd]; exact e)).le (le_back (fun a m => mut_ne (hd.lv a m)) a.dd a.ex) rfl, R.fz⟩
      cases r1 with
      | ex E g => cases e
      | ok o g =>
        cases o with
        | nx =>
          cases e
          exact fun σ' p' H' a R => q _ H' (fin a R) .non
        | rt d =>
          cases e
          exact fun σ' p' H' v a R rv => q v H' (fin a R) (rv.le (le_back (fun a m => mut_ne (hd.lv a m)) a.dd a.ex))
        | rto o =>
          cases e
          refine fun σ' p' H' y a R h1 h2 h3 h4 => q _ H' (fin a R) ?_
          obtain ⟨R2, e2⟩ := R.show_ h3 h1
          refine ((h4.le del_rem rfl).rep e2).le (le_back (p' := p'.rem y) (fun a m => mut_ne (hd.lv a m)) a.dd fun b hb n => List.mem_filter.mpr ⟨a.ex b hb n, decide_eq_true fun z => n (z ▸ h2)⟩)
        | bk => cases e
        | ct => cases e
  · cases e
theorem runM_len {J : Hp} {vs : List V} {Q : VK} {E : XK} (h : spM K dice (runM dice N.length ps.length m) vs J Q E) : vs.length = ps.length := by
  obtain ⟨p, c, ds, ws, d, c', ha, _, r, e, _⟩ := h
  unfold runM at e
  split at e
  · rename_i h
    rw [args_len ha, r.len]
    exact h
  · cases e
theorem okMP (F : Fun K x qual st f fd) (S : FnScope N ps (defScope st))
    (body : ∀ (cdv : Value) (B : Around) (fr : List Env) (s : Shared) (J0 : Hp) (Z : XK), Room k (XX P w K mg base N qual st f cdv B fr s J0 Z).A → (XX P w K mg base N qual st f cdv B fr s J0 Z).A.guards = some [] →
      SB1 (XX P w K mg base N qual st f cdv B fr s J0 Z) WN (defBody st) m) : FnP P w K mg base CX0 (k + 1) f fd ps (spM K dice (runM dice N.length ps.length m)) := by
  refine okG1 F S (fun vs J Q Z h => runM_len h) fun cdv B fr s J vs Q Z hr hg ⟨p, c, ds, ws, d, c', ha, hd, r, e, q⟩ => ?_
  obtain ⟨r1, e1, po⟩ := runM_post ha hd r e q
  refine ⟨SemSs1 (cxOf CX0 P w K mg base N qual (defScope st) f cdv B fr s J Z) (defBody st), semSs1, ⟨fun pins s1 h0 I => ?_⟩⟩
  exact wpAny_mono ((body cdv B fr s J Z hr hg J p _ _ J (rl_start ha hd r) r1 e1 _ po).run pins s1 h0 (I.wish _)) (fun _ _ q => q.unwish) fun _ _ z => False.elim z
theorem okMU (F : Fun K x qual st f fd) (S : FnScope N ps (defScope st))
    (body : ∀ (cdv : Value) (B : Around) (fr : List Env) (s : Shared) (J0 : Hp) (Z : XK), Room k (XX P w K mg base N qual st f cdv B fr s J0 Z).A → (XX P w K mg base N qual st f cdv B fr s J0 Z).A.guards = some [] →
      SBU (XX P w K mg base N qual st f cdv B fr s J0 Z) WN (defBody st) m) : FnU P w K mg base CX0 (k + 1) f fd ps (spM K dice (runM dice N.length ps.length m)) := by
  refine okGU F S (fun vs J Q Z h => runM_len h) fun cdv B fr s J vs Q Z hr hg ⟨p, c, ds, ws, d, c', ha, hd, r, e, q⟩ => ?_
  obtain ⟨r1, e1, po⟩ := runM_post ha hd r e q
  exact body cdv B fr s J Z hr hg J p _ _ J (rl_start ha hd r) r1 e1 _ po
end
/-! ### calls -/
section
variable {X : Cx} {W : WW} {e a b c o it tg : Expr} {es : List Expr} {st : Stmt} {sts th el body : List Stmt} {pos ps px apos p0 : Pos} {x : Str} {k : Nat} {f : Addr} {fd : FuncData} {qs : List Str}
theorem callP {CX : CXT} {sp : Sp} {t : TA} {Z : XK} (F : FnP X.prog X.w X.K X.mg X.base CX k f fd qs sp) (hr : Room k X.A) (hgd : X.A.guards = some [])
    (hg : Gl X x) (hm : X.mg x = some (.ref f)) (hk : PySem.W.keepIn X.K (.ref f) = true) (hb : Binds X.K fd qs []) (hx : Passes CX X Z)
    (ha : PA X (e :: es) t) (hdb : (x == ("__debug__" : Str)) = false := by decide) (he : starEach (e :: es) X.env = (false, eval e X.env) :: starEach es X.env := by rfl) (hpl : (backTo pos (starEach es X.env)).any (·.1) = false := by rfl) :
    PET X (.Call (.Name x p0) (e :: es) [] pos) (tCall sp [] Z t) := by
  intro pins s σ J R h0 I h
  apply wpAny_Call_Name_kw
  refine ld_glob I hg hm ?_ hdb
  refine PySem.W.callWith_K (h₀ := X.base) I.ok.mod.kin hk (wpAny_with_toks h0 (wpAny_mono (ha.run pos pins s σ J _ I h) (fun ws s1 z h1 => ?_) fun _ _ z _ => z)) he hpl
  obtain ⟨xs, J1, I1, r, q⟩ := z
  refine ⟨I1.kIn, ?_⟩
  have q' : sp xs J1 R Z := by
    have q2 : sp (xs ++ []) J1 R Z := q
    rwa [List.append_nil] at q2
  have bt := hb s1 ws I1.kIn (by rw [List.append_nil, ← r.length]; exact F.len _ _ _ _ q')
  rw [List.append_nil] at bt
  refine wpAny_call (codeAny_mono (F.go X.A X.stack s1 J1 ⟨ws, []⟩ ws xs R Z hr hgd h1 I1.env0 bt r q') fun o s2 w2 => ?_)
  match o, w2 with
  | .error e, w2 => exact hx pins σ J1 s1 e s2 I1 w2
  | .ok (.ret u), w2 => exact I1.after w2
theorem e1_fnP {F : FD} {ms : M (List D)} (hF : FnP X.prog X.w X.K X.mg X.base CX0 k f fd qs (spM X.K false F)) (hr : Room k X.A) (hgd : X.A.guards = some []) (hm : X.mg x = some (.ref f)) (hk : PySem.W.keepIn X.K (.ref f) = true) (hb : Binds X.K fd qs [])
    (ha : EA X W (e :: es) ms) (hg : Gl X x := by rfl) (hdb : (x == ("__debug__" : Str)) = false := by decide) (he : starEach (e :: es) X.env = (false, eval e X.env) :: starEach es X.env := by rfl) (hpl : (backTo pos (starEach es X.env)).any (·.1) = false := by rfl) :
    EF1 X W (.Call (.Name x p0) (e :: es) [] pos) (mFn F ms) := fun J p g σ H R0 r hm' Q hp =>
  of_pe1 (callP hF hr hgd hg hm hk hb pass0 semA hdb he hpl) (ha.then R0 hm' hp fun ds g1 p1 H1 vs ad1 R1 rs hm1 hp1 => by
    rw [List.append_nil]
    obtain ⟨d, c, e1, rfl⟩ := liftC_some hm1
    refine ⟨p1, g1.c, ds, vs, d, c, rfl, R1.hd, rs, e1, fun v J2 a rv => ?_⟩
    obtain ⟨R2, ad2⟩ := R1.after a
    exact hp1 p1 J2 ad2 R2 v rv)
/-- an expression whose value True comes with a token -/
structure SemEU (X : Cx) (e : Expr) (σ : L2.St) (H : Hp) (Q : VK) : Prop where
  run : ∀ (pins : List (Addr × Obj)) (s : Shared), Inv X pins σ H s → wpAny (model X.prog X.w) X.A (eval e X.env) (fun v s' => EP X pins σ Q v s' ∧ (v = .bool true → 1 ≤ s'.toks)) X.xe s
def EFU (X : Cx) (W : WW) (e : Expr) (m : M D) : Prop := ∀ J p g σ H, Rl X.K J p g σ H → ∀ r, m g = some r → ∀ Q : VK, Post X.K W J p g σ H r (qF X.K Q) → SemEU X e σ H Q
theorem callU {CX : CXT} {sp : Sp} {t : TA} {Z : XK} (F : FnU X.prog X.w X.K X.mg X.base CX k f fd qs sp) (hr : Room k X.A) (hgd : X.A.guards = some [])
    (hg : Gl X x) (hm : X.mg x = some (.ref f)) (hk : PySem.W.keepIn X.K (.ref f) = true) (hb : Binds X.K fd qs []) (hx : Passes CX X Z)
    (ha : PA X (e :: es) t) (hdb : (x == ("__debug__" : Str)) = false := by decide) (he : starEach (e :: es) X.env = (false, eval e X.env) :: starEach es X.env := by rfl) (hpl : (backTo pos (starEach es X.env)).any (·.1) = false := by rfl)
    {σ : L2.St} {J : Hp} {R : VK} (h : tCall sp [] Z t σ J R) : SemEU X (.Call (.Name x p0) (e :: es) [] pos) σ J R := by
  constructor
  intro pins s I
  apply wpAny_Call_Name_kw
  refine ld_glob I hg hm ?_ hdb
  refine PySem.W.callWith_K (h₀ := X.base) I.ok.mod.kin hk (thn (ha.run pos pins s σ J _ I h) fun ws s1 z => ?_) he hpl
  obtain ⟨xs, J1, I1, r, q⟩ := z
  refine ⟨I1.kIn, ?_⟩
  have q' : sp xs J1 R Z := by
    have q2 : sp (xs ++ []) J1 R Z := q
    rwa [List.append_nil] at q2
  have bt := hb s1 ws I1.kIn (by rw [List.append_nil, ← r.length]; exact F.len _ _ _ _ q')
  rw [List.append_nil] at bt
  refine wpAny_call (codeAny_mono (F.go X.A X.stack s1 J1 ⟨ws, []⟩ ws xs R Z hr hgd I1.env0 bt r q') fun o s2 w2 => ?_)
  match o, w2 with
  | .error e, ⟨w2, _⟩ => exact hx pins σ J1 s1 e s2 I1 w2
  | .ok (.ret u), ⟨w2, w3⟩ => exact ⟨I1.after w2, fun z => w3 (by rw [z])⟩
theorem eU_fn {F : FD} {ms : M (List D)} (hF : FnU X.prog X.w X.K X.mg X.base CX0 k f fd qs (spM X.K false F)) (hr : Room k X.A) (hgd : X.A.guards = some []) (hm : X.mg x = some (.ref f)) (hk : PySem.W.keepIn X.K (.ref f) = true) (hb : Binds X.K fd qs [])
    (ha : EA X W (e :: es) ms) (hg : Gl X x := by rfl) (hdb : (x == ("__debug__" : Str)) = false := by decide) (he : starEach (e :: es) X.env = (false, eval e X.env) :: starEach es X.env := by rfl) (hpl : (backTo pos (starEach es X.env)).any (·.1) = false := by rfl) :
    EFU X W (.Call (.Name x p0) (e :: es) [] pos) (mFn F ms) := fun J p g σ H R0 r hm' Q hp =>
  callU hF hr hgd hg hm hk hb pass0 semA hdb he hpl (ha.then R0 hm' hp fun ds g1 p1 H1 vs ad1 R1 rs hm1 hp1 => by
    rw [List.append_nil]
    obtain ⟨d, c, e1, rfl⟩ := liftC_some hm1
    refine ⟨p1, g1.c, ds, vs, d, c, rfl, R1.hd, rs, e1, fun v J2 a rv => ?_⟩
    obtain ⟨R2, ad2⟩ := R1.after a
    exact hp1 p1 J2 ad2 R2 v rv)
end
end Mo
set_option Elab.async false
set_option linter.all false
set_option maxRecDepth 100000
set_option maxHeartbeats 4000000
/-! Mo: tests and statements that give a token out. -/
namespace Mo
open PySem PySem.Spec L2
open Lp (FnG)
structure SemTF (X : Cx) (e : Expr) (σ : St) (H : Hp) (Q : Bool → Hp → Prop) : Prop where
  run : ∀ (pins : List (Addr × Obj)) (s : Shared), Inv X pins σ H s → wpAny (model X.prog X.w) X.A (isTrue e X.env (eval e X.env)) (fun b s' => TP X pins σ Q b s' ∧ (b = false → 1 ≤ s'.toks)) X.xe s
structure SemWF (X : Cx) (e : Expr) (σ : St) (H : Hp) (Q : Bool → Hp → Prop) : Prop where
  run : ∀ (whole : Sem Value) (pins : List (Addr × Obj)) (s : Shared), Inv X pins σ H s → wpAny (model X.prog X.w) X.A (isTrue e X.env whole) (fun b s' => TP X pins σ Q b s' ∧ (b = false → 1 ≤ s'.toks)) X.xe s
structure SemTT (X : Cx) (e : Expr) (σ : St) (H : Hp) (Q : Bool → Hp → Prop) : Prop where
  run : ∀ (pins : List (Addr × Obj)) (s : Shared), Inv X pins σ H s → wpAny (model X.prog X.w) X.A (isTrue e X.env (eval e X.env)) (fun b s' => TP X pins σ Q b s' ∧ (b = true → 1 ≤ s'.toks)) X.xe s
structure SemTK (X : Cx) (e : Expr) (σ : St) (H : Hp) (Q : Bool → Hp → Prop) : Prop where
  run : ∀ (pins : List (Addr × Obj)) (s : Shared), Inv X pins σ H s → wpAny (model X.prog X.w) X.A (isTrue e X.env (eval e X.env)) (fun b s' => TP X pins σ Q b s' ∧ 1 ≤ s'.toks) X.xe s
structure SemSN (X : Cx) (st : Stmt) (D : Ends) (σ : St) (H : Hp) : Prop where
  run : ∀ (pins : List (Addr × Obj)) (s : Shared), Inv X pins σ H s → wpAny (model X.prog X.w) X.A (exec st X.env) (fun f s' => SP X pins D f s' ∧ (f = .next → 1 ≤ s'.toks) ∧ f ≠ .ret (.bool true)) X.xe s
def ETF (X : Cx) (W : WW) (e : Expr) (m : M Bool) : Prop := ∀ J p g σ H, Rl X.K J p g σ H → ∀ r, m g = some r → ∀ Q : Bool → Hp → Prop, Post X.K W J p g σ H r (qT Q) → SemTF X e σ H Q
def EWF (X : Cx) (W : WW) (e : Expr) (m : M Bool) : Prop := ∀ J p g σ H, Rl X.K J p g σ H → ∀ r, m g = some r → ∀ Q : Bool → Hp → Prop, Post X.K W J p g σ H r (qT Q) → SemWF X e σ H Q
def ETT (X : Cx) (W : WW) (e : Expr) (m : M Bool) : Prop := ∀ J p g σ H, Rl X.K J p g σ H → ∀ r, m g = some r → ∀ Q : Bool → Hp → Prop, Post X.K W J p g σ H r (qT Q) → SemTT X e σ H Q
def ETK (X : Cx) (W : WW) (e : Expr) (m : M Bool) : Prop := ∀ J p g σ H, Rl X.K J p g σ H → ∀ r, m g = some r → ∀ Q : Bool → Hp → Prop, Post X.K W J p g σ H r (qT Q) → SemTK X e σ H Q
def SSN (X : Cx) (W : WW) (st : Stmt) (m : M Oc) : Prop := ∀ J p g σ H, Rl X.K J p g σ H → ∀ r, m g = some r → ∀ Dd : Ends, PostS X.K W J p H r Dd → SemSN X st Dd σ H
section
variable {X : Cx} {W : WW} {e a b c o it tg : Expr} {es rest : List Expr} {st : Stmt} {sts th el body : List Stmt} {pos ps px apos p0 : Pos} {x : Str} {k : Nat} {f : Addr} {fd : FuncData} {qs : List Str} {ma mb : M Bool}
/-- the first of a chain, whatever the readings: the next one's states are told by the first one's -/
theorem chainT {β : Type} {Sm : (σ : St) → (H : Hp) → (Bool → Hp → Prop) → Prop} {J : Hp} {p : Mt} {g : G} {σ : St} {H : Hp} {q : β → G → Mt → Hp → Prop} {r : R β} {m : M Bool} {k : Bool → M β}
    (h : ∀ J p g σ H, Rl X.K J p g σ H → ∀ r, m g = some r → ∀ Q : Bool → Hp → Prop, Post X.K W J p g σ H r (qT Q) → Sm σ H Q) (R0 : Rl X.K J p g σ H) (hm : m.bind k g = some r) (hp : Post X.K W J p g σ H r q) {Q : Bool → Hp → Prop}
    (hk : ∀ b g1 p1 H1, Ad g σ p H g1 p1 H1 → Rl X.K J p1 g1 σ H1 → k b g1 = some r → Post X.K W J p1 g1 σ H1 r q → Q b H1) : Sm σ H Q := by
  unfold M.bind at hm
  cases e1 : m g with
  | none => rw [e1] at hm; cases hm
  | some r1 =>
    cases r1 with
    | ok d g1 =>
      rw [e1] at hm
      exact h J p g σ H R0 _ e1 Q fun p1 H1 ad R1 => hk d g1 p1 H1 ad R1 hm (hp.adv ad)
    | ex E g1 =>
      rw [e1] at hm
      cases hm
      exact h J p g σ H R0 _ e1 Q hp
theorem tF_k (h : ETK X W a ma) : ETF X W a ma := fun J p g σ H R0 r hm Q hp => ⟨fun pins s I => thn ((h J p g σ H R0 r hm Q hp).run pins s I) fun _ _ z => ⟨z.1, fun _ => z.2⟩⟩
theorem tF_w (h : EWF X W a ma) : ETF X W a ma := fun J p g σ H R0 r hm Q hp => ⟨fun pins s I => (h J p g σ H R0 r hm Q hp).run _ pins s I⟩
theorem wF_or1 (h : ETF X W a ma) : EWF X W (.BoolOp .Or [a] pos) ma := fun J p g σ H R0 r hm Q hp => ⟨fun wh pins s I => by
  refine PyProof.Rows.isTrue_or (thn ((h J p g σ H R0 r hm Q hp).run pins s I) fun c s1 e => ?_)
  cases c with
  | false => exact PyProof.Rows.isTrue_or_nil e
  | true => exact e⟩
theorem wF_or (ha : ET X W a ma) (hb : EWF X W (.BoolOp .Or (b :: rest) pos) mb) : EWF X W (.BoolOp .Or (a :: b :: rest) pos) (mtOr ma mb) := fun J p g σ H R0 r hm Q hp => ⟨fun wh pins s I => by
  have h1 : SemT X a σ H (fun c H1 => if c = true then Q true H1 else SemWF X (.BoolOp .Or (b :: rest) pos) σ H1 Q) := ha.then R0 hm hp fun x g1 p1 H1 ad1 R1 hm1 hp1 => by
    cases x with
    | false => exact (if_neg Bool.false_ne_true).mpr (hb J p1 g1 σ H1 R1 r hm1 Q hp1)
    | true =>
      cases hm1
      exact (if_pos rfl).mpr (hp1 p1 H1 .refl R1)
  refine PyProof.Rows.isTrue_or (thn (h1.run pins s I) fun c s1 ⟨H1, I1, q1⟩ => ?_)
  cases c with
  | true => exact ⟨⟨H1, I1, q1⟩, fun z => nomatch z⟩
  | false => exact (show SemWF X (.BoolOp .Or (b :: rest) pos) σ H1 Q from q1).run wh pins s1 I1⟩
/-- the first one gives a token out -/
theorem wF_orK (ha : ETK X W a ma) (hb : EW X W (.BoolOp .Or (b :: rest) pos) mb) : EWF X W (.BoolOp .Or (a :: b :: rest) pos) (mtOr ma mb) := fun J p g σ H R0 r hm Q hp => ⟨fun wh pins s I => by
  have h1 : SemTK X a σ H (fun c H1 => if c = true then Q true H1 else SemW X (.BoolOp .Or (b :: rest) pos) σ H1 Q) := chainT (Sm := SemTK X a) ha R0 hm hp fun x g1 p1 H1 ad1 R1 hm1 hp1 => by
    cases x with
    | false => exact (if_neg Bool.false_ne_true).mpr (hb J p1 g1 σ H1 R1 r hm1 Q hp1)
    | true =>
      cases hm1
      exact (if_pos rfl).mpr (hp1 p1 H1 .refl R1)
  refine PyProof.Rows.isTrue_or (thn (h1.run pins s I) fun c s1 ⟨⟨H1, I1, q1⟩, t1⟩ => ?_)
  cases c with
  | true => exact ⟨⟨H1, I1, q1⟩, fun z => nomatch z⟩
  | false => exact wpAny_mono (wpAny_toks_of t1 ((show SemW X (.BoolOp .Or (b :: rest) pos) σ H1 Q from q1).run wh pins s1 I1)) (fun _ _ z => ⟨z.2, fun _ => z.1⟩) fun _ _ z => z.2⟩
theorem tF_not {m : M Bool} (h : ETT X W a m) : ETF X W (.UnaryOp .Not a pos) (mtNot m) := fun J p g σ H R0 r hm Q hp => by
  have h1 : SemTT X a σ H (fun c H1 => Q (!c) H1) := chainT (Sm := SemTT X a) h R0 hm hp fun x g1 p1 H1 ad1 R1 hm1 hp1 => by
    cases hm1
    exact hp1 p1 H1 .refl R1
  exact ⟨fun pins s I => PyProof.Rows.isTrue_not (thn (h1.run pins s I) fun c s1 ⟨⟨H1, I1, q1⟩, t1⟩ => ⟨⟨H1, I1, q1⟩, fun z => t1 (by cases c <;> first | rfl | cases z)⟩)⟩
def mBl (m : M D) : M D := m.bind fun d => match d with
  | .bl b => ret (.bl b)
  | _ => bad
theorem tT_e {m : M D} (h : EFU X W e m) (he : ∀ whole, isTrue e X.env whole = (do let v ← whole; standAt e.pos; holding [v] (truthy v)) := by intro _; rfl) : ETT X W e (mTru (mBl m)) := fun J p g σ H R0 r hm Q hp => by
  have key : SemEU X e σ H (fun v H1 => ∃ b, v = .bl b ∧ Q b H1) := by
    unfold mTru mBl M.bind at hm
    cases e1 : m g with
    | none =>
      rw [e1] at hm
      cases hm
    | some r1 =>
      rw [e1] at hm
      cases r1 with
      | ex E g1 =>
        cases hm
        exact h J p g σ H R0 _ e1 _ hp
      | ok d g1 =>
        cases d with
        | bl b =>
          cases hm
          exact h J p g σ H R0 _ e1 _ fun p1 H1 ad R1 v rv => ⟨b, rep_bl rv, hp p1 H1 ad R1⟩
        | _ => cases hm
  exact ⟨fun pins s I => PyProof.Rows.isTrue_plain (thn (key.run pins s I) fun v s1 ⟨⟨x, H1, I1, r1, b, e2, q⟩, t1⟩ => by
    subst e2
    cases r1
    exact wpAny_truthy_bool ⟨⟨H1, I1, q⟩, fun z => t1 (by rw [z])⟩) (he _)⟩
/-- a == 'text': a token is out -/
theorem tK_eqS {m : M D} {y : Str} {j : Nat} (hu : X.A.units + 64 < cLine) (ha : EF X W a m) (hm : behindInMarks .Eq (.Constant (.str y) j p0) = false := by first | exact nomark _ | rfl) : ETK X W (.Compare a [.Eq] [.Constant (.str y) j p0] pos) (mT2 (fEq false) m (ret (.str y))) := fun J p g σ H R0 r hm' Q hp => by
  have key : SemE X a σ H (fun v H1 => ∀ (t : Tok) (pins : List (Addr × Obj)) (s1 : Shared) (u : Value), Inv X pins σ H1 s1 → RelV v u → wpAny (model X.prog X.w) X.A (compareOp .Eq u (.str y t)) (EP X pins σ fun z H2 => ∃ b, z = .bl b ∧ Q b H2) X.xe s1) := by
    refine ha.then R0 hm' hp fun d g1 p1 H1 v ad1 R1 rv hm1 hp1 t pins s1 u I1 ru => ?_
    refine op_eqD hu pins s1 σ H1 v (.str y) u (.str y t) _ I1 ru ⟨t, rfl⟩ ?_
    cases e : fEq false d (.str y) with
    | none =>
      unfold M.bind ret lift at hm1
      dsimp only at hm1
      rw [e] at hm1
      cases hm1
    | some z =>
      unfold M.bind ret lift at hm1
      dsimp only at hm1
      rw [e] at hm1
      cases z <;> first | (cases hm1; done) | skip
      rename_i b0
      cases hm1
      exact os_eq J p1 g1 σ H1 v (.str y) d (.str y) _ _ R1 rv (.str y) e fun p' H' ad R3 u ru => ⟨_, rep_bl ru, hp1 p' H' ad R3⟩
  refine ⟨fun pins s I => wpAny_isTrue_Compare1 (thn (key.run pins s I) fun u s1 ⟨v, H1, I1, r1, q1⟩ => ?_) hm⟩
  refine Calls.Constant_str ?_
  refine wpAny_mono (wpAny_toks_of (n := 1) (by show 1 ≤ s1.toks + 1; omega) (q1 s1.toks pins _ u (I1.tok _) r1)) (fun c s3 ⟨t3, z, H3, I3, r3, b, e3, q3⟩ => ?_) fun _ _ z => z.2
  subst e3
  cases r3
  exact wpAny_truthy_bool ⟨⟨H3, I3, q3⟩, t3⟩
/-- len(text): a token is out -/
structure SemEK (X : Cx) (e : Expr) (σ : St) (H : Hp) (Q : VK) : Prop where
  run : ∀ (pins : List (Addr × Obj)) (s : Shared), Inv X pins σ H s → wpAny (model X.prog X.w) X.A (eval e X.env) (fun v s' => EP X pins σ Q v s' ∧ 1 ≤ s'.toks) X.xe s
def EFK (X : Cx) (W : WW) (e : Expr) (m : M D) : Prop := ∀ J p g σ H, Rl X.K J p g σ H → ∀ r, m g = some r → ∀ Q : VK, Post X.K W J p g σ H r (qF X.K Q) → SemEK X e σ H Q
def fLenS : List D → Option D
  | [.str x] => if x.length ≤ sizeLine then some (.int x.length) else none
  | _ => none
theorem eK_len {ms : M (List D)} (hm : X.mg "len" = none) (ha : EA X W (e :: es) ms) (hg : Gl X "len" := by rfl)
    (he : starEach (e :: es) X.env = (false, eval e X.env) :: starEach es X.env := by rfl) (hpl : (backTo pos (starEach es X.env)).any (·.1) = false := by rfl) :
    EFK X W (.Call (.Name "len" p0) (e :: es) [] pos) (mCall fLenS ms) := fun J p g σ H R0 r hm' Q hp => by
  have key : SemA X (e :: es) σ H (fun vs H1 => ∃ y : Str, vs = [.str y] ∧ y.length ≤ sizeLine ∧ Q (.int y.length) H1) := ha.then R0 hm' hp fun ds g1 p1 H1 vs ad1 R1 rs hm1 hp1 => by
    obtain ⟨z, hz, hq⟩ := post_lift hm1 hp1 R1
    match ds, rs, hz with
    | [.str x], .cons (.str _) .nil, hz =>
      simp only [fLenS] at hz
      split at hz
      · rename_i hl
        cases hz
        exact ⟨x, rfl, hl, hq p1 H1 .refl R1 _ (.int _)⟩
      · cases hz
  refine ⟨fun pins s I => ?_⟩
  refine wpAny_Call_Name_kw (ld_blt (u := .builtin "len") I hg hm (by decide +kernel) ?_ (by decide) (by decide))
  refine PyProof.Rows.callWith_builtin1 (thn (key.run pos pins s I) fun us s1 ⟨vs, H1, I1, r1, y, e1, hl, q⟩ => ?_) he hpl
  subst e1
  obtain ⟨u, rfl, t, rfl⟩ := vals1 r1
  have hs : sizeLine = 16777216 := sizeLine_eq
  exact PySem.P.len_str (by omega) ⟨⟨.int _, H1, I1.tok _, ⟨_, rfl⟩, q⟩, by show 1 ≤ s1.toks + 1 + 1; omega⟩
/-- a > b, the left one gives a token out -/
theorem tK_gt {m m2 : M D} (ha : EFK X W a m) (hb : EF X W b m2) (hm : behindInMarks .Gt b = false := by first | exact nomark _ | rfl) : ETK X W (.Compare a [.Gt] [b] pos) (mT2 iGt m m2) := fun J p g σ H R0 r hm' Q hp => by
  have key : SemEK X a σ H (fun v H1 => SemE X b σ H1 (fun v2 H2 => ∃ i j : Int, v = .int i ∧ v2 = .int j ∧ Q (decide (i > j)) H2)) := by
    unfold mT2 M.bind at hm'
    cases e1 : m g with
    | none => rw [e1] at hm'; cases hm'
    | some r1 =>
      rw [e1] at hm'
      cases r1 with
      | ex E g1 =>
        cases hm'
        exact ha J p g σ H R0 _ e1 _ hp
      | ok d g1 =>
        refine ha J p g σ H R0 _ e1 _ fun p1 H1 ad R1 v rv => ?_
        refine EF.then (k := fun y => lift ((iGt d y).bind asB)) hb R1 hm' (hp.adv ad) fun d2 g2 p2 H2 v2 ad2 R2 rv2 hm2 hp2 => ?_
        cases d <;> first | (cases hm2; done) | skip
        cases d2 <;> first | (cases hm2; done) | skip
        cases rv
        cases rv2
        cases hm2
        exact ⟨_, _, rfl, rfl, hp2 p2 H2 .refl R2⟩
  refine ⟨fun pins s I => wpAny_isTrue_Compare1 (thn (key.run pins s I) fun u s1 ⟨⟨v, H1, I1, r1, q1⟩, t1⟩ => ?_) hm⟩
  refine wpAny_mono (wpAny_toks_of t1 (q1.run pins s1 I1)) (fun u2 s2 ⟨t2, v2, H2, I2, r2, i, j, e1, e2, q2⟩ => ?_) fun _ _ z => z.2
  subst e1
  subst e2
  obtain ⟨ta, rfl⟩ := r1
  obtain ⟨tb, rfl⟩ := r2
  refine wpAny_mono (wpAny_toks_of t2 (op_gt pins s2 σ H2 (.int i) (.int j) _ _ (fun v H => v = .bl (decide (i > j)) ∧ H = H2) I2 ⟨ta, rfl⟩ ⟨tb, rfl⟩ ⟨i, j, rfl, rfl, rfl, rfl⟩)) (fun c s3 ⟨t3, v3, H3, I3, r3, e3, e4⟩ => ?_) fun _ _ z => z.2
  subst e3
  subst e4
  cases r3
  exact wpAny_truthy_bool ⟨⟨H3, I3, q2⟩, t3⟩
/-! ### statements -/
/-- if c: return False -/
theorem sN_if {j : Nat} {pr : Pos} {mc : M Bool} (hc : ETF X WN c mc) : SSN X WN (.If c [.Return (some (.Constant (.bool false) j p0)) pr] [] pos) (mIf mc (seq (mRet (ret (.bl false))) (ret .nx)) (ret .nx)) := fun J p g σ H R0 r hm Dd hp => by
  obtain ⟨r1, e1, hq⟩ := post_s R0 hm hp
  have key : SemTF X c σ H (fun b H1 => if b = true then Dd.rt (.bl false) H1 else Dd.nx σ H1) := hc J p g σ H R0 r1 e1 _ (hq _ fun d g1 p1 H1 er ad R1 hk hp1 => by
    unfold qT
    cases d with
    | true =>
      cases hk
      exact (if_pos rfl).mpr (hp1 σ p1 H1 _ .refl R1 (.bl false))
    | false =>
      cases hk
      exact (if_neg Bool.false_ne_true).mpr (hp1 σ p1 H1 .refl R1))
  refine ⟨fun pins s I => wpAny_If (thn (key.run pins s I) fun b s1 ⟨⟨H1, I1, q1⟩, t1⟩ => ?_)⟩
  cases b with
  | true => exact wpAny_execs_cons (wpAny_Return_some (PyProof.Rows.Constant_bool ⟨⟨.bl false, σ, H1, I1, rfl, q1⟩, (fun z => nomatch z), (fun z => by cases z)⟩))
  | false => exact wpAny_execs_nil ⟨⟨σ, H1, I1, q1⟩, (fun _ => t1 rfl), (fun z => nomatch z)⟩
/-- if c: .. (never come to) -/
theorem sN_ifX {mc : M Bool} {mt : M Oc} (hc : ETF X WN c mc) (hn : ∀ g, mt g = none) : SSN X WN (.If c th [] pos) (mIf mc mt (ret .nx)) := fun J p g σ H R0 r hm Dd hp => by
  obtain ⟨r1, e1, hq⟩ := post_s R0 hm hp
  have key : SemTF X c σ H (fun b H1 => b = false ∧ Dd.nx σ H1) := hc J p g σ H R0 r1 e1 _ (hq _ fun d g1 p1 H1 er ad R1 hk hp1 => by
    unfold qT
    cases d with
    | true =>
      have z := hn g1
      dsimp only at hk
      rw [z] at hk
      cases hk
    | false =>
      cases hk
      exact ⟨rfl, hp1 σ p1 H1 .refl R1⟩)
  refine ⟨fun pins s I => wpAny_If (thn (key.run pins s I) fun b s1 ⟨⟨H1, I1, e2, q1⟩, t1⟩ => ?_)⟩
  subst e2
  exact wpAny_execs_nil ⟨⟨σ, H1, I1, q1⟩, (fun _ => t1 rfl), (fun z => nomatch z)⟩
theorem seq_post {J : Hp} {p : Mt} {g : G} {H : Hp} {m k : M Oc} {r : R Oc} {Dd : Ends} (hm : seq m k g = some r) (hp : PostS X.K W J p H r Dd) {T : St → Hp → Prop} (hr : ∀ g1 σ' p' H', Rl X.K J p' g1 σ' H' → k g1 = some r → PostS X.K W J p' H' r Dd → T σ' H') :
    ∃ r1, m g = some r1 ∧ PostS X.K W J p H r1 { Dd with nx := T } := by
  unfold seq at hm
  cases e1 : m g with
  | none => rw [e1] at hm; cases hm
  | some r1 =>
    rw [e1] at hm
    refine ⟨r1, rfl, ?_⟩
    cases r1 with
    | ex E g1 =>
      cases hm
      exact hp
    | ok o g1 =>
      cases o with
      | nx => exact fun σ' p' H' a1 R1 => hr g1 σ' p' H' R1 hm (hp.adv a1)
      | bk => cases hm; exact hp
      | ct => cases hm; exact hp
      | rt d => cases hm; exact hp
      | rto d => cases hm; exact hp
/-- behind such a statement a token is out -/
theorem b_tick {m k : M Oc} (h : SSN X W st m) (hr : SB1 X W sts k) : SB X W (st :: sts) (seq m k) := fun J p g σ H R0 r hm Dd hp => by
  obtain ⟨r1, e1, hq⟩ := seq_post (T := fun σ' H' => SemSs1 X sts Dd σ' H') hm hp fun g1 σ' p' H' R1 hm1 hp1 => hr J p' g1 σ' H' R1 r hm1 Dd hp1
  refine ⟨fun pins s I => wpAny_execs_cons (thn ((h J p g σ H R0 r1 e1 _ hq).run pins s I) fun f s1 ⟨q, t, _⟩ => ?_)⟩
  cases f with
  | next =>
    obtain ⟨σ', H', I1, q⟩ := q
    exact (show SemSs1 X sts Dd σ' H' from q).run pins s1 (t rfl) I1
  | ret v => exact q
  | brk => exact q
  | cont => exact q
theorem bU_cons {m k : M Oc} (h : SSN X W st m) (hr : SB X W sts k) : SBU X W (st :: sts) (seq m k) := fun J p g σ H R0 r hm Dd hp => by
  obtain ⟨r1, e1, hq⟩ := seq_post (T := fun σ' H' => SemSs X sts Dd σ' H') hm hp fun g1 σ' p' H' R1 hm1 hp1 => hr J p' g1 σ' H' R1 r hm1 Dd hp1
  refine ⟨fun pins s I => wpAny_execs_cons (thn ((h J p g σ H R0 r1 e1 _ hq).run pins s I) fun f s1 ⟨q, t, n⟩ => ?_)⟩
  cases f with
  | next =>
    obtain ⟨σ', H', I1, q⟩ := q
    exact wpAny_mono (wpAny_toks_of (t rfl) ((show SemSs X sts Dd σ' H' from q).run pins s1 I1)) (fun _ _ z => ⟨z.2, fun _ => z.1⟩) fun _ _ z => z.2
  | ret v => exact ⟨q, fun z => absurd z n⟩
  | brk => exact ⟨q, fun z => nomatch z⟩
  | cont => exact ⟨q, fun z => nomatch z⟩
/-- x = 0: a token is out -/
theorem sN_setI {y : Int} {j : Nat} (i : Nat) (nd : X.N.Nodup) (hi : X.N[i]? = some x := by rfl) (hx : Loc X.env.scope x := by first | exact Or.inl rfl | exact Or.inr rfl)
    (hs : swapsWith (.Constant (.int y) j p0) (some (.Name x px)) pos.line X.env = pure false := by rfl) (hf : X.fn x = true ∨ X.env.scope.names.lookup x = some .local := by first | exact .inl rfl | exact .inr rfl) : SSN X W (.Assign [.Name x px] (.Constant (.int y) j p0) pos) (mSet i (ret (.int y))) := fun J p g σ H R0 r hm Dd hp => by
  obtain ⟨r1, e1, hq⟩ := post_s R0 hm hp
  cases e1
  have nx : Dd.nx (σ.set i (some (.int y))) H := by
    have := hq (fun d g1 p1 H1 => Dd.nx (σ.set i (some (.int y))) H1) fun d g1 p1 H1 er ad R1 hk hp1 => by
      cases er
      cases hk
      exact hp1 _ p1 H1 .refl (R1.setV (.int y))
    exact this p H .refl R0
  refine ⟨fun pins s I => wpAny_Assign_Name (wpAny_Constant_int ?_) hs⟩
  refine wpAny_mono (PySem.wpAny_toks (store_ok (v := V.int y) (u := Value.int y s.toks) (Q := fun _ s2 => Inv X pins (σ.set i (some (V.int y))) H s2) (I.tok (s.toks + 1)) nd hi hx ⟨s.toks, rfl⟩ (fun _ I2 => I2) hf)) (fun _ s2 q => ?_) fun _ _ z => z.2
  have hk : s.toks + 1 ≤ s2.toks := q.1
  exact ⟨⟨_, H, q.2, nx⟩, (fun _ => by omega), (fun z => nomatch z)⟩
/-- self.f = e, where a token is out -/
theorem s1_fldD {C : Addr} {f : Str} {py p' : Pos} {mv : M D} (i : Nat) (c : Cls X.K C) (n : NoAttr X.K C f) (hv : EF1 X W e mv) (hN : X.N[i]? = some x := by rfl) (hvis : Vis X.env.scope x := by first | exact Or.inl rfl | exact Or.inr (Or.inl rfl) | exact Or.inr (Or.inr rfl)) (hd : (x == ("__debug__" : Str)) = false := by decide) (hcd : (x == ("__classdict__" : Str)) = false := by decide)
    (hs : swapsWith e (some (.Attribute (.Name x py) f p')) pos.line X.env = pure false := by rfl) : SS1 X W (.Assign [.Attribute (.Name x py) f p'] e pos) (mFldPutD i C f mv) := fun J p g σ H R0 r hm Dd hp => by
  obtain ⟨r1, e1, hq⟩ := post_s R0 hm hp
  refine of_ps1 (pst_fld (pv i hN hvis hd hcd) semE1 hs) (hv J p g σ H R0 r1 e1 _ (hq _ fun d g1 p1 H1 er ad R1 hk hp1 v rv => ?_))
  obtain ⟨h1, fs, h2, h3⟩ := onDN_some hk
  obtain ⟨q, h4, h5⟩ := R1.sd i h1
  have ow := R1.dice q h5
  rw [h2] at ow
  obtain ⟨dx, vs, h6, h7⟩ := ow
  split at h3
  · rename_i hl
    cases h3
    obtain ⟨R2, as2⟩ := R1.putD (c := .n C (setF f d fs)) (u := .ins C dx (putF f v vs)) h5 trivial ⟨dx, _, upd_same, repF_set rv h7⟩
    exact ⟨_, h4, q, C, dx, vs, rfl, h6, c, n, by rw [repF_len h7]; exact hl, hp1 σ p1 _ as2 R2⟩
  · cases h3
theorem b1_nil : SB1 X W [] (ret .nx) := b_nil.one
/-! ### one of two classes; a def that calls itself -/
def mAlt (m1 m2 : M D) : M D := fun g => (m1 g).or (m2 g)
theorem e_alt {m1 m2 : M D} (h1 : EF X W e m1) (h2 : EF X W e m2) : EF X W e (mAlt m1 m2) := h1.or h2 fun g r z => by
  unfold mAlt at z
  cases q : m1 g with
  | none =>
    rw [q] at z
    exact .inr z
  | some y =>
    rw [q] at z
    exact .inl z
theorem fn_none {P : Program} {w : World} {K : PySem.W.Frag} {mg : Str → Option Value} {base : Heap} {dice : Bool} : FnG P w K mg base CX0 0 f fd qs (spM K dice fun _ _ => none) :=
  ⟨(fun vs H Q E ⟨p, c, ds, ws, d, c', _, _, _, e, _⟩ => by cases e), (fun B fr st J ar ws xs R Z _ _ _ _ _ ⟨p, c, ds, ws, d, c', _, _, _, e, _⟩ => by cases e)⟩
end
/-! ### str(text) -/
def fStrT : List D → Option D
  | [.str x] => some (.str x)
  | _ => none
theorem cs_strT {K : PySem.W.Frag} : CS K (fun xs H Q => ∃ a, xs = [.str a] ∧ Q (.str a) H) fStrT := fun J p g σ H vs ds z Q R rs e q => by
  unfold fStrT at e
  split at e
  · rename_i x
    cases e
    cases rs with
    | cons h1 h2 =>
      cases h2
      cases rep_str h1
      exact ⟨x, rfl, q p H .refl R _ (.str x)⟩
  · cases e
end Mo
set_option Elab.async false
set_option linter.all false
set_option maxRecDepth 100000
set_option maxHeartbeats 4000000
set_option exponentiation.threshold 9000
namespace K430
open PySem PySem.Spec L2 Mo
open Lp (FnG)
def topS (i : Nat) : Stmt := PySem.Challenge.pw_lastprices_k30_patterns_told.main.body.getD i (.Pass ⟨0, 0, 0, 0⟩)
structure CA where
  LengthReader : Addr
  Pattern : Addr
  TextReader : Addr
  w : World
  ad : Str → Addr
abbrev osZ_Pattern (c : CA) : List Addr := []
abbrev osE_Pattern (c : CA) : List Addr := []
structure TF (c : CA) (K : PySem.W.Frag) (mg : Str → Option Value) (w : World) where
  ww : c.w = w
  z_abs : mg "abs" = none
  z_bool : mg "bool" = none
  z_enumerate : mg "enumerate" = none
  z_int : mg "int" = none
  z_isinstance : mg "isinstance" = none
  z_len : mg "len" = none
  z_list : mg "list" = none
  z_max : mg "max" = none
  z_min : mg "min" = none
  z_range : mg "range" = none
  z_set : mg "set" = none
  z_sorted : mg "sorted" = none
  z_str : mg "str" = none
  z_tuple : mg "tuple" = none
  t_LETTERS : Tok
  c_LETTERS : mg "LETTERS" = some (.str "abcdefghijklmnopqrstuvwxyz" t_LETTERS)
  t_MAX_DEPTH : Tok
  c_MAX_DEPTH : mg "MAX_DEPTH" = some (.int 24 t_MAX_DEPTH)
  t_MAX_SIGNS : Tok
  c_MAX_SIGNS : mg "MAX_SIGNS" = some (.int 20000 t_MAX_SIGNS)
  t_MAX_TEXT : Tok
  c_MAX_TEXT : mg "MAX_TEXT" = some (.int 100000 t_MAX_TEXT)
  t_OTHER_SIGNS : Tok
  c_OTHER_SIGNS : mg "OTHER_SIGNS" = some (.str "()#" t_OTHER_SIGNS)
  cl_LengthReader : Cls K c.LengthReader
  g_LengthReader : mg "LengthReader" = some (.ref c.LengthReader)
  k_LengthReader : PySem.W.keepIn K (.ref c.LengthReader) = true
  cl_Pattern : Cls K c.Pattern
  g_Pattern : mg "Pattern" = some (.ref c.Pattern)
  k_Pattern : PySem.W.keepIn K (.ref c.Pattern) = true
  iz_Pattern : IsZ K c.Pattern []
  nz_Pattern : NtZ K c.Pattern []
  cl_TextReader : Cls K c.TextReader
  g_TextReader : mg "TextReader" = some (.ref c.TextReader)
  k_TextReader : PySem.W.keepIn K (.ref c.TextReader) = true
  nf_LengthReader__number : NoAttr K c.LengthReader "_number"
  nf_Pattern__letters : NoAttr K c.Pattern "_letters"
  nf_Pattern__parts : NoAttr K c.Pattern "_parts"
  nf_Pattern__plain : NoAttr K c.Pattern "_plain"
  nf_Pattern__text : NoAttr K c.Pattern "_text"
  nf_TextReader__number : NoAttr K c.TextReader "_number"
  f__law_roll : Addr
  d__law_roll : FuncData
  F__law_roll : Fun K "_law_roll" "_law_roll" (topS 31) f__law_roll d__law_roll
  b__law_roll : Binds K d__law_roll ["_law_dice_here", "_law_total"] []
  m__law_roll : mg "_law_roll" = some (.ref f__law_roll)
  f__law_mixed : Addr
  d__law_mixed : FuncData
  F__law_mixed : Fun K "_law_mixed" "_law_mixed" (topS 33) f__law_mixed d__law_mixed
  b__law_mixed : Binds K d__law_mixed ["_law_dice_here", "_law_items"] []
  m__law_mixed : mg "_law_mixed" = some (.ref f__law_mixed)
  f__law_pick : Addr
  d__law_pick : FuncData
  F__law_pick : Fun K "_law_pick" "_law_pick" (topS 32) f__law_pick d__law_pick
  b__law_pick : Binds K d__law_pick ["_law_dice_here", "_law_items"] []
  m__law_pick : mg "_law_pick" = some (.ref f__law_pick)
  f__law_drawn_pattern : Addr
  d__law_drawn_pattern : FuncData
  F__law_drawn_pattern : Fun K "_law_drawn_pattern" "_law_drawn_pattern" (topS 35) f__law_drawn_pattern d__law_drawn_pattern
  b__law_drawn_pattern : Binds K d__law_drawn_pattern ["_law_dice_here", "_law_letters", "_law_many", "_law_depth_here"] []
  m__law_drawn_pattern : mg "_law_drawn_pattern" = some (.ref f__law_drawn_pattern)
  f_depth_of : Addr
  d_depth_of : FuncData
  F_depth_of : Fun K "depth_of" "depth_of" (topS 16) f_depth_of d_depth_of
  b_depth_of : Binds K d_depth_of ["text"] []
  m_depth_of : mg "depth_of" = some (.ref f_depth_of)
  f_is_formed : Addr
  d_is_formed : FuncData
  F_is_formed : Fun K "is_formed" "is_formed" (topS 15) f_is_formed d_is_formed
  b_is_formed : Binds K d_is_formed ["text"] []
  m_is_formed : mg "is_formed" = some (.ref f_is_formed)
  f_is_pattern : Addr
  d_is_pattern : FuncData
  F_is_pattern : Fun K "is_pattern" "is_pattern" (topS 27) f_is_pattern d_is_pattern
  b_is_pattern : Binds K d_is_pattern ["value"] []
  m_is_pattern : mg "is_pattern" = some (.ref f_is_pattern)
  f_parts_of : Addr
  d_parts_of : FuncData
  F_parts_of : Fun K "parts_of" "parts_of" (topS 17) f_parts_of d_parts_of
  b_parts_of : Binds K d_parts_of ["text"] []
  m_parts_of : mg "parts_of" = some (.ref f_parts_of)
  f_letters_in : Addr
  d_letters_in : FuncData
  F_letters_in : Fun K "letters_in" "letters_in" (topS 18) f_letters_in d_letters_in
  b_letters_in : Binds K d_letters_in ["text"] []
  m_letters_in : mg "letters_in" = some (.ref f_letters_in)
  f_Pattern_init : Addr
  d_Pattern_init : FuncData
  F_Pattern_init : Fun K "__init__" "Pattern.__init__" (inClass (topS 28) 0) f_Pattern_init d_Pattern_init
  b_Pattern_init : Binds K d_Pattern_init ["self", "text"] []
  mk_Pattern : Mk K c.Pattern f_Pattern_init
  f_Pattern_str : Addr
  d_Pattern_str : FuncData
  F_Pattern_str : Fun K "__str__" "Pattern.__str__" (inClass (topS 28) 16) f_Pattern_str d_Pattern_str
  b_Pattern_str : Binds K d_Pattern_str ["self"] []
  sp_Pattern_str : SpecM K c.Pattern "__str__" f_Pattern_str
  f_Pattern_len : Addr
  d_Pattern_len : FuncData
  F_Pattern_len : Fun K "__len__" "Pattern.__len__" (inClass (topS 28) 14) f_Pattern_len d_Pattern_len
  b_Pattern_len : Binds K d_Pattern_len ["self"] []
  sp_Pattern_len : SpecM K c.Pattern "__len__" f_Pattern_len
  f_weight_of : Addr
  d_weight_of : FuncData
  F_weight_of : Fun K "weight_of" "weight_of" (topS 19) f_weight_of d_weight_of
  b_weight_of : Binds K d_weight_of ["text"] []
  m_weight_of : mg "weight_of" = some (.ref f_weight_of)
  f_Pattern_weight : Addr
  d_Pattern_weight : FuncData
  F_Pattern_weight : Fun K "weight" "Pattern.weight" (inClass (topS 28) 5) f_Pattern_weight d_Pattern_weight
  b_Pattern_weight : Binds K d_Pattern_weight ["self"] []
  p_Pattern_weight : Addr
  pr_Pattern_weight : PropOf K c.Pattern "weight" p_Pattern_weight f_Pattern_weight
  f_Pattern_parts : Addr
  d_Pattern_parts : FuncData
  F_Pattern_parts : Fun K "parts" "Pattern.parts" (inClass (topS 28) 4) f_Pattern_parts d_Pattern_parts
  b_Pattern_parts : Binds K d_Pattern_parts ["self"] []
  p_Pattern_parts : Addr
  pr_Pattern_parts : PropOf K c.Pattern "parts" p_Pattern_parts f_Pattern_parts
  f_Pattern_depth : Addr
  d_Pattern_depth : FuncData
  F_Pattern_depth : Fun K "depth" "Pattern.depth" (inClass (topS 28) 3) f_Pattern_depth d_Pattern_depth
  b_Pattern_depth : Binds K d_Pattern_depth ["self"] []
  p_Pattern_depth : Addr
  pr_Pattern_depth : PropOf K c.Pattern "depth" p_Pattern_depth f_Pattern_depth
  f_Pattern_letters : Addr
  d_Pattern_letters : FuncData
  F_Pattern_letters : Fun K "letters" "Pattern.letters" (inClass (topS 28) 2) f_Pattern_letters d_Pattern_letters
  b_Pattern_letters : Binds K d_Pattern_letters ["self"] []
  p_Pattern_letters : Addr
  pr_Pattern_letters : PropOf K c.Pattern "letters" p_Pattern_letters f_Pattern_letters
  f_Pattern_text : Addr
  d_Pattern_text : FuncData
  F_Pattern_text : Fun K "text" "Pattern.text" (inClass (topS 28) 1) f_Pattern_text d_Pattern_text
  b_Pattern_text : Binds K d_Pattern_text ["self"] []
  p_Pattern_text : Addr
  pr_Pattern_text : PropOf K c.Pattern "text" p_Pattern_text f_Pattern_text
  f__law_power : Addr
  d__law_power : FuncData
  F__law_power : Fun K "_law_power" "_law_power" (topS 37) f__law_power d__law_power
  b__law_power : Binds K d__law_power ["_law_number", "_law_many"] []
  m__law_power : mg "_law_power" = some (.ref f__law_power)
  f__law_weight : Addr
  d__law_weight : FuncData
  F__law_weight : Fun K "_law_weight" "_law_weight" (topS 36) f__law_weight d__law_weight
  b__law_weight : Binds K d__law_weight ["_law_text"] []
  m__law_weight : mg "_law_weight" = some (.ref f__law_weight)
  f__law_parts : Addr
  d__law_parts : FuncData
  F__law_parts : Fun K "_law_parts" "_law_parts" (topS 38) f__law_parts d__law_parts
  b__law_parts : Binds K d__law_parts ["_law_text"] []
  m__law_parts : mg "_law_parts" = some (.ref f__law_parts)
  f__law_depth : Addr
  d__law_depth : FuncData
  F__law_depth : Fun K "_law_depth" "_law_depth" (topS 39) f__law_depth d__law_depth
  b__law_depth : Binds K d__law_depth ["_law_text"] []
  m__law_depth : mg "_law_depth" = some (.ref f__law_depth)
  f_Pattern_eq : Addr
  d_Pattern_eq : FuncData
  F_Pattern_eq : Fun K "__eq__" "Pattern.__eq__" (inClass (topS 28) 15) f_Pattern_eq d_Pattern_eq
  b_Pattern_eq : Binds K d_Pattern_eq ["self", "other"] []
  eq_Pattern : EqC K c.Pattern f_Pattern_eq
  f_Pattern_contains : Addr
  d_Pattern_contains : FuncData
  F_Pattern_contains : Fun K "__contains__" "Pattern.__contains__" (inClass (topS 28) 13) f_Pattern_contains d_Pattern_contains
  b_Pattern_contains : Binds K d_Pattern_contains ["self", "x"] []
  sp_Pattern_contains : SpecM K c.Pattern "__contains__" f_Pattern_contains
  f__law_pattern_at : Addr
  d__law_pattern_at : FuncData
  F__law_pattern_at : Fun K "_law_pattern_at" "_law_pattern_at" (topS 34) f__law_pattern_at d__law_pattern_at
  b__law_pattern_at : Binds K d__law_pattern_at ["_law_text", "_law_number"] []
  m__law_pattern_at : mg "_law_pattern_at" = some (.ref f__law_pattern_at)
  f_is_integer : Addr
  d_is_integer : FuncData
  F_is_integer : Fun K "is_integer" "is_integer" (topS 4) f_is_integer d_is_integer
  b_is_integer : Binds K d_is_integer ["value"] []
  m_is_integer : mg "is_integer" = some (.ref f_is_integer)
  f_is_count : Addr
  d_is_count : FuncData
  F_is_count : Fun K "is_count" "is_count" (topS 5) f_is_count d_is_count
  b_is_count : Binds K d_is_count ["value"] []
  m_is_count : mg "is_count" = some (.ref f_is_count)
  f_check_positive : Addr
  d_check_positive : FuncData
  F_check_positive : Fun K "check_positive" "check_positive" (topS 12) f_check_positive d_check_positive
  b_check_positive : Binds K d_check_positive ["value"] []
  m_check_positive : mg "check_positive" = some (.ref f_check_positive)
  f_LengthReader_begun : Addr
  d_LengthReader_begun : FuncData
  F_LengthReader_begun : Fun K "begun" "LengthReader.begun" (inClass (topS 23) 1) f_LengthReader_begun d_LengthReader_begun
  b_LengthReader_begun : Binds K d_LengthReader_begun ["self"] []
  me_LengthReader_begun : Meth K c.LengthReader "begun" f_LengthReader_begun
  f_TextReader_begun : Addr
  d_TextReader_begun : FuncData
  F_TextReader_begun : Fun K "begun" "TextReader.begun" (inClass (topS 22) 1) f_TextReader_begun d_TextReader_begun
  b_TextReader_begun : Binds K d_TextReader_begun ["self"] []
  me_TextReader_begun : Meth K c.TextReader "begun" f_TextReader_begun
  f_LengthReader_with_part : Addr
  d_LengthReader_with_part : FuncData
  F_LengthReader_with_part : Fun K "with_part" "LengthReader.with_part" (inClass (topS 23) 3) f_LengthReader_with_part d_LengthReader_with_part
  b_LengthReader_with_part : Binds K d_LengthReader_with_part ["self", "done", "part", "_"] []
  me_LengthReader_with_part : Meth K c.LengthReader "with_part" f_LengthReader_with_part
  f_TextReader_with_part : Addr
  d_TextReader_with_part : FuncData
  F_TextReader_with_part : Fun K "with_part" "TextReader.with_part" (inClass (topS 22) 3) f_TextReader_with_part d_TextReader_with_part
  b_TextReader_with_part : Binds K d_TextReader_with_part ["self", "done", "part", "_"] []
  me_TextReader_with_part : Meth K c.TextReader "with_part" f_TextReader_with_part
  f_LengthReader_with_run : Addr
  d_LengthReader_with_run : FuncData
  F_LengthReader_with_run : Fun K "with_run" "LengthReader.with_run" (inClass (topS 23) 2) f_LengthReader_with_run d_LengthReader_with_run
  b_LengthReader_with_run : Binds K d_LengthReader_with_run ["self", "done", "run"] []
  me_LengthReader_with_run : Meth K c.LengthReader "with_run" f_LengthReader_with_run
  f_TextReader_with_run : Addr
  d_TextReader_with_run : FuncData
  F_TextReader_with_run : Fun K "with_run" "TextReader.with_run" (inClass (topS 22) 2) f_TextReader_with_run d_TextReader_with_run
  b_TextReader_with_run : Binds K d_TextReader_with_run ["self", "done", "run"] []
  me_TextReader_with_run : Meth K c.TextReader "with_run" f_TextReader_with_run
  f_read_pattern : Addr
  d_read_pattern : FuncData
  F_read_pattern : Fun K "read_pattern" "read_pattern" (topS 20) f_read_pattern d_read_pattern
  b_read_pattern : Binds K d_read_pattern ["text", "parts", "reader"] []
  m_read_pattern : mg "read_pattern" = some (.ref f_read_pattern)
  f_LengthReader_init : Addr
  d_LengthReader_init : FuncData
  F_LengthReader_init : Fun K "__init__" "LengthReader.__init__" (inClass (topS 23) 0) f_LengthReader_init d_LengthReader_init
  b_LengthReader_init : Binds K d_LengthReader_init ["self", "number"] []
  mk_LengthReader : Mk K c.LengthReader f_LengthReader_init
  f_Pattern_length : Addr
  d_Pattern_length : FuncData
  F_Pattern_length : Fun K "length" "Pattern.length" (inClass (topS 28) 6) f_Pattern_length d_Pattern_length
  b_Pattern_length : Binds K d_Pattern_length ["self", "n"] []
  me_Pattern_length : Meth K c.Pattern "length" f_Pattern_length
  f_TextReader_init : Addr
  d_TextReader_init : FuncData
  F_TextReader_init : Fun K "__init__" "TextReader.__init__" (inClass (topS 22) 0) f_TextReader_init d_TextReader_init
  b_TextReader_init : Binds K d_TextReader_init ["self", "number"] []
  mk_TextReader : Mk K c.TextReader f_TextReader_init
  f_Pattern_call : Addr
  d_Pattern_call : FuncData
  F_Pattern_call : Fun K "__call__" "Pattern.__call__" (inClass (topS 28) 11) f_Pattern_call d_Pattern_call
  b_Pattern_call : Binds K d_Pattern_call ["self", "n"] []
  ca_Pattern : StX.CallO K c.Pattern f_Pattern_call
  f_Pattern_repeated : Addr
  d_Pattern_repeated : FuncData
  F_Pattern_repeated : Fun K "repeated" "Pattern.repeated" (inClass (topS 28) 10) f_Pattern_repeated d_Pattern_repeated
  b_Pattern_repeated : Binds K d_Pattern_repeated ["self"] []
  me_Pattern_repeated : Meth K c.Pattern "repeated" f_Pattern_repeated
  f__law_told_right : Addr
  d__law_told_right : FuncData
  F__law_told_right : Fun K "_law_told_right" "_law_told_right" (topS 40) f__law_told_right d__law_told_right
  b__law_told_right : Binds K d__law_told_right ["_law_dice_here", "_law_made", "_law_text"] []
  m__law_told_right : mg "_law_told_right" = some (.ref f__law_told_right)
  f_Pattern_add : Addr
  d_Pattern_add : FuncData
  F_Pattern_add : Fun K "__add__" "Pattern.__add__" (inClass (topS 28) 12) f_Pattern_add d_Pattern_add
  b_Pattern_add : Binds K d_Pattern_add ["self", "other"] []
  bi_Pattern_add : BinC K .Add c.Pattern f_Pattern_add
  f__law_right : Addr
  d__law_right : FuncData
  F__law_right : Fun K "_law_right" "_law_right" (topS 41) f__law_right d__law_right
  b__law_right : Binds K d__law_right ["_law_dice_here"] []
  m__law_right : mg "_law_right" = some (.ref f__law_right)
  f__law_dice : Addr
  d__law_dice : FuncData
  F__law_dice : Fun K "_law_dice" "_law_dice" (topS 30) f__law_dice d__law_dice
  b__law_dice : Binds K d__law_dice ["_law_script", "_law_spot"] []
  m__law_dice : mg "_law_dice" = some (.ref f__law_dice)
  f_law : Addr
  d_law : FuncData
  F_law : Fun K "law" "law" (topS 42) f_law d_law
  b_law : Binds K d_law ["_law_script"] []
  m_law : mg "law" = some (.ref f_law)
section
variable {P : Program} {w : World} {K : PySem.W.Frag} {mg : Str → Option Value} {base : Heap}
abbrev s__law_roll : Stmt := topS 31
theorem sc__law_roll : FnScope ["_law_dice_here", "_law_total", "_law_one", "_law_two", "_law_found"] ["_law_dice_here", "_law_total"] (defScope s__law_roll) := ⟨rfl, rfl, rfl, by decide +kernel, rfl, by decide +kernel, by decide +kernel⟩
noncomputable def m__law_roll (c : CA) : M Oc :=
  (seq (mIf (mT2 iGt (mIxD 0 (ret (.int 0))) (ret (.int 0))) (seq (mSet 4 (mBin uMod (mCall fInt1 (mCons (mIxD 0 (ret (.int 0))) (ret []))) (mName 1))) (seq (mIxPutD 0 0 (mBin uDiv (mIxD 0 (ret (.int 0))) (mName 1))) (seq (mRet (mName 4)) (ret .nx)))) (ret .nx)) (seq (mIxPutD 0 2 (mBin uPlus (mIxD 0 (ret (.int 2))) (ret (.int 1)))) (seq (mSet 2 (mBin uMod (mCall fInt1 (mCons (mBin uPlus (mIxD 0 (ret (.int 1))) (mBin uMul (ret (.int 7907)) (mIxD 0 (ret (.int 2))))) (ret []))) (ret (.int 2305843009213693907)))) (seq (mSet 3 (mBin uPlus (mBin uMul (mBin uMod (mCall fInt1 (mCons (mBin uPlus (mBin uMul (mName 2) (mName 2)) (mBin uMul (ret (.int 67)) (mIxD 0 (ret (.int 2))))) (ret []))) (ret (.int 2305843009213693921))) (ret (.int 6700417))) (mName 2))) (seq (mRet (mBin uMod (mCall fInt1 (mCons (mBin uDiv (mName 3) (ret (.int 32768))) (ret []))) (mName 1))) (ret .nx))))))
noncomputable def F__law_roll (c : CA) : FD := runM true 5 2 (m__law_roll c)
theorem ok__law_roll {c : CA} (T : TF c K mg w) : FnG P w K mg base CX0 1 T.f__law_roll T.d__law_roll ["_law_dice_here", "_law_total"] (spM K true (F__law_roll c)) :=
  okM T.F__law_roll sc__law_roll fun cdv B fr s J0 Z hr hg =>
    have nd := sc__law_roll.nd
    have hu64 := hr.units
    have hu1 := Nat.lt_of_le_of_lt (Nat.add_le_add_left (by decide : 1 ≤ 64) _) hu64
    (b_cons (s_if (t_gt (e_ixD 0 e_int) e_int) (b_cons (s_set 4 nd (e_mod (e_ty call_int1 cs_int T.z_int (a_cons (e_ixD 0 e_int) a_nil)) (e_name 1))) (b_cons (s_ixD 0 (e_div (e_ixD 0 e_int) (e_name 1))) (b_cons (s_ret (e_name 4)) b_nil))) b_nil) (b_cons (s_ixD 0 (e_plus (e_ixD 0 e_int) e_int)) (b_cons (s_set 2 nd (e_mod (e_ty call_int1 cs_int T.z_int (a_cons (e_plus (e_ixD 0 e_int) (e_mul e_int (e_ixD 0 e_int))) a_nil)) e_int)) (b_cons (s_set 3 nd (e_plus (e_mul (e_mod (e_ty call_int1 cs_int T.z_int (a_cons (e_plus (e_mul (e_name 2) (e_name 2)) (e_mul e_int (e_ixD 0 e_int))) a_nil)) e_int) e_int) (e_name 2))) (b_cons (s_ret (e_mod (e_ty call_int1 cs_int T.z_int (a_cons (e_div (e_name 3) e_int) a_nil)) (e_name 1))) b_nil)))))
abbrev s__law_mixed : Stmt := topS 33
theorem sc__law_mixed : FnScope ["_law_dice_here", "_law_items", "_law_left", "_law_found", "_law_turn"] ["_law_dice_here", "_law_items"] (defScope s__law_mixed) := ⟨rfl, rfl, rfl, by decide +kernel, rfl, by decide +kernel, by decide +kernel⟩
noncomputable def m__law_mixed (c : CA) : M Oc :=
  (seq (mPar 2 3 (mXo (mCallO fList (mCons (mName 1) (ret [])))) (mXo (mLst (ret [])))) (seq (mFor (stName 4) (mWk fRng1 (mCons (mCall fLen (mCons (mName 1) (ret []))) (ret []))) (seq (mExpr (mLm1 3 fApp (mLm1 2 fPopAt (isDi 0 (mFn (F__law_roll c) (mCons (mLenQ 2) (ret []))))))) (ret .nx))) (seq (mRet (mName 3)) (ret .nx))))
noncomputable def F__law_mixed (c : CA) : FD := runM true 5 2 (m__law_mixed c)
theorem ok__law_mixed {c : CA} (T : TF c K mg w) : FnG P w K mg base CX0 2 T.f__law_mixed T.d__law_mixed ["_law_dice_here", "_law_items"] (spM K true (F__law_mixed c)) :=
  okM T.F__law_mixed sc__law_mixed fun cdv B fr s J0 Z hr hg =>
    have nd := sc__law_mixed.nd
    have hu64 := hr.units
    have hu1 := Nat.lt_of_le_of_lt (Nat.add_le_add_left (by decide : 1 ≤ 64) _) hu64
    (b_cons (s_par 2 3 rfl nd (x_o (eo_ty call_list_of co_list T.z_list (a_cons (e_name 1) a_nil))) (x_o (eo_lst a_nil))) (b_cons (s_for rfl .never (ei_rng1 T.z_range (a_cons (e_blt call_len cs_len T.z_len (a_cons (e_name 1) a_nil)) a_nil)) (g_name 4 nd) (b_cons (s_expr (e_lm1 3 PySem.F.slot_list_append PySem.F.type_list_append mt_append ls_app (e_lm1 2 PySem.F.slot_list_pop PySem.F.type_list_pop mt_popAt ls_popAt (e_fd 0 (ok__law_roll T) (hr.mono (by decide)) hg T.m__law_roll T.F__law_roll.kp T.b__law_roll (a_cons (e_lenQ (y := "") 2 T.z_len) a_nil))))) b_nil)) (b_cons (s_ret (e_name 3)) b_nil)))
abbrev s__law_pick : Stmt := topS 32
theorem sc__law_pick : FnScope ["_law_dice_here", "_law_items"] ["_law_dice_here", "_law_items"] (defScope s__law_pick) := ⟨rfl, rfl, rfl, by decide +kernel, rfl, by decide +kernel, by decide +kernel⟩
noncomputable def m__law_pick (c : CA) : M Oc :=
  (seq (mRet (mBin uIx (mName 1) (isDi 0 (mFn (F__law_roll c) (mCons (mCall fLen (mCons (mName 1) (ret []))) (ret [])))))) (ret .nx))
noncomputable def F__law_pick (c : CA) : FD := runM true 2 2 (m__law_pick c)
theorem ok__law_pick {c : CA} (T : TF c K mg w) : FnG P w K mg base CX0 2 T.f__law_pick T.d__law_pick ["_law_dice_here", "_law_items"] (spM K true (F__law_pick c)) :=
  okM T.F__law_pick sc__law_pick fun cdv B fr s J0 Z hr hg =>
    have nd := sc__law_pick.nd
    have hu64 := hr.units
    have hu1 := Nat.lt_of_le_of_lt (Nat.add_le_add_left (by decide : 1 ≤ 64) _) hu64
    (b_cons (s_ret (e_sbs hu1 (e_name 1) (e_fd 0 (ok__law_roll T) (hr.mono (by decide)) hg T.m__law_roll T.F__law_roll.kp T.b__law_roll (a_cons (e_blt call_len cs_len T.z_len (a_cons (e_name 1) a_nil)) a_nil)))) b_nil)
abbrev s__law_drawn_pattern : Stmt := topS 35
theorem sc__law_drawn_pattern : FnScope ["_law_dice_here", "_law_letters", "_law_many", "_law_depth_here", "_law_found", "_law_turn"] ["_law_dice_here", "_law_letters", "_law_many", "_law_depth_here"] (defScope s__law_drawn_pattern) := ⟨rfl, rfl, rfl, by decide +kernel, rfl, by decide +kernel, by decide +kernel⟩
noncomputable def m__law_drawn_pattern (c : CA) (Fr : FD) : M Oc :=
  (seq (mSet 4 (ret (.str ""))) (seq (mFor (stName 5) (mWk fRng1 (mCons (mBin uPlus (ret (.int 1)) (isDi 0 (mFn (F__law_roll c) (mCons (mName 2) (ret []))))) (ret []))) (seq (mIf (mtAnd (mT2 iGt (mName 3) (ret (.int 0))) (mT2 (fEq false) (isDi 0 (mFn (F__law_roll c) (mCons (ret (.int 3)) (ret [])))) (ret (.int 0)))) (seq (mSet 4 (mBin uPlus (mBin uPlus (mBin uPlus (mName 4) (ret (.str "("))) (isDi 0 (mFn Fr (mCons (mName 1) (mCons (ret (.int 2)) (mCons (mBin uSub (mName 3) (ret (.int 1))) (ret []))))))) (ret (.str ")#")))) (ret .nx)) (seq (mSet 4 (mBin uPlus (mName 4) (isDi 0 (mFn (F__law_pick c) (mCons (mName 1) (ret [])))))) (ret .nx))) (ret .nx))) (seq (mRet (mName 4)) (ret .nx))))
noncomputable def FR__law_drawn_pattern (c : CA) : Nat → FD
  | 0 => fun _ _ => none
  | n + 1 => runM true 6 4 (m__law_drawn_pattern c (FR__law_drawn_pattern c n))
noncomputable def F__law_drawn_pattern (c : CA) : FD := FR__law_drawn_pattern c 4
theorem okS__law_drawn_pattern {c : CA} (T : TF c K mg w) {k : Nat} {Fr : FD} (hF : FnG P w K mg base CX0 k T.f__law_drawn_pattern T.d__law_drawn_pattern ["_law_dice_here", "_law_letters", "_law_many", "_law_depth_here"] (spM K true Fr)) : FnG P w K mg base CX0 (k + 3) T.f__law_drawn_pattern T.d__law_drawn_pattern ["_law_dice_here", "_law_letters", "_law_many", "_law_depth_here"] (spM K true (runM true 6 4 (m__law_drawn_pattern c Fr))) :=
  okM T.F__law_drawn_pattern sc__law_drawn_pattern fun cdv B fr s J0 Z hr hg =>
    have nd := sc__law_drawn_pattern.nd
    have hu64 := hr.units
    have hu1 := Nat.lt_of_le_of_lt (Nat.add_le_add_left (by decide : 1 ≤ 64) _) hu64
    (b_cons (s_set 4 nd e_str) (b_cons (s_for rfl .never (ei_rng1 T.z_range (a_cons (e_plus e_int (e_fd 0 (ok__law_roll T) (hr.mono (by omega)) hg T.m__law_roll T.F__law_roll.kp T.b__law_roll (a_cons (e_name 2) a_nil))) a_nil)) (g_name 5 nd) (b_cons (s_if (t_w (w_and (t_gt (e_name 3) e_int) (w_and1 (t_eq hu64 (e_fd 0 (ok__law_roll T) (hr.mono (by omega)) hg T.m__law_roll T.F__law_roll.kp T.b__law_roll (a_cons e_int a_nil)) e_int)))) (b_cons (s_set 4 nd (e_plus (e_plus (e_plus (e_name 4) e_str) (e_fd 0 hF (hr.mono (by omega)) hg T.m__law_drawn_pattern T.F__law_drawn_pattern.kp T.b__law_drawn_pattern (a_cons (e_name 1) (a_cons e_int (a_cons (e_sub (e_name 3) e_int) a_nil))))) e_str)) b_nil) (b_cons (s_set 4 nd (e_plus (e_name 4) (e_fd 0 (ok__law_pick T) (hr.mono (by omega)) hg T.m__law_pick T.F__law_pick.kp T.b__law_pick (a_cons (e_name 1) a_nil)))) b_nil)) b_nil)) (b_cons (s_ret (e_name 4)) b_nil)))
theorem okR__law_drawn_pattern {c : CA} (T : TF c K mg w) : ∀ n : Nat, FnG P w K mg base CX0 (n * 3) T.f__law_drawn_pattern T.d__law_drawn_pattern ["_law_dice_here", "_law_letters", "_law_many", "_law_depth_here"] (spM K true (FR__law_drawn_pattern c n))
  | 0 => fn_none.mono (by omega)
  | n + 1 => (okS__law_drawn_pattern T (okR__law_drawn_pattern T n)).mono (by omega)
theorem ok__law_drawn_pattern {c : CA} (T : TF c K mg w) : FnG P w K mg base CX0 12 T.f__law_drawn_pattern T.d__law_drawn_pattern ["_law_dice_here", "_law_letters", "_law_many", "_law_depth_here"] (spM K true (F__law_drawn_pattern c)) := okR__law_drawn_pattern T 4
abbrev s_depth_of : Stmt := topS 16
theorem sc_depth_of : FnScope ["text", "deepest", "depth", "sign"] ["text"] (defScope s_depth_of) := ⟨rfl, rfl, rfl, by decide +kernel, rfl, by decide +kernel, by decide +kernel⟩
noncomputable def m_depth_of (c : CA) : M Oc :=
  (seq (mSet 1 (ret (.int 0))) (seq (mSet 2 (ret (.int 0))) (seq (mFor (stName 3) (mIter (mName 0)) (seq (mIf (mT2 (fEq false) (mName 3) (ret (.str "("))) (seq (mSet 2 (mBin uPlus (mName 2) (ret (.int 1)))) (seq (mSet 1 (mCall fMax2 (mCons (mName 1) (mCons (mName 2) (ret []))))) (ret .nx))) (seq (mIf (mT2 (fEq false) (mName 3) (ret (.str ")"))) (seq (mSet 2 (mBin uSub (mName 2) (ret (.int 1)))) (seq (mIf (mT2 uLt (mName 2) (ret (.int 0))) (seq (mRet (ret .non)) (ret .nx)) (ret .nx)) (ret .nx))) (ret .nx)) (ret .nx))) (ret .nx))) (seq (mRet (mIf (mT2 (fEq false) (mName 2) (ret (.int 0))) (mName 1) (ret .non))) (ret .nx)))))
noncomputable def F_depth_of (c : CA) : FD := runM false 4 1 (m_depth_of c)
theorem ok_depth_of {c : CA} (T : TF c K mg w) : FnG P w K mg base CX0 1 T.f_depth_of T.d_depth_of ["text"] (spM K false (F_depth_of c)) :=
  okM T.F_depth_of sc_depth_of fun cdv B fr s J0 Z hr hg =>
    have nd := sc_depth_of.nd
    have hu64 := hr.units
    have hu1 := Nat.lt_of_le_of_lt (Nat.add_le_add_left (by decide : 1 ≤ 64) _) hu64
    (b_cons (s_set 1 nd e_int) (b_cons (s_set 2 nd e_int) (b_cons (s_for rfl .never (ei_any (e_name 0)) (g_name 3 nd) (b_cons (s_if (t_eq hu64 (e_name 3) e_str) (b_cons (s_set 2 nd (e_plus (e_name 2) e_int)) (b_cons (s_set 1 nd (e_blt (call_max2 rfl) cs_max2 T.z_max (a_cons (e_name 1) (a_cons (e_name 2) a_nil)))) b_nil)) (b_cons (s_if (t_eq hu64 (e_name 3) e_str) (b_cons (s_set 2 nd (e_sub (e_name 2) e_int)) (b_cons (s_if (t_lt (e_name 2) e_int) (b_cons (s_ret e_none) b_nil) b_nil) b_nil)) b_nil) b_nil)) b_nil)) (b_cons (s_ret (e_if (t_eq hu64 (e_name 2) e_int) (e_name 1) e_none)) b_nil))))
abbrev s_is_formed : Stmt := topS 15
theorem sc_is_formed : FnScope ["text", "rest"] ["text"] (defScope s_is_formed) := ⟨rfl, rfl, rfl, by decide +kernel, rfl, by decide +kernel, by decide +kernel⟩
noncomputable def m_is_formed (c : CA) : M Oc :=
  (seq (mIf (mtOr (mT2 (fEq false) (mName 0) (ret (.str ""))) (mT2 (fEq true) (mMs1 fStrip (mName 0) (mBin uPlus (ret (.str "abcdefghijklmnopqrstuvwxyz")) (ret (.str "()#")))) (ret (.str "")))) (seq (mRet (ret (.bl false))) (ret .nx)) (ret .nx)) (seq (mSet 1 (mRepl ")#" "" (mName 0))) (seq (mIf (mtOr (mT2 (uIn false) (ret (.str ")")) (mName 1)) (mtOr (mT2 (uIn false) (ret (.str "#")) (mName 1)) (mT2 (uIn false) (ret (.str "()")) (mName 0)))) (seq (mRet (ret (.bl false))) (ret .nx)) (ret .nx)) (seq (mRet (mBin (fIs true) (mFn (F_depth_of c) (mCons (mName 0) (ret []))) (ret .non))) (ret .nx)))))
noncomputable def F_is_formed (c : CA) : FD := runM false 2 1 (m_is_formed c)
theorem ok_is_formed {c : CA} (T : TF c K mg w) : FnG P w K mg base CX0 2 T.f_is_formed T.d_is_formed ["text"] (spM K false (F_is_formed c)) :=
  okM T.F_is_formed sc_is_formed fun cdv B fr s J0 Z hr hg =>
    have nd := sc_is_formed.nd
    have hu64 := hr.units
    have hu1 := Nat.lt_of_le_of_lt (Nat.add_le_add_left (by decide : 1 ≤ 64) _) hu64
    (b_tick (sN_if (tF_w (wF_orK (tK_eqS hu64 (e_name 0)) (w_or1 (t_ne hu64 (e_strip (e_name 0) (e_plus (e_globS T.c_LETTERS) (e_globS T.c_OTHER_SIGNS))) e_str))))) (b1_cons (s1_set 1 nd (e1_repl (EF.one (e_name 0)))) (b1_cons (SS.one (s_if (t_w (w_or (t_in hu1 e_str (e_name 1)) (w_or (t_in hu1 e_str (e_name 1)) (w_or1 (t_in hu1 e_str (e_name 0)))))) (b_cons (s_ret e_bool) b_nil) b_nil)) (b1_cons (SS.one (s_ret (e_isnot (e_fn (ok_depth_of T) (hr.mono (by decide)) hg T.m_depth_of T.F_depth_of.kp T.b_depth_of (a_cons (e_name 0) a_nil)) e_none))) b1_nil))))
abbrev s_is_pattern : Stmt := topS 27
theorem sc_is_pattern : FnScope ["value"] ["value"] (defScope s_is_pattern) := ⟨rfl, rfl, rfl, by decide +kernel, rfl, by decide +kernel, by decide +kernel⟩
noncomputable def m_is_pattern (c : CA) : M Oc :=
  (seq (mIf (mtOr (mtNot (mTru (mIsi "str" (mName 0)))) (mT2 iGt (mCall fLenS (mCons (mName 0) (ret []))) (ret (.int 20000)))) (seq (mRet (ret (.bl false))) (ret .nx)) (ret .nx)) (seq (mRet (mAnd (mFn (F_is_formed c) (mCons (mName 0) (ret []))) (mBin iLe (mFn (F_depth_of c) (mCons (mName 0) (ret []))) (ret (.int 24))))) (ret .nx)))
noncomputable def F_is_pattern (c : CA) : FD := runM false 1 1 (m_is_pattern c)
theorem okU_is_pattern {c : CA} (T : TF c K mg w) : FnU P w K mg base CX0 3 T.f_is_pattern T.d_is_pattern ["value"] (spM K false (F_is_pattern c)) :=
  okMU T.F_is_pattern sc_is_pattern fun cdv B fr s J0 Z hr hg =>
    have nd := sc_is_pattern.nd
    have hu64 := hr.units
    have hu1 := Nat.lt_of_le_of_lt (Nat.add_le_add_left (by decide : 1 ≤ 64) _) hu64
    (bU_cons (sN_if (tF_w (wF_or (t_not (t_e (e_isi T.z_isinstance T.z_str PyProof.Rows.boot_str (e_name 0)))) (wF_or1 (tF_k (tK_gt (eK_len T.z_len (a_cons (e_name 0) a_nil)) (e_globI T.c_MAX_SIGNS))))))) (b_cons (s_ret (e_and (e_fn (ok_is_formed T) (hr.mono (by decide)) hg T.m_is_formed T.F_is_formed.kp T.b_is_formed (a_cons (e_name 0) a_nil)) (e_one (e_le (e_fn (ok_depth_of T) (hr.mono (by decide)) hg T.m_depth_of T.F_depth_of.kp T.b_depth_of (a_cons (e_name 0) a_nil)) (e_globI T.c_MAX_DEPTH))))) b_nil))
theorem ok_is_pattern {c : CA} (T : TF c K mg w) : FnG P w K mg base CX0 3 T.f_is_pattern T.d_is_pattern ["value"] (spM K false (F_is_pattern c)) := (okU_is_pattern T).g
abbrev s_parts_of : Stmt := topS 17
theorem sc_parts_of : FnScope ["text", "begins", "parts", "at", "sign"] ["text"] (defScope s_parts_of) := ⟨rfl, rfl, rfl, by decide +kernel, rfl, by decide +kernel, by decide +kernel⟩
noncomputable def m_parts_of (c : CA) : M Oc :=
  (seq (mSetO 1 (mLst (ret []))) (seq (mSetO 2 (mLst (ret []))) (seq (mFor (stTup 2 (stCons (stName 3) (stCons (stName 4) stNil))) (mWk fEnumX (mCons (mName 0) (ret []))) (seq (mIf (mT2 (fEq false) (mName 4) (ret (.str "("))) (seq (mExpr (mLm1 1 fApp (mBin uPlus (mName 3) (ret (.int 1))))) (ret .nx)) (seq (mIf (mT2 (fEq false) (mName 4) (ret (.str ")"))) (seq (mExpr (mLm1 2 fApp (mSlU (mName 0) (mPart (mLm0 1 fPop)) (mPart (mName 3))))) (ret .nx)) (ret .nx)) (ret .nx))) (ret .nx))) (seq (mRet (mCall fTuple (mCons (mName 2) (ret [])))) (ret .nx)))))
noncomputable def F_parts_of (c : CA) : FD := runM false 5 1 (m_parts_of c)
theorem ok_parts_of {c : CA} (T : TF c K mg w) : FnG P w K mg base CX0 1 T.f_parts_of T.d_parts_of ["text"] (spM K false (F_parts_of c)) :=
  okM T.F_parts_of sc_parts_of fun cdv B fr s J0 Z hr hg =>
    have nd := sc_parts_of.nd
    have hu64 := hr.units
    have hu1 := Nat.lt_of_le_of_lt (Nat.add_le_add_left (by decide : 1 ≤ 64) _) hu64
    (b_cons (s_setO 1 nd (eo_lst a_nil)) (b_cons (s_setO 2 nd (eo_lst a_nil)) (b_cons (s_for rfl .never (ei_enumX T.z_enumerate (a_cons (e_name 0) a_nil)) (g_tup rfl (gs_cons (g_name 3 nd) (gs_cons (g_name 4 nd) gs_nil))) (b_cons (s_if (t_eq hu64 (e_name 4) e_str) (b_cons (s_expr (e_lm1 1 PySem.F.slot_list_append PySem.F.type_list_append mt_append ls_app (e_plus (e_name 3) e_int))) b_nil) (b_cons (s_if (t_eq hu64 (e_name 4) e_str) (b_cons (s_expr (e_lm1 2 PySem.F.slot_list_append PySem.F.type_list_append mt_append ls_app (e_slU (e_name 0) (p_some (e_lm0 1 PySem.F.slot_list_pop PySem.F.type_list_pop mt_pop ls_pop)) (p_some (e_name 3))))) b_nil) b_nil) b_nil)) b_nil)) (b_cons (s_ret (e_ty call_tuple_of cs_tuple T.z_tuple (a_cons (e_name 2) a_nil))) b_nil))))
abbrev s_letters_in : Stmt := topS 18
theorem sc_letters_in : FnScope ["text"] ["text"] (defScope s_letters_in) := ⟨rfl, rfl, rfl, by decide +kernel, rfl, by decide +kernel, by decide +kernel⟩
noncomputable def m_letters_in (c : CA) : M Oc :=
  (seq (mRet (mRepl ")#" "" (mRepl "(" "" (mName 0)))) (ret .nx))
noncomputable def F_letters_in (c : CA) : FD := runM false 1 1 (m_letters_in c)
theorem ok_letters_in {c : CA} (T : TF c K mg w) : FnP P w K mg base CX0 1 T.f_letters_in T.d_letters_in ["text"] (spM K false (F_letters_in c)) :=
  okMP T.F_letters_in sc_letters_in fun cdv B fr s J0 Z hr hg =>
    have nd := sc_letters_in.nd
    have hu64 := hr.units
    have hu1 := Nat.lt_of_le_of_lt (Nat.add_le_add_left (by decide : 1 ≤ 64) _) hu64
    (b1_cons (s1_ret (e1_repl (e1_repl (EF.one (e_name 0))))) b1_nil)
abbrev s_Pattern_init : Stmt := inClass (topS 28) 0
theorem sc_Pattern_init : FnScope ["self", "text"] ["self", "text"] (defScope s_Pattern_init) := ⟨rfl, rfl, rfl, by decide +kernel, rfl, by decide +kernel, by decide +kernel⟩
noncomputable def m_Pattern_init (c : CA) : M Oc :=
  (seq (mIf (mtNot (mTru (mBl (mFn (F_is_pattern c) (mCons (mName 1) (ret [])))))) (seq bad (ret .nx)) (ret .nx)) (seq (mFldPutD 0 c.Pattern "_text" (mName 1)) (seq (mFldPutD 0 c.Pattern "_parts" (mFn (F_parts_of c) (mCons (mName 1) (ret [])))) (seq (mFldPutD 0 c.Pattern "_plain" (mFn (F_letters_in c) (mCons (mName 1) (ret [])))) (seq (mFldPutD 0 c.Pattern "_letters" (mCall fTuple (mCons (frz (mSortSet (mFldD 0 c.Pattern "_plain"))) (ret [])))) (ret .nx))))))
noncomputable def F_Pattern_init (c : CA) : FD := runM true 2 2 (m_Pattern_init c)
theorem ok_Pattern_init {c : CA} (T : TF c K mg w) : FnG P w K mg base CX0 4 T.f_Pattern_init T.d_Pattern_init ["self", "text"] (spM K true (F_Pattern_init c)) :=
  okM T.F_Pattern_init sc_Pattern_init fun cdv B fr s J0 Z hr hg =>
    have nd := sc_Pattern_init.nd
    have hu64 := hr.units
    have hu1 := Nat.lt_of_le_of_lt (Nat.add_le_add_left (by decide : 1 ≤ 64) _) hu64
    (b_tick (sN_ifX (tF_not (tT_e (eU_fn (okU_is_pattern T) (hr.mono (by decide)) hg T.m_is_pattern T.F_is_pattern.kp T.b_is_pattern (a_cons (e_name 1) a_nil)))) (fun _ => rfl)) (b1_cons (SS.one (s_fldD 0 T.cl_Pattern T.nf_Pattern__text (e_name 1))) (b1_cons (SS.one (s_fldD 0 T.cl_Pattern T.nf_Pattern__parts (e_fn (ok_parts_of T) (hr.mono (by decide)) hg T.m_parts_of T.F_parts_of.kp T.b_parts_of (a_cons (e_name 1) a_nil)))) (b1_cons (s1_fldD 0 T.cl_Pattern T.nf_Pattern__plain (e1_fnP (ok_letters_in T) (hr.mono (by decide)) hg T.m_letters_in T.F_letters_in.kp T.b_letters_in (a_cons (e_name 1) a_nil))) (b1_cons (SS.one (s_fldD 0 T.cl_Pattern T.nf_Pattern__letters (e_ty call_tuple_of cs_tuple T.z_tuple (a_cons (EO.f (eo_sortset rfl T.z_sorted T.z_set (e_fldD 0 T.cl_Pattern T.nf_Pattern__plain))) a_nil)))) b1_nil)))))
abbrev s_Pattern_str : Stmt := inClass (topS 28) 16
theorem sc_Pattern_str : FnScope ["self"] ["self"] (defScope s_Pattern_str) := ⟨rfl, rfl, rfl, by decide +kernel, rfl, by decide +kernel, by decide +kernel⟩
noncomputable def m_Pattern_str (c : CA) : M Oc :=
  (seq (mRet (mCall fStrT (mCons (mFld c.Pattern "_text" (mName 0)) (ret [])))) (ret .nx))
noncomputable def F_Pattern_str (c : CA) : FD := runM false 1 1 (m_Pattern_str c)
theorem ok_Pattern_str {c : CA} (T : TF c K mg w) : FnG P w K mg base CX0 1 T.f_Pattern_str T.d_Pattern_str ["self"] (spM K false (F_Pattern_str c)) :=
  okM T.F_Pattern_str sc_Pattern_str fun cdv B fr s J0 Z hr hg =>
    have nd := sc_Pattern_str.nd
    have hu64 := hr.units
    have hu1 := Nat.lt_of_le_of_lt (Nat.add_le_add_left (by decide : 1 ≤ 64) _) hu64
    (b_cons (s_ret (e_ty SkE.call_str_str cs_strT T.z_str (a_cons (e_fld T.cl_Pattern T.nf_Pattern__text (e_name 0)) a_nil))) b_nil)
abbrev s_Pattern_len : Stmt := inClass (topS 28) 14
theorem sc_Pattern_len : FnScope ["self"] ["self"] (defScope s_Pattern_len) := ⟨rfl, rfl, rfl, by decide +kernel, rfl, by decide +kernel, by decide +kernel⟩
noncomputable def m_Pattern_len (c : CA) : M Oc :=
  (seq (mRet (mCall fLen (mCons (mFld c.Pattern "_plain" (mName 0)) (ret [])))) (ret .nx))
noncomputable def F_Pattern_len (c : CA) : FD := runM false 1 1 (m_Pattern_len c)
theorem ok_Pattern_len {c : CA} (T : TF c K mg w) : FnG P w K mg base CX0 1 T.f_Pattern_len T.d_Pattern_len ["self"] (spM K false (F_Pattern_len c)) :=
  okM T.F_Pattern_len sc_Pattern_len fun cdv B fr s J0 Z hr hg =>
    have nd := sc_Pattern_len.nd
    have hu64 := hr.units
    have hu1 := Nat.lt_of_le_of_lt (Nat.add_le_add_left (by decide : 1 ≤ 64) _) hu64
    (b_cons (s_ret (e_blt call_len cs_len T.z_len (a_cons (e_fld T.cl_Pattern T.nf_Pattern__plain (e_name 0)) a_nil))) b_nil)
abbrev s_weight_of : Stmt := topS 19
theorem sc_weight_of : FnScope ["text", "weight", "each", "sign"] ["text"] (defScope s_weight_of) := ⟨rfl, rfl, rfl, by decide +kernel, rfl, by decide +kernel, by decide +kernel⟩
noncomputable def m_weight_of (c : CA) : M Oc :=
  (seq (mSet 1 (ret (.int 0))) (seq (mSet 2 (ret (.int 1))) (seq (mFor (stName 3) (mIter (mName 0)) (seq (mIf (mT2 (fEq false) (mName 3) (ret (.str "("))) (seq (mSet 2 (mBin uMul (mName 2) (ret (.int 2)))) (ret .nx)) (seq (mIf (mT2 (fEq false) (mName 3) (ret (.str "#"))) (seq (mSet 2 (mBin uDiv (mName 2) (ret (.int 2)))) (ret .nx)) (seq (mIf (mT2 (fEq true) (mName 3) (ret (.str ")"))) (seq (mSet 1 (mBin uPlus (mName 1) (mName 2))) (ret .nx)) (ret .nx)) (ret .nx))) (ret .nx))) (ret .nx))) (seq (mRet (mName 1)) (ret .nx)))))
noncomputable def F_weight_of (c : CA) : FD := runM false 4 1 (m_weight_of c)
theorem ok_weight_of {c : CA} (T : TF c K mg w) : FnG P w K mg base CX0 1 T.f_weight_of T.d_weight_of ["text"] (spM K false (F_weight_of c)) :=
  okM T.F_weight_of sc_weight_of fun cdv B fr s J0 Z hr hg =>
    have nd := sc_weight_of.nd
    have hu64 := hr.units
    have hu1 := Nat.lt_of_le_of_lt (Nat.add_le_add_left (by decide : 1 ≤ 64) _) hu64
    (b_cons (s_set 1 nd e_int) (b_cons (s_set 2 nd e_int) (b_cons (s_for rfl .never (ei_any (e_name 0)) (g_name 3 nd) (b_cons (s_if (t_eq hu64 (e_name 3) e_str) (b_cons (s_set 2 nd (e_mul (e_name 2) e_int)) b_nil) (b_cons (s_if (t_eq hu64 (e_name 3) e_str) (b_cons (s_set 2 nd (e_div (e_name 2) e_int)) b_nil) (b_cons (s_if (t_ne hu64 (e_name 3) e_str) (b_cons (s_set 1 nd (e_plus (e_name 1) (e_name 2))) b_nil) b_nil) b_nil)) b_nil)) b_nil)) (b_cons (s_ret (e_name 1)) b_nil))))
abbrev s_Pattern_weight : Stmt := inClass (topS 28) 5
theorem sc_Pattern_weight : FnScope ["self"] ["self"] (defScope s_Pattern_weight) := ⟨rfl, rfl, rfl, by decide +kernel, rfl, by decide +kernel, by decide +kernel⟩
noncomputable def m_Pattern_weight (c : CA) : M Oc :=
  (seq (mRet (mFn (F_weight_of c) (mCons (mFld c.Pattern "_text" (mName 0)) (ret [])))) (ret .nx))
noncomputable def F_Pattern_weight (c : CA) : FD := runM false 1 1 (m_Pattern_weight c)
theorem ok_Pattern_weight {c : CA} (T : TF c K mg w) : FnG P w K mg base CX0 2 T.f_Pattern_weight T.d_Pattern_weight ["self"] (spM K false (F_Pattern_weight c)) :=
  okM T.F_Pattern_weight sc_Pattern_weight fun cdv B fr s J0 Z hr hg =>
    have nd := sc_Pattern_weight.nd
    have hu64 := hr.units
    have hu1 := Nat.lt_of_le_of_lt (Nat.add_le_add_left (by decide : 1 ≤ 64) _) hu64
    (b_cons (s_ret (e_fn (ok_weight_of T) (hr.mono (by decide)) hg T.m_weight_of T.F_weight_of.kp T.b_weight_of (a_cons (e_fld T.cl_Pattern T.nf_Pattern__text (e_name 0)) a_nil))) b_nil)
abbrev s_Pattern_parts : Stmt := inClass (topS 28) 4
theorem sc_Pattern_parts : FnScope ["self"] ["self"] (defScope s_Pattern_parts) := ⟨rfl, rfl, rfl, by decide +kernel, rfl, by decide +kernel, by decide +kernel⟩
noncomputable def m_Pattern_parts (c : CA) : M Oc :=
  (seq (mRet (mFld c.Pattern "_parts" (mName 0))) (ret .nx))
noncomputable def F_Pattern_parts (c : CA) : FD := runM false 1 1 (m_Pattern_parts c)
theorem ok_Pattern_parts {c : CA} (T : TF c K mg w) : FnG P w K mg base CX0 1 T.f_Pattern_parts T.d_Pattern_parts ["self"] (spM K false (F_Pattern_parts c)) :=
  okM T.F_Pattern_parts sc_Pattern_parts fun cdv B fr s J0 Z hr hg =>
    have nd := sc_Pattern_parts.nd
    have hu64 := hr.units
    have hu1 := Nat.lt_of_le_of_lt (Nat.add_le_add_left (by decide : 1 ≤ 64) _) hu64
    (b_cons (s_ret (e_fld T.cl_Pattern T.nf_Pattern__parts (e_name 0))) b_nil)
abbrev s_Pattern_depth : Stmt := inClass (topS 28) 3
theorem sc_Pattern_depth : FnScope ["self"] ["self"] (defScope s_Pattern_depth) := ⟨rfl, rfl, rfl, by decide +kernel, rfl, by decide +kernel, by decide +kernel⟩
noncomputable def m_Pattern_depth (c : CA) : M Oc :=
  (seq (mRet (mFn (F_depth_of c) (mCons (mFld c.Pattern "_text" (mName 0)) (ret [])))) (ret .nx))
noncomputable def F_Pattern_depth (c : CA) : FD := runM false 1 1 (m_Pattern_depth c)
theorem ok_Pattern_depth {c : CA} (T : TF c K mg w) : FnG P w K mg base CX0 2 T.f_Pattern_depth T.d_Pattern_depth ["self"] (spM K false (F_Pattern_depth c)) :=
  okM T.F_Pattern_depth sc_Pattern_depth fun cdv B fr s J0 Z hr hg =>
    have nd := sc_Pattern_depth.nd
    have hu64 := hr.units
    have hu1 := Nat.lt_of_le_of_lt (Nat.add_le_add_left (by decide : 1 ≤ 64) _) hu64
    (b_cons (s_ret (e_fn (ok_depth_of T) (hr.mono (by decide)) hg T.m_depth_of T.F_depth_of.kp T.b_depth_of (a_cons (e_fld T.cl_Pattern T.nf_Pattern__text (e_name 0)) a_nil))) b_nil)
abbrev s_Pattern_letters : Stmt := inClass (topS 28) 2
theorem sc_Pattern_letters : FnScope ["self"] ["self"] (defScope s_Pattern_letters) := ⟨rfl, rfl, rfl, by decide +kernel, rfl, by decide +kernel, by decide +kernel⟩
noncomputable def m_Pattern_letters (c : CA) : M Oc :=
  (seq (mRet (mFld c.Pattern "_letters" (mName 0))) (ret .nx))
noncomputable def F_Pattern_letters (c : CA) : FD := runM false 1 1 (m_Pattern_letters c)
theorem ok_Pattern_letters {c : CA} (T : TF c K mg w) : FnG P w K mg base CX0 1 T.f_Pattern_letters T.d_Pattern_letters ["self"] (spM K false (F_Pattern_letters c)) :=
  okM T.F_Pattern_letters sc_Pattern_letters fun cdv B fr s J0 Z hr hg =>
    have nd := sc_Pattern_letters.nd
    have hu64 := hr.units
    have hu1 := Nat.lt_of_le_of_lt (Nat.add_le_add_left (by decide : 1 ≤ 64) _) hu64
    (b_cons (s_ret (e_fld T.cl_Pattern T.nf_Pattern__letters (e_name 0))) b_nil)
abbrev s_Pattern_text : Stmt := inClass (topS 28) 1
theorem sc_Pattern_text : FnScope ["self"] ["self"] (defScope s_Pattern_text) := ⟨rfl, rfl, rfl, by decide +kernel, rfl, by decide +kernel, by decide +kernel⟩
noncomputable def m_Pattern_text (c : CA) : M Oc :=
  (seq (mRet (mFld c.Pattern "_text" (mName 0))) (ret .nx))
noncomputable def F_Pattern_text (c : CA) : FD := runM false 1 1 (m_Pattern_text c)
theorem ok_Pattern_text {c : CA} (T : TF c K mg w) : FnG P w K mg base CX0 1 T.f_Pattern_text T.d_Pattern_text ["self"] (spM K false (F_Pattern_text c)) :=
  okM T.F_Pattern_text sc_Pattern_text fun cdv B fr s J0 Z hr hg =>
    have nd := sc_Pattern_text.nd
    have hu64 := hr.units
    have hu1 := Nat.lt_of_le_of_lt (Nat.add_le_add_left (by decide : 1 ≤ 64) _) hu64
    (b_cons (s_ret (e_fld T.cl_Pattern T.nf_Pattern__text (e_name 0))) b_nil)
abbrev s__law_power : Stmt := topS 37
theorem sc__law_power : FnScope ["_law_number", "_law_many", "_law_found", "_law_turn"] ["_law_number", "_law_many"] (defScope s__law_power) := ⟨rfl, rfl, rfl, by decide +kernel, rfl, by decide +kernel, by decide +kernel⟩
noncomputable def m__law_power (c : CA) : M Oc :=
  (seq (mSet 2 (ret (.int 1))) (seq (mFor (stName 3) (mWk fRng1 (mCons (mName 1) (ret []))) (seq (mSet 2 (mBin uMul (mName 2) (mName 0))) (ret .nx))) (seq (mRet (mName 2)) (ret .nx))))
noncomputable def F__law_power (c : CA) : FD := runM false 4 2 (m__law_power c)
theorem ok__law_power {c : CA} (T : TF c K mg w) : FnG P w K mg base CX0 1 T.f__law_power T.d__law_power ["_law_number", "_law_many"] (spM K false (F__law_power c)) :=
  okM T.F__law_power sc__law_power fun cdv B fr s J0 Z hr hg =>
    have nd := sc__law_power.nd
    have hu64 := hr.units
    have hu1 := Nat.lt_of_le_of_lt (Nat.add_le_add_left (by decide : 1 ≤ 64) _) hu64
    (b_cons (s_set 2 nd e_int) (b_cons (s_for rfl .never (ei_rng1 T.z_range (a_cons (e_name 1) a_nil)) (g_name 3 nd) (b_cons (s_set 2 nd (e_mul (e_name 2) (e_name 0))) b_nil)) (b_cons (s_ret (e_name 2)) b_nil)))
abbrev s__law_weight : Stmt := topS 36
theorem sc__law_weight : FnScope ["_law_text", "_law_found", "_law_depth_here", "_law_sign"] ["_law_text"] (defScope s__law_weight) := ⟨rfl, rfl, rfl, by decide +kernel, rfl, by decide +kernel, by decide +kernel⟩
noncomputable def m__law_weight (c : CA) : M Oc :=
  (seq (mAsg (stTup 2 (stCons (stName 1) (stCons (stName 2) stNil))) (mTup (mCons (ret (.int 0)) (mCons (ret (.int 0)) (ret []))))) (seq (mFor (stName 3) (mIter (mName 0)) (seq (mSet 2 (mBin uSub (mBin uPlus (mName 2) (mCall fInt1 (mCons (mBin (fEq false) (mName 3) (ret (.str "("))) (ret [])))) (mCall fInt1 (mCons (mBin (fEq false) (mName 3) (ret (.str ")"))) (ret []))))) (seq (mSet 1 (mBin uPlus (mName 1) (mBin uMul (mFn (F__law_power c) (mCons (ret (.int 2)) (mCons (mName 2) (ret [])))) (mCall fInt1 (mCons (mBin (uIn true) (mName 3) (mTup (mCons (ret (.str "(")) (mCons (ret (.str ")")) (mCons (ret (.str "#")) (ret [])))))) (ret [])))))) (ret .nx)))) (seq (mRet (mName 1)) (ret .nx))))
noncomputable def F__law_weight (c : CA) : FD := runM false 4 1 (m__law_weight c)
theorem ok__law_weight {c : CA} (T : TF c K mg w) : FnG P w K mg base CX0 2 T.f__law_weight T.d__law_weight ["_law_text"] (spM K false (F__law_weight c)) :=
  okM T.F__law_weight sc__law_weight fun cdv B fr s J0 Z hr hg =>
    have nd := sc__law_weight.nd
    have hu64 := hr.units
    have hu1 := Nat.lt_of_le_of_lt (Nat.add_le_add_left (by decide : 1 ≤ 64) _) hu64
    (b_cons (s_asg (e_tup (a_cons e_int (a_cons e_int a_nil))) (g_tup rfl (gs_cons (g_name 1 nd) (gs_cons (g_name 2 nd) gs_nil)))) (b_cons (s_for rfl .never (ei_any (e_name 0)) (g_name 3 nd) (b_cons (s_set 2 nd (e_sub (e_plus (e_name 2) (e_ty call_int1 cs_int T.z_int (a_cons (e_eq hu64 (e_name 3) e_str) a_nil))) (e_ty call_int1 cs_int T.z_int (a_cons (e_eq hu64 (e_name 3) e_str) a_nil)))) (b_cons (s_set 1 nd (e_plus (e_name 1) (e_mul (e_fn (ok__law_power T) (hr.mono (by decide)) hg T.m__law_power T.F__law_power.kp T.b__law_power (a_cons e_int (a_cons (e_name 2) a_nil))) (e_ty call_int1 cs_int T.z_int (a_cons (e_nin hu1 (e_name 3) (e_tup (a_cons e_str (a_cons e_str (a_cons e_str a_nil))))) a_nil))))) b_nil))) (b_cons (s_ret (e_name 1)) b_nil)))
abbrev s__law_parts : Stmt := topS 38
theorem sc__law_parts : FnScope ["_law_text", "_law_found", "_law_begins", "_law_at", "_law_sign"] ["_law_text"] (defScope s__law_parts) := ⟨rfl, rfl, rfl, by decide +kernel, rfl, by decide +kernel, by decide +kernel⟩
noncomputable def m__law_parts (c : CA) : M Oc :=
  (seq (mPar 1 2 (mXo (mLst (ret []))) (mXo (mLst (ret [])))) (seq (mFor (stTup 2 (stCons (stName 3) (stCons (stName 4) stNil))) (mWk fEnumX (mCons (mName 0) (ret []))) (seq (mIf (mT2 (fEq false) (mName 4) (ret (.str "("))) (seq (mExpr (mLm1 2 fApp (mBin uPlus (mName 3) (ret (.int 1))))) (ret .nx)) (seq (mIf (mT2 (fEq false) (mName 4) (ret (.str ")"))) (seq (mExpr (mLm1 1 fApp (mSlU (mName 0) (mPart (mLm0 2 fPop)) (mPart (mName 3))))) (ret .nx)) (ret .nx)) (ret .nx))) (ret .nx))) (seq (mRet (mName 1)) (ret .nx))))
noncomputable def F__law_parts (c : CA) : FD := runM false 5 1 (m__law_parts c)
theorem ok__law_parts {c : CA} (T : TF c K mg w) : FnG P w K mg base CX0 1 T.f__law_parts T.d__law_parts ["_law_text"] (spM K false (F__law_parts c)) :=
  okM T.F__law_parts sc__law_parts fun cdv B fr s J0 Z hr hg =>
    have nd := sc__law_parts.nd
    have hu64 := hr.units
    have hu1 := Nat.lt_of_le_of_lt (Nat.add_le_add_left (by decide : 1 ≤ 64) _) hu64
    (b_cons (s_par 1 2 rfl nd (x_o (eo_lst a_nil)) (x_o (eo_lst a_nil))) (b_cons (s_for rfl .never (ei_enumX T.z_enumerate (a_cons (e_name 0) a_nil)) (g_tup rfl (gs_cons (g_name 3 nd) (gs_cons (g_name 4 nd) gs_nil))) (b_cons (s_if (t_eq hu64 (e_name 4) e_str) (b_cons (s_expr (e_lm1 2 PySem.F.slot_list_append PySem.F.type_list_append mt_append ls_app (e_plus (e_name 3) e_int))) b_nil) (b_cons (s_if (t_eq hu64 (e_name 4) e_str) (b_cons (s_expr (e_lm1 1 PySem.F.slot_list_append PySem.F.type_list_append mt_append ls_app (e_slU (e_name 0) (p_some (e_lm0 2 PySem.F.slot_list_pop PySem.F.type_list_pop mt_pop ls_pop)) (p_some (e_name 3))))) b_nil) b_nil) b_nil)) b_nil)) (b_cons (s_ret (e_name 1)) b_nil)))
abbrev s__law_depth : Stmt := topS 39
theorem sc__law_depth : FnScope ["_law_text", "_law_depth_here", "_law_most", "_law_sign"] ["_law_text"] (defScope s__law_depth) := ⟨rfl, rfl, rfl, by decide +kernel, rfl, by decide +kernel, by decide +kernel⟩
noncomputable def m__law_depth (c : CA) : M Oc :=
  (seq (mAsg (stTup 2 (stCons (stName 1) (stCons (stName 2) stNil))) (mTup (mCons (ret (.int 0)) (mCons (ret (.int 0)) (ret []))))) (seq (mFor (stName 3) (mIter (mName 0)) (seq (mSet 1 (mBin uSub (mBin uPlus (mName 1) (mCall fInt1 (mCons (mBin (fEq false) (mName 3) (ret (.str "("))) (ret [])))) (mCall fInt1 (mCons (mBin (fEq false) (mName 3) (ret (.str ")"))) (ret []))))) (seq (mSet 2 (mCall fMax2 (mCons (mName 2) (mCons (mName 1) (ret []))))) (ret .nx)))) (seq (mRet (mName 2)) (ret .nx))))
noncomputable def F__law_depth (c : CA) : FD := runM false 4 1 (m__law_depth c)
theorem ok__law_depth {c : CA} (T : TF c K mg w) : FnG P w K mg base CX0 1 T.f__law_depth T.d__law_depth ["_law_text"] (spM K false (F__law_depth c)) :=
  okM T.F__law_depth sc__law_depth fun cdv B fr s J0 Z hr hg =>
    have nd := sc__law_depth.nd
    have hu64 := hr.units
    have hu1 := Nat.lt_of_le_of_lt (Nat.add_le_add_left (by decide : 1 ≤ 64) _) hu64
    (b_cons (s_asg (e_tup (a_cons e_int (a_cons e_int a_nil))) (g_tup rfl (gs_cons (g_name 1 nd) (gs_cons (g_name 2 nd) gs_nil)))) (b_cons (s_for rfl .never (ei_any (e_name 0)) (g_name 3 nd) (b_cons (s_set 1 nd (e_sub (e_plus (e_name 1) (e_ty call_int1 cs_int T.z_int (a_cons (e_eq hu64 (e_name 3) e_str) a_nil))) (e_ty call_int1 cs_int T.z_int (a_cons (e_eq hu64 (e_name 3) e_str) a_nil)))) (b_cons (s_set 2 nd (e_blt (call_max2 rfl) cs_max2 T.z_max (a_cons (e_name 2) (a_cons (e_name 1) a_nil)))) b_nil))) (b_cons (s_ret (e_name 2)) b_nil)))
abbrev s_Pattern_eq : Stmt := inClass (topS 28) 15
theorem sc_Pattern_eq : FnScope ["self", "other"] ["self", "other"] (defScope s_Pattern_eq) := ⟨rfl, rfl, rfl, by decide +kernel, rfl, by decide +kernel, by decide +kernel⟩
noncomputable def m_Pattern_eq (c : CA) : M Oc :=
  (seq (mIf (mtNot (mTru (mIsZ c.Pattern (osZ_Pattern c) (mName 1)))) (seq (mRet (ret (.bl false))) (ret .nx)) (ret .nx)) (seq (mRet (mBin (fEq false) (mFld c.Pattern "_text" (mName 0)) (mFld c.Pattern "_text" (mName 1)))) (ret .nx)))
noncomputable def F_Pattern_eq (c : CA) : FD := runM false 2 2 (m_Pattern_eq c)
theorem ok_Pattern_eq {c : CA} (T : TF c K mg w) : FnG P w K mg base CX0 1 T.f_Pattern_eq T.d_Pattern_eq ["self", "other"] (spM K false (F_Pattern_eq c)) :=
  okM T.F_Pattern_eq sc_Pattern_eq fun cdv B fr s J0 Z hr hg =>
    have nd := sc_Pattern_eq.nd
    have hu64 := hr.units
    have hu1 := Nat.lt_of_le_of_lt (Nat.add_le_add_left (by decide : 1 ≤ 64) _) hu64
    (b_cons (s_if (t_not (t_e (e_isZ T.iz_Pattern T.z_isinstance T.g_Pattern (e_name 1)))) (b_cons (s_ret e_bool) b_nil) b_nil) (b_cons (s_ret (e_eq hu64 (e_fld T.cl_Pattern T.nf_Pattern__text (e_name 0)) (e_fld T.cl_Pattern T.nf_Pattern__text (e_name 1)))) b_nil))
abbrev s_Pattern_contains : Stmt := inClass (topS 28) 13
theorem sc_Pattern_contains : FnScope ["self", "x"] ["self", "x"] (defScope s_Pattern_contains) := ⟨rfl, rfl, rfl, by decide +kernel, rfl, by decide +kernel, by decide +kernel⟩
noncomputable def m_Pattern_contains (c : CA) : M Oc :=
  (seq (mRet (mBin (uIn false) (mName 1) (mFld c.Pattern "_letters" (mName 0)))) (ret .nx))
noncomputable def F_Pattern_contains (c : CA) : FD := runM false 2 2 (m_Pattern_contains c)
theorem ok_Pattern_contains {c : CA} (T : TF c K mg w) : FnG P w K mg base CX0 1 T.f_Pattern_contains T.d_Pattern_contains ["self", "x"] (spM K false (F_Pattern_contains c)) :=
  okM T.F_Pattern_contains sc_Pattern_contains fun cdv B fr s J0 Z hr hg =>
    have nd := sc_Pattern_contains.nd
    have hu64 := hr.units
    have hu1 := Nat.lt_of_le_of_lt (Nat.add_le_add_left (by decide : 1 ≤ 64) _) hu64
    (b_cons (s_ret (e_in hu1 (e_name 1) (e_fld T.cl_Pattern T.nf_Pattern__letters (e_name 0)))) b_nil)
abbrev s__law_pattern_at : Stmt := topS 34
theorem sc__law_pattern_at : FnScope ["_law_text", "_law_number", "_law_found", "_law_parts_here", "_law_sign"] ["_law_text", "_law_number"] (defScope s__law_pattern_at) := ⟨rfl, rfl, rfl, by decide +kernel, rfl, by decide +kernel, by decide +kernel⟩
noncomputable def m__law_pattern_at (c : CA) : M Oc :=
  (seq (mSet 2 (ret (.str ""))) (seq (mSetO 3 (mLst (ret []))) (seq (mFor (stName 4) (mIter (mName 0)) (seq (mIf (mT2 (fEq false) (mName 4) (ret (.str "("))) (seq (mExpr (mLm1 3 fApp (mName 2))) (seq (mSet 2 (ret (.str ""))) (ret .nx))) (seq (mIf (mT2 (fEq false) (mName 4) (ret (.str "#"))) (seq (mSet 2 (mBin uPlus (mLm0 3 fPop) (mBin uTimesT (mName 2) (mName 1)))) (ret .nx)) (seq (mIf (mT2 (fEq true) (mName 4) (ret (.str ")"))) (seq (mSet 2 (mBin uPlus (mName 2) (mName 4))) (ret .nx)) (ret .nx)) (ret .nx))) (ret .nx))) (ret .nx))) (seq (mRet (mName 2)) (ret .nx)))))
noncomputable def F__law_pattern_at (c : CA) : FD := runM false 5 2 (m__law_pattern_at c)
theorem ok__law_pattern_at {c : CA} (T : TF c K mg w) : FnG P w K mg base CX0 1 T.f__law_pattern_at T.d__law_pattern_at ["_law_text", "_law_number"] (spM K false (F__law_pattern_at c)) :=
  okM T.F__law_pattern_at sc__law_pattern_at fun cdv B fr s J0 Z hr hg =>
    have nd := sc__law_pattern_at.nd
    have hu64 := hr.units
    have hu1 := Nat.lt_of_le_of_lt (Nat.add_le_add_left (by decide : 1 ≤ 64) _) hu64
    (b_cons (s_set 2 nd e_str) (b_cons (s_setO 3 nd (eo_lst a_nil)) (b_cons (s_for rfl .never (ei_any (e_name 0)) (g_name 4 nd) (b_cons (s_if (t_eq hu64 (e_name 4) e_str) (b_cons (s_expr (e_lm1 3 PySem.F.slot_list_append PySem.F.type_list_append mt_append ls_app (e_name 2))) (b_cons (s_set 2 nd e_str) b_nil)) (b_cons (s_if (t_eq hu64 (e_name 4) e_str) (b_cons (s_set 2 nd (e_plus (e_lm0 3 PySem.F.slot_list_pop PySem.F.type_list_pop mt_pop ls_pop) (e_timesT (e_name 2) (e_name 1)))) b_nil) (b_cons (s_if (t_ne hu64 (e_name 4) e_str) (b_cons (s_set 2 nd (e_plus (e_name 2) (e_name 4))) b_nil) b_nil) b_nil)) b_nil)) b_nil)) (b_cons (s_ret (e_name 2)) b_nil))))
abbrev s_is_integer : Stmt := topS 4
theorem sc_is_integer : FnScope ["value"] ["value"] (defScope s_is_integer) := ⟨rfl, rfl, rfl, by decide +kernel, rfl, by decide +kernel, by decide +kernel⟩
noncomputable def m_is_integer (c : CA) : M Oc :=
  (seq (mIf (mtOr (mtNot (mTru (mIsi "int" (mName 0)))) (mTru (mIsi "bool" (mName 0)))) (seq (mRet (ret (.bl false))) (ret .nx)) (ret .nx)) (seq (mRet (mBin uLt (mCall fAbs (mCons (mName 0) (ret []))) (mBin uPow (ret (.int 10)) (ret (.int 60))))) (ret .nx)))
noncomputable def F_is_integer (c : CA) : FD := runM false 1 1 (m_is_integer c)
theorem ok_is_integer {c : CA} (T : TF c K mg w) : FnG P w K mg base CX0 1 T.f_is_integer T.d_is_integer ["value"] (spM K false (F_is_integer c)) :=
  okM T.F_is_integer sc_is_integer fun cdv B fr s J0 Z hr hg =>
    have nd := sc_is_integer.nd
    have hu64 := hr.units
    have hu1 := Nat.lt_of_le_of_lt (Nat.add_le_add_left (by decide : 1 ≤ 64) _) hu64
    (b_cons (s_if (t_w (w_or (t_not (t_e (e_isi T.z_isinstance T.z_int PyProof.Rows.boot_int (e_name 0)))) (w_or1 (t_e (e_isi T.z_isinstance T.z_bool PyProof.Rows.boot_bool (e_name 0)))))) (b_cons (s_ret e_bool) b_nil) b_nil) (b_cons (s_ret (e_lt (e_blt call_abs cs_abs T.z_abs (a_cons (e_name 0) a_nil)) (e_pow e_int e_int))) b_nil))
abbrev s_is_count : Stmt := topS 5
theorem sc_is_count : FnScope ["value"] ["value"] (defScope s_is_count) := ⟨rfl, rfl, rfl, by decide +kernel, rfl, by decide +kernel, by decide +kernel⟩
noncomputable def m_is_count (c : CA) : M Oc :=
  (seq (mRet (mAnd (mFn (F_is_integer c) (mCons (mName 0) (ret []))) (mBin iGe (mName 0) (ret (.int 0))))) (ret .nx))
noncomputable def F_is_count (c : CA) : FD := runM false 1 1 (m_is_count c)
theorem ok_is_count {c : CA} (T : TF c K mg w) : FnG P w K mg base CX0 2 T.f_is_count T.d_is_count ["value"] (spM K false (F_is_count c)) :=
  okM T.F_is_count sc_is_count fun cdv B fr s J0 Z hr hg =>
    have nd := sc_is_count.nd
    have hu64 := hr.units
    have hu1 := Nat.lt_of_le_of_lt (Nat.add_le_add_left (by decide : 1 ≤ 64) _) hu64
    (b_cons (s_ret (e_and (e_fn (ok_is_integer T) (hr.mono (by decide)) hg T.m_is_integer T.F_is_integer.kp T.b_is_integer (a_cons (e_name 0) a_nil)) (e_one (e_ge (e_name 0) e_int)))) b_nil)
abbrev s_check_positive : Stmt := topS 12
theorem sc_check_positive : FnScope ["value"] ["value"] (defScope s_check_positive) := ⟨rfl, rfl, rfl, by decide +kernel, rfl, by decide +kernel, by decide +kernel⟩
noncomputable def m_check_positive (c : CA) : M Oc :=
  (seq (mIf (mtOr (mtNot (mTru (mFn (F_is_count c) (mCons (mName 0) (ret []))))) (mT2 (fEq false) (mName 0) (ret (.int 0)))) (seq bad (ret .nx)) (ret .nx)) (ret .nx))
noncomputable def F_check_positive (c : CA) : FD := runM false 1 1 (m_check_positive c)
theorem ok_check_positive {c : CA} (T : TF c K mg w) : FnG P w K mg base CX0 3 T.f_check_positive T.d_check_positive ["value"] (spM K false (F_check_positive c)) :=
  okM T.F_check_positive sc_check_positive fun cdv B fr s J0 Z hr hg =>
    have nd := sc_check_positive.nd
    have hu64 := hr.units
    have hu1 := Nat.lt_of_le_of_lt (Nat.add_le_add_left (by decide : 1 ≤ 64) _) hu64
    (b_cons (s_if (t_w (w_or (t_not (t_e (e_fn (ok_is_count T) (hr.mono (by decide)) hg T.m_is_count T.F_is_count.kp T.b_is_count (a_cons (e_name 0) a_nil)))) (w_or1 (t_eq hu64 (e_name 0) e_int)))) (b_cons s_never b_nil) b_nil) b_nil)
abbrev s_LengthReader_begun : Stmt := inClass (topS 23) 1
theorem sc_LengthReader_begun : FnScope ["self"] ["self"] (defScope s_LengthReader_begun) := ⟨rfl, rfl, rfl, by decide +kernel, rfl, by decide +kernel, by decide +kernel⟩
noncomputable def m_LengthReader_begun (c : CA) : M Oc :=
  (seq (mRet (ret (.int 0))) (ret .nx))
noncomputable def F_LengthReader_begun (c : CA) : FD := runM false 1 1 (m_LengthReader_begun c)
theorem ok_LengthReader_begun {c : CA} (T : TF c K mg w) : FnG P w K mg base CX0 1 T.f_LengthReader_begun T.d_LengthReader_begun ["self"] (spM K false (F_LengthReader_begun c)) :=
  okM T.F_LengthReader_begun sc_LengthReader_begun fun cdv B fr s J0 Z hr hg =>
    have nd := sc_LengthReader_begun.nd
    have hu64 := hr.units
    have hu1 := Nat.lt_of_le_of_lt (Nat.add_le_add_left (by decide : 1 ≤ 64) _) hu64
    (b_cons (s_ret e_int) b_nil)
abbrev s_TextReader_begun : Stmt := inClass (topS 22) 1
theorem sc_TextReader_begun : FnScope ["self"] ["self"] (defScope s_TextReader_begun) := ⟨rfl, rfl, rfl, by decide +kernel, rfl, by decide +kernel, by decide +kernel⟩
noncomputable def m_TextReader_begun (c : CA) : M Oc :=
  (seq (mRet (ret (.str ""))) (ret .nx))
noncomputable def F_TextReader_begun (c : CA) : FD := runM false 1 1 (m_TextReader_begun c)
theorem ok_TextReader_begun {c : CA} (T : TF c K mg w) : FnG P w K mg base CX0 1 T.f_TextReader_begun T.d_TextReader_begun ["self"] (spM K false (F_TextReader_begun c)) :=
  okM T.F_TextReader_begun sc_TextReader_begun fun cdv B fr s J0 Z hr hg =>
    have nd := sc_TextReader_begun.nd
    have hu64 := hr.units
    have hu1 := Nat.lt_of_le_of_lt (Nat.add_le_add_left (by decide : 1 ≤ 64) _) hu64
    (b_cons (s_ret e_str) b_nil)
abbrev s_LengthReader_with_part : Stmt := inClass (topS 23) 3
theorem sc_LengthReader_with_part : FnScope ["self", "done", "part", "_"] ["self", "done", "part", "_"] (defScope s_LengthReader_with_part) := ⟨rfl, rfl, rfl, by decide +kernel, rfl, by decide +kernel, by decide +kernel⟩
noncomputable def m_LengthReader_with_part (c : CA) : M Oc :=
  (seq (mRet (mBin uPlus (mName 1) (mBin uMul (mName 2) (mFld c.LengthReader "_number" (mName 0))))) (ret .nx))
noncomputable def F_LengthReader_with_part (c : CA) : FD := runM false 4 4 (m_LengthReader_with_part c)
theorem ok_LengthReader_with_part {c : CA} (T : TF c K mg w) : FnG P w K mg base CX0 1 T.f_LengthReader_with_part T.d_LengthReader_with_part ["self", "done", "part", "_"] (spM K false (F_LengthReader_with_part c)) :=
  okM T.F_LengthReader_with_part sc_LengthReader_with_part fun cdv B fr s J0 Z hr hg =>
    have nd := sc_LengthReader_with_part.nd
    have hu64 := hr.units
    have hu1 := Nat.lt_of_le_of_lt (Nat.add_le_add_left (by decide : 1 ≤ 64) _) hu64
    (b_cons (s_ret (e_plus (e_name 1) (e_mul (e_name 2) (e_fld T.cl_LengthReader T.nf_LengthReader__number (e_name 0))))) b_nil)
abbrev s_TextReader_with_part : Stmt := inClass (topS 22) 3
theorem sc_TextReader_with_part : FnScope ["self", "done", "part", "_"] ["self", "done", "part", "_"] (defScope s_TextReader_with_part) := ⟨rfl, rfl, rfl, by decide +kernel, rfl, by decide +kernel, by decide +kernel⟩
noncomputable def m_TextReader_with_part (c : CA) : M Oc :=
  (seq (mRet (mBin uPlus (mName 1) (mBin uTimesT (mName 2) (mFld c.TextReader "_number" (mName 0))))) (ret .nx))
noncomputable def F_TextReader_with_part (c : CA) : FD := runM false 4 4 (m_TextReader_with_part c)
theorem ok_TextReader_with_part {c : CA} (T : TF c K mg w) : FnG P w K mg base CX0 1 T.f_TextReader_with_part T.d_TextReader_with_part ["self", "done", "part", "_"] (spM K false (F_TextReader_with_part c)) :=
  okM T.F_TextReader_with_part sc_TextReader_with_part fun cdv B fr s J0 Z hr hg =>
    have nd := sc_TextReader_with_part.nd
    have hu64 := hr.units
    have hu1 := Nat.lt_of_le_of_lt (Nat.add_le_add_left (by decide : 1 ≤ 64) _) hu64
    (b_cons (s_ret (e_plus (e_name 1) (e_timesT (e_name 2) (e_fld T.cl_TextReader T.nf_TextReader__number (e_name 0))))) b_nil)
abbrev s_LengthReader_with_run : Stmt := inClass (topS 23) 2
theorem sc_LengthReader_with_run : FnScope ["self", "done", "run"] ["self", "done", "run"] (defScope s_LengthReader_with_run) := ⟨rfl, rfl, rfl, by decide +kernel, rfl, by decide +kernel, by decide +kernel⟩
noncomputable def m_LengthReader_with_run (c : CA) : M Oc :=
  (seq (mRet (mBin uPlus (mName 1) (mCall fLen (mCons (mName 2) (ret []))))) (ret .nx))
noncomputable def F_LengthReader_with_run (c : CA) : FD := runM false 3 3 (m_LengthReader_with_run c)
theorem ok_LengthReader_with_run {c : CA} (T : TF c K mg w) : FnG P w K mg base CX0 1 T.f_LengthReader_with_run T.d_LengthReader_with_run ["self", "done", "run"] (spM K false (F_LengthReader_with_run c)) :=
  okM T.F_LengthReader_with_run sc_LengthReader_with_run fun cdv B fr s J0 Z hr hg =>
    have nd := sc_LengthReader_with_run.nd
    have hu64 := hr.units
    have hu1 := Nat.lt_of_le_of_lt (Nat.add_le_add_left (by decide : 1 ≤ 64) _) hu64
    (b_cons (s_ret (e_plus (e_name 1) (e_blt call_len cs_len T.z_len (a_cons (e_name 2) a_nil)))) b_nil)
abbrev s_TextReader_with_run : Stmt := inClass (topS 22) 2
theorem sc_TextReader_with_run : FnScope ["self", "done", "run"] ["self", "done", "run"] (defScope s_TextReader_with_run) := ⟨rfl, rfl, rfl, by decide +kernel, rfl, by decide +kernel, by decide +kernel⟩
noncomputable def m_TextReader_with_run (c : CA) : M Oc :=
  (seq (mRet (mBin uPlus (mName 1) (mName 2))) (ret .nx))
noncomputable def F_TextReader_with_run (c : CA) : FD := runM false 3 3 (m_TextReader_with_run c)
theorem ok_TextReader_with_run {c : CA} (T : TF c K mg w) : FnG P w K mg base CX0 1 T.f_TextReader_with_run T.d_TextReader_with_run ["self", "done", "run"] (spM K false (F_TextReader_with_run c)) :=
  okM T.F_TextReader_with_run sc_TextReader_with_run fun cdv B fr s J0 Z hr hg =>
    have nd := sc_TextReader_with_run.nd
    have hu64 := hr.units
    have hu1 := Nat.lt_of_le_of_lt (Nat.add_le_add_left (by decide : 1 ≤ 64) _) hu64
    (b_cons (s_ret (e_plus (e_name 1) (e_name 2))) b_nil)
abbrev s_read_pattern : Stmt := topS 20
theorem sc_read_pattern : FnScope ["text", "parts", "reader", "made", "closed", "word", "part"] ["text", "parts", "reader"] (defScope s_read_pattern) := ⟨rfl, rfl, rfl, by decide +kernel, rfl, by decide +kernel, by decide +kernel⟩
noncomputable def m_read_pattern (c : CA) : M Oc :=
  (seq (mSetO 3 (mLst (mCons (mAlt (mMeth c.TextReader "begun" (F_TextReader_begun c) (mName 2) (ret [])) (mMeth c.LengthReader "begun" (F_LengthReader_begun c) (mName 2) (ret []))) (ret [])))) (seq (mSet 4 (ret (.int 0))) (seq (mFor (stName 5) (mIter (mLs (mWords (mRepl ")#" " ) " (mRepl "(" " ( " (mName 0)))))) (seq (mIf (mT2 (fEq false) (mName 5) (ret (.str "("))) (seq (mExpr (mLm1 3 fApp (mAlt (mMeth c.TextReader "begun" (F_TextReader_begun c) (mName 2) (ret [])) (mMeth c.LengthReader "begun" (F_LengthReader_begun c) (mName 2) (ret []))))) (ret .nx)) (seq (mIf (mT2 (fEq false) (mName 5) (ret (.str ")"))) (seq (mSet 6 (mLm0 3 fPop)) (seq (mExpr (mLm1 3 fApp (mAlt (mMeth c.TextReader "with_part" (F_TextReader_with_part c) (mName 2) (mCons (mLm0 3 fPop) (mCons (mName 6) (mCons (mBin uIx (mName 1) (mName 4)) (ret []))))) (mMeth c.LengthReader "with_part" (F_LengthReader_with_part c) (mName 2) (mCons (mLm0 3 fPop) (mCons (mName 6) (mCons (mBin uIx (mName 1) (mName 4)) (ret [])))))))) (seq (mSet 4 (mBin uPlus (mName 4) (ret (.int 1)))) (ret .nx)))) (seq (mExpr (mLm1 3 fApp (mAlt (mMeth c.TextReader "with_run" (F_TextReader_with_run c) (mName 2) (mCons (mLm0 3 fPop) (mCons (mName 5) (ret [])))) (mMeth c.LengthReader "with_run" (F_LengthReader_with_run c) (mName 2) (mCons (mLm0 3 fPop) (mCons (mName 5) (ret []))))))) (ret .nx))) (ret .nx))) (ret .nx))) (seq (mRet (mIxQ 3 (ret (.int 0)))) (ret .nx)))))
noncomputable def F_read_pattern (c : CA) : FD := runM false 7 3 (m_read_pattern c)
theorem ok_read_pattern {c : CA} (T : TF c K mg w) : FnG P w K mg base CX0 2 T.f_read_pattern T.d_read_pattern ["text", "parts", "reader"] (spM K false (F_read_pattern c)) :=
  okM T.F_read_pattern sc_read_pattern fun cdv B fr s J0 Z hr hg =>
    have nd := sc_read_pattern.nd
    have hu64 := hr.units
    have hu1 := Nat.lt_of_le_of_lt (Nat.add_le_add_left (by decide : 1 ≤ 64) _) hu64
    (b_cons (s_setO 3 nd (eo_lst (a_cons (e_alt (e_meth0 T.cl_TextReader T.me_TextReader_begun (ok_TextReader_begun T) (hr.mono (by decide)) hg T.b_TextReader_begun (e_name 2)) (e_meth0 T.cl_LengthReader T.me_LengthReader_begun (ok_LengthReader_begun T) (hr.mono (by decide)) hg T.b_LengthReader_begun (e_name 2))) a_nil))) (b_tick (sN_setI 4 nd) (b1_cons (s1_for rfl .never (ei1_any (e1_words (e1_repl (e1_repl (EF.one (e_name 0)))))) (g_name 5 nd) (b_cons (s_if (t_eq hu64 (e_name 5) e_str) (b_cons (s_expr (e_lm1 3 PySem.F.slot_list_append PySem.F.type_list_append mt_append ls_app (e_alt (e_meth0 T.cl_TextReader T.me_TextReader_begun (ok_TextReader_begun T) (hr.mono (by decide)) hg T.b_TextReader_begun (e_name 2)) (e_meth0 T.cl_LengthReader T.me_LengthReader_begun (ok_LengthReader_begun T) (hr.mono (by decide)) hg T.b_LengthReader_begun (e_name 2))))) b_nil) (b_cons (s_if (t_eq hu64 (e_name 5) e_str) (b_cons (s_set 6 nd (e_lm0 3 PySem.F.slot_list_pop PySem.F.type_list_pop mt_pop ls_pop)) (b_cons (s_expr (e_lm1 3 PySem.F.slot_list_append PySem.F.type_list_append mt_append ls_app (e_alt (e_meth T.cl_TextReader T.me_TextReader_with_part (ok_TextReader_with_part T) (hr.mono (by decide)) hg T.b_TextReader_with_part (e_name 2) (a_cons (e_lm0 3 PySem.F.slot_list_pop PySem.F.type_list_pop mt_pop ls_pop) (a_cons (e_name 6) (a_cons (e_sbs hu1 (e_name 1) (e_name 4)) a_nil)))) (e_meth T.cl_LengthReader T.me_LengthReader_with_part (ok_LengthReader_with_part T) (hr.mono (by decide)) hg T.b_LengthReader_with_part (e_name 2) (a_cons (e_lm0 3 PySem.F.slot_list_pop PySem.F.type_list_pop mt_pop ls_pop) (a_cons (e_name 6) (a_cons (e_sbs hu1 (e_name 1) (e_name 4)) a_nil))))))) (b_cons (s_set 4 nd (e_plus (e_name 4) e_int)) b_nil))) (b_cons (s_expr (e_lm1 3 PySem.F.slot_list_append PySem.F.type_list_append mt_append ls_app (e_alt (e_meth T.cl_TextReader T.me_TextReader_with_run (ok_TextReader_with_run T) (hr.mono (by decide)) hg T.b_TextReader_with_run (e_name 2) (a_cons (e_lm0 3 PySem.F.slot_list_pop PySem.F.type_list_pop mt_pop ls_pop) (a_cons (e_name 5) a_nil))) (e_meth T.cl_LengthReader T.me_LengthReader_with_run (ok_LengthReader_with_run T) (hr.mono (by decide)) hg T.b_LengthReader_with_run (e_name 2) (a_cons (e_lm0 3 PySem.F.slot_list_pop PySem.F.type_list_pop mt_pop ls_pop) (a_cons (e_name 5) a_nil)))))) b_nil)) b_nil)) b_nil)) (b1_cons (SS.one (s_ret (e_ixQ 3 e_int))) b1_nil))))
abbrev s_LengthReader_init : Stmt := inClass (topS 23) 0
theorem sc_LengthReader_init : FnScope ["self", "number"] ["self", "number"] (defScope s_LengthReader_init) := ⟨rfl, rfl, rfl, by decide +kernel, rfl, by decide +kernel, by decide +kernel⟩
noncomputable def m_LengthReader_init (c : CA) : M Oc :=
  (seq (mFldPutD 0 c.LengthReader "_number" (mName 1)) (ret .nx))
noncomputable def F_LengthReader_init (c : CA) : FD := runM true 2 2 (m_LengthReader_init c)
theorem ok_LengthReader_init {c : CA} (T : TF c K mg w) : FnG P w K mg base CX0 1 T.f_LengthReader_init T.d_LengthReader_init ["self", "number"] (spM K true (F_LengthReader_init c)) :=
  okM T.F_LengthReader_init sc_LengthReader_init fun cdv B fr s J0 Z hr hg =>
    have nd := sc_LengthReader_init.nd
    have hu64 := hr.units
    have hu1 := Nat.lt_of_le_of_lt (Nat.add_le_add_left (by decide : 1 ≤ 64) _) hu64
    (b_cons (s_fldD 0 T.cl_LengthReader T.nf_LengthReader__number (e_name 1)) b_nil)
abbrev s_Pattern_length : Stmt := inClass (topS 28) 6
theorem sc_Pattern_length : FnScope ["self", "n"] ["self", "n"] (defScope s_Pattern_length) := ⟨rfl, rfl, rfl, by decide +kernel, rfl, by decide +kernel, by decide +kernel⟩
noncomputable def m_Pattern_length (c : CA) : M Oc :=
  (seq (mExpr (mFn (F_check_positive c) (mCons (mName 1) (ret [])))) (seq (mRet (mFn (F_read_pattern c) (mCons (mFld c.Pattern "_text" (mName 0)) (mCons (mFld c.Pattern "_parts" (mName 0)) (mCons (frz (mMake c.LengthReader (F_LengthReader_init c) (mCons (mName 1) (ret [])))) (ret [])))))) (ret .nx)))
noncomputable def F_Pattern_length (c : CA) : FD := runM false 2 2 (m_Pattern_length c)
theorem ok_Pattern_length {c : CA} (T : TF c K mg w) : FnG P w K mg base CX0 4 T.f_Pattern_length T.d_Pattern_length ["self", "n"] (spM K false (F_Pattern_length c)) :=
  okM T.F_Pattern_length sc_Pattern_length fun cdv B fr s J0 Z hr hg =>
    have nd := sc_Pattern_length.nd
    have hu64 := hr.units
    have hu1 := Nat.lt_of_le_of_lt (Nat.add_le_add_left (by decide : 1 ≤ 64) _) hu64
    (b_cons (s_expr (e_fn (ok_check_positive T) (hr.mono (by decide)) hg T.m_check_positive T.F_check_positive.kp T.b_check_positive (a_cons (e_name 1) a_nil))) (b_cons (s_ret (e_fn (ok_read_pattern T) (hr.mono (by decide)) hg T.m_read_pattern T.F_read_pattern.kp T.b_read_pattern (a_cons (e_fld T.cl_Pattern T.nf_Pattern__text (e_name 0)) (a_cons (e_fld T.cl_Pattern T.nf_Pattern__parts (e_name 0)) (a_cons (EO.f (eo_make T.mk_LengthReader (ok_LengthReader_init T) (hr.mono (by decide)) hg T.b_LengthReader_init T.g_LengthReader (a_cons (e_name 1) a_nil))) a_nil))))) b_nil))
abbrev s_TextReader_init : Stmt := inClass (topS 22) 0
theorem sc_TextReader_init : FnScope ["self", "number"] ["self", "number"] (defScope s_TextReader_init) := ⟨rfl, rfl, rfl, by decide +kernel, rfl, by decide +kernel, by decide +kernel⟩
noncomputable def m_TextReader_init (c : CA) : M Oc :=
  (seq (mFldPutD 0 c.TextReader "_number" (mName 1)) (ret .nx))
noncomputable def F_TextReader_init (c : CA) : FD := runM true 2 2 (m_TextReader_init c)
theorem ok_TextReader_init {c : CA} (T : TF c K mg w) : FnG P w K mg base CX0 1 T.f_TextReader_init T.d_TextReader_init ["self", "number"] (spM K true (F_TextReader_init c)) :=
  okM T.F_TextReader_init sc_TextReader_init fun cdv B fr s J0 Z hr hg =>
    have nd := sc_TextReader_init.nd
    have hu64 := hr.units
    have hu1 := Nat.lt_of_le_of_lt (Nat.add_le_add_left (by decide : 1 ≤ 64) _) hu64
    (b_cons (s_fldD 0 T.cl_TextReader T.nf_TextReader__number (e_name 1)) b_nil)
abbrev s_Pattern_call : Stmt := inClass (topS 28) 11
theorem sc_Pattern_call : FnScope ["self", "n"] ["self", "n"] (defScope s_Pattern_call) := ⟨rfl, rfl, rfl, by decide +kernel, rfl, by decide +kernel, by decide +kernel⟩
noncomputable def m_Pattern_call (c : CA) : M Oc :=
  (seq (mIf (mT2 iGt (mMeth c.Pattern "length" (F_Pattern_length c) (mName 0) (mCons (mName 1) (ret []))) (ret (.int 100000))) (seq bad (ret .nx)) (ret .nx)) (seq (mRet (mFn (F_read_pattern c) (mCons (mFld c.Pattern "_text" (mName 0)) (mCons (mFld c.Pattern "_parts" (mName 0)) (mCons (frz (mMake c.TextReader (F_TextReader_init c) (mCons (mName 1) (ret [])))) (ret [])))))) (ret .nx)))
noncomputable def F_Pattern_call (c : CA) : FD := runM false 2 2 (m_Pattern_call c)
theorem ok_Pattern_call {c : CA} (T : TF c K mg w) : FnG P w K mg base CX0 5 T.f_Pattern_call T.d_Pattern_call ["self", "n"] (spM K false (F_Pattern_call c)) :=
  okM T.F_Pattern_call sc_Pattern_call fun cdv B fr s J0 Z hr hg =>
    have nd := sc_Pattern_call.nd
    have hu64 := hr.units
    have hu1 := Nat.lt_of_le_of_lt (Nat.add_le_add_left (by decide : 1 ≤ 64) _) hu64
    (b_cons (s_if (t_gt (e_meth T.cl_Pattern T.me_Pattern_length (ok_Pattern_length T) (hr.mono (by decide)) hg T.b_Pattern_length (e_name 0) (a_cons (e_name 1) a_nil)) (e_globI T.c_MAX_TEXT)) (b_cons s_never b_nil) b_nil) (b_cons (s_ret (e_fn (ok_read_pattern T) (hr.mono (by decide)) hg T.m_read_pattern T.F_read_pattern.kp T.b_read_pattern (a_cons (e_fld T.cl_Pattern T.nf_Pattern__text (e_name 0)) (a_cons (e_fld T.cl_Pattern T.nf_Pattern__parts (e_name 0)) (a_cons (EO.f (eo_make T.mk_TextReader (ok_TextReader_init T) (hr.mono (by decide)) hg T.b_TextReader_init T.g_TextReader (a_cons (e_name 1) a_nil))) a_nil))))) b_nil))
abbrev s_Pattern_repeated : Stmt := inClass (topS 28) 10
theorem sc_Pattern_repeated : FnScope ["self"] ["self"] (defScope s_Pattern_repeated) := ⟨rfl, rfl, rfl, by decide +kernel, rfl, by decide +kernel, by decide +kernel⟩
noncomputable def m_Pattern_repeated (c : CA) : M Oc :=
  (seq (mRet (frz (mMake c.Pattern (F_Pattern_init c) (mCons (mJs [(ret (.str "(")), (mFmt (mFld c.Pattern "_text" (mName 0))), (ret (.str ")#"))] Str.empty) (ret []))))) (ret .nx))
noncomputable def F_Pattern_repeated (c : CA) : FD := runM false 1 1 (m_Pattern_repeated c)
theorem ok_Pattern_repeated {c : CA} (T : TF c K mg w) : FnG P w K mg base CX0 6 T.f_Pattern_repeated T.d_Pattern_repeated ["self"] (spM K false (F_Pattern_repeated c)) :=
  okM T.F_Pattern_repeated sc_Pattern_repeated fun cdv B fr s J0 Z hr hg =>
    have nd := sc_Pattern_repeated.nd
    have hu64 := hr.units
    have hu1 := Nat.lt_of_le_of_lt (Nat.add_le_add_left (by decide : 1 ≤ 64) _) hu64
    (b_cons (s_ret (EO.f (eo_make T.mk_Pattern (ok_Pattern_init T) (hr.mono (by decide)) hg T.b_Pattern_init T.g_Pattern (a_cons (e_joined (ej_cons e_str (ej_cons (e_fmt (e_fld T.cl_Pattern T.nf_Pattern__text (e_name 0))) (ej_cons e_str ej_nil)))) a_nil)))) b_nil)
abbrev s__law_told_right : Stmt := topS 40
theorem sc__law_told_right : FnScope ["_law_dice_here", "_law_made", "_law_text", "_law_letters", "_law_told", "_law_due", "_law_number", "_law_sign", "_law_letter"] ["_law_dice_here", "_law_made", "_law_text"] (defScope s__law_told_right) := ⟨rfl, rfl, rfl, by decide +kernel, rfl, by decide +kernel, by decide +kernel⟩
noncomputable def m__law_told_right (c : CA) : M Oc :=
  (seq (mSet 3 (frz (mLc [7] (mIter (mName 2)) (stName 7) (mT2 (uIn true) (mName 7) (mTup (mCons (ret (.str "(")) (mCons (ret (.str ")")) (mCons (ret (.str "#")) (ret [])))))) (mName 7)))) (seq (mSet 4 (frz (mLst (mCons (mProp c.Pattern (F_Pattern_text c) (mName 1)) (mCons (mProp c.Pattern (F_Pattern_letters c) (mName 1)) (mCons (mProp c.Pattern (F_Pattern_depth c) (mName 1)) (mCons (mProp c.Pattern (F_Pattern_parts c) (mName 1)) (mCons (mProp c.Pattern (F_Pattern_weight c) (mName 1)) (mCons (mLenI c.Pattern (F_Pattern_len c) (mName 1)) (mCons (mStrI c.Pattern (F_Pattern_str c) (mName 1)) (ret []))))))))))) (seq (mSet 5 (frz (mLst (mCons (mName 2) (mCons (mCall fTuple (mCons (frz (mSortSet (mName 3))) (ret []))) (mCons (mFn (F__law_depth c) (mCons (mName 2) (ret []))) (mCons (mCall fTuple (mCons (mFn (F__law_parts c) (mCons (mName 2) (ret []))) (ret []))) (mCons (mFn (F__law_weight c) (mCons (mName 2) (ret []))) (ret []))))))))) (seq (mIf (mtOr (mT2 (fEq true) (mName 4) (mBin uPlus (mName 5) (frz (mLst (mCons (mCall fLen (mCons (mName 3) (ret []))) (mCons (mName 2) (ret []))))))) (mtOr (mtEqZ true c.Pattern (osE_Pattern c) (F_Pattern_eq c) (mName 1) (frz (mMake c.Pattern (F_Pattern_init c) (mCons (mName 2) (ret []))))) (mtOr (mtEqZ false c.Pattern (osE_Pattern c) (F_Pattern_eq c) (mName 1) (mName 2)) (mtNot (mTru (mFn (F_is_pattern c) (mCons (mName 2) (ret [])))))))) (seq (mRet (ret (.bl false))) (ret .nx)) (ret .nx)) (seq (mIf (mT2 (fEq true) (frz (mLc [8] (mIter (ret (.str "abcdz"))) (stName 8) (mT2 (fEq true) (mInI false c.Pattern (F_Pattern_contains c) (mName 8) (mName 1)) (mBin (uIn false) (mName 8) (mName 3))) (mName 8))) (frz (mLst (ret [])))) (seq (mRet (ret (.bl false))) (ret .nx)) (ret .nx)) (seq (mIf (mtOr (mtInI false c.Pattern (F_Pattern_contains c) (ret (.str "ab")) (mName 1)) (mtOr (mtInI false c.Pattern (F_Pattern_contains c) (ret .non) (mName 1)) (mtInI false c.Pattern (F_Pattern_contains c) (ret (.str "")) (mName 1)))) (seq (mRet (ret (.bl false))) (ret .nx)) (ret .nx)) (seq (mFor (stName 6) (mIter (mTup (mCons (ret (.int 1)) (mCons (ret (.int 2)) (mCons (mBin uPlus (ret (.int 3)) (isDi 0 (mFn (F__law_roll c) (mCons (ret (.int 3)) (ret []))))) (ret [])))))) (seq (mSet 5 (mFn (F__law_pattern_at c) (mCons (mName 2) (mCons (mName 6) (ret []))))) (seq (mIf (mtOr (mT2 (fEq true) (mOCall c.Pattern (F_Pattern_call c) (mName 1) (mCons (mName 6) (ret []))) (mName 5)) (mT2 (fEq true) (mMeth c.Pattern "length" (F_Pattern_length c) (mName 1) (mCons (mName 6) (ret []))) (mCall fLen (mCons (mName 5) (ret []))))) (seq (mRet (ret (.bl false))) (ret .nx)) (ret .nx)) (ret .nx)))) (seq (mRet (mAnd (mBin (fEq false) (mProp c.Pattern (F_Pattern_text c) (mMeth c.Pattern "repeated" (F_Pattern_repeated c) (mName 1) (ret []))) (mBin uPlus (mBin uPlus (ret (.str "(")) (mName 2)) (ret (.str ")#")))) (mBin (fEq false) (mProp c.Pattern (F_Pattern_text c) (mName 1)) (mName 2)))) (ret .nx)))))))))
noncomputable def F__law_told_right (c : CA) : FD := runM true 9 3 (m__law_told_right c)
theorem ok__law_told_right {c : CA} (T : TF c K mg w) : FnG P w K mg base CX0 7 T.f__law_told_right T.d__law_told_right ["_law_dice_here", "_law_made", "_law_text"] (spM K true (F__law_told_right c)) :=
  okM T.F__law_told_right sc__law_told_right fun cdv B fr s J0 Z hr hg =>
    have nd := sc__law_told_right.nd
    have hu64 := hr.units
    have hu1 := Nat.lt_of_le_of_lt (Nat.add_le_add_left (by decide : 1 ≤ 64) _) hu64
    (b_cons (s_set 3 nd (EO.f (eo_lc (own := [("_law_sign", 7)]) rfl nd (ei_any (e_name 2)) (blkOk_by rfl) (fun _ _ _ _ _ => (g_name 7 nd)) (fun _ _ _ _ _ => (ts_one (t_nin hu1 (e_name 7) (e_tup (a_cons e_str (a_cons e_str (a_cons e_str a_nil))))))) (fun _ _ _ _ _ => (e_name 7))))) (b_cons (s_set 4 nd (EO.f (eo_lst (a_cons (e_prop T.cl_Pattern T.pr_Pattern_text (ok_Pattern_text T) (hr.mono (by decide)) hg T.b_Pattern_text (e_name 1)) (a_cons (e_prop T.cl_Pattern T.pr_Pattern_letters (ok_Pattern_letters T) (hr.mono (by decide)) hg T.b_Pattern_letters (e_name 1)) (a_cons (e_prop T.cl_Pattern T.pr_Pattern_depth (ok_Pattern_depth T) (hr.mono (by decide)) hg T.b_Pattern_depth (e_name 1)) (a_cons (e_prop T.cl_Pattern T.pr_Pattern_parts (ok_Pattern_parts T) (hr.mono (by decide)) hg T.b_Pattern_parts (e_name 1)) (a_cons (e_prop T.cl_Pattern T.pr_Pattern_weight (ok_Pattern_weight T) (hr.mono (by decide)) hg T.b_Pattern_weight (e_name 1)) (a_cons (e_lenI T.sp_Pattern_len (ok_Pattern_len T) (hr.mono (by decide)) hg T.b_Pattern_len T.z_len (e_name 1)) (a_cons (e_strI T.sp_Pattern_str (ok_Pattern_str T) (hr.mono (by decide)) hg T.b_Pattern_str T.z_str (e_name 1)) a_nil)))))))))) (b_cons (s_set 5 nd (EO.f (eo_lst (a_cons (e_name 2) (a_cons (e_ty call_tuple_of cs_tuple T.z_tuple (a_cons (EO.f (eo_sortset rfl T.z_sorted T.z_set (e_name 3))) a_nil)) (a_cons (e_fn (ok__law_depth T) (hr.mono (by decide)) hg T.m__law_depth T.F__law_depth.kp T.b__law_depth (a_cons (e_name 2) a_nil)) (a_cons (e_ty call_tuple_of cs_tuple T.z_tuple (a_cons (e_fn (ok__law_parts T) (hr.mono (by decide)) hg T.m__law_parts T.F__law_parts.kp T.b__law_parts (a_cons (e_name 2) a_nil)) a_nil)) (a_cons (e_fn (ok__law_weight T) (hr.mono (by decide)) hg T.m__law_weight T.F__law_weight.kp T.b__law_weight (a_cons (e_name 2) a_nil)) a_nil)))))))) (b_cons (s_if (t_w (w_or (t_ne hu64 (e_name 4) (e_plus (e_name 5) (EO.f (eo_lst (a_cons (e_blt call_len cs_len T.z_len (a_cons (e_name 3) a_nil)) (a_cons (e_name 2) a_nil)))))) (w_or (t_neZ T.eq_Pattern T.nz_Pattern (ok_Pattern_eq T) (hr.mono (by decide)) hg T.b_Pattern_eq (e_name 1) (EO.f (eo_make T.mk_Pattern (ok_Pattern_init T) (hr.mono (by decide)) hg T.b_Pattern_init T.g_Pattern (a_cons (e_name 2) a_nil)))) (w_or (t_eqZ T.eq_Pattern T.nz_Pattern (ok_Pattern_eq T) (hr.mono (by decide)) hg T.b_Pattern_eq (e_name 1) (e_name 2)) (w_or1 (t_not (t_e (e_fn (ok_is_pattern T) (hr.mono (by decide)) hg T.m_is_pattern T.F_is_pattern.kp T.b_is_pattern (a_cons (e_name 2) a_nil))))))))) (b_cons (s_ret e_bool) b_nil) b_nil) (b_cons (s_if (t_ne hu64 (EO.f (eo_lc (own := [("_law_letter", 8)]) rfl nd (ei_any e_str) (blkOk_by rfl) (fun _ _ _ _ _ => (g_name 8 nd)) (fun _ _ _ _ _ => (ts_one (t_ne hu64 (e_inI T.sp_Pattern_contains (ok_Pattern_contains T) (hr.mono (by decide)) hg T.b_Pattern_contains (e_name 8) (e_name 1)) (e_in hu1 (e_name 8) (e_name 3))))) (fun _ _ _ _ _ => (e_name 8)))) (EO.f (eo_lst a_nil))) (b_cons (s_ret e_bool) b_nil) b_nil) (b_cons (s_if (t_w (w_or (t_inI T.sp_Pattern_contains (ok_Pattern_contains T) (hr.mono (by decide)) hg T.b_Pattern_contains e_str (e_name 1)) (w_or (t_inI T.sp_Pattern_contains (ok_Pattern_contains T) (hr.mono (by decide)) hg T.b_Pattern_contains e_none (e_name 1)) (w_or1 (t_inI T.sp_Pattern_contains (ok_Pattern_contains T) (hr.mono (by decide)) hg T.b_Pattern_contains e_str (e_name 1)))))) (b_cons (s_ret e_bool) b_nil) b_nil) (b_cons (s_for rfl .never (ei_any (e_tup (a_cons e_int (a_cons e_int (a_cons (e_plus e_int (e_fd 0 (ok__law_roll T) (hr.mono (by decide)) hg T.m__law_roll T.F__law_roll.kp T.b__law_roll (a_cons e_int a_nil))) a_nil))))) (g_name 6 nd) (b_cons (s_set 5 nd (e_fn (ok__law_pattern_at T) (hr.mono (by decide)) hg T.m__law_pattern_at T.F__law_pattern_at.kp T.b__law_pattern_at (a_cons (e_name 2) (a_cons (e_name 6) a_nil)))) (b_cons (s_if (t_w (w_or (t_ne hu64 (e_ocall T.ca_Pattern (ok_Pattern_call T) (hr.mono (by decide)) hg T.b_Pattern_call (e_name 1) (a_cons (e_name 6) a_nil)) (e_name 5)) (w_or1 (t_ne hu64 (e_meth T.cl_Pattern T.me_Pattern_length (ok_Pattern_length T) (hr.mono (by decide)) hg T.b_Pattern_length (e_name 1) (a_cons (e_name 6) a_nil)) (e_blt call_len cs_len T.z_len (a_cons (e_name 5) a_nil)))))) (b_cons (s_ret e_bool) b_nil) b_nil) b_nil))) (b_cons (s_ret (e_and (e_eq hu64 (e_prop T.cl_Pattern T.pr_Pattern_text (ok_Pattern_text T) (hr.mono (by decide)) hg T.b_Pattern_text (e_meth0 T.cl_Pattern T.me_Pattern_repeated (ok_Pattern_repeated T) (hr.mono (by decide)) hg T.b_Pattern_repeated (e_name 1))) (e_plus (e_plus e_str (e_name 2)) e_str)) (e_one (e_eq hu64 (e_prop T.cl_Pattern T.pr_Pattern_text (ok_Pattern_text T) (hr.mono (by decide)) hg T.b_Pattern_text (e_name 1)) (e_name 2))))) b_nil))))))))
abbrev s_Pattern_add : Stmt := inClass (topS 28) 12
theorem sc_Pattern_add : FnScope ["self", "other"] ["self", "other"] (defScope s_Pattern_add) := ⟨rfl, rfl, rfl, by decide +kernel, rfl, by decide +kernel, by decide +kernel⟩
noncomputable def m_Pattern_add (c : CA) : M Oc :=
  (seq (mIf (mtNot (mTru (mIsZ c.Pattern (osZ_Pattern c) (mName 1)))) (seq (mRet bad) (ret .nx)) (ret .nx)) (seq (mRet (frz (mMake c.Pattern (F_Pattern_init c) (mCons (mBin uPlus (mFld c.Pattern "_text" (mName 0)) (mFld c.Pattern "_text" (mName 1))) (ret []))))) (ret .nx)))
noncomputable def F_Pattern_add (c : CA) : FD := runM false 2 2 (m_Pattern_add c)
theorem ok_Pattern_add {c : CA} (T : TF c K mg w) : FnG P w K mg base CX0 6 T.f_Pattern_add T.d_Pattern_add ["self", "other"] (spM K false (F_Pattern_add c)) :=
  okM T.F_Pattern_add sc_Pattern_add fun cdv B fr s J0 Z hr hg =>
    have nd := sc_Pattern_add.nd
    have hu64 := hr.units
    have hu1 := Nat.lt_of_le_of_lt (Nat.add_le_add_left (by decide : 1 ≤ 64) _) hu64
    (b_cons (s_if (t_not (t_e (e_isZ T.iz_Pattern T.z_isinstance T.g_Pattern (e_name 1)))) (b_cons (s_ret e_bad) b_nil) b_nil) (b_cons (s_ret (EO.f (eo_make T.mk_Pattern (ok_Pattern_init T) (hr.mono (by decide)) hg T.b_Pattern_init T.g_Pattern (a_cons (e_plus (e_fld T.cl_Pattern T.nf_Pattern__text (e_name 0)) (e_fld T.cl_Pattern T.nf_Pattern__text (e_name 1))) a_nil)))) b_nil))
abbrev s__law_right : Stmt := topS 41
theorem sc__law_right : FnScope ["_law_dice_here", "_law_letters", "_law_one", "_law_other", "_law_first", "_law_second"] ["_law_dice_here"] (defScope s__law_right) := ⟨rfl, rfl, rfl, by decide +kernel, rfl, by decide +kernel, by decide +kernel⟩
noncomputable def m__law_right (c : CA) : M Oc :=
  (seq (mSet 1 (mSlU (isDi 0 (mFn (F__law_mixed c) (mCons (frz (mLst (mCons (ret (.str "a")) (mCons (ret (.str "b")) (mCons (ret (.str "c")) (mCons (ret (.str "z")) (ret []))))))) (ret [])))) (ret none) (mPart (mBin uPlus (ret (.int 1)) (isDi 0 (mFn (F__law_roll c) (mCons (ret (.int 3)) (ret [])))))))) (seq (mPar 2 3 (mXd (isDi 0 (mFn (F__law_drawn_pattern c) (mCons (mName 1) (mCons (ret (.int 3)) (mCons (ret (.int 3)) (ret []))))))) (mXd (isDi 0 (mFn (F__law_drawn_pattern c) (mCons (mName 1) (mCons (ret (.int 2)) (mCons (ret (.int 2)) (ret [])))))))) (seq (mPar 4 5 (mXd (frz (mMake c.Pattern (F_Pattern_init c) (mCons (mName 2) (ret []))))) (mXd (frz (mMake c.Pattern (F_Pattern_init c) (mCons (mName 3) (ret [])))))) (seq (mIf (mtOr (mtNot (mTru (isDi 0 (mFn (F__law_told_right c) (mCons (mName 4) (mCons (mName 2) (ret []))))))) (mtNot (mTru (isDi 0 (mFn (F__law_told_right c) (mCons (mBinI c.Pattern (F_Pattern_add c) (mName 4) (mName 5)) (mCons (mBin uPlus (mName 2) (mName 3)) (ret [])))))))) (seq (mRet (ret (.bl false))) (ret .nx)) (ret .nx)) (seq (mIf (mtNot (mTru (isDi 0 (mFn (F__law_told_right c) (mCons (mBinI c.Pattern (F_Pattern_add c) (mMeth c.Pattern "repeated" (F_Pattern_repeated c) (mName 5) (ret [])) (mName 4)) (mCons (mBin uPlus (mBin uPlus (mBin uPlus (ret (.str "(")) (mName 3)) (ret (.str ")#"))) (mName 2)) (ret []))))))) (seq (mRet (ret (.bl false))) (ret .nx)) (ret .nx)) (seq (mRet (mAnd (mBin (fEq false) (mEqZ false c.Pattern (osE_Pattern c) (F_Pattern_eq c) (mName 4) (mName 5)) (mBin (fEq false) (mName 2) (mName 3))) (mBin (fEq false) (mEqZ true c.Pattern (osE_Pattern c) (F_Pattern_eq c) (mName 4) (mName 5)) (mBin (fEq true) (mName 2) (mName 3))))) (ret .nx)))))))
noncomputable def F__law_right (c : CA) : FD := runM true 6 1 (m__law_right c)
theorem ok__law_right {c : CA} (T : TF c K mg w) : FnG P w K mg base CX0 13 T.f__law_right T.d__law_right ["_law_dice_here"] (spM K true (F__law_right c)) :=
  okM T.F__law_right sc__law_right fun cdv B fr s J0 Z hr hg =>
    have nd := sc__law_right.nd
    have hu64 := hr.units
    have hu1 := Nat.lt_of_le_of_lt (Nat.add_le_add_left (by decide : 1 ≤ 64) _) hu64
    (b_cons (s_set 1 nd (e_slU (e_fd 0 (ok__law_mixed T) (hr.mono (by decide)) hg T.m__law_mixed T.F__law_mixed.kp T.b__law_mixed (a_cons (EO.f (eo_lst (a_cons e_str (a_cons e_str (a_cons e_str (a_cons e_str a_nil)))))) a_nil)) p_none (p_some (e_plus e_int (e_fd 0 (ok__law_roll T) (hr.mono (by decide)) hg T.m__law_roll T.F__law_roll.kp T.b__law_roll (a_cons e_int a_nil)))))) (b_cons (s_par 2 3 rfl nd (x_d (e_fd 0 (ok__law_drawn_pattern T) (hr.mono (by decide)) hg T.m__law_drawn_pattern T.F__law_drawn_pattern.kp T.b__law_drawn_pattern (a_cons (e_name 1) (a_cons e_int (a_cons e_int a_nil))))) (x_d (e_fd 0 (ok__law_drawn_pattern T) (hr.mono (by decide)) hg T.m__law_drawn_pattern T.F__law_drawn_pattern.kp T.b__law_drawn_pattern (a_cons (e_name 1) (a_cons e_int (a_cons e_int a_nil)))))) (b_cons (s_par 4 5 rfl nd (x_d (EO.f (eo_make T.mk_Pattern (ok_Pattern_init T) (hr.mono (by decide)) hg T.b_Pattern_init T.g_Pattern (a_cons (e_name 2) a_nil)))) (x_d (EO.f (eo_make T.mk_Pattern (ok_Pattern_init T) (hr.mono (by decide)) hg T.b_Pattern_init T.g_Pattern (a_cons (e_name 3) a_nil))))) (b_cons (s_if (t_w (w_or (t_not (t_e (e_fd 0 (ok__law_told_right T) (hr.mono (by decide)) hg T.m__law_told_right T.F__law_told_right.kp T.b__law_told_right (a_cons (e_name 4) (a_cons (e_name 2) a_nil))))) (w_or1 (t_not (t_e (e_fd 0 (ok__law_told_right T) (hr.mono (by decide)) hg T.m__law_told_right T.F__law_told_right.kp T.b__law_told_right (a_cons (e_binI T.bi_Pattern_add (ok_Pattern_add T) (hr.mono (by decide)) hg T.b_Pattern_add (e_name 4) (e_name 5)) (a_cons (e_plus (e_name 2) (e_name 3)) a_nil)))))))) (b_cons (s_ret e_bool) b_nil) b_nil) (b_cons (s_if (t_not (t_e (e_fd 0 (ok__law_told_right T) (hr.mono (by decide)) hg T.m__law_told_right T.F__law_told_right.kp T.b__law_told_right (a_cons (e_binI T.bi_Pattern_add (ok_Pattern_add T) (hr.mono (by decide)) hg T.b_Pattern_add (e_meth0 T.cl_Pattern T.me_Pattern_repeated (ok_Pattern_repeated T) (hr.mono (by decide)) hg T.b_Pattern_repeated (e_name 5)) (e_name 4)) (a_cons (e_plus (e_plus (e_plus e_str (e_name 3)) e_str) (e_name 2)) a_nil))))) (b_cons (s_ret e_bool) b_nil) b_nil) (b_cons (s_ret (e_and (e_eq hu64 (e_eqZ T.eq_Pattern T.nz_Pattern (ok_Pattern_eq T) (hr.mono (by decide)) hg T.b_Pattern_eq (e_name 4) (e_name 5)) (e_eq hu64 (e_name 2) (e_name 3))) (e_one (e_eq hu64 (e_neZ T.eq_Pattern T.nz_Pattern (ok_Pattern_eq T) (hr.mono (by decide)) hg T.b_Pattern_eq (e_name 4) (e_name 5)) (e_ne hu64 (e_name 2) (e_name 3)))))) b_nil))))))
abbrev s__law_dice : Stmt := topS 30
theorem sc__law_dice : FnScope ["_law_script", "_law_spot", "_law_cell", "_law_great", "_law_left"] ["_law_script", "_law_spot"] (defScope s__law_dice) := ⟨rfl, rfl, rfl, by decide +kernel, rfl, by decide +kernel, by decide +kernel⟩
noncomputable def m__law_dice (c : CA) : M Oc :=
  (seq (mSet 2 (mIf (mT2 uLt (mName 1) (mCall fLen (mCons (mName 0) (ret [])))) (mCall fInt1 (mCons (mBin uIx (mName 0) (mName 1)) (ret []))) (mBin uPlus (mBin uMul (ret (.int 43)) (mName 1)) (ret (.int 7))))) (seq (mSet 3 (mBin uMod (mCall fAbs (mCons (mName 2) (ret []))) (mBin uPow (ret (.int 10)) (ret (.int 59))))) (seq (mSet 4 (mCall fMax2 (mCons (ret (.int 0)) (mCons (mBin uSub (mCall fAbs (mCons (mName 2) (ret []))) (mBin uPow (ret (.int 10)) (ret (.int 17)))) (ret []))))) (seq (mRetO (mLst (mCons (mBin uMod (mName 4) (mBin uMul (mBin uPow (ret (.int 10)) (ret (.int 60))) (mBin uPow (ret (.int 10)) (ret (.int 60))))) (mCons (mBin uPlus (mBin uPlus (mBin uPlus (mBin uMul (mBin uMod (mName 3) (ret (.int 2147483587))) (ret (.int 37))) (mBin uMul (ret (.int 601)) (mName 1))) (mBin uMul (ret (.int 11)) (mCall fInt1 (mCons (mBin uLt (mName 2) (ret (.int 0))) (ret []))))) (ret (.int 5))) (mCons (ret (.int 0)) (ret [])))))) (ret .nx)))))
noncomputable def F__law_dice (c : CA) : FO := runO false 5 2 (m__law_dice c)
theorem ok__law_dice {c : CA} (T : TF c K mg w) : FnG P w K mg base CX0 1 T.f__law_dice T.d__law_dice ["_law_script", "_law_spot"] (spO K false (F__law_dice c)) :=
  okO T.F__law_dice sc__law_dice fun cdv B fr s J0 Z hr hg =>
    have nd := sc__law_dice.nd
    have hu64 := hr.units
    have hu1 := Nat.lt_of_le_of_lt (Nat.add_le_add_left (by decide : 1 ≤ 64) _) hu64
    (b_cons (s_set 2 nd (e_if (t_lt (e_name 1) (e_blt call_len cs_len T.z_len (a_cons (e_name 0) a_nil))) (e_ty call_int1 cs_int T.z_int (a_cons (e_sbs hu1 (e_name 0) (e_name 1)) a_nil)) (e_plus (e_mul e_int (e_name 1)) e_int))) (b_cons (s_set 3 nd (e_mod (e_blt call_abs cs_abs T.z_abs (a_cons (e_name 2) a_nil)) (e_pow e_int e_int))) (b_cons (s_set 4 nd (e_blt (call_max2 rfl) cs_max2 T.z_max (a_cons e_int (a_cons (e_sub (e_blt call_abs cs_abs T.z_abs (a_cons (e_name 2) a_nil)) (e_pow e_int e_int)) a_nil)))) (b_cons (s_retO (eo_lst (a_cons (e_mod (e_name 4) (e_mul (e_pow e_int e_int) (e_pow e_int e_int))) (a_cons (e_plus (e_plus (e_plus (e_mul (e_mod (e_name 3) e_int) e_int) (e_mul e_int (e_name 1))) (e_mul e_int (e_ty call_int1 cs_int T.z_int (a_cons (e_lt (e_name 2) e_int) a_nil)))) e_int) (a_cons e_int a_nil))))) b_nil))))
abbrev s_law : Stmt := topS 42
theorem sc_law : FnScope ["_law_script", "_law_spot", "_law_made", "_law_told", "_law_due"] ["_law_script"] (defScope s_law) := ⟨rfl, rfl, rfl, by decide +kernel, rfl, by decide +kernel, by decide +kernel⟩
noncomputable def m_law (c : CA) : M Oc :=
  (seq (mFor (stName 1) (mWk fRng1 (mCons (mCall fMax2 (mCons (ret (.int 1)) (mCons (mCall fMin2 (mCons (ret (.int 6)) (mCons (mCall fLen (mCons (mName 0) (ret []))) (ret [])))) (ret [])))) (ret []))) (seq (mIf (mtNot (mTru (mFnE (F__law_right c) (mFnO (F__law_dice c) (mCons (mName 0) (mCons (mName 1) (ret [])))) (ret [])))) (seq (mRet (ret (.bl false))) (ret .nx)) (ret .nx)) (ret .nx))) (seq (mSet 2 (frz (mMake c.Pattern (F_Pattern_init c) (mCons (ret (.str "(ab(c)#)#")) (ret []))))) (seq (mSet 3 (frz (mLst (mCons (mOCall c.Pattern (F_Pattern_call c) (mName 2) (mCons (ret (.int 2)) (ret []))) (mCons (mProp c.Pattern (F_Pattern_parts c) (mName 2)) (mCons (mProp c.Pattern (F_Pattern_weight c) (mName 2)) (mCons (mBin (fEq false) (mMeth c.Pattern "length" (F_Pattern_length c) (mName 2) (mCons (mBin uPow (ret (.int 10)) (ret (.int 50))) (ret []))) (mBin uMul (mBin uPow (ret (.int 10)) (ret (.int 50))) (mBin uPlus (ret (.int 2)) (mBin uPow (ret (.int 10)) (ret (.int 50)))))) (mCons (mProp c.Pattern (F_Pattern_depth c) (mName 2)) (ret []))))))))) (seq (mSet 4 (frz (mLst (mCons (ret (.str "abccabcc")) (mCons (mTup (mCons (ret (.str "c")) (mCons (ret (.str "ab(c)#")) (ret [])))) (mCons (ret (.int 8)) (mCons (ret (.bl true)) (mCons (ret (.int 2)) (ret []))))))))) (seq (mRet (mBin (fEq false) (mBin uPlus (mName 3) (frz (mLst (mCons (ret (.int 20000)) (mCons (ret (.int 24)) (mCons (mFn (F_is_pattern c) (mCons (mBin uTimesT (ret (.str "a")) (ret (.int 20000))) (ret []))) (ret []))))))) (mBin uPlus (mName 4) (frz (mLst (mCons (ret (.int 20000)) (mCons (ret (.int 24)) (mCons (ret (.bl true)) (ret []))))))))) (ret .nx))))))
noncomputable def F_law (c : CA) : FD := runM false 5 1 (m_law c)
theorem ok_law {c : CA} (T : TF c K mg w) : FnG P w K mg base CX0 14 T.f_law T.d_law ["_law_script"] (spM K false (F_law c)) :=
  okM T.F_law sc_law fun cdv B fr s J0 Z hr hg =>
    have nd := sc_law.nd
    have hu64 := hr.units
    have hu1 := Nat.lt_of_le_of_lt (Nat.add_le_add_left (by decide : 1 ≤ 64) _) hu64
    (b_cons (s_for rfl .never (ei_rng1 T.z_range (a_cons (e_blt (call_max2 rfl) cs_max2 T.z_max (a_cons e_int (a_cons (e_blt (call_min2 rfl) cs_min2 T.z_min (a_cons e_int (a_cons (e_blt call_len cs_len T.z_len (a_cons (e_name 0) a_nil)) a_nil))) a_nil))) a_nil)) (g_name 1 nd) (b_cons (s_if (t_not (t_e (e_fe (ok__law_right T) (hr.mono (by decide)) hg T.m__law_right T.F__law_right.kp T.b__law_right (eo_fn (ok__law_dice T) (hr.mono (by decide)) hg T.m__law_dice T.F__law_dice.kp T.b__law_dice (a_cons (e_name 0) (a_cons (e_name 1) a_nil))) a_nil))) (b_cons (s_ret e_bool) b_nil) b_nil) b_nil)) (b_cons (s_set 2 nd (EO.f (eo_make T.mk_Pattern (ok_Pattern_init T) (hr.mono (by decide)) hg T.b_Pattern_init T.g_Pattern (a_cons e_str a_nil)))) (b_cons (s_set 3 nd (EO.f (eo_lst (a_cons (e_ocall T.ca_Pattern (ok_Pattern_call T) (hr.mono (by decide)) hg T.b_Pattern_call (e_name 2) (a_cons e_int a_nil)) (a_cons (e_prop T.cl_Pattern T.pr_Pattern_parts (ok_Pattern_parts T) (hr.mono (by decide)) hg T.b_Pattern_parts (e_name 2)) (a_cons (e_prop T.cl_Pattern T.pr_Pattern_weight (ok_Pattern_weight T) (hr.mono (by decide)) hg T.b_Pattern_weight (e_name 2)) (a_cons (e_eq hu64 (e_meth T.cl_Pattern T.me_Pattern_length (ok_Pattern_length T) (hr.mono (by decide)) hg T.b_Pattern_length (e_name 2) (a_cons (e_pow e_int e_int) a_nil)) (e_mul (e_pow e_int e_int) (e_plus e_int (e_pow e_int e_int)))) (a_cons (e_prop T.cl_Pattern T.pr_Pattern_depth (ok_Pattern_depth T) (hr.mono (by decide)) hg T.b_Pattern_depth (e_name 2)) a_nil)))))))) (b_cons (s_set 4 nd (EO.f (eo_lst (a_cons e_str (a_cons (e_tup (a_cons e_str (a_cons e_str a_nil))) (a_cons e_int (a_cons e_bool (a_cons e_int a_nil)))))))) (b_cons (s_ret (e_eq hu64 (e_plus (e_name 3) (EO.f (eo_lst (a_cons (e_globI T.c_MAX_SIGNS) (a_cons (e_globI T.c_MAX_DEPTH) (a_cons (e_fn (ok_is_pattern T) (hr.mono (by decide)) hg T.m_is_pattern T.F_is_pattern.kp T.b_is_pattern (a_cons (e_timesT e_str e_int) a_nil)) a_nil)))))) (e_plus (e_name 4) (EO.f (eo_lst (a_cons e_int (a_cons e_int (a_cons e_bool a_nil)))))))) b_nil)))))
end
end K430
set_option Elab.async false
set_option linter.all false
set_option maxRecDepth 100000
set_option maxHeartbeats 4000000
/-! Mh: the head by one run in the kernel; what the walk wants is read off the heap by names. -/
namespace Mh
open PySem PySem.Spec PyProof.Rows L2 He
/-! checks by names -/
section
variable {K : PySem.W.Frag} {h : Heap} {mg : Str → Option Value}
theorem glo_of (X : K.In h) (G : h.Ns mainGlobals mg) {x : Str} (c : kGlo x K = true) : mg x = some (.ref (ga K x)) := PySem.W.mg_of X G (eqO_ok c)
theorem kcls_ok {x : Str} (c : kCls x K = true) : Cls K (ga K x) := cls_ok (ba c).1
theorem kcls_glo (X : K.In h) (G : h.Ns mainGlobals mg) {x : Str} (c : kCls x K = true) : mg x = some (.ref (ga K x)) := glo_of X G (ba (ba c).2).1
theorem kcls_keep {x : Str} (c : kCls x K = true) : PySem.W.keepIn K (.ref (ga K x)) = true := (ba (ba c).2).2
theorem kspec_ok {x m : Str} (c : kSpec x m K = true) : Mo.SpecM K (ga K x) m (ma K (ga K x) m) := ⟨eqO_ok (ba c).1, (ba c).2⟩
theorem kins_ok {x : Str} (c : kIns x K = true) : C8.InsC K (ga K x) := by
  obtain ⟨c1, c⟩ := ba c
  obtain ⟨c2, c⟩ := ba c
  obtain ⟨c3, c⟩ := ba c
  obtain ⟨c4, c5⟩ := ba c
  exact ⟨cls_ok c1, eqO_ok c2, eqO_ok c3, of_decide_eq_true c4, of_decide_eq_true c5, Mo.kit_self⟩
theorem knotin_ok {x : Str} (c : kNotIn x K = true) : Mo.NotIn K (ga K x) := ⟨fun n m => of_decide_eq_true (List.all_eq_true.mp c n m)⟩
theorem rec_ok {C : Addr} {m : Str} (c : recB K (ma K C m) = true) : ∃ r, PySem.W.recIn K (ma K C m) "property" = some (.ref (pg K C m) :: r) := by
  unfold recB at c
  split at c
  · rename_i g r e
    exact ⟨r, by rw [e]; unfold pg; rw [e]⟩
  · cases c
theorem kprop_ok {x m : Str} (c : kProp x m K = true) : PropOf K (ga K x) m (ma K (ga K x) m) (pg K (ga K x) m) := by
  obtain ⟨c1, c⟩ := ba c
  obtain ⟨c2, c⟩ := ba c
  obtain ⟨c3, c4⟩ := ba c
  exact ⟨eqO_ok c1, eqO_ok c2, of_decide_eq_true c3, rec_ok c4⟩
theorem kint_ok (X : K.In h) (G : h.Ns mainGlobals mg) {x : Str} {i : Int} (c : kInt x i K = true) : mg x = some (.int i (tokOf K x)) := by
  unfold kInt at c
  unfold tokOf
  split at c
  · rename_i j t2 e2
    have ej : j = i := of_decide_eq_true c
    rw [e2, ← ej]
    exact PySem.W.mg_of X G e2
  · cases c
theorem kstr_ok (X : K.In h) (G : h.Ns mainGlobals mg) {x z : Str} (c : kStr x z K = true) : mg x = some (.str z (tokOf K x)) := by
  unfold kStr at c
  unfold tokOf
  split at c
  · rename_i j t2 e2
    have ej : j = z := of_decide_eq_true c
    rw [e2, ← ej]
    exact PySem.W.mg_of X G e2
  · cases c
end
/-! defs -/
theorem df_fun {K : PySem.W.Frag} {d : Df} (e : seeF K (d.pl.ad K) = d.val) (c : d.good K = true) : Fun K d.name d.qual d.st (d.pl.ad K) (fdOf K (d.pl.ad K)) := by
  obtain ⟨c1, c2⟩ := ba c
  unfold seeF at e
  unfold fdOf at c1 ⊢
  split at e
  · rename_i oc od fd osl q
    rw [q] at c1
    have c1 : PySem.W.codeIn K fd.code d.qual = true := c1
    obtain ⟨x1, x2, x3, x4, x5, x6, x7, x8, x9, x10, x11, x12, x13, x14, x15⟩ := fd
    injection e with e
    simp only [Prod.mk.injEq] at e
    obtain ⟨y1, y2, y3, y4, y5, y6, y7, y8, y9⟩ := e
    subst y1 y2 y3 y4 y5 y6 y7 y8 y9
    exact ⟨⟨oc, od, _, _, _, _, _, _, osl, rfl, q, c1⟩, c2⟩
  · cases e
theorem bindsLaw {K : PySem.W.Frag} {x qual p : Str} {st : Stmt} {f : Addr} {fd : FuncData} (F : Fun K x qual st f fd)
    (h : ∀ (kV doc pm : Value) (an : Option Addr) (cdv ct v : Value), bindArgs (PySem.W.fnOf x qual (defArgs st) (defBody st) (defScope st) .none kV doc pm an cdv ct) ⟨[v], []⟩ = pure [(p, v)]) (s : Shared) (v : Value) : BindsTo s fd ⟨[v], []⟩ [(p, v)] := by
  obtain ⟨oc, od, kV, doc, pm, an, cdv, ct, osl, rfl, lk, hcd⟩ := F.ex
  exact .of_eq (h ..)
/-! the hook -/
section
variable {cs : List Ck} {ds : List Df} {K : PySem.W.Frag}
theorem SaysH.ck (c : SaysH cs ds K) (i : Nat) {f : Ck} (h : cs[i]? = some f) : f K = true :=
  List.all_eq_true.mp (ba (show ((cs.all fun c => c K) && ds.all fun d => d.good K) = true from congrArg (fun z : Ah => z.1) c)).1 f (List.mem_of_getElem? h)
theorem SaysH.df (c : SaysH cs ds K) (i : Nat) {d : Df} (h : ds[i]? = some d) : Fun K d.name d.qual d.st (d.pl.ad K) (fdOf K (d.pl.ad K)) := by
  have c2 := (ba (show ((cs.all fun c => c K) && ds.all fun d => d.good K) = true from congrArg (fun z : Ah => z.1) c)).2
  have e : (ds.map fun d => seeF K (d.pl.ad K)) = ds.map Df.val := congrArg (fun z : Ah => z.2) c
  have e2 := congrArg (fun l => l[i]?) e
  simp only [List.getElem?_map, h, Option.map_some, Option.some.injEq] at e2
  exact df_fun e2 (List.all_eq_true.mp c2 d (List.mem_of_getElem? h))
end
/-! the law's end -/
theorem walkH {l : PySem.W.OpenLaw} {n k : Nat} {q : Program} {loose : List Str} {XP : (Str → Option Value) → Heap → Prop} {d : DefRec} {cs : List Ck} {ds : List Df} {YP : World → Heap → Prop} {x : Str}
    (hY : ∀ w h, YP w h → ∃ K : PySem.W.Frag, K.In h ∧ SaysH cs ds K) (hn : l.most = some n) (hn2 : n ≤ sizeLine) (hdf : d.params.defaults = []) (hr : Room k callerA)
    (F : ∀ (w : World) (mg : Str → Option Value) (fa : Addr) (h : Heap) (K : PySem.W.Frag), K.In h → SaysH cs ds K → h.Ns mainGlobals mg → mg d.name = some (.ref fa) →
      ∃ (fd : FuncData) (sp : Sp), (∀ (s : Shared) (u : Value), BindsTo s fd ⟨[u], []⟩ [(x, u)]) ∧
        (∀ (J : Hp) (a : Addr) (ns : List Int), ns.length ≤ n → Only J → SqL K J a (ns.map V.int) → sp [.ref a] J (fun v _ => v = .bl true) fun _ _ _ => False) ∧
        ∀ b0 : Heap, K.In b0 → b0.Ns mainGlobals mg → Lp.FnG l.prog w K mg b0 CX0 k fa fd [x] sp) :
    PySem.W.WalkO q loose XP YP l.row.toRowW d [] (fun f vs => PySem.call f vs) :=
  Att.attach_call hn hdf fun w s0 s1 mg mb fa o pm cd doc a vs ns G Y ho hd hcd hmg hobj hints hlen hgen => by
    obtain ⟨K, KX, c⟩ := hY w _ Y
    obtain ⟨fd, sp, hb, hsp, hF⟩ := F w mg fa _ K KX c G.T.g hmg
    exact Lp.law_callG KX G.T.g G.T.b G.T.builtins G.T.nolimit hgen hobj hints (Nat.le_trans hlen hn2) hr hF hb (fun J hO hS => hsp J a ns hlen hO hS) fun J e s' h => h
end Mh
set_option Elab.async false
set_option linter.all false
set_option maxRecDepth 100000
set_option maxHeartbeats 4000000
namespace Mh
open PySem PySem.Spec PyProof.Rows L2 He
theorem keq_ok {K : PySem.W.Frag} {x : Str} (c : kEq x K = true) : Mo.EqC K (ga K x) (ma K (ga K x) "__eq__") := by
  obtain ⟨c1, c⟩ := ba c
  obtain ⟨c2, c3⟩ := ba c
  exact ⟨kspec_ok c1, eqO_ok c2, of_decide_eq_true c3⟩
theorem kcall_ok {K : PySem.W.Frag} {x : Str} (c : kCall x K = true) : StX.CallO K (ga K x) (ma K (ga K x) "__call__") := by
  obtain ⟨c1, c2⟩ := ba c
  exact ⟨(kspec_ok c1).at_, (kspec_ok c1).fn, c2⟩
theorem kbin_ok {K : PySem.W.Frag} {x m : Str} (op : Operator) (hm : PySem.dunder op.info.2 = m) (c : kBin x m K = true) : Mo.BinC K op (ga K x) (ma K (ga K x) m) := by
  obtain ⟨c1, c2⟩ := ba c
  subst hm
  exact ⟨kspec_ok c1, c2⟩
end Mh
set_option Elab.async false
set_option linter.all false
set_option maxRecDepth 100000
set_option maxHeartbeats 4000000
/-! Mh: what is read off the heap of the text's own errors. -/
namespace Mh
open PySem PySem.Spec PyProof.Rows L2 He
end Mh
set_option Elab.async false
set_option linter.all false
set_option maxRecDepth 100000
set_option maxHeartbeats 4000000
/-! Mh: what is read off the heap of errors that keep a field. -/
namespace Mh
open PySem PySem.Spec PyProof.Rows L2 He
end Mh
set_option Elab.async false
set_option linter.all false
set_option maxRecDepth 100000
set_option maxHeartbeats 4000000
/-! Mh: what is read off the heap of classmethods, subscripts, == and isinstance with anything. -/
namespace Mh
open PySem PySem.Spec PyProof.Rows L2 He
section
variable {K : PySem.W.Frag} {x m : Str} {os : List Str}
theorem kntz_ok (c : kNtZ x os K = true) : Mo.NtZ K (ga K x) (os.map (ga K)) := by
  obtain ⟨c1, c2⟩ := ba c
  refine ⟨fun n m => List.all_eq_true.mp c1 n m, fun o m => ?_⟩
  obtain ⟨y, my, rfl⟩ := List.mem_map.mp m
  exact List.all_eq_true.mp c2 y my
theorem kisz_ok (c : kIsZ x os K = true) : Mo.IsZ K (ga K x) (os.map (ga K)) := by
  obtain ⟨c1, c⟩ := ba c
  obtain ⟨c2, c3⟩ := ba c
  refine ⟨kins_ok c1, knotin_ok c2, fun o m => ?_⟩
  obtain ⟨y, my, rfl⟩ := List.mem_map.mp m
  obtain ⟨d1, d2⟩ := ba (List.all_eq_true.mp c3 y my)
  exact ⟨kins_ok d1, of_decide_eq_true d2⟩
end
end Mh
set_option Elab.async false
set_option linter.all false
set_option maxRecDepth 100000
set_option maxHeartbeats 4000000
/-! Mh: an own `**` out of its check. -/
namespace Mh
open PySem PySem.Spec PyProof.Rows L2 He
end Mh
set_option Elab.async false
set_option linter.all false
set_option maxRecDepth 100000
set_option maxHeartbeats 4000000
/-! Mo: own errors as values: C(e), C with an own __init__. -/
namespace Mo
open PySem PySem.Spec PySem.Calls L2 PyProof.Rows
open Lp (FnG okG callG)
end Mo
set_option Elab.async false
set_option linter.all false
set_option maxRecDepth 100000
set_option maxHeartbeats 4000000
/-! Mo: own errors as values: C(e), C without an own __init__; C('m') besides. -/
namespace Mo
open PySem PySem.Spec PySem.Calls L2 PyProof.Rows
end Mo
set_option Elab.async false
set_option linter.all false
set_option maxRecDepth 100000
set_option maxHeartbeats 4000000
/-! Mo: isinstance(e, C), e an own error as a value. -/
namespace Mo
open PySem PySem.Spec PySem.Calls L2 PyProof.Rows
end Mo
set_option Elab.async false
set_option linter.all false
set_option maxRecDepth 100000
set_option maxHeartbeats 4000000
/-! Mo: e.f, e an own error as a value. -/
namespace Mo
open PySem PySem.Spec PySem.Calls L2 PyProof.Rows
end Mo
set_option Elab.async false
set_option linter.all false
set_option maxRecDepth 100000
set_option maxHeartbeats 4000000
/-! Mo: repr of data with dicts in them. -/
namespace Mo
open PySem PySem.Spec PySem.Calls L2 PyProof.Rows
end Mo
set_option Elab.async false
set_option linter.all false
set_option maxRecDepth 100000
set_option maxHeartbeats 4000000
/-! Mo: repr(e) of data with dicts in them: the rule. -/
namespace Mo
open PySem PySem.Spec PySem.Calls L2 PyProof.Rows
end Mo
set_option Elab.async false
set_option linter.all false
set_option maxRecDepth 100000
set_option maxHeartbeats 4000000
/-! Mo: a def that is called while an error is handled, with that error as its argument. -/
namespace Mo
open PySem PySem.Spec PySem.Calls L2 PyProof.Rows
open Lp (FnG okG callG)
/-! ### an expression that reads the handled error, kept in slot i -/
/-! ### a body: assignments to one name, and return -/
end Mo
set_option Elab.async false
set_option linter.all false
set_option maxRecDepth 100000
set_option maxHeartbeats 4000000
/-! Mo: such a def by its body, and its call. -/
namespace Mo
open PySem PySem.Spec PySem.Calls L2 PyProof.Rows
open Lp (FnG okG callG)
end Mo
set_option Elab.async false
set_option linter.all false
set_option maxRecDepth 100000
set_option maxHeartbeats 4000000
/-! Mo: try with several clauses that all name their error alike. -/
namespace Mo
open PySem PySem.Spec PySem.Calls L2 PyProof.Rows
open Lp (FnG okG callG)
end Mo
set_option Elab.async false
set_option linter.all false
set_option maxRecDepth 100000
set_option maxHeartbeats 4000000
/-! Mo: try with several clauses that name their error: what it does. -/
namespace Mo
open PySem PySem.Spec PySem.Calls L2 PyProof.Rows
open Lp (FnG okG callG)
/-! ### suites that return an expression -/
end Mo
set_option Elab.async false
set_option linter.all false
set_option maxRecDepth 100000
set_option maxHeartbeats 4000000
/-! Mo: raise C('text') where errors may keep a field; what is told of all error classes. -/
namespace Mo
open PySem PySem.Spec PySem.Calls L2 PyProof.Rows
end Mo
set_option Elab.async false
set_option linter.all false
set_option maxRecDepth 100000
set_option maxHeartbeats 4000000
/-! Mh: what is read off the heap of errors as values. -/
namespace Mh
open PySem PySem.Spec PyProof.Rows L2 He
end Mh
set_option Elab.async false
set_option linter.all false
set_option maxRecDepth 100000
set_option maxHeartbeats 0
namespace K430
open PySem PySem.Spec L2 Mo Mh He PyProof.Rows
open Lp (FnG)
noncomputable def facts {K : PySem.W.Frag} {h : Heap} {mg : Str → Option Value} (X : K.In h) (G : h.Ns mainGlobals mg) (c : SaysH hCs hDs K) (w : World) : TF ⟨ga K "LengthReader", ga K "Pattern", ga K "TextReader", w, fun n => ga K n⟩ K mg w := {
    ww := rfl
    z_abs := free_ok X G (x := "abs") (c.ck 0 (f := kFree "abs") rfl)
    z_bool := free_ok X G (x := "bool") (c.ck 1 (f := kFree "bool") rfl)
    z_enumerate := free_ok X G (x := "enumerate") (c.ck 2 (f := kFree "enumerate") rfl)
    z_int := free_ok X G (x := "int") (c.ck 3 (f := kFree "int") rfl)
    z_isinstance := free_ok X G (x := "isinstance") (c.ck 4 (f := kFree "isinstance") rfl)
    z_len := free_ok X G (x := "len") (c.ck 5 (f := kFree "len") rfl)
    z_list := free_ok X G (x := "list") (c.ck 6 (f := kFree "list") rfl)
    z_max := free_ok X G (x := "max") (c.ck 7 (f := kFree "max") rfl)
    z_min := free_ok X G (x := "min") (c.ck 8 (f := kFree "min") rfl)
    z_range := free_ok X G (x := "range") (c.ck 9 (f := kFree "range") rfl)
    z_set := free_ok X G (x := "set") (c.ck 10 (f := kFree "set") rfl)
    z_sorted := free_ok X G (x := "sorted") (c.ck 11 (f := kFree "sorted") rfl)
    z_str := free_ok X G (x := "str") (c.ck 12 (f := kFree "str") rfl)
    z_tuple := free_ok X G (x := "tuple") (c.ck 13 (f := kFree "tuple") rfl)
    t_LETTERS := tokOf K "LETTERS"
    c_LETTERS := kstr_ok X G (c.ck 14 (f := kStr "LETTERS" "abcdefghijklmnopqrstuvwxyz") rfl)
    t_MAX_DEPTH := tokOf K "MAX_DEPTH"
    c_MAX_DEPTH := kint_ok X G (c.ck 15 (f := kInt "MAX_DEPTH" 24) rfl)
    t_MAX_SIGNS := tokOf K "MAX_SIGNS"
    c_MAX_SIGNS := kint_ok X G (c.ck 16 (f := kInt "MAX_SIGNS" 20000) rfl)
    t_MAX_TEXT := tokOf K "MAX_TEXT"
    c_MAX_TEXT := kint_ok X G (c.ck 17 (f := kInt "MAX_TEXT" 100000) rfl)
    t_OTHER_SIGNS := tokOf K "OTHER_SIGNS"
    c_OTHER_SIGNS := kstr_ok X G (c.ck 18 (f := kStr "OTHER_SIGNS" "()#") rfl)
    cl_LengthReader := kcls_ok (x := "LengthReader") (c.ck 19 (f := kCls "LengthReader") rfl)
    g_LengthReader := kcls_glo X G (x := "LengthReader") (c.ck 19 (f := kCls "LengthReader") rfl)
    k_LengthReader := kcls_keep (x := "LengthReader") (c.ck 19 (f := kCls "LengthReader") rfl)
    cl_Pattern := kcls_ok (x := "Pattern") (c.ck 20 (f := kCls "Pattern") rfl)
    g_Pattern := kcls_glo X G (x := "Pattern") (c.ck 20 (f := kCls "Pattern") rfl)
    k_Pattern := kcls_keep (x := "Pattern") (c.ck 20 (f := kCls "Pattern") rfl)
    iz_Pattern := kisz_ok (x := "Pattern") (os := []) (c.ck 21 (f := kIsZ "Pattern" []) rfl)
    nz_Pattern := kntz_ok (x := "Pattern") (os := []) (c.ck 22 (f := kNtZ "Pattern" []) rfl)
    cl_TextReader := kcls_ok (x := "TextReader") (c.ck 23 (f := kCls "TextReader") rfl)
    g_TextReader := kcls_glo X G (x := "TextReader") (c.ck 23 (f := kCls "TextReader") rfl)
    k_TextReader := kcls_keep (x := "TextReader") (c.ck 23 (f := kCls "TextReader") rfl)
    nf_LengthReader__number := noat_ok (x := "LengthReader") (f := "_number") (c.ck 24 (f := kNo "LengthReader" "_number") rfl)
    nf_Pattern__letters := noat_ok (x := "Pattern") (f := "_letters") (c.ck 25 (f := kNo "Pattern" "_letters") rfl)
    nf_Pattern__parts := noat_ok (x := "Pattern") (f := "_parts") (c.ck 26 (f := kNo "Pattern" "_parts") rfl)
    nf_Pattern__plain := noat_ok (x := "Pattern") (f := "_plain") (c.ck 27 (f := kNo "Pattern" "_plain") rfl)
    nf_Pattern__text := noat_ok (x := "Pattern") (f := "_text") (c.ck 28 (f := kNo "Pattern" "_text") rfl)
    nf_TextReader__number := noat_ok (x := "TextReader") (f := "_number") (c.ck 29 (f := kNo "TextReader" "_number") rfl)
    f__law_roll := (ga K "_law_roll")
    d__law_roll := fdOf K (ga K "_law_roll")
    F__law_roll := (c.df 0 (d := ⟨.g "_law_roll", "_law_roll", "_law_roll", (tS 31)⟩) rfl)
    b__law_roll := (c.df 0 (d := ⟨.g "_law_roll", "_law_roll", "_law_roll", (tS 31)⟩) rfl).binds (ps := ["_law_dice_here", "_law_total"]) fun _ _ _ _ _ _ us hl => match us, hl with | [_, _], _ => rfl
    m__law_roll := glo_of X G (x := "_law_roll") (c.ck 30 (f := kGlo "_law_roll") rfl)
    f__law_mixed := (ga K "_law_mixed")
    d__law_mixed := fdOf K (ga K "_law_mixed")
    F__law_mixed := (c.df 1 (d := ⟨.g "_law_mixed", "_law_mixed", "_law_mixed", (tS 33)⟩) rfl)
    b__law_mixed := (c.df 1 (d := ⟨.g "_law_mixed", "_law_mixed", "_law_mixed", (tS 33)⟩) rfl).binds (ps := ["_law_dice_here", "_law_items"]) fun _ _ _ _ _ _ us hl => match us, hl with | [_, _], _ => rfl
    m__law_mixed := glo_of X G (x := "_law_mixed") (c.ck 31 (f := kGlo "_law_mixed") rfl)
    f__law_pick := (ga K "_law_pick")
    d__law_pick := fdOf K (ga K "_law_pick")
    F__law_pick := (c.df 2 (d := ⟨.g "_law_pick", "_law_pick", "_law_pick", (tS 32)⟩) rfl)
    b__law_pick := (c.df 2 (d := ⟨.g "_law_pick", "_law_pick", "_law_pick", (tS 32)⟩) rfl).binds (ps := ["_law_dice_here", "_law_items"]) fun _ _ _ _ _ _ us hl => match us, hl with | [_, _], _ => rfl
    m__law_pick := glo_of X G (x := "_law_pick") (c.ck 32 (f := kGlo "_law_pick") rfl)
    f__law_drawn_pattern := (ga K "_law_drawn_pattern")
    d__law_drawn_pattern := fdOf K (ga K "_law_drawn_pattern")
    F__law_drawn_pattern := (c.df 3 (d := ⟨.g "_law_drawn_pattern", "_law_drawn_pattern", "_law_drawn_pattern", (tS 35)⟩) rfl)
    b__law_drawn_pattern := (c.df 3 (d := ⟨.g "_law_drawn_pattern", "_law_drawn_pattern", "_law_drawn_pattern", (tS 35)⟩) rfl).binds (ps := ["_law_dice_here", "_law_letters", "_law_many", "_law_depth_here"]) fun _ _ _ _ _ _ us hl => match us, hl with | [_, _, _, _], _ => rfl
    m__law_drawn_pattern := glo_of X G (x := "_law_drawn_pattern") (c.ck 33 (f := kGlo "_law_drawn_pattern") rfl)
    f_depth_of := (ga K "depth_of")
    d_depth_of := fdOf K (ga K "depth_of")
    F_depth_of := (c.df 4 (d := ⟨.g "depth_of", "depth_of", "depth_of", (tS 16)⟩) rfl)
    b_depth_of := (c.df 4 (d := ⟨.g "depth_of", "depth_of", "depth_of", (tS 16)⟩) rfl).binds (ps := ["text"]) fun _ _ _ _ _ _ us hl => match us, hl with | [_], _ => rfl
    m_depth_of := glo_of X G (x := "depth_of") (c.ck 34 (f := kGlo "depth_of") rfl)
    f_is_formed := (ga K "is_formed")
    d_is_formed := fdOf K (ga K "is_formed")
    F_is_formed := (c.df 5 (d := ⟨.g "is_formed", "is_formed", "is_formed", (tS 15)⟩) rfl)
    b_is_formed := (c.df 5 (d := ⟨.g "is_formed", "is_formed", "is_formed", (tS 15)⟩) rfl).binds (ps := ["text"]) fun _ _ _ _ _ _ us hl => match us, hl with | [_], _ => rfl
    m_is_formed := glo_of X G (x := "is_formed") (c.ck 35 (f := kGlo "is_formed") rfl)
    f_is_pattern := (ga K "is_pattern")
    d_is_pattern := fdOf K (ga K "is_pattern")
    F_is_pattern := (c.df 6 (d := ⟨.g "is_pattern", "is_pattern", "is_pattern", (tS 27)⟩) rfl)
    b_is_pattern := (c.df 6 (d := ⟨.g "is_pattern", "is_pattern", "is_pattern", (tS 27)⟩) rfl).binds (ps := ["value"]) fun _ _ _ _ _ _ us hl => match us, hl with | [_], _ => rfl
    m_is_pattern := glo_of X G (x := "is_pattern") (c.ck 36 (f := kGlo "is_pattern") rfl)
    f_parts_of := (ga K "parts_of")
    d_parts_of := fdOf K (ga K "parts_of")
    F_parts_of := (c.df 7 (d := ⟨.g "parts_of", "parts_of", "parts_of", (tS 17)⟩) rfl)
    b_parts_of := (c.df 7 (d := ⟨.g "parts_of", "parts_of", "parts_of", (tS 17)⟩) rfl).binds (ps := ["text"]) fun _ _ _ _ _ _ us hl => match us, hl with | [_], _ => rfl
    m_parts_of := glo_of X G (x := "parts_of") (c.ck 37 (f := kGlo "parts_of") rfl)
    f_letters_in := (ga K "letters_in")
    d_letters_in := fdOf K (ga K "letters_in")
    F_letters_in := (c.df 8 (d := ⟨.g "letters_in", "letters_in", "letters_in", (tS 18)⟩) rfl)
    b_letters_in := (c.df 8 (d := ⟨.g "letters_in", "letters_in", "letters_in", (tS 18)⟩) rfl).binds (ps := ["text"]) fun _ _ _ _ _ _ us hl => match us, hl with | [_], _ => rfl
    m_letters_in := glo_of X G (x := "letters_in") (c.ck 38 (f := kGlo "letters_in") rfl)
    f_Pattern_init := (ma K (ga K "Pattern") "__init__")
    d_Pattern_init := fdOf K (ma K (ga K "Pattern") "__init__")
    F_Pattern_init := (c.df 9 (d := ⟨.m "Pattern" "__init__", "__init__", "Pattern.__init__", (inClass (tS 28) 0)⟩) rfl)
    b_Pattern_init := (c.df 9 (d := ⟨.m "Pattern" "__init__", "__init__", "Pattern.__init__", (inClass (tS 28) 0)⟩) rfl).binds (ps := ["self", "text"]) fun _ _ _ _ _ _ us hl => match us, hl with | [_, _], _ => rfl
    mk_Pattern := mkr_ok (x := "Pattern") (c.ck 39 (f := kMk "Pattern") rfl)
    f_Pattern_str := (ma K (ga K "Pattern") "__str__")
    d_Pattern_str := fdOf K (ma K (ga K "Pattern") "__str__")
    F_Pattern_str := (c.df 10 (d := ⟨.m "Pattern" "__str__", "__str__", "Pattern.__str__", (inClass (tS 28) 16)⟩) rfl)
    b_Pattern_str := (c.df 10 (d := ⟨.m "Pattern" "__str__", "__str__", "Pattern.__str__", (inClass (tS 28) 16)⟩) rfl).binds (ps := ["self"]) fun _ _ _ _ _ _ us hl => match us, hl with | [_], _ => rfl
    sp_Pattern_str := kspec_ok (x := "Pattern") (m := "__str__") (c.ck 40 (f := kSpec "Pattern" "__str__") rfl)
    f_Pattern_len := (ma K (ga K "Pattern") "__len__")
    d_Pattern_len := fdOf K (ma K (ga K "Pattern") "__len__")
    F_Pattern_len := (c.df 11 (d := ⟨.m "Pattern" "__len__", "__len__", "Pattern.__len__", (inClass (tS 28) 14)⟩) rfl)
    b_Pattern_len := (c.df 11 (d := ⟨.m "Pattern" "__len__", "__len__", "Pattern.__len__", (inClass (tS 28) 14)⟩) rfl).binds (ps := ["self"]) fun _ _ _ _ _ _ us hl => match us, hl with | [_], _ => rfl
    sp_Pattern_len := kspec_ok (x := "Pattern") (m := "__len__") (c.ck 41 (f := kSpec "Pattern" "__len__") rfl)
    f_weight_of := (ga K "weight_of")
    d_weight_of := fdOf K (ga K "weight_of")
    F_weight_of := (c.df 12 (d := ⟨.g "weight_of", "weight_of", "weight_of", (tS 19)⟩) rfl)
    b_weight_of := (c.df 12 (d := ⟨.g "weight_of", "weight_of", "weight_of", (tS 19)⟩) rfl).binds (ps := ["text"]) fun _ _ _ _ _ _ us hl => match us, hl with | [_], _ => rfl
    m_weight_of := glo_of X G (x := "weight_of") (c.ck 42 (f := kGlo "weight_of") rfl)
    f_Pattern_weight := (pg K (ga K "Pattern") "weight")
    d_Pattern_weight := fdOf K (pg K (ga K "Pattern") "weight")
    F_Pattern_weight := (c.df 13 (d := ⟨.p "Pattern" "weight", "weight", "Pattern.weight", (inClass (tS 28) 5)⟩) rfl)
    b_Pattern_weight := (c.df 13 (d := ⟨.p "Pattern" "weight", "weight", "Pattern.weight", (inClass (tS 28) 5)⟩) rfl).binds (ps := ["self"]) fun _ _ _ _ _ _ us hl => match us, hl with | [_], _ => rfl
    p_Pattern_weight := ma K (ga K "Pattern") "weight"
    pr_Pattern_weight := kprop_ok (x := "Pattern") (m := "weight") (c.ck 43 (f := kProp "Pattern" "weight") rfl)
    f_Pattern_parts := (pg K (ga K "Pattern") "parts")
    d_Pattern_parts := fdOf K (pg K (ga K "Pattern") "parts")
    F_Pattern_parts := (c.df 14 (d := ⟨.p "Pattern" "parts", "parts", "Pattern.parts", (inClass (tS 28) 4)⟩) rfl)
    b_Pattern_parts := (c.df 14 (d := ⟨.p "Pattern" "parts", "parts", "Pattern.parts", (inClass (tS 28) 4)⟩) rfl).binds (ps := ["self"]) fun _ _ _ _ _ _ us hl => match us, hl with | [_], _ => rfl
    p_Pattern_parts := ma K (ga K "Pattern") "parts"
    pr_Pattern_parts := kprop_ok (x := "Pattern") (m := "parts") (c.ck 44 (f := kProp "Pattern" "parts") rfl)
    f_Pattern_depth := (pg K (ga K "Pattern") "depth")
    d_Pattern_depth := fdOf K (pg K (ga K "Pattern") "depth")
    F_Pattern_depth := (c.df 15 (d := ⟨.p "Pattern" "depth", "depth", "Pattern.depth", (inClass (tS 28) 3)⟩) rfl)
    b_Pattern_depth := (c.df 15 (d := ⟨.p "Pattern" "depth", "depth", "Pattern.depth", (inClass (tS 28) 3)⟩) rfl).binds (ps := ["self"]) fun _ _ _ _ _ _ us hl => match us, hl with | [_], _ => rfl
    p_Pattern_depth := ma K (ga K "Pattern") "depth"
    pr_Pattern_depth := kprop_ok (x := "Pattern") (m := "depth") (c.ck 45 (f := kProp "Pattern" "depth") rfl)
    f_Pattern_letters := (pg K (ga K "Pattern") "letters")
    d_Pattern_letters := fdOf K (pg K (ga K "Pattern") "letters")
    F_Pattern_letters := (c.df 16 (d := ⟨.p "Pattern" "letters", "letters", "Pattern.letters", (inClass (tS 28) 2)⟩) rfl)
    b_Pattern_letters := (c.df 16 (d := ⟨.p "Pattern" "letters", "letters", "Pattern.letters", (inClass (tS 28) 2)⟩) rfl).binds (ps := ["self"]) fun _ _ _ _ _ _ us hl => match us, hl with | [_], _ => rfl
    p_Pattern_letters := ma K (ga K "Pattern") "letters"
    pr_Pattern_letters := kprop_ok (x := "Pattern") (m := "letters") (c.ck 46 (f := kProp "Pattern" "letters") rfl)
    f_Pattern_text := (pg K (ga K "Pattern") "text")
    d_Pattern_text := fdOf K (pg K (ga K "Pattern") "text")
    F_Pattern_text := (c.df 17 (d := ⟨.p "Pattern" "text", "text", "Pattern.text", (inClass (tS 28) 1)⟩) rfl)
    b_Pattern_text := (c.df 17 (d := ⟨.p "Pattern" "text", "text", "Pattern.text", (inClass (tS 28) 1)⟩) rfl).binds (ps := ["self"]) fun _ _ _ _ _ _ us hl => match us, hl with | [_], _ => rfl
    p_Pattern_text := ma K (ga K "Pattern") "text"
    pr_Pattern_text := kprop_ok (x := "Pattern") (m := "text") (c.ck 47 (f := kProp "Pattern" "text") rfl)
    f__law_power := (ga K "_law_power")
    d__law_power := fdOf K (ga K "_law_power")
    F__law_power := (c.df 18 (d := ⟨.g "_law_power", "_law_power", "_law_power", (tS 37)⟩) rfl)
    b__law_power := (c.df 18 (d := ⟨.g "_law_power", "_law_power", "_law_power", (tS 37)⟩) rfl).binds (ps := ["_law_number", "_law_many"]) fun _ _ _ _ _ _ us hl => match us, hl with | [_, _], _ => rfl
    m__law_power := glo_of X G (x := "_law_power") (c.ck 48 (f := kGlo "_law_power") rfl)
    f__law_weight := (ga K "_law_weight")
    d__law_weight := fdOf K (ga K "_law_weight")
    F__law_weight := (c.df 19 (d := ⟨.g "_law_weight", "_law_weight", "_law_weight", (tS 36)⟩) rfl)
    b__law_weight := (c.df 19 (d := ⟨.g "_law_weight", "_law_weight", "_law_weight", (tS 36)⟩) rfl).binds (ps := ["_law_text"]) fun _ _ _ _ _ _ us hl => match us, hl with | [_], _ => rfl
    m__law_weight := glo_of X G (x := "_law_weight") (c.ck 49 (f := kGlo "_law_weight") rfl)
    f__law_parts := (ga K "_law_parts")
    d__law_parts := fdOf K (ga K "_law_parts")
    F__law_parts := (c.df 20 (d := ⟨.g "_law_parts", "_law_parts", "_law_parts", (tS 38)⟩) rfl)
    b__law_parts := (c.df 20 (d := ⟨.g "_law_parts", "_law_parts", "_law_parts", (tS 38)⟩) rfl).binds (ps := ["_law_text"]) fun _ _ _ _ _ _ us hl => match us, hl with | [_], _ => rfl
    m__law_parts := glo_of X G (x := "_law_parts") (c.ck 50 (f := kGlo "_law_parts") rfl)
    f__law_depth := (ga K "_law_depth")
    d__law_depth := fdOf K (ga K "_law_depth")
    F__law_depth := (c.df 21 (d := ⟨.g "_law_depth", "_law_depth", "_law_depth", (tS 39)⟩) rfl)
    b__law_depth := (c.df 21 (d := ⟨.g "_law_depth", "_law_depth", "_law_depth", (tS 39)⟩) rfl).binds (ps := ["_law_text"]) fun _ _ _ _ _ _ us hl => match us, hl with | [_], _ => rfl
    m__law_depth := glo_of X G (x := "_law_depth") (c.ck 51 (f := kGlo "_law_depth") rfl)
    f_Pattern_eq := (ma K (ga K "Pattern") "__eq__")
    d_Pattern_eq := fdOf K (ma K (ga K "Pattern") "__eq__")
    F_Pattern_eq := (c.df 22 (d := ⟨.m "Pattern" "__eq__", "__eq__", "Pattern.__eq__", (inClass (tS 28) 15)⟩) rfl)
    b_Pattern_eq := (c.df 22 (d := ⟨.m "Pattern" "__eq__", "__eq__", "Pattern.__eq__", (inClass (tS 28) 15)⟩) rfl).binds (ps := ["self", "other"]) fun _ _ _ _ _ _ us hl => match us, hl with | [_, _], _ => rfl
    eq_Pattern := keq_ok (x := "Pattern") (c.ck 52 (f := kEq "Pattern") rfl)
    f_Pattern_contains := (ma K (ga K "Pattern") "__contains__")
    d_Pattern_contains := fdOf K (ma K (ga K "Pattern") "__contains__")
    F_Pattern_contains := (c.df 23 (d := ⟨.m "Pattern" "__contains__", "__contains__", "Pattern.__contains__", (inClass (tS 28) 13)⟩) rfl)
    b_Pattern_contains := (c.df 23 (d := ⟨.m "Pattern" "__contains__", "__contains__", "Pattern.__contains__", (inClass (tS 28) 13)⟩) rfl).binds (ps := ["self", "x"]) fun _ _ _ _ _ _ us hl => match us, hl with | [_, _], _ => rfl
    sp_Pattern_contains := kspec_ok (x := "Pattern") (m := "__contains__") (c.ck 53 (f := kSpec "Pattern" "__contains__") rfl)
    f__law_pattern_at := (ga K "_law_pattern_at")
    d__law_pattern_at := fdOf K (ga K "_law_pattern_at")
    F__law_pattern_at := (c.df 24 (d := ⟨.g "_law_pattern_at", "_law_pattern_at", "_law_pattern_at", (tS 34)⟩) rfl)
    b__law_pattern_at := (c.df 24 (d := ⟨.g "_law_pattern_at", "_law_pattern_at", "_law_pattern_at", (tS 34)⟩) rfl).binds (ps := ["_law_text", "_law_number"]) fun _ _ _ _ _ _ us hl => match us, hl with | [_, _], _ => rfl
    m__law_pattern_at := glo_of X G (x := "_law_pattern_at") (c.ck 54 (f := kGlo "_law_pattern_at") rfl)
    f_is_integer := (ga K "is_integer")
    d_is_integer := fdOf K (ga K "is_integer")
    F_is_integer := (c.df 25 (d := ⟨.g "is_integer", "is_integer", "is_integer", (tS 4)⟩) rfl)
    b_is_integer := (c.df 25 (d := ⟨.g "is_integer", "is_integer", "is_integer", (tS 4)⟩) rfl).binds (ps := ["value"]) fun _ _ _ _ _ _ us hl => match us, hl with | [_], _ => rfl
    m_is_integer := glo_of X G (x := "is_integer") (c.ck 55 (f := kGlo "is_integer") rfl)
    f_is_count := (ga K "is_count")
    d_is_count := fdOf K (ga K "is_count")
    F_is_count := (c.df 26 (d := ⟨.g "is_count", "is_count", "is_count", (tS 5)⟩) rfl)
    b_is_count := (c.df 26 (d := ⟨.g "is_count", "is_count", "is_count", (tS 5)⟩) rfl).binds (ps := ["value"]) fun _ _ _ _ _ _ us hl => match us, hl with | [_], _ => rfl
    m_is_count := glo_of X G (x := "is_count") (c.ck 56 (f := kGlo "is_count") rfl)
    f_check_positive := (ga K "check_positive")
    d_check_positive := fdOf K (ga K "check_positive")
    F_check_positive := (c.df 27 (d := ⟨.g "check_positive", "check_positive", "check_positive", (tS 12)⟩) rfl)
    b_check_positive := (c.df 27 (d := ⟨.g "check_positive", "check_positive", "check_positive", (tS 12)⟩) rfl).binds (ps := ["value"]) fun _ _ _ _ _ _ us hl => match us, hl with | [_], _ => rfl
    m_check_positive := glo_of X G (x := "check_positive") (c.ck 57 (f := kGlo "check_positive") rfl)
    f_LengthReader_begun := (ma K (ga K "LengthReader") "begun")
    d_LengthReader_begun := fdOf K (ma K (ga K "LengthReader") "begun")
    F_LengthReader_begun := (c.df 28 (d := ⟨.m "LengthReader" "begun", "begun", "LengthReader.begun", (inClass (tS 23) 1)⟩) rfl)
    b_LengthReader_begun := (c.df 28 (d := ⟨.m "LengthReader" "begun", "begun", "LengthReader.begun", (inClass (tS 23) 1)⟩) rfl).binds (ps := ["self"]) fun _ _ _ _ _ _ us hl => match us, hl with | [_], _ => rfl
    me_LengthReader_begun := meth_ok (x := "LengthReader") (m := "begun") (c.ck 58 (f := kMeth "LengthReader" "begun") rfl)
    f_TextReader_begun := (ma K (ga K "TextReader") "begun")
    d_TextReader_begun := fdOf K (ma K (ga K "TextReader") "begun")
    F_TextReader_begun := (c.df 29 (d := ⟨.m "TextReader" "begun", "begun", "TextReader.begun", (inClass (tS 22) 1)⟩) rfl)
    b_TextReader_begun := (c.df 29 (d := ⟨.m "TextReader" "begun", "begun", "TextReader.begun", (inClass (tS 22) 1)⟩) rfl).binds (ps := ["self"]) fun _ _ _ _ _ _ us hl => match us, hl with | [_], _ => rfl
    me_TextReader_begun := meth_ok (x := "TextReader") (m := "begun") (c.ck 59 (f := kMeth "TextReader" "begun") rfl)
    f_LengthReader_with_part := (ma K (ga K "LengthReader") "with_part")
    d_LengthReader_with_part := fdOf K (ma K (ga K "LengthReader") "with_part")
    F_LengthReader_with_part := (c.df 30 (d := ⟨.m "LengthReader" "with_part", "with_part", "LengthReader.with_part", (inClass (tS 23) 3)⟩) rfl)
    b_LengthReader_with_part := (c.df 30 (d := ⟨.m "LengthReader" "with_part", "with_part", "LengthReader.with_part", (inClass (tS 23) 3)⟩) rfl).binds (ps := ["self", "done", "part", "_"]) fun _ _ _ _ _ _ us hl => match us, hl with | [_, _, _, _], _ => rfl
    me_LengthReader_with_part := meth_ok (x := "LengthReader") (m := "with_part") (c.ck 60 (f := kMeth "LengthReader" "with_part") rfl)
    f_TextReader_with_part := (ma K (ga K "TextReader") "with_part")
    d_TextReader_with_part := fdOf K (ma K (ga K "TextReader") "with_part")
    F_TextReader_with_part := (c.df 31 (d := ⟨.m "TextReader" "with_part", "with_part", "TextReader.with_part", (inClass (tS 22) 3)⟩) rfl)
    b_TextReader_with_part := (c.df 31 (d := ⟨.m "TextReader" "with_part", "with_part", "TextReader.with_part", (inClass (tS 22) 3)⟩) rfl).binds (ps := ["self", "done", "part", "_"]) fun _ _ _ _ _ _ us hl => match us, hl with | [_, _, _, _], _ => rfl
    me_TextReader_with_part := meth_ok (x := "TextReader") (m := "with_part") (c.ck 61 (f := kMeth "TextReader" "with_part") rfl)
    f_LengthReader_with_run := (ma K (ga K "LengthReader") "with_run")
    d_LengthReader_with_run := fdOf K (ma K (ga K "LengthReader") "with_run")
    F_LengthReader_with_run := (c.df 32 (d := ⟨.m "LengthReader" "with_run", "with_run", "LengthReader.with_run", (inClass (tS 23) 2)⟩) rfl)
    b_LengthReader_with_run := (c.df 32 (d := ⟨.m "LengthReader" "with_run", "with_run", "LengthReader.with_run", (inClass (tS 23) 2)⟩) rfl).binds (ps := ["self", "done", "run"]) fun _ _ _ _ _ _ us hl => match us, hl with | [_, _, _], _ => rfl
    me_LengthReader_with_run := meth_ok (x := "LengthReader") (m := "with_run") (c.ck 62 (f := kMeth "LengthReader" "with_run") rfl)
    f_TextReader_with_run := (ma K (ga K "TextReader") "with_run")
    d_TextReader_with_run := fdOf K (ma K (ga K "TextReader") "with_run")
    F_TextReader_with_run := (c.df 33 (d := ⟨.m "TextReader" "with_run", "with_run", "TextReader.with_run", (inClass (tS 22) 2)⟩) rfl)
    b_TextReader_with_run := (c.df 33 (d := ⟨.m "TextReader" "with_run", "with_run", "TextReader.with_run", (inClass (tS 22) 2)⟩) rfl).binds (ps := ["self", "done", "run"]) fun _ _ _ _ _ _ us hl => match us, hl with | [_, _, _], _ => rfl
    me_TextReader_with_run := meth_ok (x := "TextReader") (m := "with_run") (c.ck 63 (f := kMeth "TextReader" "with_run") rfl)
    f_read_pattern := (ga K "read_pattern")
    d_read_pattern := fdOf K (ga K "read_pattern")
    F_read_pattern := (c.df 34 (d := ⟨.g "read_pattern", "read_pattern", "read_pattern", (tS 20)⟩) rfl)
    b_read_pattern := (c.df 34 (d := ⟨.g "read_pattern", "read_pattern", "read_pattern", (tS 20)⟩) rfl).binds (ps := ["text", "parts", "reader"]) fun _ _ _ _ _ _ us hl => match us, hl with | [_, _, _], _ => rfl
    m_read_pattern := glo_of X G (x := "read_pattern") (c.ck 64 (f := kGlo "read_pattern") rfl)
    f_LengthReader_init := (ma K (ga K "LengthReader") "__init__")
    d_LengthReader_init := fdOf K (ma K (ga K "LengthReader") "__init__")
    F_LengthReader_init := (c.df 35 (d := ⟨.m "LengthReader" "__init__", "__init__", "LengthReader.__init__", (inClass (tS 23) 0)⟩) rfl)
    b_LengthReader_init := (c.df 35 (d := ⟨.m "LengthReader" "__init__", "__init__", "LengthReader.__init__", (inClass (tS 23) 0)⟩) rfl).binds (ps := ["self", "number"]) fun _ _ _ _ _ _ us hl => match us, hl with | [_, _], _ => rfl
    mk_LengthReader := mkr_ok (x := "LengthReader") (c.ck 65 (f := kMk "LengthReader") rfl)
    f_Pattern_length := (ma K (ga K "Pattern") "length")
    d_Pattern_length := fdOf K (ma K (ga K "Pattern") "length")
    F_Pattern_length := (c.df 36 (d := ⟨.m "Pattern" "length", "length", "Pattern.length", (inClass (tS 28) 6)⟩) rfl)
    b_Pattern_length := (c.df 36 (d := ⟨.m "Pattern" "length", "length", "Pattern.length", (inClass (tS 28) 6)⟩) rfl).binds (ps := ["self", "n"]) fun _ _ _ _ _ _ us hl => match us, hl with | [_, _], _ => rfl
    me_Pattern_length := meth_ok (x := "Pattern") (m := "length") (c.ck 66 (f := kMeth "Pattern" "length") rfl)
    f_TextReader_init := (ma K (ga K "TextReader") "__init__")
    d_TextReader_init := fdOf K (ma K (ga K "TextReader") "__init__")
    F_TextReader_init := (c.df 37 (d := ⟨.m "TextReader" "__init__", "__init__", "TextReader.__init__", (inClass (tS 22) 0)⟩) rfl)
    b_TextReader_init := (c.df 37 (d := ⟨.m "TextReader" "__init__", "__init__", "TextReader.__init__", (inClass (tS 22) 0)⟩) rfl).binds (ps := ["self", "number"]) fun _ _ _ _ _ _ us hl => match us, hl with | [_, _], _ => rfl
    mk_TextReader := mkr_ok (x := "TextReader") (c.ck 67 (f := kMk "TextReader") rfl)
    f_Pattern_call := (ma K (ga K "Pattern") "__call__")
    d_Pattern_call := fdOf K (ma K (ga K "Pattern") "__call__")
    F_Pattern_call := (c.df 38 (d := ⟨.m "Pattern" "__call__", "__call__", "Pattern.__call__", (inClass (tS 28) 11)⟩) rfl)
    b_Pattern_call := (c.df 38 (d := ⟨.m "Pattern" "__call__", "__call__", "Pattern.__call__", (inClass (tS 28) 11)⟩) rfl).binds (ps := ["self", "n"]) fun _ _ _ _ _ _ us hl => match us, hl with | [_, _], _ => rfl
    ca_Pattern := kcall_ok (x := "Pattern") (c.ck 68 (f := kCall "Pattern") rfl)
    f_Pattern_repeated := (ma K (ga K "Pattern") "repeated")
    d_Pattern_repeated := fdOf K (ma K (ga K "Pattern") "repeated")
    F_Pattern_repeated := (c.df 39 (d := ⟨.m "Pattern" "repeated", "repeated", "Pattern.repeated", (inClass (tS 28) 10)⟩) rfl)
    b_Pattern_repeated := (c.df 39 (d := ⟨.m "Pattern" "repeated", "repeated", "Pattern.repeated", (inClass (tS 28) 10)⟩) rfl).binds (ps := ["self"]) fun _ _ _ _ _ _ us hl => match us, hl with | [_], _ => rfl
    me_Pattern_repeated := meth_ok (x := "Pattern") (m := "repeated") (c.ck 69 (f := kMeth "Pattern" "repeated") rfl)
    f__law_told_right := (ga K "_law_told_right")
    d__law_told_right := fdOf K (ga K "_law_told_right")
    F__law_told_right := (c.df 40 (d := ⟨.g "_law_told_right", "_law_told_right", "_law_told_right", (tS 40)⟩) rfl)
    b__law_told_right := (c.df 40 (d := ⟨.g "_law_told_right", "_law_told_right", "_law_told_right", (tS 40)⟩) rfl).binds (ps := ["_law_dice_here", "_law_made", "_law_text"]) fun _ _ _ _ _ _ us hl => match us, hl with | [_, _, _], _ => rfl
    m__law_told_right := glo_of X G (x := "_law_told_right") (c.ck 70 (f := kGlo "_law_told_right") rfl)
    f_Pattern_add := (ma K (ga K "Pattern") "__add__")
    d_Pattern_add := fdOf K (ma K (ga K "Pattern") "__add__")
    F_Pattern_add := (c.df 41 (d := ⟨.m "Pattern" "__add__", "__add__", "Pattern.__add__", (inClass (tS 28) 12)⟩) rfl)
    b_Pattern_add := (c.df 41 (d := ⟨.m "Pattern" "__add__", "__add__", "Pattern.__add__", (inClass (tS 28) 12)⟩) rfl).binds (ps := ["self", "other"]) fun _ _ _ _ _ _ us hl => match us, hl with | [_, _], _ => rfl
    bi_Pattern_add := kbin_ok .Add (by decide +kernel) (x := "Pattern") (m := "__add__") (c.ck 71 (f := kBin "Pattern" "__add__") rfl)
    f__law_right := (ga K "_law_right")
    d__law_right := fdOf K (ga K "_law_right")
    F__law_right := (c.df 42 (d := ⟨.g "_law_right", "_law_right", "_law_right", (tS 41)⟩) rfl)
    b__law_right := (c.df 42 (d := ⟨.g "_law_right", "_law_right", "_law_right", (tS 41)⟩) rfl).binds (ps := ["_law_dice_here"]) fun _ _ _ _ _ _ us hl => match us, hl with | [_], _ => rfl
    m__law_right := glo_of X G (x := "_law_right") (c.ck 72 (f := kGlo "_law_right") rfl)
    f__law_dice := (ga K "_law_dice")
    d__law_dice := fdOf K (ga K "_law_dice")
    F__law_dice := (c.df 43 (d := ⟨.g "_law_dice", "_law_dice", "_law_dice", (tS 30)⟩) rfl)
    b__law_dice := (c.df 43 (d := ⟨.g "_law_dice", "_law_dice", "_law_dice", (tS 30)⟩) rfl).binds (ps := ["_law_script", "_law_spot"]) fun _ _ _ _ _ _ us hl => match us, hl with | [_, _], _ => rfl
    m__law_dice := glo_of X G (x := "_law_dice") (c.ck 73 (f := kGlo "_law_dice") rfl)
    f_law := (ga K "law")
    d_law := fdOf K (ga K "law")
    F_law := (c.df 44 (d := ⟨.g "law", "law", "law", (tS 42)⟩) rfl)
    b_law := (c.df 44 (d := ⟨.g "law", "law", "law", (tS 42)⟩) rfl).binds (ps := ["_law_script"]) fun _ _ _ _ _ _ us hl => match us, hl with | [_], _ => rfl
    m_law := glo_of X G (x := "law") (c.ck 74 (f := kGlo "law") rfl) }
end K430
set_option Elab.async false
set_option linter.all false
set_option maxRecDepth 100000
set_option maxHeartbeats 4000000
/-! Yw, part one: replace and split() over lists of signs. -/
namespace Yw
open PySem PySem.Builtin PySem.Builtin.Str PySem.StrLaws
abbrev S (l : List Nat) : Str := ⟨l.toArray⟩
theorem S_cps (l : List Nat) : (S l).cps.toList = l := by simp
theorem S_len (l : List Nat) : (S l).length = l.length := by simp [Str.length]
theorem S_app (a b : List Nat) : S a ++ S b = S (a ++ b) := by
  apply Str.ext'
  apply Array.toList_inj.mp
  simp [Str.cps_append]
theorem S_inj {a b : List Nat} : S a = S b ↔ a = b := ⟨fun h => by simpa using congrArg (fun x : Str => x.cps.toList) h, fun h => by rw [h]⟩
/-! ### replace -/
def rl (y z : List Nat) : Nat → List Nat → List Nat
  | _, [] => []
  | k + 1, _ :: r => rl y z k r
  | 0, c :: r => if y.isPrefixOf (c :: r) = true then z ++ rl y z (y.length - 1) r else c :: rl y z 0 r
def cu (y : List Nat) : Nat → Nat → List Nat → List Nat
  | _, _, [] => []
  | i, k + 1, _ :: r => cu y (i + 1) k r
  | i, 0, c :: r => if y.isPrefixOf (c :: r) = true then i :: cu y (i + 1) (y.length - 1) r else cu y (i + 1) 0 r
theorem pre_iff {y l : List Nat} {n i : Nat} (x : Str) (hx : x.cps.toList.length = n) (hl : x.cps.toList.drop i = l) (hi : i ≤ n) : y.isPrefixOf l = true ↔ i + (S y).length ≤ n ∧ subAt x (S y) i = true := by
  rw [S_len, subAt_eq, hl, S_len, List.isPrefixOf_iff_prefix]
  have ln : l.length = n - i := by rw [← hl, List.length_drop, hx]
  constructor
  · intro h
    have h1 := h.length_le
    have h2 := List.prefix_iff_eq_take.mp h
    exact ⟨by omega, by rw [← h2]; simp⟩
  · rintro ⟨_, h2⟩
    have h2 : List.take y.length l = y := by simpa using h2
    rw [← h2]
    exact List.take_prefix _ _
theorem occ_cu (x : Str) (y : List Nat) (hy : y ≠ []) (lim : Nat) : ∀ (m i : Nat) (found : Array Nat) (free : Nat), i + m = x.cps.toList.length → found.size + m < lim →
    (forIn (List.range' i (m + 1)) (found, free) (occBody x (S y) x.length lim)).run.fst.toList = found.toList ++ cu y i (free - i) (x.cps.toList.drop i)
  | 0, i, found, free, hm, hl => by
    have e : x.cps.toList.drop i = [] := List.drop_eq_nil_of_le (by omega)
    have e2 : x.length = i := by simp [Str.length] at hm ⊢; omega
    rw [e]
    have e3 : cu y i (free - i) [] = [] := by cases (free - i) <;> rfl
    rw [e3, List.append_nil]
    rw [show List.range' i (0 + 1) = [i] from rfl, List.forIn_cons]
    unfold occBody
    have yp : 0 < y.length := List.length_pos_iff.mpr hy
    rw [if_neg (by rintro ⟨⟨_, h⟩, _⟩; rw [S_len] at h; omega)]
    rfl
  | m + 1, i, found, free, hm, hl => by
    have yp : 0 < y.length := List.length_pos_iff.mpr hy
    have hlt : i < x.cps.toList.length := by omega
    have e : x.cps.toList.drop i = x.cps.toList[i] :: x.cps.toList.drop (i + 1) := List.drop_eq_getElem_cons hlt
    have hn : x.length = x.cps.toList.length := by simp [Str.length]
    rw [List.range'_succ, List.forIn_cons, e]
    have pi := pre_iff (y := y) (n := x.length) x hn.symm e (by omega)
    have ih := occ_cu x y hy lim m (i + 1)
    unfold occBody
    by_cases hf : free ≤ i
    · have z0 : free - i = 0 := by omega
      rw [z0]
      by_cases hp : y.isPrefixOf (x.cps.toList[i] :: x.cps.toList.drop (i + 1)) = true
      · obtain ⟨p1, p2⟩ := pi.mp hp
        rw [if_pos ⟨⟨⟨by show found.size < lim; omega, hf⟩, p1⟩, p2⟩]
        refine Eq.trans (ih (found.push i) (i + (S y).length) (by omega) (by rw [Array.size_push]; omega)) ?_
        simp only [cu]
        rw [if_pos hp, Array.toList_push, S_len]
        have : i + y.length - (i + 1) = y.length - 1 := by omega
        rw [this]
        simp
      · rw [if_neg (fun h => hp (pi.mpr ⟨h.1.2, h.2⟩))]
        refine Eq.trans (ih found free (by omega) (by omega)) ?_
        simp only [cu]
        rw [if_neg hp]
        have : free - (i + 1) = 0 := by omega
        rw [this]
    · rw [if_neg (fun h => hf h.1.1.2)]
      refine Eq.trans (ih found free (by omega) (by omega)) ?_
      obtain ⟨k, hk⟩ : ∃ k, free - i = k + 1 := ⟨free - i - 1, by omega⟩
      have : free - (i + 1) = k := by omega
      rw [hk, this]
      rfl
/-- the parts between, glued -/
def gl (L z : List Nat) (w : Nat) : Nat → List Nat → List Nat
  | a, [] => L.drop a
  | a, c :: r => (L.drop a).take (c - a) ++ (z ++ gl L z w (c + w) r)
theorem foldl_glue (g : Str) : ∀ (ps : List Str) (acc : Array Nat), (ps.foldl (fun acc p => acc ++ g.cps ++ p.cps) acc).toList = acc.toList ++ (ps.map fun p => g.cps.toList ++ p.cps.toList).flatten
  | [], acc => by simp
  | p :: r, acc => by
    rw [List.foldl_cons, foldl_glue g r]
    simp [List.append_assoc]
theorem glued_gl (x : Str) (z : List Nat) (w : Nat) : ∀ (cuts : List Nat) (a : Nat), (glued (S z) (partsFrom x w a cuts)).cps.toList = gl x.cps.toList z w a cuts
  | [], a => by
    show (strSub x a x.length).cps.toList = x.cps.toList.drop a
    rw [strSub_toList]
    exact List.take_of_length_le (by simp [Str.length])
  | c :: r, a => by
    have ih := glued_gl x z w r (c + w)
    unfold glued at ih ⊢
    rw [foldl_glue] at ih ⊢
    obtain ⟨p, q, e⟩ := partsFrom_ne x w (c + w) r
    show (strSub x a c).cps.toList ++ ((partsFrom x w (c + w) r).map fun p => (S z).cps.toList ++ p.cps.toList).flatten = (x.cps.toList.drop a).take (c - a) ++ (z ++ gl x.cps.toList z w (c + w) r)
    rw [← ih, e, strSub_toList]
    simp
theorem gl_rl (L y z : List Nat) (hy : y ≠ []) : ∀ (m i : Nat), i + m = L.length →
    (∀ a, a ≤ i → gl L z y.length a (cu y i 0 (L.drop i)) = (L.drop a).take (i - a) ++ rl y z 0 (L.drop i)) ∧ ∀ k, 0 < k → i + k ≤ L.length → gl L z y.length (i + k) (cu y i k (L.drop i)) = rl y z k (L.drop i)
  | 0, i, hm => by
    have e : L.drop i = [] := List.drop_eq_nil_of_le (by omega)
    refine ⟨fun a ha => ?_, fun k hk h => by omega⟩
    rw [e]
    show L.drop a = (L.drop a).take (i - a) ++ []
    rw [List.append_nil, List.take_of_length_le (by rw [List.length_drop]; omega)]
  | m + 1, i, hm => by
    have hlt : i < L.length := by omega
    have e : L.drop i = L[i] :: L.drop (i + 1) := List.drop_eq_getElem_cons hlt
    have yp : 0 < y.length := List.length_pos_iff.mpr hy
    obtain ⟨ihP, ihQ⟩ := gl_rl L y z hy m (i + 1) (by omega)
    rw [e]
    refine ⟨fun a ha => ?_, fun k hk h => ?_⟩
    · simp only [cu, rl]
      by_cases hp : y.isPrefixOf (L[i] :: L.drop (i + 1)) = true
      · rw [if_pos hp, if_pos hp]
        have hlen := (List.isPrefixOf_iff_prefix.mp hp).length_le
        rw [← e, List.length_drop] at hlen
        show (L.drop a).take (i - a) ++ (z ++ gl L z y.length (i + y.length) (cu y (i + 1) (y.length - 1) (L.drop (i + 1)))) = _
        congr 2
        by_cases h1 : y.length - 1 = 0
        · rw [h1]
          have := ihP (i + 1) (Nat.le_refl _)
          rw [show i + y.length = i + 1 from by omega, this]
          simp
        · have := ihQ (y.length - 1) (by omega) (by omega)
          rw [show i + 1 + (y.length - 1) = i + y.length from by omega] at this
          exact this
      · rw [if_neg hp, if_neg hp, ihP a (by omega)]
        have : (L.drop a).take (i + 1 - a) = (L.drop a).take (i - a) ++ [L[i]] := by
          rw [show i + 1 - a = (i - a) + 1 from by omega, List.take_add_one, List.getElem?_drop, show a + (i - a) = i from by omega, List.getElem?_eq_getElem hlt]
          rfl
        rw [this]
        simp
    · obtain ⟨j, rfl⟩ : ∃ j, k = j + 1 := ⟨k - 1, by omega⟩
      show gl L z y.length (i + (j + 1)) (cu y (i + 1) j (L.drop (i + 1))) = rl y z j (L.drop (i + 1))
      cases j with
      | zero =>
        rw [ihP (i + 1) (Nat.le_refl _)]
        simp
      | succ j =>
        have := ihQ (j + 1) (by omega) (by omega)
        rw [show i + 1 + (j + 1) = i + (j + 1 + 1) from by omega] at this
        exact this
theorem replace_rl (l y z : List Nat) (hy : y ≠ []) : Txt.replace (S l) (S y) (S z) = S (rl y z 0 l) := by
  have yp : 0 < y.length := List.length_pos_iff.mpr hy
  have hc : occurrences (S l) (S y) 0 (S l).length ((S l).length + 1) = cu y 0 0 l := by
    have h := occ_cu (S l) y hy ((S l).length + 1) l.length 0 #[] 0 (by simp) (by rw [S_len]; simp)
    rw [occ_eq]
    rw [show (S l).length + 1 - 0 = l.length + 1 from by rw [S_len]; omega]
    rw [h]
    simp
  have hg := (gl_rl l y z hy l.length 0 (by omega)).1 0 (Nat.le_refl _)
  simp only [List.drop_zero, Nat.sub_zero, List.take_zero, List.nil_append] at hg
  unfold Txt.replace
  rw [hc]
  split
  · rename_i h
    rcases Bool.or_eq_true _ _ ▸ h with h | h
    · have h : cu y 0 0 l = [] := by simpa using h
      rw [h] at hg
      rw [← hg]
      rfl
    · rw [S_len] at h
      simp at h
      exact absurd h.1 (by omega)
  · apply Str.ext'
    apply Array.toList_inj.mp
    rw [partsBetween_eq, glued_gl, S_len, S_cps]
    exact hg
/-- one sign -/
theorem rl_one (a : Nat) (z : List Nat) : ∀ l : List Nat, rl [a] z 0 l = l.flatMap fun c => if c = a then z else [c]
  | [] => rfl
  | c :: r => by
    simp only [rl, List.flatMap_cons]
    have ih := rl_one a z r
    by_cases h : c = a
    · subst h
      simp [ih]
    · rw [if_neg (by simp [List.isPrefixOf]; exact fun z => h z.symm), if_neg h, ih]
      rfl
/-- nothing to replace ahead -/
theorem rl_skip {y z : List Nat} {a : Nat} {y' : List Nat} (hy : y = a :: y') : ∀ {o : List Nat} (r : List Nat), (∀ c ∈ o, c ≠ a) → rl y z 0 (o ++ r) = o ++ rl y z 0 r
  | [], _, _ => rfl
  | c :: o, r, h => by
    have hc := h c List.mem_cons_self
    have ih := rl_skip (z := z) hy (o := o) r (fun d m => h d (List.mem_cons_of_mem _ m))
    show rl y z 0 (c :: (o ++ r)) = c :: (o ++ rl y z 0 r)
    simp only [rl]
    rw [if_neg (by rw [hy]; simp [List.isPrefixOf]; exact fun z => absurd z.symm hc), ih]
/-! ### split() -/
theorem step_pre (ws : List Str) (st : KWd.St) (c : Nat) : KWd.step (ws ++ st.1, st.2) c = (ws ++ (KWd.step st c).1, (KWd.step st c).2) := by
  unfold KWd.step
  split
  · split
    · rfl
    · simp
  · rfl
theorem fold_pre (ws : List Str) : ∀ (l : List Nat) (st : KWd.St), l.foldl KWd.step (ws ++ st.1, st.2) = (ws ++ (l.foldl KWd.step st).1, (l.foldl KWd.step st).2)
  | [], _ => rfl
  | c :: r, st => by
    rw [List.foldl_cons, step_pre, List.foldl_cons, fold_pre ws r (KWd.step st c)]
theorem fin_pre (ws : List Str) (st : KWd.St) : KWd.fin (ws ++ st.1, st.2) = ws ++ KWd.fin st := by
  unfold KWd.fin
  split
  · rfl
  · simp
end Yw
set_option Elab.async false
set_option linter.all false
set_option maxRecDepth 100000
set_option maxHeartbeats 4000000
/-! Lw, part seven: least numbers; steps along arcs. -/
namespace Lw
open PySem PySem.Spec L2 Mo
def IsMin (S : Int → Prop) (v : Int) : Prop := (S v ∧ ∀ s, S s → v ≤ s) ∨ ((∀ s, ¬ S s) ∧ v = -1)
/-- the entry of a state in a row -/
def Ent (ss : List Str) (row : List Int) (s : Str) (e : Int) : Prop := (s, e) ∈ ss.zip row
/-! ### the least of two rows -/
end Lw
set_option Elab.async false
set_option linter.all false
set_option maxRecDepth 100000
set_option maxHeartbeats 4000000
/-! Lw, part eight: the laws' own steps. -/
namespace Lw
open PySem PySem.Spec L2 Mo
/-! ### dicts from texts to numbers -/
def lk (fd : List (Str × Int)) (b : Str) : Option Int := (fd.find? fun z => decide (z.1 = b)).map (·.2)
end Lw
set_option Elab.async false
set_option linter.all false
set_option maxRecDepth 100000
set_option maxHeartbeats 4000000
/-! Lw, part nine: reach, the laws' row after a letter. -/
namespace Lw
open PySem PySem.Spec L2 Mo
def lets4 : List Str := ["a", "b", "c", "z"]
theorem lets_ok : OkS lets := List.all_eq_true.mp (by decide +kernel : lets.all PyData.strOk = true)
end Lw
set_option Elab.async false
set_option linter.all false
set_option maxRecDepth 100000
set_option maxHeartbeats 4000000
set_option exponentiation.threshold 9000
/-! Pw, part one: the program's words, as its text stands at 075f9ef. -/
namespace Pw
open PySem PySem.Spec L2 Mo Lw
theorem isi_ii : ∀ i : Int, fIsi "int" (.int i) = some (.bl true) := fun i => by
  have : kitB "int" "int" = some true := by decide +kernel
  show (kitB "int" "int").map D.bl = _
  rw [this]
  rfl
theorem isi_ib : ∀ i : Int, fIsi "bool" (.int i) = some (.bl false) := fun i => by
  have : kitB "int" "bool" = some false := by decide +kernel
  show (kitB "int" "bool").map D.bl = _
  rw [this]
  rfl
theorem isi_tt : ∀ ds : List D, fIsi "tuple" (.tup ds) = some (.bl true) := fun i => by
  have : kitB "tuple" "tuple" = some true := by decide +kernel
  show (kitB "tuple" "tuple").map D.bl = _
  rw [this]
  rfl
@[simp] theorem tru_bl {b : Bool} : truD (.bl b) = some b := rfl
def mInteger : M Oc := (seq (mIf (mtOr (mtNot (mTru (mIsi "int" (mName 0)))) (mTru (mIsi "bool" (mName 0)))) (seq (mRet (ret (.bl false))) (ret .nx)) (ret .nx)) (seq (mRet (mBin uLt (mCall fAbs (mCons (mName 0) (ret []))) (mBin uPow (ret (.int 10)) (ret (.int 60))))) (ret .nx)))
def Tr (F : FD) (ds : List D) : Prop := ∀ c, F ds c = some (.bl true, c)
def IntegerS (F : FD) : Prop := ∀ i : Int, -1000000 ≤ i → i ≤ 1000000 → Tr F [.int i]
@[simp] theorem ev_chain {f f' : D → D → Option D} {ma mb mc : M D} {g : G} {Q : D → G → Prop} : Ev (mChain f f' ma mb mc) g Q ↔ Ev ma g fun x g1 => Ev mb g1 fun y g2 => ∃ b, f x y = some (.bl b) ∧ if b = true then Ev mc g2 fun z g3 => Ev (lift (f' y z)) g3 Q else Q (.bl false) g2 := by
  unfold mChain
  simp only [ev_bind]
  refine ⟨fun h => h.mono fun x g1 h => h.mono fun y g2 h => ?_, fun h => h.mono fun x g1 h => h.mono fun y g2 ⟨b, e, h⟩ => ?_⟩
  · split at h
    · rename_i e
      exact ⟨true, e, by rw [if_pos rfl]; exact ev_bind.mp h⟩
    · rename_i e
      exact ⟨false, e, by rw [if_neg Bool.false_ne_true]; exact ev_ret.mp h⟩
    · exact (ev_bad.mp h).elim
  · rw [e]
    cases b with
    | true => exact ev_bind.mpr (by rw [if_pos rfl] at h; exact h)
    | false => exact ev_ret.mpr (by rw [if_neg Bool.false_ne_true] at h; exact h)
def zed : List Str := ["z"]
theorem fEq_str {neg : Bool} {x y : Str} (h : PyData.strOk x = true) (h2 : PyData.strOk y = true) : fEq neg (.str x) (.str y) = some (.bl (if neg then !(x == y) else (x == y))) := by
  unfold fEq
  show (if (SeqAt.shaped (.str x) && SeqAt.shaped (.str y)) = true then some (D.bl (if neg then !PyData.eqv (.str x) (.str y) else PyData.eqv (.str x) (.str y))) else none) = _
  have s : ∀ {z : Str}, PyData.strOk z = true → SeqAt.shaped (.str z) = true := fun {z} h => by simp [SeqAt.shaped, PyData.canLay0, PyData.depth, h]
  rw [s h, s h2]
  rfl
end Pw
set_option Elab.async false
set_option linter.all false
set_option maxRecDepth 100000
set_option maxHeartbeats 4000000
set_option exponentiation.threshold 9000
/-! Pw, part two: what makes a machine. -/
namespace Pw
open PySem PySem.Spec L2 Mo Lw
@[simp] theorem arc_0 {x : Arc} : uIx (arcD x) (.int 0) = some (.str x.a) := rfl
@[simp] theorem arc_1 {x : Arc} : uIx (arcD x) (.int 1) = some (.str x.l) := rfl
@[simp] theorem arc_2 {x : Arc} : uIx (arcD x) (.int 2) = some (.str x.b) := rfl
theorem fAll_true : ∀ {β : Type} (xs : List β), fAll [.lst (xs.map fun _ => D.bl true)] = some (.bl true) := fun xs => by
  have : ∀ {β : Type} (xs : List β), asBls (xs.map fun _ => D.bl true) = some (xs.map fun _ => true) := fun {β} xs => by
    induction xs with
    | nil => rfl
    | cons x r ih =>
      show (asBls (r.map fun _ => D.bl true)).map (true :: ·) = _
      rw [ih]
      rfl
  show (asBls _).map _ = _
  rw [this]
  show some (D.bl ((xs.map fun _ => true).all id)) = _
  have : (xs.map fun _ => true).all id = true := by simp
  rw [this]
/-- an arc whose words are known -/
structure ArcW (x : Arc) : Prop where
  a : x.a ∈ namePool
  l : x.l ∈ lets
  b : x.b ∈ namePool
  p0 : 0 ≤ x.p
  p9 : x.p ≤ 9
theorem PlOk.w {p : Pl} {n : Nat} (h : PlOk p n) : ∀ x ∈ p.arcs, ArcW x := fun x m => by
  obtain ⟨names, no, _, _, _, ok⟩ := h.all
  obtain ⟨h1, h2, h3, h4, h5⟩ := ok.at' x m
  exact ⟨no.mem _ h1, h2, no.mem _ h3, h4, h5⟩
theorem PlOk.nd {p : Pl} {n : Nat} (h : PlOk p n) : p.arcs.Pairwise fun x y => ¬ sameA x y.a y.l y.b := by
  obtain ⟨names, no, _, _, _, ok⟩ := h.all
  exact ok.nd
theorem sortU_mem {xs : List Str} {x : Str} : x ∈ sortU xs ↔ x ∈ xs := (List.mergeSort_perm (nub xs) leS).mem_iff.trans mem_nub
theorem sortU_nodup {xs : List Str} : (sortU xs).Nodup := (List.mergeSort_perm (nub xs) leS).symm.nodup (nodup_nub xs)
theorem mem_ends {xs : List Arc} {s : Str} : s ∈ endsOf xs ↔ s ∈ xs.map (·.a) ∨ s ∈ xs.map (·.b) := by
  unfold endsOf
  simp only [List.mem_flatMap, List.mem_map, List.mem_cons, List.not_mem_nil, or_false]
  constructor
  · rintro ⟨x, m, rfl | rfl⟩
    · exact .inl ⟨x, m, rfl⟩
    · exact .inr ⟨x, m, rfl⟩
  · rintro (⟨x, m, rfl⟩ | ⟨x, m, rfl⟩)
    · exact ⟨x, m, .inl rfl⟩
    · exact ⟨x, m, .inr rfl⟩
theorem nodup_len : ∀ {xs ys : List Str}, xs.Nodup → (∀ x ∈ xs, x ∈ ys) → xs.length ≤ ys.length
  | [], _, _, _ => Nat.zero_le _
  | x :: xs, ys, nd, h => by
    obtain ⟨h1, h2⟩ := List.nodup_cons.mp nd
    have m := h x List.mem_cons_self
    have := nodup_len (ys := ys.erase x) h2 fun y my => (List.mem_erase_of_ne fun e : y = x => h1 (e ▸ my)).mpr (h y (List.mem_cons_of_mem _ my))
    rw [List.length_erase_of_mem m] at this
    have p := List.length_pos_of_mem m
    simp
    omega
theorem states_le {p : Pl} {n : Nat} (h : PlOk p n) : p.states.length ≤ n ∧ p.states.length ≤ 24 ∧ ∀ x ∈ p.states, x ∈ namePool := by
  obtain ⟨names, no, nl, hf, hl, ok⟩ := h.all
  have sub : ∀ x ∈ p.states, x ∈ names := fun x m => by
    have m2 := sortU_mem.mp m
    unfold Pl.all at m2
    rcases List.mem_append.mp m2 with m2 | m2
    · rcases List.mem_append.mp m2 with m2 | m2
      · exact hf x m2
      · exact hl x m2
    · rcases mem_ends.mp m2 with m2 | m2
      · obtain ⟨y, my, rfl⟩ := List.mem_map.mp m2
        exact (ok.at' y my).1
      · obtain ⟨y, my, rfl⟩ := List.mem_map.mp m2
        exact (ok.at' y my).2.2.1
  have le : p.states.length ≤ names.length := nodup_len sortU_nodup sub
  exact ⟨Nat.le_trans le nl, Nat.le_trans le no.len, fun x m => no.mem x (sub x m)⟩
end Pw
set_option Elab.async false
set_option linter.all false
set_option maxRecDepth 100000
set_option maxHeartbeats 4000000
set_option exponentiation.threshold 9000
/-! Pw, part three: lines; a machine is made. -/
namespace Pw
open PySem PySem.Spec L2 Mo Lw
/-! ### sorted arcs, kept again -/
theorem sameA_symm {x y : Arc} (h : sameA x y.a y.l y.b) : sameA y x.a x.l x.b := ⟨h.1.symm, h.2.1.symm, h.2.2.symm⟩
theorem nd_perm {xs ys : List Arc} (h : xs.Pairwise fun x y => ¬ sameA x y.a y.l y.b) (p : ys.Perm xs) : ys.Pairwise fun x y => ¬ sameA x y.a y.l y.b :=
  p.symm.pairwise h fun {x y} n z => n (sameA_symm z)
end Pw
set_option Elab.async false
set_option linter.all false
set_option maxRecDepth 100000
set_option maxHeartbeats 4000000
set_option exponentiation.threshold 9000
/-! Pw, part four: a machine is made. -/
namespace Pw
open PySem PySem.Spec L2 Mo Lw
/-- what a machine holds -/
def flds (p : Pl) (ys : List Arc) (zs : List Str) : List (Str × D) := [("_firsts", .tup (sL p.fs)), ("_lasts", .tup (sL p.ls)), ("_arcs", .dt (ys.map arcT)), ("_states", .tup (sL p.states)), ("_letters", .tup (sL p.letters)), ("_lines", .tup (sL zs))]
/-- a machine of plain parts -/
structure Mach (C : Addr) (p : Pl) (n : Nat) (d : D) : Prop where
  ok : PlOk p n
  ex : ∃ ys zs, ys.Perm p.arcs ∧ d = .ins C (flds p ys zs)
def MadeS (C : Addr) (F : FD) : Prop := ∀ (p : Pl) (n : Nat) (c : C3), PlOk p n → ∃ d, F [p.d] c = some (d, c) ∧ Mach C p n d
/-! ### what is read of it -/
end Pw
set_option Elab.async false
set_option linter.all false
set_option maxRecDepth 100000
set_option maxHeartbeats 4000000
set_option exponentiation.threshold 9000
/-! Pw, part five: rows, checked. -/
namespace Pw
open PySem PySem.Spec L2 Mo Lw
def iL (ns : List Int) : List D := ns.map .int
theorem iL_len {ns : List Int} : (iL ns).length = ns.length := List.length_map _
structure RowOk (p : Pl) (cap : Int) (row : List Int) : Prop where
  len : row.length = p.states.length
  at' : ∀ i ∈ row, -1 ≤ i ∧ i ≤ cap + 1
def mFormed (Fi : FD) : M Oc := (seq (mIf (mtOr (mtNot (mTru (mIsi "tuple" (mName 2)))) (mT2 (fEq true) (mCall fLen (mCons (mName 2) (ret []))) (mName 0))) (seq (mRet (ret (.bl false))) (ret .nx)) (ret .nx)) (seq (mRet (mCall fAll (mCons (frz (mLc [3] (mIter (mName 2)) (stName 3) (ret true) (mAnd (mFn Fi (mCons (mName 3) (ret []))) (mChain iLe iLe (mNeg (ret (.int 1))) (mName 3) (mBin uPlus (mName 1) (ret (.int 1))))))) (ret [])))) (ret .nx)))
def FormedS (F : FD) : Prop := ∀ (p : Pl) (cap : Int) (row : List Int), row.length ≤ 1000 → 0 ≤ cap → cap ≤ 200 → RowOk p cap row → Tr F [.int p.states.length, .int cap, .tup (iL row)]
theorem formed_spec {Fi : FD} (hi : IntegerS Fi) : FormedS (runM false 4 3 (mFormed Fi)) := fun p cap row hl h1 h2 ok c => by
  refine run_pure rfl ?_
  simp [mFormed, ev_name_v, isi_tt, iL_len, ok.len, noOwn, plainSl]
  show Ev (lcGo _ _ _ _ (row.map D.int) []) _ _
  refine ev_lcPure row D.int (fun _ => true) (fun _ => .bl true) (fun x m => ⟨_, rfl, ?_⟩) (by rw [sizeLine_eq]; omega) ?_
  · obtain ⟨a1, a2⟩ := ok.at' x m
    have e := hi x (by omega) (by omega) c
    simp [ev_name_v, e, a1, a2]
  · rw [filter_tt]
    simp [fAll_true]
end Pw
set_option Elab.async false
set_option linter.all false
set_option maxRecDepth 100000
set_option maxHeartbeats 4000000
set_option exponentiation.threshold 9000
/-! Pw, part six: the next row. -/
namespace Pw
open PySem PySem.Spec L2 Mo Lw
/-- the price of an arc -/
def arcAt (ys : List Arc) (a l b : Str) : Option Int := (ys.find? fun x => decide (sameA x a l b)).map (·.p)
def inD (ys : List Arc) (l b : Str) (z : Nat × Str) : D := .tup [.int (0 + (z.1 : Nat)), .int ((arcAt ys z.2 l b).getD 0)]
end Pw
set_option Elab.async false
set_option linter.all false
set_option maxRecDepth 100000
set_option maxHeartbeats 4000000
set_option exponentiation.threshold 9000
/-! Qw, part one: what enters by the letters of a text. -/
namespace Qw
open PySem PySem.Spec L2 Mo Lw Pw
end Qw
set_option Elab.async false
set_option linter.all false
set_option maxRecDepth 100000
set_option maxHeartbeats 4000000
set_option exponentiation.threshold 9000
/-! Qw, part two: rows lowered, and rows along a text. -/
namespace Qw
open PySem PySem.Spec L2 Mo Lw Pw
end Qw
set_option Elab.async false
set_option linter.all false
set_option maxRecDepth 100000
set_option maxHeartbeats 4000000
set_option exponentiation.threshold 9000
/-! Qw, part three: rows along a text, and where they end. -/
namespace Qw
open PySem PySem.Spec L2 Mo Lw Pw
end Qw
set_option Elab.async false
set_option linter.all false
set_option maxRecDepth 100000
set_option maxHeartbeats 4000000
set_option exponentiation.threshold 9000
/-! Qw, part four: rows_along, ends_along. -/
namespace Qw
open PySem PySem.Spec L2 Mo Lw Pw
end Qw
set_option Elab.async false
set_option linter.all false
set_option maxRecDepth 100000
set_option maxHeartbeats 4000000
set_option exponentiation.threshold 9000
/-! Pw, part seven: the laws' own row after a letter; prices in rows. -/
namespace Pw
open PySem PySem.Spec L2 Mo Lw
/-! ### prices in rows -/
theorem flat_sL (ss : List Str) : (sL ss).all flatD = true := by
  unfold sL
  rw [List.all_map]
  exact List.all_eq_true.mpr fun _ _ => rfl
theorem inD_sL (s : Str) (ss : List Str) : Mo.inD (.str s) (sL ss) = decide (s ∈ ss) := by
  show ((sL ss).map flV).any (fun y => eqV y (flV (.str s))) = _
  induction ss with
  | nil => rfl
  | cons x r ih =>
    show (eqV (.str x) (.str s) || ((sL r).map flV).any (fun y => eqV y (flV (.str s)))) = _
    rw [ih]
    show ((x == s) || decide (s ∈ r)) = _
    by_cases h : x = s
    · subst h
      simp
    · have h2 : ¬ s = x := fun e => h e.symm
      simp [h, h2]
theorem uIn_tup (s : Str) (ss : List Str) : uIn false (.str s) (.tup (sL ss)) = some (.bl (decide (s ∈ ss))) := by
  show (fDIn false (.str s) (.tup (sL ss))).or ((fIn false (.str s) (.tup (sL ss))).or (fInS false (.str s) (.tup (sL ss)))) = _
  have : fIn false (.str s) (.tup (sL ss)) = some (.bl (decide (s ∈ ss))) := by
    show (if (flatD (.str s) && (sL ss).all flatD) = true then some (D.bl (Mo.inD (.str s) (sL ss))) else none) = _
    rw [flat_sL, inD_sL]
    rfl
  rw [this]
  rfl
theorem uIn_lst (s : Str) (ss : List Str) : uIn false (.str s) (.lst (sL ss)) = some (.bl (decide (s ∈ ss))) := by
  show (fDIn false (.str s) (.lst (sL ss))).or ((fIn false (.str s) (.lst (sL ss))).or (fInS false (.str s) (.lst (sL ss)))) = _
  have : fIn false (.str s) (.lst (sL ss)) = some (.bl (decide (s ∈ ss))) := by
    show (if (flatD (.str s) && (sL ss).all flatD) = true then some (D.bl (Mo.inD (.str s) (sL ss))) else none) = _
    rw [flat_sL, inD_sL]
    rfl
  rw [this]
  rfl
end Pw
set_option Elab.async false
set_option linter.all false
set_option maxRecDepth 100000
set_option maxHeartbeats 4000000
/-! Lw, part ten: repr of numbers and rows. -/
namespace Lw
open PySem PySem.Spec L2 Mo
theorem strOk_of {s : Str} (h : ∀ c ∈ s.cps.toList, c < 0x110000) : PyData.strOk s = true := by
  unfold PyData.strOk
  rw [← Array.all_toList]
  exact List.all_eq_true.mpr fun c m => decide_eq_true (h c m)
end Lw
set_option Elab.async false
set_option linter.all false
set_option maxRecDepth 100000
set_option maxHeartbeats 4000000
set_option exponentiation.threshold 9000
/-! Pw, part eight: rows compared. -/
namespace Pw
open PySem PySem.Spec L2 Mo Lw
def Sm (ns : List Int) : Prop := ns.length ≤ 1000 ∧ ∀ i ∈ ns, -1 ≤ i ∧ i ≤ 1000
/-! ### the least of two rows -/
end Pw
set_option Elab.async false
set_option linter.all false
set_option maxRecDepth 100000
set_option maxHeartbeats 4000000
set_option exponentiation.threshold 9000
/-! Pw, part nine: a pair, a row, all rows. -/
namespace Pw
open PySem PySem.Spec L2 Mo Lw
def PairS (C : Addr) (F : FD) : Prop := ∀ (p : Pl) (n : Nat) (d : D) (cap : Int) (l : Str) (xs ys : List Int), Mach C p n d → 0 ≤ cap → cap ≤ 200 → RowOk p cap xs → RowOk p cap ys → l ∈ lets ++ zed → Tr F [d, .int cap, .str l, .tup (iL xs), .tup (iL ys)]
def RowRightS (C : Addr) (F : FD) : Prop := ∀ (p : Pl) (n : Nat) (d : D) (cap : Int) (row : List Int), Mach C p n d → 0 ≤ cap → cap ≤ 200 → RowOk p cap row → Tr F [p.d, d, .int cap, .tup (iL row)]
end Pw
set_option Elab.async false
set_option linter.all false
set_option maxRecDepth 100000
set_option maxHeartbeats 4000000
set_option exponentiation.threshold 9000
/-! Pw, part ten: all rows. -/
namespace Pw
open PySem PySem.Spec L2 Mo Lw
def rD (r : List Int) : D := .tup (iL r)
structure AllOk (k : Nat) (cap : Int) (rows : List (List Int)) : Prop where
  ne : rows ≠ []
  few : rows.length ≤ 5 ^ k
  at' : ∀ r ∈ rows, r.length = k ∧ ∀ i ∈ r, -1 ≤ i ∧ i ≤ cap + 1
def AllS (F : FD) : Prop := ∀ (k : Nat) (cap : Int) (c : C3), k ≤ 3 → 0 ≤ cap → cap ≤ 2 → ∃ rows, F [.int k, .int cap] c = some (.lst (rows.map rD), c) ∧ AllOk k cap rows
end Pw
set_option Elab.async false
set_option linter.all false
set_option maxRecDepth 100000
set_option maxHeartbeats 4000000
set_option exponentiation.threshold 9000
/-! Pw, part eleven: the law. -/
namespace Pw
open PySem PySem.Spec L2 Mo Lw
def PickT (F : FD) : Prop := ∀ (c : C3) (N : Nat), Di c N → N ≤ 1000000 → ∃ l c', F [.str "ab"] c = some (.str l, c') ∧ l ∈ lets ∧ Di c' (N + 1)
theorem uIn_ff {β : Type} (xs : List β) : uIn false (.bl false) (.lst (xs.map fun _ => .bl true)) = some (.bl false) := by
  have e : fIn false (.bl false) (.lst (xs.map fun _ => .bl true)) = some (.bl false) := by
    show (if (flatD (.bl false) && (xs.map fun _ => D.bl true).all flatD) = true then some (D.bl (Mo.inD (.bl false) (xs.map fun _ => D.bl true))) else none) = _
    have h1 : (xs.map fun _ => D.bl true).all flatD = true := by
      rw [List.all_map]
      exact List.all_eq_true.mpr fun _ _ => rfl
    have h2 : Mo.inD (.bl false) (xs.map fun _ => D.bl true) = false := by
      show ((xs.map fun _ => D.bl true).map flV).any (fun y => eqV y (flV (.bl false))) = false
      rw [List.map_map, List.any_map]
      exact List.any_eq_false.mpr fun _ _ => by simp [flV, eqV]
    rw [h1, h2]
    rfl
  show (fDIn false (.bl false) (.lst (xs.map fun _ => .bl true))).or ((fIn false (.bl false) (.lst (xs.map fun _ => .bl true))).or (fInS false (.bl false) (.lst (xs.map fun _ => .bl true)))) = _
  rw [e]
  rfl
/-- a drawn row -/
theorem ev_drawn {Fr : FD} (hr : RollS Fr) {cap : Int} (h0 : 0 ≤ cap) (h2 : cap ≤ 200) {a1 a2 a3 a5 a6 a7 a8 a9 a10 : Sl} {k : Nat} (hk : k ≤ 3) {c : C3} {N : Nat} (hd : Di c N) (hN : N ≤ 10000) {Q : List D → G → Prop}
    (q : ∀ row c', row.length = k → (∀ i ∈ row, -1 ≤ i ∧ i ≤ cap + 1) → Di c' (N + 3) → Q (iL row) ⟨[.di, a1, a2, a3, .v (.int cap), a5, a6, a7, a8, a9, a10, .un], c'⟩) :
    Ev (lcGo [11] (stName 11) (ret true) (mBin uSub (isDi 0 (mFn Fr (mCons (mBin uPlus (mName 4) (ret (.int 3))) (ret [])))) (ret (.int 1))) (rngD 0 k) []) ⟨[.di, a1, a2, a3, .v (.int cap), a5, a6, a7, a8, a9, a10, .un], c⟩ Q := by
  obtain ⟨I, hI⟩ : ∃ I : List D → List D → G → Prop, ∀ ds acc g, I ds acc g ↔ ∃ (row : List Int) (c' : C3), g = ⟨[.di, a1, a2, a3, .v (.int cap), a5, a6, a7, a8, a9, a10, .un], c'⟩ ∧ acc = iL row ∧ row.length + ds.length = k ∧ (∀ i ∈ row, -1 ≤ i ∧ i ≤ cap + 1) ∧ Di c' (N + row.length) := ⟨_, fun _ _ _ => Iff.rfl⟩
  refine ev_lcGo I ?_ ?_ _ _ _ ((hI _ _ _).mpr ⟨[], c, rfl, rfl, by rw [rngD_len]; simp, fun i m => (nomatch m), hd⟩)
  · intro d r acc g hi
    obtain ⟨row, c', rfl, rfl, hl, ha, hd'⟩ := (hI _ _ _).mp hi
    simp at hl
    obtain ⟨x, c2, e, x0, x1, hd2⟩ := hr c' _ (cap + 3) hd' (by omega) (by omega) (by omega)
    refine ⟨_, rfl, ?_⟩
    simp [ev_name_v, e]
    refine ⟨by rw [iL_len, sizeLine_eq]; omega, (hI _ _ _).mpr ⟨row ++ [x - 1], c2, rfl, ?_, by simp; omega, fun i m => ?_, ?_⟩⟩
    · unfold iL
      rw [List.map_append]
      rfl
    · rcases List.mem_append.mp m with m | m
      · exact ha i m
      · cases List.mem_singleton.mp m
        omega
    · rw [List.length_append, List.length_singleton, ← Nat.add_assoc]
      exact hd2
  · intro acc g hi
    obtain ⟨row, c', rfl, rfl, hl, ha, hd'⟩ := (hI _ _ _).mp hi
    simp at hl
    exact q row c' hl ha (hd'.mono (by omega))
def mRight (Fd Fm Fs Fa Fw Fp Fv Fr : FD) : M Oc := (seq (mSet 1 (isDi 0 (mFn Fd (mCons (ret (.int 3)) (mCons (ret (.int 2)) (ret [])))))) (seq (mAsg (stTup 2 (stCons (stName 2) (stCons (stName 3) stNil))) (mTup (mCons (mFn Fm (mCons (mName 1) (ret []))) (mCons (mCall fLen (mCons (mFn Fs (mCons (mName 1) (ret []))) (ret []))) (ret []))))) (seq (mFor (stName 4) (mWk fRng1 (mCons (ret (.int 3)) (ret []))) (seq (mSet 6 (mFn Fa (mCons (mName 3) (mCons (mName 4) (ret []))))) (seq (mIf (mT2 (uIn false) (ret (.bl false)) (frz (mLc [7] (mIter (mName 6)) (stName 7) (ret true) (mFn Fw (mCons (mName 1) (mCons (mName 2) (mCons (mName 4) (mCons (mName 7) (ret []))))))))) (seq (mRet (ret (.bl false))) (ret .nx)) (ret .nx)) (seq (mFor (stName 5) (mWk fRng1 (mCons (ret (.int 30)) (ret []))) (seq (mPar 9 10 (mXd (isDi 0 (mFn Fp (mCons (mName 6) (ret []))))) (mXd (isDi 0 (mFn Fp (mCons (mName 6) (ret [])))))) (seq (mIf (mtNot (mTru (mFn Fv (mCons (mName 2) (mCons (mName 4) (mCons (isDi 0 (mFn Fp (mCons (ret (.str "ab")) (ret [])))) (mCons (mName 9) (mCons (mName 10) (ret []))))))))) (seq (mRet (ret (.bl false))) (ret .nx)) (ret .nx)) (ret .nx)))) (ret .nx))))) (seq (mSet 4 (mBin uPlus (ret (.int 3)) (isDi 0 (mFn Fr (mCons (ret (.int 198)) (ret [])))))) (seq (mFor (stName 5) (mWk fRng1 (mCons (ret (.int 12)) (ret []))) (seq (mSet 7 (mCall fTuple (mCons (frz (mLc [11] (mWk fRng1 (mCons (mName 3) (ret []))) (stName 11) (ret true) (mBin uSub (isDi 0 (mFn Fr (mCons (mBin uPlus (mName 4) (ret (.int 3))) (ret [])))) (ret (.int 1))))) (ret [])))) (seq (mSet 8 (mCall fTuple (mCons (frz (mLc [11] (mWk fRng1 (mCons (mName 3) (ret []))) (stName 11) (ret true) (mBin uSub (isDi 0 (mFn Fr (mCons (mBin uPlus (mName 4) (ret (.int 3))) (ret [])))) (ret (.int 1))))) (ret [])))) (seq (mIf (mtOr (mtNot (mTru (mFn Fw (mCons (mName 1) (mCons (mName 2) (mCons (mName 4) (mCons (mName 7) (ret [])))))))) (mtNot (mTru (mFn Fv (mCons (mName 2) (mCons (mName 4) (mCons (ret (.str "a")) (mCons (mName 7) (mCons (mName 8) (ret [])))))))))) (seq (mRet (ret (.bl false))) (ret .nx)) (ret .nx)) (ret .nx))))) (seq (mRet (ret (.bl true))) (ret .nx)))))))
def RightS (F : FD) : Prop := ∀ c : C3, Di c 0 → ∃ c', F [] c = some (.bl true, c')
theorem right_spec {C : Addr} {Fd Fm Fs Fa Fw Fp Fv Fr : FD} (hd : DrawnS Fd) (hm : MadeS C Fm) (hs : StatesS Fs) (ha : AllS Fa) (hw : RowRightS C Fw) (hp : PickS Fp) (hpt : PickT Fp) (hv : PairS C Fv) (hr : RollS Fr) : RightS (runM true 12 1 (mRight Fd Fm Fs Fa Fw Fp Fv Fr)) := fun c h => by
  suffices hh : ∃ d c', runM true 12 1 (mRight Fd Fm Fs Fa Fw Fp Fv Fr) [] c = some (d, c') ∧ d = .bl true by
    obtain ⟨d, c', e, rfl⟩ := hh
    exact ⟨c', e⟩
  refine run_ev rfl ?_
  obtain ⟨p, c1, e1, ok, d1⟩ := hd c 0 3 2 h (by omega) (by omega) (by omega) (by omega) (by omega)
  obtain ⟨d, e2, mach⟩ := hm p 3 c1 ok
  have e3 := hs p 3 c1 ok
  have k3 := (states_le ok).1
  have r3 : fRng1 [.int 3] = some (rngD 0 3) := rng1_nat (n := 3) (by omega)
  have r30 : fRng1 [.int 30] = some (rngD 0 30) := rng1_nat (n := 30) (by omega)
  have r12 : fRng1 [.int 12] = some (rngD 0 12) := rng1_nat (n := 12) (by omega)
  have rk := rng1_nat (n := p.states.length) (by omega)
  have hz : 2 ≤ sizeLine := by rw [sizeLine_eq]; omega
  simp [mRight, ev_name_v, e1, e2, e3, sL_len, hz, r3, r30, r12]
  refine ⟨_, rfl, ?_⟩
  simp
  obtain ⟨I, hI⟩ : ∃ I : List D → G → Prop, ∀ ds g, I ds g ↔ ∃ (s4 s5 s6 s8 s9 s10 : Sl) (c' : C3) (B : Nat), g = ⟨[.di, .v p.d, .v d, .v (.int p.states.length), s4, s5, s6, .un, s8, s9, s10, .un], c'⟩ ∧ (∀ e ∈ ds, ∃ cap : Int, e = .int cap ∧ 0 ≤ cap ∧ cap ≤ 2) ∧ Di c' B ∧ B + 90 * ds.length ≤ 1270 := ⟨_, fun _ _ => Iff.rfl⟩
  refine ev_loop I ?_ ?_ _ _ ((hI _ _).mpr ⟨_, _, _, _, _, _, c1, 1000, rfl, fun e m => ?_, d1, by rw [rngD_len]; omega⟩)
  · intro dc r g hi
    obtain ⟨s4, s5, s6, s8, s9, s10, c', B, rfl, hc, hdi, hB⟩ := (hI _ _).mp hi
    obtain ⟨cap, rfl, cap0, cap2⟩ := hc dc List.mem_cons_self
    have hc' : ∀ e ∈ r, ∃ cap : Int, e = .int cap ∧ 0 ≤ cap ∧ cap ≤ 2 := fun e m => hc e (List.mem_cons_of_mem _ m)
    simp only [List.length_cons] at hB
    refine ⟨_, rfl, ?_⟩
    obtain ⟨rows, f1, ra⟩ := ha p.states.length cap c' k3 cap0 cap2
    have rok : ∀ r ∈ rows, RowOk p cap r := fun r m => ⟨(ra.at' r m).1, (ra.at' r m).2⟩
    have r125 : rows.length ≤ 125 := Nat.le_trans ra.few (by
      have : p.states.length = 0 ∨ p.states.length = 1 ∨ p.states.length = 2 ∨ p.states.length = 3 := by omega
      rcases this with e | e | e | e <;> rw [e] <;> decide)
    simp [ev_name_v, f1, noOwn, plainSl]
    refine ev_lcPure rows rD (fun _ => true) (fun _ => .bl true) (fun r m => ⟨_, rfl, ?_⟩) (by rw [sizeLine_eq]; omega) ?_
    · have e := hw p 3 d cap r mach cap0 (by omega) (rok r m) c'
      have e' : Fw [p.d, d, .int cap, rD r] c' = some (.bl true, c') := e
      simp [ev_name_v, e']
    · rw [filter_tt]
      simp [uIn_ff, r30]
      obtain ⟨I2, hI2⟩ : ∃ I : List D → G → Prop, ∀ ds g, I ds g ↔ ∃ (s5 s8 s9 s10 : Sl) (c' : C3) (B : Nat), g = ⟨[.di, .v p.d, .v d, .v (.int p.states.length), .v (.int cap), s5, .v (.lst (rows.map rD)), .un, s8, s9, s10, .un], c'⟩ ∧ Di c' B ∧ B + 3 * ds.length + 90 * r.length ≤ 1270 := ⟨_, fun _ _ => Iff.rfl⟩
      refine ev_loop I2 ?_ ?_ _ _ ((hI2 _ _).mpr ⟨_, _, _, _, c', B, rfl, hdi, by rw [rngD_len]; omega⟩)
      · intro d2 r2 g hi
        obtain ⟨s5, s8, s9, s10, c2, B2, rfl, hdi2, hB2⟩ := (hI2 _ _).mp hi
        simp only [List.length_cons] at hB2
        refine ⟨_, rfl, ?_⟩
        have rne : rows.map rD ≠ [] := fun z => ra.ne (List.map_eq_nil_iff.mp z)
        have rle : (rows.map rD).length ≤ 1000000 := by rw [List.length_map]; omega
        obtain ⟨x1, c3, g1, m1, hd3⟩ := hp c2 B2 (rows.map rD) hdi2 (by omega) rne rle
        obtain ⟨x2, c4, g2, m2, hd4⟩ := hp c3 _ (rows.map rD) hd3 (by omega) rne rle
        obtain ⟨l, c5, g3, ml, hd5⟩ := hpt c4 _ hd4 (by omega)
        obtain ⟨y1, my1, rfl⟩ := List.mem_map.mp m1
        obtain ⟨y2, my2, rfl⟩ := List.mem_map.mp m2
        have g4 : Fv [d, .int cap, .str l, rD y1, rD y2] c5 = some (.bl true, c5) := hv p 3 d cap l y1 y2 mach cap0 (by omega) (rok y1 my1) (rok y2 my2) (List.mem_append_left _ ml) c5
        simp [ev_name_v, g1, g2, g3, g4]
        exact (hI2 _ _).mpr ⟨_, _, _, _, c5, B2 + 1 + 1 + 1, rfl, hd5, by omega⟩
      · intro g hi
        obtain ⟨s5, s8, s9, s10, c2, B2, rfl, hdi2, hB2⟩ := (hI2 _ _).mp hi
        simp at hB2 ⊢
        exact (hI _ _).mpr ⟨_, _, _, _, _, _, c2, B2, rfl, hc', hdi2, by omega⟩
  · intro g hi
    obtain ⟨s4, s5, s6, s8, s9, s10, c', B, rfl, hc, hdi, hB⟩ := (hI _ _).mp hi
    simp only [List.length_nil] at hB
    obtain ⟨x, c2, f1, x0, x1, hd2⟩ := hr c' B 198 hdi (by omega) (by omega) (by omega)
    simp [ev_name_v, f1, r12]
    obtain ⟨I3, hI3⟩ : ∃ I : List D → G → Prop, ∀ ds g, I ds g ↔ ∃ (s5 s6 s7 s8 s9 s10 : Sl) (c' : C3) (B : Nat), g = ⟨[.di, .v p.d, .v d, .v (.int p.states.length), .v (.int (3 + x)), s5, s6, s7, s8, s9, s10, .un], c'⟩ ∧ Di c' B ∧ B + 6 * ds.length ≤ 1400 := ⟨_, fun _ _ => Iff.rfl⟩
    refine ev_loop I3 ?_ ?_ _ _ ((hI3 _ _).mpr ⟨_, _, _, _, _, _, c2, B + 1, rfl, hd2, by rw [rngD_len]; omega⟩)
    · intro d2 r2 g hi
      obtain ⟨s5, s6, s7, s8, s9, s10, c3, B3, rfl, hd3, hB3⟩ := (hI3 _ _).mp hi
      simp only [List.length_cons] at hB3
      refine ⟨_, rfl, ?_⟩
      simp [ev_name_v, rk, noOwn, plainSl]
      refine ev_drawn hr (by omega) (by omega) k3 hd3 (by omega) fun row c4 l1 b1 hd4 => ?_
      have ok1 : RowOk p (3 + x) row := ⟨l1, b1⟩
      simp [ev_name_v, rk, fTuple, noOwn, plainSl]
      refine ev_drawn hr (by omega) (by omega) k3 hd4 (by omega) fun more c5 l2 b2 hd5 => ?_
      have ok2 : RowOk p (3 + x) more := ⟨l2, b2⟩
      have g1 := hw p 3 d (3 + x) row mach (by omega) (by omega) ok1 c5
      have g2 := hv p 3 d (3 + x) "a" row more mach (by omega) (by omega) ok1 ok2 (List.mem_append_left _ List.mem_cons_self) c5
      simp [ev_name_v, fTuple, g1, g2]
      exact (hI3 _ _).mpr ⟨_, _, _, _, _, _, c5, B3 + 3 + 3, rfl, hd5, by omega⟩
    · intro g hi
      obtain ⟨s5, s6, s7, s8, s9, s10, c3, B3, rfl, hd3, hB3⟩ := (hI3 _ _).mp hi
      simp
  · obtain ⟨i, mi, rfl⟩ := List.mem_map.mp m
    have := List.mem_range.mp mi
    exact ⟨_, rfl, by omega, by omega⟩
end Pw
set_option Elab.async false
set_option linter.all false
set_option maxRecDepth 100000
set_option maxHeartbeats 4000000
set_option exponentiation.threshold 9000
namespace Lp
open PySem PySem.Spec L2
/-! ### numbers as texts -/
theorem tw_none {α : Type} {f : α → Bool} : ∀ {l : List α}, (∀ a ∈ l, f a = false) → l.takeWhile f = []
  | [], _ => rfl
  | a :: r, h => by rw [List.takeWhile_cons, h a List.mem_cons_self]; rfl
theorem tw_app {α : Type} {f : α → Bool} : ∀ {l r : List α}, (∀ a ∈ l, f a = true) → (∀ a ∈ r, f a = false) → (l ++ r).takeWhile f = l
  | [], r, _, h => tw_none h
  | a :: l, r, h1, h2 => by
    rw [List.cons_append, List.takeWhile_cons, h1 a List.mem_cons_self]
    show a :: (l ++ r).takeWhile f = a :: l
    rw [tw_app (fun b m => h1 b (List.mem_cons_of_mem _ m)) h2]
theorem cps_len (x : Str) : x.length = x.cps.toList.length := by
  show x.cps.size = _
  exact (Array.length_toList).symm
theorem strip_len {goes : Nat → Bool} {x : Str} {a b : List Nat} (h : x.cps.toList = a ++ b) (h1 : ∀ c ∈ a, goes c = true) (h2 : ∀ c ∈ b, goes c = false) : (Txt.stripBy goes true true x).length = b.length := by
  have lx : x.length = a.length + b.length := by rw [cps_len, h, List.length_append]
  have lo : stripLo goes true x = a.length := by
    unfold stripLo
    rw [if_pos rfl, h, tw_app h1 h2]
  have hi : stripHi goes true x a.length = x.length := by
    unfold stripHi
    rw [if_pos rfl, h, List.drop_left, tw_none fun c m => h2 c (List.mem_reverse.mp m)]
    rfl
  unfold Txt.stripBy
  split
  · rename_i e
    unfold stripSame at e
    rw [lo, Bool.and_eq_true, beq_iff_eq] at e
    have := e.1
    omega
  · unfold stripped
    rw [lo, hi]
    show (x.cps.extract a.length x.length).size = _
    rw [Array.size_extract]
    have : x.cps.size = x.length := rfl
    omega
end Lp
set_option Elab.async false
set_option linter.all false
set_option maxRecDepth 100000
set_option maxHeartbeats 4000000
set_option exponentiation.threshold 9000
/-! Qw, part five: texts judged; the first row; the row of a text. -/
namespace Qw
open PySem PySem.Spec L2 Mo Lw Pw
/-- a text of letters, not too long -/
structure TxtOk (t : Str) : Prop where
  az : ∀ c ∈ t.cps.toList, 97 ≤ c ∧ c ≤ 122
  len : t.length ≤ 4000
end Qw
set_option Elab.async false
set_option linter.all false
set_option maxRecDepth 100000
set_option maxHeartbeats 4000000
set_option exponentiation.threshold 9000
/-! Qw, part six: the written machines. -/
namespace Qw
open PySem PySem.Spec L2 Mo Lw Pw
def pl0 : PlS := ⟨.lst [], .lst [], [], .un, .un⟩
end Qw
set_option Elab.async false
set_option linter.all false
set_option maxRecDepth 100000
set_option maxHeartbeats 4000000
set_option exponentiation.threshold 9000
/-! Qw, part seven: written or drawn machines. -/
namespace Qw
open PySem PySem.Spec L2 Mo Lw Pw
theorem sz {k : Nat} (h : k ≤ 1000) : k ≤ sizeLine := by rw [sizeLine_eq]; omega
theorem PlOk.mono {p : Pl} {n m : Nat} (h : PlOk p n) (le : n ≤ m) : PlOk p m := by
  obtain ⟨names, h1, h2, h3⟩ := h.all
  exact ⟨h.fs, h.ls, ⟨names, h1, Nat.le_trans h2 le, h3⟩, h.few⟩
end Qw
set_option Elab.async false
set_option linter.all false
set_option maxRecDepth 100000
set_option maxHeartbeats 4000000
set_option exponentiation.threshold 9000
/-! Qw, part eight: ways along texts, and rows that tell the least of them. -/
namespace Qw
open PySem PySem.Spec L2 Mo Lw Pw
/-- a way from a to b along the letters costs v -/
def Wy (xs : List Arc) : Str → List Str → Str → Int → Prop
  | a, [], b, v => a = b ∧ v = 0
  | a, l :: ls, b, v => ∃ x ∈ xs, x.a = a ∧ x.l = l ∧ ∃ w, Wy xs x.b ls b w ∧ v = x.p + w
/-- from a first state -/
def Fw (p : Pl) (ls : List Str) (b : Str) (v : Int) : Prop := ∃ f ∈ p.fs, Wy p.arcs f ls b v
/-- the row tells the least prices -/
structure RowSem (p : Pl) (ls : List Str) (row : List Int) : Prop where
  len : row.length = p.states.length
  at' : ∀ (i : Nat) s v, p.states[i]? = some s → row[i]? = some v → IsMin (Fw p ls s) v
theorem ends_mem {xs : List Arc} {x : Arc} (m : x ∈ xs) : x.a ∈ endsOf xs ∧ x.b ∈ endsOf xs :=
  ⟨List.mem_flatMap.mpr ⟨x, m, by simp⟩, List.mem_flatMap.mpr ⟨x, m, by simp⟩⟩
theorem arc_states {p : Pl} {x : Arc} (m : x ∈ p.arcs) : x.a ∈ p.states ∧ x.b ∈ p.states := by
  obtain ⟨h1, h2⟩ := ends_mem m
  exact ⟨sortU_mem.mpr (List.mem_append_right _ h1), sortU_mem.mpr (List.mem_append_right _ h2)⟩
end Qw
set_option Elab.async false
set_option linter.all false
set_option maxRecDepth 100000
set_option maxHeartbeats 4000000
set_option exponentiation.threshold 9000
/-! Qw, part nine: the law's own rows and prices, letter by letter. -/
namespace Qw
open PySem PySem.Spec L2 Mo Lw Pw
def LetOk (t : Str) : Prop := ∀ l ∈ signsS t, l ∈ lets4
theorem names_nd {ss : List Str} (h : NamesOk ss) : ss.Nodup := h.up.imp fun {a b} h e => by
  subst e
  exact absurd h (by simp)
theorem RowSem.of {p : Pl} {ls : List Str} {f : Str → Int} (h : ∀ s, IsMin (Fw p ls s) (f s)) : RowSem p ls (p.states.map f) := ⟨List.length_map _, fun i s v h1 h2 => by
  rw [List.getElem?_map, h1] at h2
  cases h2
  exact h s⟩
end Qw
set_option Elab.async false
set_option linter.all false
set_option maxRecDepth 100000
set_option maxHeartbeats 4000000
set_option exponentiation.threshold 9000
/-! Qw, part ten: all ways along a text. -/
namespace Qw
open PySem PySem.Spec L2 Mo Lw Pw
structure Way where
  i : List Str
  b : Str
  v : Int
end Qw
set_option Elab.async false
set_option linter.all false
set_option maxRecDepth 100000
set_option maxHeartbeats 4000000
set_option exponentiation.threshold 9000
/-! Qw, part eleven: the row that all ways force. -/
namespace Qw
open PySem PySem.Spec L2 Mo Lw Pw
end Qw
set_option Elab.async false
set_option linter.all false
set_option maxRecDepth 100000
set_option maxHeartbeats 4000000
set_option exponentiation.threshold 9000
/-! Qw, part twelve: a row is right. -/
namespace Qw
open PySem PySem.Spec L2 Mo Lw Pw
structure TxG (t : Str) : Prop where
  lets : LetOk t
  len : t.length ≤ 1000
theorem sign_az {q : Nat} (h : (⟨#[q]⟩ : Str) ∈ lets4) : 97 ≤ q ∧ q ≤ 122 := by
  have ca : ("a" : Str) = ⟨#[97]⟩ := by decide +kernel
  have cb : ("b" : Str) = ⟨#[98]⟩ := by decide +kernel
  have cc : ("c" : Str) = ⟨#[99]⟩ := by decide +kernel
  have cz : ("z" : Str) = ⟨#[122]⟩ := by decide +kernel
  unfold lets4 at h
  rw [ca, cb, cc, cz] at h
  simp at h
  omega
theorem TxG.ok {t : Str} (h : TxG t) : TxtOk t := ⟨fun q m => sign_az (h.lets _ (List.mem_map.mpr ⟨q, m, rfl⟩)), by have := h.len; omega⟩
theorem TxG.str {t : Str} (h : TxG t) : PyData.strOk t = true := strOk_of fun q m => by have := h.ok.az q m; omega
end Qw
set_option Elab.async false
set_option linter.all false
set_option maxRecDepth 100000
set_option maxHeartbeats 4000000
set_option exponentiation.threshold 9000
/-! Qw, part thirteen: the texts that are asked. -/
namespace Qw
open PySem PySem.Spec L2 Mo Lw Pw
/-! ### a drawn text -/
end Qw
set_option Elab.async false
set_option linter.all false
set_option maxRecDepth 100000
set_option maxHeartbeats 4000000
set_option exponentiation.threshold 9000
/-! Rw, part one: dicts from texts to texts; new names. -/
namespace Rw
open PySem PySem.Spec L2 Mo Lw Pw Qw
/-! ### the new names -/
def qnames : List Str := (["qa", "qb", "qc", "qd", "qe", "qf", "qg", "qh", "qi", "qj", "qk", "ql"] : List Str) ++ (["qm", "qn", "qo", "qp", "qq", "qr", "qs", "qt", "qu", "qv", "qw", "qx"] : List Str)
def qn (i : Nat) : Str := qnames.getD i "qa"
theorem all24 {p : Nat → Bool} (h : (List.range 24).all p = true) (i : Nat) (hi : i < 24) : p i = true := List.all_eq_true.mp h i (List.mem_range.mpr hi)
theorem qn_pool (i : Nat) (hi : i < 24) : qn i ∈ namePool := of_decide_eq_true (all24 (p := fun i => decide (qn i ∈ namePool)) (by decide +kernel) i hi)
theorem qn_lt (i j : Nat) (hi : i < 24) (hj : j < 24) (h : i < j) : (qn i).cps.toList < (qn j).cps.toList := by
  have := all24 (p := fun i => (List.range 24).all fun j => decide (i < j → (qn i).cps.toList < (qn j).cps.toList)) (by decide +kernel) i hi
  exact of_decide_eq_true (all24 this j hj) h
theorem qn_inj (i j : Nat) (hi : i < 24) (hj : j < 24) (h : qn i = qn j) : i = j := by
  rcases Nat.lt_trichotomy i j with l | e | l
  · have := qn_lt i j hi hj l
    rw [h] at this
    exact absurd this (by simp)
  · exact e
  · have := qn_lt j i hj hi l
    rw [h] at this
    exact absurd this (by simp)
end Rw
set_option Elab.async false
set_option linter.all false
set_option maxRecDepth 100000
set_option maxHeartbeats 4000000
set_option exponentiation.threshold 9000
/-! Rw, part two: names made, ends and arcs named anew. -/
namespace Rw
open PySem PySem.Spec L2 Mo Lw Pw Qw
end Rw
set_option Elab.async false
set_option linter.all false
set_option maxRecDepth 100000
set_option maxHeartbeats 4000000
set_option exponentiation.threshold 9000
/-! Rw, part three: the machine of pieces. -/
namespace Rw
open PySem PySem.Spec L2 Mo Lw Pw Qw
theorem mem_states {p : Pl} {x : Str} : x ∈ p.states ↔ x ∈ p.fs ∨ x ∈ p.ls ∨ ∃ y ∈ p.arcs, y.a = x ∨ y.b = x := by
  refine sortU_mem.trans ?_
  unfold Pl.all
  simp only [List.mem_append, mem_ends, List.mem_map, or_assoc]
  refine or_congr Iff.rfl (or_congr Iff.rfl ⟨?_, ?_⟩)
  · rintro (⟨y, m, e⟩ | ⟨y, m, e⟩)
    · exact ⟨y, m, .inl e⟩
    · exact ⟨y, m, .inr e⟩
  · rintro ⟨y, m, e | e⟩
    · exact .inl ⟨y, m, e⟩
    · exact .inr ⟨y, m, e⟩
theorem fs_states {p : Pl} {x : Str} (m : x ∈ p.fs) : x ∈ p.states := mem_states.mpr (.inl m)
theorem ls_states {p : Pl} {x : Str} (m : x ∈ p.ls) : x ∈ p.states := mem_states.mpr (.inr (.inl m))
theorem arc_states {p : Pl} {x : Arc} (m : x ∈ p.arcs) : x.a ∈ p.states ∧ x.b ∈ p.states := ⟨mem_states.mpr (.inr (.inr ⟨x, m, .inl rfl⟩)), mem_states.mpr (.inr (.inr ⟨x, m, .inr rfl⟩))⟩
/-! ### puts whose price is told by the state behind -/
def pcP (b : Str) : Int := if b = "qa" then 1 else 0
structure Gd (xs : List Arc) : Prop where
  nd : xs.Pairwise fun x y => ¬ sameA x y.a y.l y.b
  pr : ∀ z ∈ xs, z.p = pcP z.b
theorem Gd.nil : Gd [] := ⟨.nil, fun _ m => nomatch m⟩
theorem Gd.cases {xs : List Arc} (h : Gd xs) (a l b : Str) : (putA xs a l b (pcP b) = xs ∧ (⟨a, l, b, pcP b⟩ : Arc) ∈ xs) ∨ (putA xs a l b (pcP b) = xs ++ [⟨a, l, b, pcP b⟩] ∧ ∀ x ∈ xs, ¬ sameA x a l b) := by
  unfold putA
  split
  · rename_i q
    obtain ⟨x, m, e⟩ := List.any_eq_true.mp q
    have e := of_decide_eq_true e
    refine .inl ⟨?_, ?_⟩
    · refine (List.map_congr_left fun y my => ?_).trans (List.map_id xs)
      by_cases hy : sameA y a l b
      · rw [if_pos hy, ← hy.2.2, ← h.pr y my]
        rfl
      · rw [if_neg hy]
        rfl
    · have : x = ⟨a, l, b, pcP b⟩ := by
        have hp := h.pr x m
        obtain ⟨xa, xl, xb, xp⟩ := x
        obtain ⟨e1, e2, e3⟩ := e
        simp only at e1 e2 e3 hp
        subst e1 e2 e3 hp
        rfl
      rw [← this]
      exact m
  · rename_i q
    exact .inr ⟨rfl, fun x m z => q (List.any_eq_true.mpr ⟨x, m, decide_eq_true z⟩)⟩
theorem Gd.mem {xs : List Arc} (h : Gd xs) (a l b : Str) {z : Arc} : z ∈ putA xs a l b (pcP b) ↔ z ∈ xs ∨ z = ⟨a, l, b, pcP b⟩ := by
  rcases h.cases a l b with ⟨e, m⟩ | ⟨e, _⟩
  · rw [e]
    exact ⟨.inl, fun q => q.elim id fun e => e ▸ m⟩
  · rw [e, List.mem_append, List.mem_singleton]
theorem Gd.put {xs : List Arc} (h : Gd xs) (a l b : Str) : Gd (putA xs a l b (pcP b)) := by
  refine ⟨?_, fun z m => ?_⟩
  · rcases h.cases a l b with ⟨e, m⟩ | ⟨e, n⟩
    · rw [e]
      exact h.nd
    · rw [e, List.pairwise_append]
      refine ⟨h.nd, List.pairwise_singleton _ _, fun x m y my => ?_⟩
      cases List.mem_singleton.mp my
      exact n x m
  · rcases (h.mem a l b).mp m with m | rfl
    · exact h.pr z m
    · rfl
/-- places out of small sets are few -/
def cube (A L B : List Str) : List (Str × Str × Str) := A.flatMap fun a => L.flatMap fun l => B.map fun b => (a, l, b)
theorem cube_len (A L B : List Str) : (cube A L B).length = A.length * (L.length * B.length) := by
  have h1 : ∀ (a : Str), (L.flatMap fun l => B.map fun b => (a, l, b)).length = L.length * B.length := fun a => by
    induction L with
    | nil => simp
    | cons l L ih => rw [List.flatMap_cons, List.length_append, ih, List.length_map, List.length_cons, Nat.succ_mul, Nat.add_comm]
  unfold cube
  induction A with
  | nil => simp
  | cons a A ih => rw [List.flatMap_cons, List.length_append, ih, h1, List.length_cons, Nat.succ_mul, Nat.add_comm]
theorem nd_len {xs : List Arc} {A L : List Str} (nd : xs.Pairwise fun x y => ¬ sameA x y.a y.l y.b) (h : ∀ x ∈ xs, x.a ∈ A ∧ x.l ∈ L ∧ x.b ∈ A) : xs.length ≤ A.length * (L.length * A.length) := by
  rw [← cube_len]
  have n2 : (xs.map fun x => (x.a, x.l, x.b)).Nodup := by
    unfold List.Nodup
    rw [List.pairwise_map]
    refine nd.imp fun {x y} n e => n ?_
    simp only [Prod.mk.injEq] at e
    exact e
  have key : ∀ {us vs : List (Str × Str × Str)}, us.Nodup → (∀ x ∈ us, x ∈ vs) → us.length ≤ vs.length := fun {us vs} n s => by
    induction us generalizing vs with
    | nil => exact Nat.zero_le _
    | cons x us ih =>
      obtain ⟨h1, h2⟩ := List.nodup_cons.mp n
      have m := s x List.mem_cons_self
      have := ih (vs := vs.erase x) h2 fun y my => (List.mem_erase_of_ne fun e : y = x => h1 (e ▸ my)).mpr (s y (List.mem_cons_of_mem _ my))
      rw [List.length_erase_of_mem m] at this
      have p := List.length_pos_of_mem m
      simp
      omega
  have := key (vs := cube A L A) n2 fun q m => by
    obtain ⟨x, mx, rfl⟩ := List.mem_map.mp m
    obtain ⟨h1, h2, h3⟩ := h x mx
    exact List.mem_flatMap.mpr ⟨x.a, h1, List.mem_flatMap.mpr ⟨x.l, h2, List.mem_map.mpr ⟨x.b, h3, rfl⟩⟩⟩
  rwa [List.length_map] at this
end Rw
set_option Elab.async false
set_option linter.all false
set_option maxRecDepth 100000
set_option maxHeartbeats 8000000
set_option exponentiation.threshold 9000
/-! Rw, part four: the machine of pieces, made. -/
namespace Rw
open PySem PySem.Spec L2 Mo Lw Pw Qw
end Rw
set_option Elab.async false
set_option linter.all false
set_option maxRecDepth 100000
set_option maxHeartbeats 8000000
set_option exponentiation.threshold 9000
/-! Rw, part five: pieces by the law's own cuts. -/
namespace Rw
open PySem PySem.Spec L2 Mo Lw Pw Qw
end Rw
set_option Elab.async false
set_option linter.all false
set_option maxRecDepth 100000
set_option maxHeartbeats 8000000
set_option exponentiation.threshold 9000
/-! Rw, part six: one price for all arcs; == of machines. -/
namespace Rw
open PySem PySem.Spec L2 Mo Lw Pw Qw
end Rw
set_option Elab.async false
set_option linter.all false
set_option maxRecDepth 100000
set_option maxHeartbeats 4000000
set_option exponentiation.threshold 9000
/-! Sw, part one: new names for pairs of states. -/
namespace Sw
open PySem PySem.Spec L2 Mo Lw Pw Qw Rw
abbrev SS2 := Str × Str
theorem sortS_perm (xs : List Str) : (sortS xs).Perm xs := List.mergeSort_perm _ _
theorem map_nodup2 {α β : Type} {f : α → β} : ∀ {xs : List α}, xs.Nodup → (∀ x ∈ xs, ∀ y ∈ xs, f x = f y → x = y) → (xs.map f).Nodup
  | [], _, _ => List.nodup_nil
  | x :: r, nd, inj => by
    rw [List.map_cons, List.nodup_cons]
    obtain ⟨h1, h2⟩ := List.nodup_cons.mp nd
    refine ⟨fun m => ?_, map_nodup2 h2 fun a ma b mb => inj a (List.mem_cons_of_mem _ ma) b (List.mem_cons_of_mem _ mb)⟩
    obtain ⟨y, my, e⟩ := List.mem_map.mp m
    have := inj y (List.mem_cons_of_mem _ my) x List.mem_cons_self e
    rw [this] at my
    exact h1 my
def prs (A B : List Str) : List SS2 := A.flatMap fun a => B.map fun b => (a, b)
theorem mem_prs {A B : List Str} {z : SS2} : z ∈ prs A B ↔ z.1 ∈ A ∧ z.2 ∈ B := by
  unfold prs
  rw [List.mem_flatMap]
  constructor
  · rintro ⟨a, ma, m⟩
    obtain ⟨b, mb, rfl⟩ := List.mem_map.mp m
    exact ⟨ma, mb⟩
  · rintro ⟨ma, mb⟩
    exact ⟨z.1, ma, List.mem_map.mpr ⟨z.2, mb, rfl⟩⟩
theorem prs_len (A B : List Str) : (prs A B).length = A.length * B.length := by
  unfold prs
  induction A with
  | nil => simp
  | cons a A ih => rw [List.flatMap_cons, List.length_append, ih, List.length_map, List.length_cons, Nat.succ_mul, Nat.add_comm]
theorem prs_nodup {A B : List Str} (hA : A.Nodup) (hB : B.Nodup) : (prs A B).Nodup := by
  unfold prs
  induction A with
  | nil => exact List.nodup_nil
  | cons a A ih =>
    obtain ⟨h1, h2⟩ := List.nodup_cons.mp hA
    rw [List.flatMap_cons]
    refine List.nodup_append.mpr ⟨?_, ih h2, fun x mx y my e => ?_⟩
    · refine List.pairwise_map.mpr (hB.imp fun {x y} n e => n ?_)
      exact (Prod.mk.inj e).2
    · subst e
      obtain ⟨b, _, rfl⟩ := List.mem_map.mp mx
      exact h1 (mem_prs.mp my).1
def lp (fd : List (SS2 × Str)) (k : SS2) : Option Str := (fd.find? fun z => decide (z.1 = k)).map (·.2)
theorem lp_mem {k : SS2} {v : Str} : ∀ {fd : List (SS2 × Str)}, (fd.map (·.1)).Nodup → (k, v) ∈ fd → lp fd k = some v
  | [], _, m => nomatch m
  | z :: r, nd, m => by
    rw [List.map_cons, List.nodup_cons] at nd
    unfold lp
    rw [List.find?_cons]
    rcases List.mem_cons.mp m with e | m
    · cases e
      simp
    · have n : ¬ z.1 = k := fun e => nd.1 (List.mem_map.mpr ⟨_, m, e.symm⟩)
      rw [decide_eq_false n]
      exact lp_mem nd.2 m
/-- the names behind each other -/
def qp (ss : List SS2) : List (SS2 × Str) := ss.zipIdx 0 |>.map fun z => (z.1, qn z.2)
theorem qp_keys (ss : List SS2) : (qp ss).map (·.1) = ss := by
  unfold qp
  rw [List.map_map]
  show (ss.zipIdx 0).map (fun z => z.1) = ss
  simp
def nmP (ss : List SS2) (x : SS2) : Str := (lp (qp ss) x).getD "qa"
theorem nmP_of {ss : List SS2} (nd : ss.Nodup) {x : SS2} (m : x ∈ ss) : ∃ i, ss[i]? = some x ∧ i < ss.length ∧ lp (qp ss) x = some (nmP ss x) ∧ nmP ss x = qn i := by
  obtain ⟨i, hi⟩ := List.mem_iff_getElem?.mp m
  have e : lp (qp ss) x = some (qn i) := by
    refine lp_mem (by rw [qp_keys]; exact nd) ?_
    unfold qp
    refine List.mem_map.mpr ⟨(x, i), ?_, rfl⟩
    exact List.mem_iff_getElem?.mpr ⟨i, by rw [List.getElem?_zipIdx, hi]; simp⟩
  obtain ⟨hl, _⟩ := List.getElem?_eq_some_iff.mp hi
  refine ⟨i, hi, hl, ?_, ?_⟩ <;> (unfold nmP; rw [e]; rfl)
theorem nmP_inj {ss : List SS2} (nd : ss.Nodup) (hs : ss.length ≤ 24) {x y : SS2} (mx : x ∈ ss) (my : y ∈ ss) (h : nmP ss x = nmP ss y) : x = y := by
  obtain ⟨i, hi, li, _, ei⟩ := nmP_of nd mx
  obtain ⟨j, hj, lj, _, ej⟩ := nmP_of nd my
  rw [ei, ej] at h
  have := qn_inj _ _ (by omega) (by omega) h
  subst this
  rw [hi] at hj
  exact Option.some.inj hj
theorem nmP_pool {ss : List SS2} (nd : ss.Nodup) (hs : ss.length ≤ 24) {x : SS2} (m : x ∈ ss) : nmP ss x ∈ namePool := by
  obtain ⟨i, hi, li, _, ei⟩ := nmP_of nd m
  rw [ei]
  exact qn_pool _ (by omega)
/-- names that are sorted -/
theorem nmP_names {ss fs : List SS2} (nd : ss.Nodup) (hs : ss.length ≤ 24) (sub : ∀ x ∈ fs, x ∈ ss) (nf : fs.Nodup) (ne : fs ≠ []) : NamesOk (sortS (fs.map (nmP ss))) := by
  have nm : (fs.map (nmP ss)).Nodup := map_nodup2 nf fun x mx y my e => nmP_inj nd hs (sub x mx) (sub y my) e
  have pm := sortS_perm (fs.map (nmP ss))
  have lf : fs.length ≤ ss.length := by
    have key : ∀ {us vs : List SS2}, us.Nodup → (∀ x ∈ us, x ∈ vs) → us.length ≤ vs.length := fun {us vs} n s => by
      induction us generalizing vs with
      | nil => exact Nat.zero_le _
      | cons x us ih =>
        obtain ⟨h1, h2⟩ := List.nodup_cons.mp n
        have m := s x List.mem_cons_self
        have := ih (vs := vs.erase x) h2 fun y my => (List.mem_erase_of_ne fun e : y = x => h1 (e ▸ my)).mpr (s y (List.mem_cons_of_mem _ my))
        rw [List.length_erase_of_mem m] at this
        have p := List.length_pos_of_mem m
        simp
        omega
    exact key nf sub
  refine ⟨sortS_lt nm, fun x m => ?_, fun e => ?_, ?_⟩
  · obtain ⟨y, my, rfl⟩ := List.mem_map.mp (pm.subset m)
    exact nmP_pool nd hs (sub y my)
  · have := pm.length_eq
    rw [e, List.length_map] at this
    exact ne (List.length_eq_zero_iff.mp this.symm)
  · rw [pm.length_eq, List.length_map]
    omega
/-! ### made_names, the law's names, named_ends -/
end Sw
set_option Elab.async false
set_option linter.all false
set_option maxRecDepth 100000
set_option maxHeartbeats 8000000
set_option exponentiation.threshold 9000
/-! Sw, part two: the sum of two machines. -/
namespace Sw
open PySem PySem.Spec L2 Mo Lw Pw Qw Rw
def nm2 (p q : Pl) (a b : Str) : Str := nmP (prs p.states q.states) (a, b)
def mkZ (f : Str → Str → Str) (x y : Arc) : Arc := ⟨f x.a y.a, x.l, f x.b y.b, x.p + y.p⟩
def rowA (f : Str → Str → Str) (ys : List Arc) (x : Arc) : List Arc := (ys.filter fun y => decide (y.l = x.l)).map (mkZ f x)
def sumA (f : Str → Str → Str) (xs ys : List Arc) : List Arc := xs.flatMap (rowA f ys)
def sumF (p q : Pl) : List Str := sortS ((prs p.fs q.fs).map (nmP (prs p.states q.states)))
def sumL (p q : Pl) : List Str := sortS ((prs p.ls q.ls).map (nmP (prs p.states q.states)))
def sumPl (p q : Pl) (zs : List Arc) : Pl := ⟨sumF p q, sumL p q, zs⟩
theorem mem_sumA {f : Str → Str → Str} {xs ys : List Arc} {z : Arc} : z ∈ sumA f xs ys ↔ ∃ x ∈ xs, ∃ y ∈ ys, y.l = x.l ∧ z = mkZ f x y := by
  unfold sumA rowA
  rw [List.mem_flatMap]
  constructor
  · rintro ⟨x, mx, m⟩
    obtain ⟨y, my, rfl⟩ := List.mem_map.mp m
    obtain ⟨m1, m2⟩ := List.mem_filter.mp my
    exact ⟨x, mx, y, m1, of_decide_eq_true m2, rfl⟩
  · rintro ⟨x, mx, y, my, e, rfl⟩
    exact ⟨x, mx, List.mem_map.mpr ⟨y, List.mem_filter.mpr ⟨my, decide_eq_true e⟩, rfl⟩⟩
theorem rowA_len {f : Str → Str → Str} (ys : List Arc) (x : Arc) : (rowA f ys x).length ≤ ys.length := by
  unfold rowA
  rw [List.length_map]
  exact List.length_filter_le _ _
theorem sumA_len {f : Str → Str → Str} (xs ys : List Arc) : (sumA f xs ys).length ≤ xs.length * ys.length := by
  unfold sumA
  induction xs with
  | nil => simp
  | cons x xs ih =>
    have := rowA_len (f := f) ys x
    rw [List.flatMap_cons, List.length_append, List.length_cons, Nat.succ_mul]
    omega
def Inj2 (f : Str → Str → Str) (A B : List Str) : Prop := ∀ a ∈ A, ∀ b ∈ B, ∀ a' ∈ A, ∀ b' ∈ B, f a b = f a' b' → a = a' ∧ b = b'
theorem sumA_nd {f : Str → Str → Str} {xs ys : List Arc} {A B : List Str} (inj : Inj2 f A B) (hx : ∀ x ∈ xs, x.a ∈ A ∧ x.b ∈ A) (hy : ∀ y ∈ ys, y.a ∈ B ∧ y.b ∈ B) (nx : xs.Pairwise fun x y => ¬ sameA x y.a y.l y.b) (ny : ys.Pairwise fun x y => ¬ sameA x y.a y.l y.b) :
    (sumA f xs ys).Pairwise fun x y => ¬ sameA x y.a y.l y.b := by
  unfold sumA rowA
  rw [List.pairwise_flatMap]
  refine ⟨fun x mx => ?_, ?_⟩
  · rw [List.pairwise_map]
    refine (ny.filter _).imp_of_mem fun {y y'} my my' n s => n ?_
    obtain ⟨m1, l1⟩ := List.mem_filter.mp my
    obtain ⟨m2, l2⟩ := List.mem_filter.mp my'
    obtain ⟨s1, s2, s3⟩ := s
    have h1 := inj _ (hx x mx).1 _ (hy y m1).1 _ (hx x mx).1 _ (hy y' m2).1 s1
    have h2 := inj _ (hx x mx).2 _ (hy y m1).2 _ (hx x mx).2 _ (hy y' m2).2 s3
    exact ⟨h1.2, (of_decide_eq_true l1).trans (of_decide_eq_true l2).symm, h2.2⟩
  · refine nx.imp_of_mem fun {x x'} mx mx' n z mz z' mz' s => n ?_
    obtain ⟨y, my, rfl⟩ := List.mem_map.mp mz
    obtain ⟨y', my', rfl⟩ := List.mem_map.mp mz'
    obtain ⟨m1, l1⟩ := List.mem_filter.mp my
    obtain ⟨m2, l2⟩ := List.mem_filter.mp my'
    obtain ⟨s1, s2, s3⟩ := s
    have h1 := inj _ (hx x mx).1 _ (hy y m1).1 _ (hx x' mx').1 _ (hy y' m2).1 s1
    have h2 := inj _ (hx x mx).2 _ (hy y m1).2 _ (hx x' mx').2 _ (hy y' m2).2 s3
    exact ⟨h1.1, s2, h2.1⟩
structure Two (p q : Pl) (n m : Nat) : Prop where
  op : PlOk p n
  oq : PlOk q m
  st : p.states.length * q.states.length ≤ 24
  ar : p.arcs.length * q.arcs.length ≤ 1000
section
variable {p q : Pl} {n m : Nat}
theorem Two.nd (h : Two p q n m) : (prs p.states q.states).Nodup := prs_nodup sortU_nodup sortU_nodup
theorem Two.len (h : Two p q n m) : (prs p.states q.states).length ≤ 24 := by rw [prs_len]; exact h.st
theorem Two.inj (h : Two p q n m) : Inj2 (nm2 p q) p.states q.states := fun a ma b mb a' ma' b' mb' e => by
  have := nmP_inj h.nd h.len (x := (a, b)) (y := (a', b')) (mem_prs.mpr ⟨ma, mb⟩) (mem_prs.mpr ⟨ma', mb'⟩) e
  exact Prod.mk.inj this
theorem Two.swap (h : Two p q n m) : Two q p m n := ⟨h.oq, h.op, by rw [Nat.mul_comm]; exact h.st, by rw [Nat.mul_comm]; exact h.ar⟩
theorem Two.names (h : Two p q n m) : NamesOk (sortS ((prs p.states q.states).map (nmP (prs p.states q.states)))) := by
  refine nmP_names h.nd h.len (fun x m => m) h.nd fun e => ?_
  have h1 : p.states ≠ [] := fun z => by
    cases f : p.fs with
    | nil => exact h.op.fs.ne f
    | cons a r =>
      have : a ∈ p.states := Rw.fs_states (by rw [f]; exact List.mem_cons_self)
      rw [z] at this
      cases this
  have h2 : q.states ≠ [] := fun z => by
    cases f : q.fs with
    | nil => exact h.oq.fs.ne f
    | cons a r =>
      have : a ∈ q.states := Rw.fs_states (by rw [f]; exact List.mem_cons_self)
      rw [z] at this
      cases this
  have := congrArg List.length e
  rw [prs_len] at this
  have a1 := List.length_pos_iff.mpr h1
  have a2 := List.length_pos_iff.mpr h2
  have := Nat.mul_pos a1 a2
  simp at *
  omega
theorem prs_ne {A B : List Str} (h1 : A ≠ []) (h2 : B ≠ []) : prs A B ≠ [] := fun e => by
  have := congrArg List.length e
  rw [prs_len] at this
  have a1 := List.length_pos_iff.mpr h1
  have a2 := List.length_pos_iff.mpr h2
  have := Nat.mul_pos a1 a2
  simp at *
  omega
theorem Two.sub (h : Two p q n m) {F G : List Str} (h1 : ∀ x ∈ F, x ∈ p.states) (h2 : ∀ x ∈ G, x ∈ q.states) : ∀ x ∈ prs F G, x ∈ prs p.states q.states := fun x m => mem_prs.mpr ⟨h1 _ (mem_prs.mp m).1, h2 _ (mem_prs.mp m).2⟩
theorem Two.fsOk (h : Two p q n m) : NamesOk (sumF p q) := nmP_names h.nd h.len (h.sub (fun _ m => Rw.fs_states m) fun _ m => Rw.fs_states m) (prs_nodup (names_nd h.op.fs) (names_nd h.oq.fs)) (prs_ne h.op.fs.ne h.oq.fs.ne)
theorem Two.lsOk (h : Two p q n m) : NamesOk (sumL p q) := nmP_names h.nd h.len (h.sub (fun _ m => Rw.ls_states m) fun _ m => Rw.ls_states m) (prs_nodup (names_nd h.op.ls) (names_nd h.oq.ls)) (prs_ne h.op.ls.ne h.oq.ls.ne)
theorem mem_sumF {s : Str} : s ∈ sumF p q ↔ ∃ a ∈ p.fs, ∃ b ∈ q.fs, s = nm2 p q a b := by
  unfold sumF
  rw [(sortS_perm _).mem_iff, List.mem_map]
  constructor
  · rintro ⟨⟨a, b⟩, m, rfl⟩
    exact ⟨a, (mem_prs.mp m).1, b, (mem_prs.mp m).2, rfl⟩
  · rintro ⟨a, ma, b, mb, rfl⟩
    exact ⟨(a, b), mem_prs.mpr ⟨ma, mb⟩, rfl⟩
theorem mem_sumL {s : Str} : s ∈ sumL p q ↔ ∃ a ∈ p.ls, ∃ b ∈ q.ls, s = nm2 p q a b := by
  unfold sumL
  rw [(sortS_perm _).mem_iff, List.mem_map]
  constructor
  · rintro ⟨⟨a, b⟩, m, rfl⟩
    exact ⟨a, (mem_prs.mp m).1, b, (mem_prs.mp m).2, rfl⟩
  · rintro ⟨a, ma, b, mb, rfl⟩
    exact ⟨(a, b), mem_prs.mpr ⟨ma, mb⟩, rfl⟩
theorem Two.zs (h : Two p q n m) {zs : List Arc} (pm : zs.Perm (sumA (nm2 p q) p.arcs q.arcs)) : zs.Pairwise fun x y => ¬ sameA x y.a y.l y.b :=
  nd_perm (sumA_nd h.inj (fun x m => Rw.arc_states m) (fun x m => Rw.arc_states m) (PlOk.nd h.op) (PlOk.nd h.oq)) pm
theorem Two.few (h : Two p q n m) {zs : List Arc} (pm : zs.Perm (sumA (nm2 p q) p.arcs q.arcs)) : zs.length ≤ 1000 := by
  rw [pm.length_eq]
  exact Nat.le_trans (sumA_len _ _) h.ar
/-- the sum is a machine where no price is too great -/
theorem Two.ok (h : Two p q n m) {zs : List Arc} (pm : zs.Perm (sumA (nm2 p q) p.arcs q.arcs)) (h9 : ∀ z ∈ sumA (nm2 p q) p.arcs q.arcs, z.p ≤ 9) : PlOk (sumPl p q zs) 24 := by
  have nn := h.names
  have memn : ∀ {a b : Str}, a ∈ p.states → b ∈ q.states → nm2 p q a b ∈ sortS ((prs p.states q.states).map (nmP (prs p.states q.states))) := fun {a b} ma mb =>
    (sortS_perm _).mem_iff.mpr (List.mem_map.mpr ⟨(a, b), mem_prs.mpr ⟨ma, mb⟩, rfl⟩)
  obtain ⟨_, _, _, _, _, okp⟩ := h.op.all
  obtain ⟨_, _, _, _, _, okq⟩ := h.oq.all
  refine ⟨h.fsOk, h.lsOk, ⟨_, nn, nn.len, fun x mx => ?_, fun x mx => ?_, h.zs pm, fun z mz => ?_⟩, h.few pm⟩
  · obtain ⟨a, ma, b, mb, rfl⟩ := mem_sumF.mp mx
    exact memn (Rw.fs_states ma) (Rw.fs_states mb)
  · obtain ⟨a, ma, b, mb, rfl⟩ := mem_sumL.mp mx
    exact memn (Rw.ls_states ma) (Rw.ls_states mb)
  · have mz' := pm.subset mz
    have z9 := h9 z mz'
    obtain ⟨x, mx, y, my, e, rfl⟩ := mem_sumA.mp mz'
    have a1 := okp.at' x mx
    have a2 := okq.at' y my
    refine ⟨memn (Rw.arc_states mx).1 (Rw.arc_states my).1, a1.2.1, memn (Rw.arc_states mx).2 (Rw.arc_states my).2, ?_, z9⟩
    show 0 ≤ x.p + y.p
    have := a1.2.2.2.1
    have := a2.2.2.2.1
    omega
end
/-! ### comprehensions over pairs -/
end Sw
set_option Elab.async false
set_option linter.all false
set_option maxRecDepth 100000
set_option maxHeartbeats 8000000
set_option exponentiation.threshold 9000
/-! Sw, part three: the law's own sum. -/
namespace Sw
open PySem PySem.Spec L2 Mo Lw Pw Qw Rw
end Sw
set_option Elab.async false
set_option linter.all false
set_option maxRecDepth 100000
set_option maxHeartbeats 8000000
set_option exponentiation.threshold 9000
/-! Sw, part four: a + b of machines, or why not. -/
namespace Sw
open PySem PySem.Spec L2 Mo Lw Pw Qw Rw
noncomputable def mTold (adr : Str → Addr) (Fboth : FX) : M Oc := (seq (mTry adr ["InvalidOperation"] (tabOf [("InvalidOperation", "InvalidOperation")]) (seq (mRet (mFx adr Fboth (mCons (mName 0) (mCons (mName 1) (ret []))))) (ret .nx)) (("InvalidOperation", (seq (mRet (ret .non)) (ret .nx))) :: [])) (ret .nx))
/-! ### a + b -/
def Fits (p q : Pl) : Prop := ∀ z ∈ sumA (nm2 p q) p.arcs q.arcs, z.p ≤ 9
def AddS (C : Addr) (F : FD) : Prop := ∀ (p q : Pl) (n m : Nat) (d e : D) (c : C3), Two p q n m → Mach C p n d → Mach C q m e → Fits p q → ∃ zs r, zs.Perm (sumA (nm2 p q) p.arcs q.arcs) ∧ F [d, e] c = some (r, c) ∧ Mach C (sumPl p q zs) 24 r
structure AddXS (C : Addr) (F : FX) : Prop where
  ok : ∀ (p q : Pl) (n m : Nat) (d e : D) (c : C3), Two p q n m → Mach C p n d → Mach C q m e → Fits p q → ∃ zs r, zs.Perm (sumA (nm2 p q) p.arcs q.arcs) ∧ F [d, e] c = some (.inl r, c) ∧ Mach C (sumPl p q zs) 24 r
  er : ∀ (p q : Pl) (n m : Nat) (d e : D) (c : C3), Two p q n m → Mach C p n d → Mach C q m e → ¬ Fits p q → F [d, e] c = some (.inr "InvalidOperation", c)
structure ToldS (C : Addr) (F : FD) : Prop where
  ok : AddS C F
  er : ∀ (p q : Pl) (n m : Nat) (d e : D) (c : C3), Two p q n m → Mach C p n d → Mach C q m e → ¬ Fits p q → F [d, e] c = some (.non, c)
theorem told_spec {adr : Str → Addr} {C : Addr} {Fb : FX} (hb : AddXS C Fb) : ToldS C (runM false 2 2 (mTold adr Fb)) := by
  refine ⟨fun p q n m d e c tw h1 h2 fit => ?_, fun p q n m d e c tw h1 h2 fit => ?_⟩
  · obtain ⟨zs, r, pm, a2, mr⟩ := hb.ok p q n m d e c tw h1 h2 fit
    refine ⟨zs, r, pm, run_pure rfl ?_, mr⟩
    unfold mTold
    refine ev_seq.mpr (ev_try ?_)
    simp
    refine ev_fx ?_
    simp [ev_name_v, a2]
  · have a2 := hb.er p q n m d e c tw h1 h2 fit
    refine run_pure rfl ?_
    unfold mTold
    refine ev_seq.mpr (ev_try_er (n := "InvalidOperation") (List.mem_singleton.mpr rfl) (by decide +kernel) (er_seq1 (er_bind1 (er_fx ?_))))
    simp [ev_name_v, a2]
end Sw
set_option Elab.async false
set_option linter.all false
set_option maxRecDepth 100000
set_option maxHeartbeats 8000000
set_option exponentiation.threshold 9000
/-! Rw, part seven: the price of a text. -/
namespace Rw
open PySem PySem.Spec L2 Mo Lw Pw Qw
end Rw
set_option Elab.async false
set_option linter.all false
set_option maxRecDepth 100000
set_option maxHeartbeats 8000000
set_option exponentiation.threshold 9000
/-! Sw, part five: what a sum takes, and how often. -/
namespace Sw
open PySem PySem.Spec L2 Mo Lw Pw Qw Rw
/-! ### the machine of one state that takes all texts -/
/-! ### how many runs -/
end Sw
set_option Elab.async false
set_option linter.all false
set_option maxRecDepth 100000
set_option maxHeartbeats 8000000
set_option exponentiation.threshold 9000
/-! Sw, part six: runs counted, by the program and by the law. -/
namespace Sw
open PySem PySem.Spec L2 Mo Lw Pw Qw Rw
/-! ### dicts whose keys are tuples of numbers -/
end Sw
set_option Elab.async false
set_option linter.all false
set_option maxRecDepth 100000
set_option maxHeartbeats 8000000
set_option exponentiation.threshold 9000
/-! Sw, part seven: runs_of, and the law's number of runs. -/
namespace Sw
open PySem PySem.Spec L2 Mo Lw Pw Qw Rw
end Sw
set_option Elab.async false
set_option linter.all false
set_option maxRecDepth 100000
set_option maxHeartbeats 8000000
set_option exponentiation.threshold 9000
/-! Rw, part nine: what the machine of pieces takes. -/
namespace Rw
open PySem PySem.Spec L2 Mo Lw Pw Qw
end Rw
set_option Elab.async false
set_option linter.all false
set_option maxRecDepth 100000
set_option maxHeartbeats 8000000
set_option exponentiation.threshold 9000
/-! Rw, part ten: all texts of some letters. -/
namespace Rw
open PySem PySem.Spec L2 Mo Lw Pw Qw
def jn (ls : List Str) : Str := ls.foldl (fun x y => x ++ y) ""
def lay (L : List Str) : Nat → List (List Str)
  | 0 => [[]]
  | k + 1 => (lay L k).flatMap fun w => L.map fun l => w ++ [l]
def wds (L : List Str) : Nat → List (List Str)
  | 0 => [[]]
  | k + 1 => wds L k ++ lay L (k + 1)
end Rw
set_option Elab.async false
set_option linter.all false
set_option maxRecDepth 100000
set_option maxHeartbeats 8000000
set_option exponentiation.threshold 9000
/-! Sw, part eight: the law's own number of runs, lower prices, prices added, texts. -/
namespace Sw
open PySem PySem.Spec L2 Mo Lw Pw Qw Rw
/-! ### lower prices -/
/-! ### all texts -/
end Sw
set_option Elab.async false
set_option linter.all false
set_option maxRecDepth 100000
set_option maxHeartbeats 16000000
set_option exponentiation.threshold 9000
/-! Sw, part nine: one pair of machines. -/
namespace Sw
open PySem PySem.Spec L2 Mo Lw Pw Qw Rw
/-! ### a machine that is written or drawn, small -/
end Sw
set_option Elab.async false
set_option linter.all false
set_option maxRecDepth 100000
set_option maxHeartbeats 16000000
set_option exponentiation.threshold 9000
/-! Sw, part ten: the law. -/
namespace Sw
open PySem PySem.Spec L2 Mo Lw Pw Qw Rw
end Sw
set_option Elab.async false
set_option linter.all false
set_option maxRecDepth 100000
set_option maxHeartbeats 4000000
set_option exponentiation.threshold 9000
/-! Yw, part two: patterns as trees; loops over their signs. -/
namespace Yw
open PySem PySem.Spec L2 Mo Lw Pw
inductive T where
  | nil | ch (c : Nat) (r : T) | part (p r : T)
namespace T
def sg : T → List Nat
  | nil => []
  | ch c r => c :: sg r
  | part p r => 40 :: (sg p ++ 41 :: 35 :: sg r)
def app : T → T → T
  | nil, b => b
  | ch c r, b => ch c (app r b)
  | part p r, b => part p (app r b)
def ok : T → Prop
  | nil => True
  | ch c r => 97 ≤ c ∧ c ≤ 122 ∧ ok r
  | part p r => p ≠ nil ∧ ok p ∧ ok r
def dep : T → Nat
  | nil => 0
  | ch _ r => dep r
  | part p r => max (dep p + 1) (dep r)
def pl : T → List Nat
  | nil => []
  | ch c r => c :: pl r
  | part p r => pl p ++ pl r
def wt (e : Nat) : T → Nat
  | nil => 0
  | ch _ r => e + wt e r
  | part p r => wt (2 * e) p + wt e r
def pts : T → List (List Nat)
  | nil => []
  | ch _ r => pts r
  | part p r => pts p ++ sg p :: pts r
def at_ (n : Nat) : T → List Nat
  | nil => []
  | ch c r => c :: at_ n r
  | part p r => (List.replicate n (at_ n p)).flatten ++ at_ n r
def ln (n : Nat) : T → Nat
  | nil => 0
  | ch _ r => 1 + ln n r
  | part p r => ln n p * n + ln n r
theorem sg_app : ∀ a b : T, sg (app a b) = sg a ++ sg b
  | nil, _ => rfl
  | ch c r, b => by simp [app, sg, sg_app r b]
  | part p r, b => by simp [app, sg, sg_app r b]
theorem ok_app : ∀ {a b : T}, ok a → ok b → ok (app a b)
  | nil, _, _, h => h
  | ch c r, b, ⟨h1, h2, h3⟩, h => ⟨h1, h2, ok_app h3 h⟩
  | part p r, b, ⟨h1, h2, h3⟩, h => ⟨h1, h2, ok_app h3 h⟩
theorem dep_app : ∀ a b : T, dep (app a b) = max (dep a) (dep b)
  | nil, b => by simp [app, dep]
  | ch c r, b => by simp [app, dep, dep_app r b]
  | part p r, b => by simp [app, dep, dep_app r b, Nat.max_assoc]
theorem ln_app (n : Nat) : ∀ a b : T, ln n (app a b) = ln n a + ln n b
  | nil, b => by simp [app, ln]
  | ch c r, b => by simp [app, ln, ln_app n r b, Nat.add_assoc]
  | part p r, b => by simp [app, ln, ln_app n r b, Nat.add_assoc]
theorem at_len (n : Nat) : ∀ a : T, (at_ n a).length = ln n a
  | nil => rfl
  | ch c r => by simp [at_, ln, at_len n r, Nat.add_comm]
  | part p r => by simp [at_, ln, at_len n p, at_len n r, Nat.mul_comm]
theorem ln_mono {m n : Nat} (h : m ≤ n) : ∀ a : T, ln m a ≤ ln n a
  | nil => Nat.le_refl _
  | ch c r => Nat.add_le_add_left (ln_mono h r) 1
  | part p r => Nat.add_le_add (Nat.mul_le_mul (ln_mono h p) h) (ln_mono h r)
theorem app_nil {a b : T} (h : app a b = nil) : a = nil ∧ b = nil := by
  cases a with
  | nil => exact ⟨rfl, h⟩
  | ch c r => cases h
  | part p r => cases h
theorem sg_nil {a : T} (h : sg a = []) : a = nil := by
  cases a with
  | nil => rfl
  | ch c r => cases h
  | part p r => cases h
theorem pl_le : ∀ a : T, (pl a).length ≤ (sg a).length
  | nil => Nat.le_refl _
  | ch c r => Nat.succ_le_succ (pl_le r)
  | part p r => by
    have := pl_le p
    have := pl_le r
    simp [pl, sg]
    omega
end T
open T
/-! ### one sign -/
theorem e40 : ("(" : Str) = ⟨#[40]⟩ := by decide +kernel
theorem e41 : (")" : Str) = ⟨#[41]⟩ := by decide +kernel
theorem e35 : ("#" : Str) = ⟨#[35]⟩ := by decide +kernel
theorem one_ok {c : Nat} (h : c ≤ 122) : PyData.strOk ⟨#[c]⟩ = true := by
  simp [PyData.strOk]
  omega
theorem one_eq {c d : Nat} : ((⟨#[c]⟩ : Str) == ⟨#[d]⟩) = decide (c = d) := by
  by_cases h : c = d
  · subst h
    simp
  · rw [decide_eq_false h]
    apply beq_eq_false_iff_ne.mpr
    intro e
    have := congrArg (fun s : Str => s.cps.getD 0 0) e
    exact h (by simpa using this)
theorem q1 {neg : Bool} {c d : Nat} (hc : c ≤ 122) (hd : d ≤ 122) : fEq neg (.str ⟨#[c]⟩) (.str ⟨#[d]⟩) = some (.bl (if neg then !decide (c = d) else decide (c = d))) := by
  rw [fEq_str (one_ok hc) (one_ok hd), one_eq]
def chs (l : List Nat) : List D := l.map fun c => .str ⟨#[c]⟩
theorem chars_S (l : List Nat) : chars (S l) = chs l := by unfold chars chs; rw [S_cps]
theorem chs_part (p r : T) (rest : List D) : chs (sg (part p r)) ++ rest = .str ⟨#[40]⟩ :: (chs (sg p) ++ (.str ⟨#[41]⟩ :: .str ⟨#[35]⟩ :: (chs (sg r) ++ rest))) := by
  simp [sg, chs]
theorem ev_lcons {f : D → G → Option G} {mb : M Oc} {d : D} {r : List D} {g g1 : G} {Q : Oc → G → Prop} (h : f d g = some g1) (hb : ∀ I : G → Prop, (∀ g2, Ev (mLoop f mb r) g2 Q → I g2) → Ev mb g1 (Mo.Turn I Q)) : Ev (mLoop f mb (d :: r)) g Q := by
  obtain ⟨o, g2, e2, q⟩ := hb (fun g2 => Ev (mLoop f mb r) g2 Q) fun _ h => h
  have key : ∀ x, mLoop f mb (d :: r) g = x → (∃ a g', x = some (.ok a g') ∧ Q a g') → Ev (mLoop f mb (d :: r)) g Q := fun x e ⟨a, g', e', q⟩ => ⟨a, g', e.trans e', q⟩
  refine key _ rfl ?_
  simp only [mLoop, h, e2]
  cases o with
  | nx => exact q
  | ct => exact q
  | bk => exact ⟨.nx, g2, rfl, q⟩
  | rt d => exact ⟨_, g2, rfl, q⟩
  | rto d => exact ⟨_, g2, rfl, q⟩
theorem ev_lnil {f : D → G → Option G} {mb : M Oc} {g : G} {Q : Oc → G → Prop} (h : Q .nx g) : Ev (mLoop f mb []) g Q := ev_ret.mpr h
/-! ### depth_of -/
noncomputable def bDepth : M Oc := (seq (mIf (mT2 (fEq false) (mName 3) (ret (.str "("))) (seq (mSet 2 (mBin uPlus (mName 2) (ret (.int 1)))) (seq (mSet 1 (mCall fMax2 (mCons (mName 1) (mCons (mName 2) (ret []))))) (ret .nx))) (seq (mIf (mT2 (fEq false) (mName 3) (ret (.str ")"))) (seq (mSet 2 (mBin uSub (mName 2) (ret (.int 1)))) (seq (mIf (mT2 uLt (mName 2) (ret (.int 0))) (seq (mRet (ret .non)) (ret .nx)) (ret .nx)) (ret .nx))) (ret .nx)) (ret .nx))) (ret .nx))
noncomputable def mDepth : M Oc := (seq (mSet 1 (ret (.int 0))) (seq (mSet 2 (ret (.int 0))) (seq (mFor (stName 3) (mIter (mName 0)) (bDepth)) (seq (mRet (mIf (mT2 (fEq false) (mName 2) (ret (.int 0))) (mName 1) (ret .non))) (ret .nx)))))
theorem loopDepth (x : D) {c : C3} {Q : Oc → G → Prop} : ∀ (t : T) (Dp d : Nat) (v : Sl) (rest : List D), d ≤ Dp → ok t → (∀ v', Ev (mLoop (stName 3) bDepth rest) ⟨[.v x, .v (.int (max Dp (d + dep t) : Nat)), .v (.int d), v'], c⟩ Q) →
    Ev (mLoop (stName 3) bDepth (chs (sg t) ++ rest)) ⟨[.v x, .v (.int Dp), .v (.int d), v], c⟩ Q
  | .nil, Dp, d, v, rest, hd, ho, h => by
    have := h v
    simpa [dep, hd, sg, chs, Nat.max_eq_left hd] using this
  | .ch a r, Dp, d, v, rest, hd, ⟨h1, h2, ho⟩, h => by
    refine ev_lcons rfl fun I hI => ?_
    simp [bDepth, ev_name_v, e40, e41, q1, h2, show ¬ a = 40 by omega, show ¬ a = 41 by omega, Mo.Turn]
    refine hI _ ?_
    exact loopDepth x r Dp d _ rest hd ho h
  | .part p r, Dp, d, v, rest, hd, ⟨h1, h2, ho⟩, h => by
    rw [chs_part]
    refine ev_lcons rfl fun I hI => ?_
    have em : ((if (Dp : Int) < (d : Int) + 1 then (d : Int) + 1 else Dp)) = ((max Dp (d + 1) : Nat) : Int) := by
      split <;> omega
    have em' : fMax2 [.int (Dp : Int), .int ((d : Int) + 1)] = some (.int ((max Dp (d + 1) : Nat) : Int)) := by
      rw [← em]
      rfl
    simp [bDepth, ev_name_v, e40, e41, q1, Mo.Turn, em']
    refine hI _ ?_
    have := loopDepth x p (max Dp (d + 1)) (d + 1) (.v (.str ⟨#[40]⟩)) (.str ⟨#[41]⟩ :: .str ⟨#[35]⟩ :: (chs (sg r) ++ rest)) (c := c) (Q := Q) (by omega) h2 fun v' => by
      refine ev_lcons rfl fun I hI => ?_
      have e1 : ((d + 1 : Nat) : Int) - 1 = d := by omega
      simp [bDepth, ev_name_v, e40, e41, q1, Mo.Turn, show ¬ ((d : Int) < 0) by omega]
      refine hI _ ?_
      refine ev_lcons rfl fun I hI => ?_
      simp [bDepth, ev_name_v, e40, e41, q1, Mo.Turn]
      refine hI _ ?_
      refine loopDepth x r _ d _ rest (by omega) ho fun v2 => ?_
      have e2 : max Dp (d + dep (.part p r)) = max (max Dp (d + 1 + dep p)) (d + dep r) := by simp only [dep]; omega
      have := h v2
      rw [e2] at this
      exact this
    exact this
def DepthS (F : FD) : Prop := ∀ (t : T) (c : C3), ok t → F [.str (S (sg t))] c = some (.int (dep t), c)
theorem depth_spec : DepthS (runM false 4 1 mDepth) := fun t c ho => by
  suffices hh : ∃ d c', runM false 4 1 mDepth [.str (S (sg t))] c = some (d, c') ∧ d = .int (dep t) ∧ c' = c by
    obtain ⟨d, c', e, rfl, rfl⟩ := hh
    exact e
  refine run_ev rfl ?_
  simp [mDepth, ev_name_v, chars_S]
  have := loopDepth (.str (S (sg t))) (c := c) (Q := After (seq (mRet (mIf (mT2 (fEq false) (mName 2) (ret (.int 0))) (mName 1) (ret .non))) (ret .nx)) (RetP fun d c' => d = .int (dep t) ∧ c' = c)) t 0 0 .un [] (Nat.le_refl _) ho fun v' => by
    refine ev_lnil ?_
    have e0 : fEq false (.int 0) (.int 0) = some (.bl true) := rfl
    simp [ev_name_v, e0]
  simpa using this
/-! ### weight_of -/
noncomputable def bWeight : M Oc := (seq (mIf (mT2 (fEq false) (mName 3) (ret (.str "("))) (seq (mSet 2 (mBin uMul (mName 2) (ret (.int 2)))) (ret .nx)) (seq (mIf (mT2 (fEq false) (mName 3) (ret (.str "#"))) (seq (mSet 2 (mBin uDiv (mName 2) (ret (.int 2)))) (ret .nx)) (seq (mIf (mT2 (fEq true) (mName 3) (ret (.str ")"))) (seq (mSet 1 (mBin uPlus (mName 1) (mName 2))) (ret .nx)) (ret .nx)) (ret .nx))) (ret .nx))) (ret .nx))
noncomputable def mWeight : M Oc := (seq (mSet 1 (ret (.int 0))) (seq (mSet 2 (ret (.int 1))) (seq (mFor (stName 3) (mIter (mName 0)) (bWeight)) (seq (mRet (mName 1)) (ret .nx)))))
theorem loopWeight (x : D) {c : C3} {Q : Oc → G → Prop} : ∀ (t : T) (w e : Nat) (v : Sl) (rest : List D), ok t → 0 < e → w + wt e t < 2 ^ 400 → e * 2 ^ dep t < 2 ^ 400 → (∀ v', Ev (mLoop (stName 3) bWeight rest) ⟨[.v x, .v (.int (w + wt e t : Nat)), .v (.int e), v'], c⟩ Q) →
    Ev (mLoop (stName 3) bWeight (chs (sg t) ++ rest)) ⟨[.v x, .v (.int w), .v (.int e), v], c⟩ Q
  | .nil, w, e, v, rest, ho, he, hw, hl, h => by
    have := h v
    simpa [wt, sg, chs] using this
  | .ch a r, w, e, v, rest, ⟨h1, h2, ho⟩, he, hw, hl, h => by
    refine ev_lcons rfl fun I hI => ?_
    simp [bWeight, ev_name_v, e40, e41, e35, q1, h2, show ¬ a = 40 by omega, show ¬ a = 41 by omega, show ¬ a = 35 by omega, Mo.Turn]
    refine hI _ ?_
    have hw' : w + e + wt e r < 2 ^ 400 := by simp only [wt] at hw; omega
    have := loopWeight x r (w + e) e (.v (.str ⟨#[a]⟩)) rest (c := c) (Q := Q) ho he hw' hl fun v' => by
      have := h v'
      simp only [wt, ← Nat.add_assoc] at this
      exact this
    exact this
  | .part p r, w, e, v, rest, ⟨h1, h2, ho⟩, he, hw, hl, h => by
    rw [chs_part]
    refine ev_lcons rfl fun I hI => ?_
    have hl2 : 2 * e * 2 ^ dep p < 2 ^ 400 := Nat.lt_of_le_of_lt (by
      have h1 : 2 ^ (dep p + 1) ≤ 2 ^ dep (.part p r) := Nat.pow_le_pow_right (by omega) (Nat.le_max_left _ _)
      have h2 : 2 * e * 2 ^ dep p = e * 2 ^ (dep p + 1) := by rw [Nat.pow_succ]; ac_rfl
      rw [h2]
      exact Nat.mul_le_mul_left e h1) hl
    have hl3 : e * 2 ^ dep r < 2 ^ 400 := Nat.lt_of_le_of_lt (Nat.mul_le_mul_left e (Nat.pow_le_pow_right (by omega) (Nat.le_max_right _ _))) hl
    have he4 : e < 2 ^ 400 := Nat.lt_of_le_of_lt (Nat.le_mul_of_pos_right e (Nat.two_pow_pos _)) hl3
    have em : uMul (.int (e : Int)) (.int 2) = some (.int ((2 * e : Nat) : Int)) := by
      have : (e : Int) * 2 = ((2 * e : Nat) : Int) := by omega
      rw [← this]
      refine uMul_int ?_
      have : (e : Int).natAbs.log2 < 400 := by
        rw [Int.natAbs_natCast]
        exact (Nat.log2_lt (by omega)).mpr he4
      have : (2 : Int).natAbs.log2 = 1 := by decide
      omega
    have ed : uDiv (.int ((2 * e : Nat) : Int)) (.int 2) = some (.int (e : Int)) := by
      rw [uDiv_int ⟨by omega, by decide⟩]
      congr 2
      omega
    simp [bWeight, ev_name_v, e40, e41, e35, q1, Mo.Turn, em]
    refine hI _ ?_
    simp only [wt] at hw
    have := loopWeight x p w (2 * e) (.v (.str ⟨#[40]⟩)) (.str ⟨#[41]⟩ :: .str ⟨#[35]⟩ :: (chs (sg r) ++ rest)) (c := c) (Q := Q) h2 (by omega) (by omega) hl2 fun v' => by
      refine ev_lcons rfl fun I hI => ?_
      simp [bWeight, ev_name_v, e40, e41, e35, q1, Mo.Turn]
      refine hI _ ?_
      refine ev_lcons rfl fun I hI => ?_
      have ed' : uDiv (.int (2 * (e : Int))) (.int 2) = some (.int (e : Int)) := by simpa using ed
      simp [bWeight, ev_name_v, e40, e41, e35, q1, Mo.Turn, ed']
      refine hI _ ?_
      have := loopWeight x r (w + wt (2 * e) p) e (.v (.str ⟨#[35]⟩)) rest (c := c) (Q := Q) ho he (by omega) hl3 fun v2 => by
        have := h v2
        simp only [wt, ← Nat.add_assoc] at this
        exact this
      simpa using this
    simpa using this
def WeightS (F : FD) : Prop := ∀ (t : T) (c : C3), ok t → wt 1 t < 2 ^ 400 → 2 ^ dep t < 2 ^ 400 → F [.str (S (sg t))] c = some (.int (wt 1 t), c)
theorem weight_spec : WeightS (runM false 4 1 mWeight) := fun t c ho h1 h2 => by
  suffices hh : ∃ d c', runM false 4 1 mWeight [.str (S (sg t))] c = some (d, c') ∧ d = .int (wt 1 t) ∧ c' = c by
    obtain ⟨d, c', e, rfl, rfl⟩ := hh
    exact e
  refine run_ev rfl ?_
  simp [mWeight, ev_name_v, chars_S]
  have := loopWeight (.str (S (sg t))) (c := c) (Q := After (seq (mRet (mName 1)) (ret .nx)) (RetP fun d c' => d = .int (wt 1 t) ∧ c' = c)) t 0 1 .un [] ho (by omega) (by omega) (by omega) fun v' => by
    refine ev_lnil ?_
    simp [ev_name_v]
  simpa using this
/-! ### parts_of -/
noncomputable def bParts : M Oc := (seq (mIf (mT2 (fEq false) (mName 4) (ret (.str "("))) (seq (mExpr (mLm1 1 fApp (mBin uPlus (mName 3) (ret (.int 1))))) (ret .nx)) (seq (mIf (mT2 (fEq false) (mName 4) (ret (.str ")"))) (seq (mExpr (mLm1 2 fApp (mSlU (mName 0) (mPart (mLm0 1 fPop)) (mPart (mName 3))))) (ret .nx)) (ret .nx)) (ret .nx))) (ret .nx))
noncomputable def mParts : M Oc := (seq (mSetO 1 (mLst (ret []))) (seq (mSetO 2 (mLst (ret []))) (seq (mFor (stTup 2 (stCons (stName 3) (stCons (stName 4) stNil))) (mWk fEnumX (mCons (mName 0) (ret []))) (bParts)) (seq (mRet (mCall fTuple (mCons (mName 2) (ret [])))) (ret .nx)))))
noncomputable def bLParts : M Oc := (seq (mIf (mT2 (fEq false) (mName 4) (ret (.str "("))) (seq (mExpr (mLm1 2 fApp (mBin uPlus (mName 3) (ret (.int 1))))) (ret .nx)) (seq (mIf (mT2 (fEq false) (mName 4) (ret (.str ")"))) (seq (mExpr (mLm1 1 fApp (mSlU (mName 0) (mPart (mLm0 2 fPop)) (mPart (mName 3))))) (ret .nx)) (ret .nx)) (ret .nx))) (ret .nx))
noncomputable def mLParts : M Oc := (seq (mPar 1 2 (mXo (mLst (ret []))) (mXo (mLst (ret [])))) (seq (mFor (stTup 2 (stCons (stName 3) (stCons (stName 4) stNil))) (mWk fEnumX (mCons (mName 0) (ret []))) (bLParts)) (seq (mRet (mName 1)) (ret .nx))))
def prs (i : Nat) (l : List Nat) : List D := pairs (rngD i l.length) (chs l)
theorem prs_nil (i : Nat) : prs i [] = [] := rfl
theorem rngD_succ (i n : Nat) : rngD i (n + 1) = .int i :: rngD ((i + 1 : Nat) : Int) n := by
  unfold rngD
  rw [List.range_succ_eq_map, List.map_cons, List.map_map]
  have : (List.map ((fun k : Nat => D.int ((i : Int) + (k : Int))) ∘ Nat.succ) (List.range n)) = List.map (fun k : Nat => D.int (((i + 1 : Nat) : Int) + (k : Int))) (List.range n) := List.map_congr_left fun k _ => by
    show D.int ((i : Int) + ((k + 1 : Nat) : Int)) = D.int (((i + 1 : Nat) : Int) + (k : Int))
    congr 1
    omega
  rw [← this]
  simp
theorem prs_cons (i a : Nat) (l : List Nat) : prs i (a :: l) = .tup [.int i, .str ⟨#[a]⟩] :: prs (i + 1) l := by
  unfold prs
  rw [List.length_cons, rngD_succ]
  rfl
theorem pop_last (xs : List D) (d : D) : fPop (xs ++ [d]) = some (xs, d) := by
  unfold fPop
  simp
theorem asI_int (i : Int) : asI (.int i) = some i := rfl
theorem cut_mid {L a b : List Nat} {i : Nat} (h : L.drop i = a ++ b) (hi : i ≤ L.length) (hL : L.length ≤ 1000000) : fSlS (.str (S L)) (some (i : Int)) (some ((i + a.length : Nat) : Int)) = some (.str (S a)) := by
  have hl : (L.drop i).length = a.length + b.length := by rw [h, List.length_append]
  rw [List.length_drop] at hl
  show (if (S L).length ≤ sizeLine then some (D.str (cutS (S L) (some (i : Int)) (some ((i + a.length : Nat) : Int)))) else none) = _
  rw [if_pos (by rw [S_len, sizeLine_eq]; omega)]
  congr 2
  unfold cutS
  rw [S_cps, S_len, HT.sIx_nat, HT.sIx_nat, Nat.min_eq_left (by omega), Nat.min_eq_left (by omega), h, show i + a.length - i = a.length from by omega]
  simp
theorem dr1 {L a : List Nat} {i c : Nat} (h : L.drop i = c :: a) : L.drop (i + 1) = a := by
  rw [← List.drop_drop, h]
  rfl
theorem dra {L a b : List Nat} {i : Nat} (h : L.drop i = a ++ b) : L.drop (i + a.length) = b := by
  rw [← List.drop_drop, h]
  simp
abbrev fTg : D → G → Option G := stTup 2 (stCons (stName 3) (stCons (stName 4) stNil))
theorem prs_part (i : Nat) (p r : T) (u : List Nat) : prs i (sg (part p r) ++ u) = .tup [.int i, .str ⟨#[40]⟩] :: prs (i + 1) (sg p ++ 41 :: 35 :: (sg r ++ u)) := by
  have : sg (part p r) ++ u = 40 :: (sg p ++ 41 :: 35 :: (sg r ++ u)) := by simp [sg]
  rw [this, prs_cons]
theorem loopParts {L : List Nat} (hL : L.length ≤ 1000000) {c : C3} {Q : Oc → G → Prop} : ∀ (t : T) (i : Nat) (bs ps : List D) (v3 v4 : Sl) (u : List Nat), L.drop i = sg t ++ u → ok t → ps.length + (pts t).length < 1000000 → bs.length + dep t < 1000000 →
    (∀ v3 v4, Ev (mLoop fTg bParts (prs (i + (sg t).length) u)) ⟨[.v (.str (S L)), .o (.l bs), .o (.l (ps ++ (pts t).map fun l => .str (S l))), v3, v4], c⟩ Q) →
    Ev (mLoop fTg bParts (prs i (sg t ++ u))) ⟨[.v (.str (S L)), .o (.l bs), .o (.l ps), v3, v4], c⟩ Q
  | .nil, i, bs, ps, v3, v4, u, hd, ho, h1, h2, h => by
    have := h v3 v4
    simpa [sg, pts] using this
  | .ch a r, i, bs, ps, v3, v4, u, hd, ⟨g1, g2, ho⟩, h1, h2, h => by
    show Ev (mLoop fTg bParts (prs i (a :: (sg r ++ u)))) _ _
    rw [prs_cons]
    refine ev_lcons rfl fun I hI => ?_
    simp [bParts, ev_name_v, e40, e41, q1, g2, show ¬ a = 40 by omega, show ¬ a = 41 by omega, Mo.Turn]
    refine hI _ ?_
    refine loopParts hL r (i + 1) bs ps _ _ u (dr1 hd) ho h1 h2 fun v3 v4 => ?_
    have := h v3 v4
    simp only [sg, List.length_cons, pts] at this
    rw [show i + ((sg r).length + 1) = i + 1 + (sg r).length from by omega] at this
    exact this
  | .part p r, i, bs, ps, v3, v4, u, hd, ⟨g1, g2, ho⟩, h1, h2, h => by
    rw [prs_part]
    have hd0 : L.drop i = 40 :: (sg p ++ 41 :: 35 :: (sg r ++ u)) := by rw [hd]; simp [sg]
    have hd1 := dr1 hd0
    have hd2 := dra hd1
    have hd3 := dr1 hd2
    have hd4 := dr1 hd3
    simp only [pts, List.length_append, List.length_cons] at h1
    simp only [dep] at h2
    have ea : ∀ d, fApp bs d = some (bs ++ [d], .non) := fun d => fApp_ok (by rw [sizeLine_eq]; omega)
    refine ev_lcons rfl fun I hI => ?_
    simp [bParts, ev_name_v, e40, e41, q1, Mo.Turn, ea]
    refine hI _ ?_
    refine loopParts hL p (i + 1) (bs ++ [.int ((i : Int) + 1)]) ps _ _ _ hd1 g2 (by omega) (by simp; omega) fun v3 v4 => ?_
    rw [prs_cons]
    have hli : i < L.length := by
      have := congrArg List.length hd0
      simp at this
      omega
    have ec := cut_mid hd1 (by omega) hL
    have ea2 : ∀ d, fApp (ps ++ (pts p).map fun l => D.str (S l)) d = some ((ps ++ (pts p).map fun l => D.str (S l)) ++ [d], .non) := fun d => fApp_ok (by rw [sizeLine_eq]; simp; omega)
    refine ev_lcons rfl fun I hI => ?_
    push_cast at ec
    simp [bParts, ev_name_v, e40, e41, q1, Mo.Turn, pop_last, ea2, ec, asI_int, -List.append_assoc]
    refine hI _ ?_
    rw [prs_cons]
    refine ev_lcons rfl fun I hI => ?_
    simp [bParts, ev_name_v, e40, e41, q1, Mo.Turn, -List.append_assoc]
    refine hI _ ?_
    refine loopParts hL r (i + 1 + (sg p).length + 1 + 1) bs _ _ _ u hd4 ho (by simp; omega) (by omega) fun v3 v4 => ?_
    have := h v3 v4
    simp only [sg, List.length_cons, List.length_append, pts, List.map_append, List.map_cons] at this
    rw [show i + ((sg p).length + ((sg r).length + 1 + 1) + 1) = i + 1 + (sg p).length + 1 + 1 + (sg r).length from by omega] at this
    simpa using this
def PartsS (F : FD) : Prop := ∀ (t : T) (c : C3), ok t → (sg t).length ≤ 100000 → F [.str (S (sg t))] c = some (.tup ((pts t).map fun l => .str (S l)), c)
theorem pts_le : ∀ t : T, (pts t).length ≤ (sg t).length
  | .nil => Nat.le_refl _
  | .ch a r => by
    have := pts_le r
    simp [pts, sg]
    omega
  | .part p r => by
    have := pts_le p
    have := pts_le r
    simp [pts, sg]
    omega
theorem dep_le : ∀ t : T, dep t ≤ (sg t).length
  | .nil => Nat.le_refl _
  | .ch a r => by
    have := dep_le r
    simp [dep, sg]
    omega
  | .part p r => by
    have := dep_le p
    have := dep_le r
    simp [dep, sg]
    omega
theorem enum_S (l : List Nat) : fEnumX [.str (S l)] = some (prs 0 l) := by
  show some (pairs (rngD 0 (S l).cps.size) (chars (S l))) = _
  rw [chars_S]
  congr 2
theorem parts_spec : PartsS (runM false 5 1 mParts) := fun t c ho hl => by
  suffices hh : ∃ d c', runM false 5 1 mParts [.str (S (sg t))] c = some (d, c') ∧ d = .tup ((pts t).map fun l => .str (S l)) ∧ c' = c by
    obtain ⟨d, c', e, rfl, rfl⟩ := hh
    exact e
  refine run_ev rfl ?_
  have hp := pts_le t
  have hd := dep_le t
  simp [mParts, ev_name_v, enum_S]
  have := loopParts (L := sg t) (by omega) (c := c) (Q := After (seq (mRet (mCall fTuple (mCons (mName 2) (Mo.ret [])))) (Mo.ret .nx)) (RetP fun d c' => d = .tup ((pts t).map fun l => .str (S l)) ∧ c' = c)) t 0 [] [] .un .un [] (by simp) ho (by simp; omega) (by simp; omega) fun v3 v4 => by
    rw [prs_nil]
    refine ev_lnil ?_
    simp [ev_name_v, ev_name_o, O.d, fTuple]
  simpa using this
def LPartsS (F : FD) : Prop := ∀ (t : T) (c : C3), ok t → (sg t).length ≤ 100000 → F [.str (S (sg t))] c = some (.lst ((pts t).map fun l => .str (S l)), c)
theorem loopLParts {L : List Nat} (hL : L.length ≤ 1000000) {c : C3} {Q : Oc → G → Prop} : ∀ (t : T) (i : Nat) (bs ps : List D) (v3 v4 : Sl) (u : List Nat), L.drop i = sg t ++ u → ok t → ps.length + (pts t).length < 1000000 → bs.length + dep t < 1000000 →
    (∀ v3 v4, Ev (mLoop fTg bLParts (prs (i + (sg t).length) u)) ⟨[.v (.str (S L)), .o (.l (ps ++ (pts t).map fun l => .str (S l))), .o (.l bs), v3, v4], c⟩ Q) →
    Ev (mLoop fTg bLParts (prs i (sg t ++ u))) ⟨[.v (.str (S L)), .o (.l ps), .o (.l bs), v3, v4], c⟩ Q
  | .nil, i, bs, ps, v3, v4, u, hd, ho, h1, h2, h => by
    have := h v3 v4
    simpa [sg, pts] using this
  | .ch a r, i, bs, ps, v3, v4, u, hd, ⟨g1, g2, ho⟩, h1, h2, h => by
    show Ev (mLoop fTg bLParts (prs i (a :: (sg r ++ u)))) _ _
    rw [prs_cons]
    refine ev_lcons rfl fun I hI => ?_
    simp [bLParts, ev_name_v, e40, e41, q1, g2, show ¬ a = 40 by omega, show ¬ a = 41 by omega, Mo.Turn]
    refine hI _ ?_
    refine loopLParts hL r (i + 1) bs ps _ _ u (dr1 hd) ho h1 h2 fun v3 v4 => ?_
    have := h v3 v4
    simp only [sg, List.length_cons, pts] at this
    rw [show i + ((sg r).length + 1) = i + 1 + (sg r).length from by omega] at this
    exact this
  | .part p r, i, bs, ps, v3, v4, u, hd, ⟨g1, g2, ho⟩, h1, h2, h => by
    rw [prs_part]
    have hd0 : L.drop i = 40 :: (sg p ++ 41 :: 35 :: (sg r ++ u)) := by rw [hd]; simp [sg]
    have hd1 := dr1 hd0
    have hd2 := dra hd1
    have hd3 := dr1 hd2
    have hd4 := dr1 hd3
    simp only [pts, List.length_append, List.length_cons] at h1
    simp only [dep] at h2
    have ea : ∀ d, fApp bs d = some (bs ++ [d], .non) := fun d => fApp_ok (by rw [sizeLine_eq]; omega)
    refine ev_lcons rfl fun I hI => ?_
    simp [bLParts, ev_name_v, e40, e41, q1, Mo.Turn, ea]
    refine hI _ ?_
    refine loopLParts hL p (i + 1) (bs ++ [.int ((i : Int) + 1)]) ps _ _ _ hd1 g2 (by omega) (by simp; omega) fun v3 v4 => ?_
    rw [prs_cons]
    have hli : i < L.length := by
      have := congrArg List.length hd0
      simp at this
      omega
    have ec := cut_mid hd1 (by omega) hL
    have ea2 : ∀ d, fApp (ps ++ (pts p).map fun l => D.str (S l)) d = some ((ps ++ (pts p).map fun l => D.str (S l)) ++ [d], .non) := fun d => fApp_ok (by rw [sizeLine_eq]; simp; omega)
    refine ev_lcons rfl fun I hI => ?_
    push_cast at ec
    simp [bLParts, ev_name_v, e40, e41, q1, Mo.Turn, pop_last, ea2, ec, asI_int, -List.append_assoc]
    refine hI _ ?_
    rw [prs_cons]
    refine ev_lcons rfl fun I hI => ?_
    simp [bLParts, ev_name_v, e40, e41, q1, Mo.Turn, -List.append_assoc]
    refine hI _ ?_
    refine loopLParts hL r (i + 1 + (sg p).length + 1 + 1) bs _ _ _ u hd4 ho (by simp; omega) (by omega) fun v3 v4 => ?_
    have := h v3 v4
    simp only [sg, List.length_cons, List.length_append, pts, List.map_append, List.map_cons] at this
    rw [show i + ((sg p).length + ((sg r).length + 1 + 1) + 1) = i + 1 + (sg p).length + 1 + 1 + (sg r).length from by omega] at this
    simpa using this
theorem lparts_spec : LPartsS (runM false 5 1 mLParts) := fun t c ho hl => by
  suffices hh : ∃ d c', runM false 5 1 mLParts [.str (S (sg t))] c = some (d, c') ∧ d = .lst ((pts t).map fun l => .str (S l)) ∧ c' = c by
    obtain ⟨d, c', e, rfl, rfl⟩ := hh
    exact e
  refine run_ev rfl ?_
  have hp := pts_le t
  have hd := dep_le t
  simp [mLParts, ev_name_v, enum_S]
  have := loopLParts (L := sg t) (by omega) (c := c) (Q := After (seq (mRet (mName 1)) (Mo.ret .nx)) (RetP fun d c' => d = .lst ((pts t).map fun l => .str (S l)) ∧ c' = c)) t 0 [] [] .un .un [] (by simp) ho (by simp; omega) (by simp; omega) fun v3 v4 => by
    rw [prs_nil]
    refine ev_lnil ?_
    simp [ev_name_v, ev_name_o, O.d]
  simpa using this
end Yw
set_option Elab.async false
set_option linter.all false
set_option maxRecDepth 100000
set_option maxHeartbeats 8000000
set_option exponentiation.threshold 9000
/-! Tw, part one: names, whatever is asked; the items of a way; what a way costs. -/
namespace Tw
open PySem PySem.Spec L2 Mo Lw Pw Qw Rw Sw
/-! ### names -/
/-! ### what a way costs -/
end Tw
set_option Elab.async false
set_option linter.all false
set_option maxRecDepth 100000
set_option maxHeartbeats 8000000
set_option exponentiation.threshold 9000
/-! Tw, part two: the law's own walk along a way. -/
namespace Tw
open PySem PySem.Spec L2 Mo Lw Pw Qw Rw Sw
/-! ### items compared with none -/
/-! ### which items are no states -/
/-! ### a text's letters -/
end Tw
set_option Elab.async false
set_option linter.all false
set_option maxRecDepth 100000
set_option maxHeartbeats 8000000
set_option exponentiation.threshold 9000
/-! Tw, part three: is it a way, and what it costs, by the program. -/
namespace Tw
open PySem PySem.Spec L2 Mo Lw Pw Qw Rw Sw
/-! ### the places of a way -/
/-! ### is it a cheapest way -/
/-! ### the price of a way, or InvalidOperation -/
end Tw
set_option Elab.async false
set_option linter.all false
set_option maxRecDepth 100000
set_option maxHeartbeats 8000000
set_option exponentiation.threshold 9000
/-! Tw, part four: a drawn text and a way along it. -/
namespace Tw
open PySem PySem.Spec L2 Mo Lw Pw Qw Rw Sw
end Tw
set_option Elab.async false
set_option linter.all false
set_option maxRecDepth 100000
set_option maxHeartbeats 8000000
set_option exponentiation.threshold 9000
/-! Tw, part five: a value near a way. -/
namespace Tw
open PySem PySem.Spec L2 Mo Lw Pw Qw Rw Sw
end Tw
set_option Elab.async false
set_option linter.all false
set_option maxRecDepth 100000
set_option maxHeartbeats 8000000
set_option exponentiation.threshold 9000
/-! Tw, part six: the law at one machine. -/
namespace Tw
open PySem PySem.Spec L2 Mo Lw Pw Qw Rw Sw
end Tw
set_option Elab.async false
set_option linter.all false
set_option maxRecDepth 100000
set_option maxHeartbeats 8000000
set_option exponentiation.threshold 9000
/-! Tw, part seven: machines, and the law k10. -/
namespace Tw
open PySem PySem.Spec L2 Mo Lw Pw Qw Rw Sw
/-! ### at the counting machine -/
end Tw
set_option Elab.async false
set_option linter.all false
set_option maxRecDepth 100000
set_option maxHeartbeats 8000000
set_option exponentiation.threshold 9000
/-! Tx, part one: the rows along a text, one by one. -/
namespace Tx
open PySem PySem.Spec L2 Mo Lw Pw Qw Rw Sw Tw
/-! ### the rows by their places -/
end Tx
set_option Elab.async false
set_option linter.all false
set_option maxRecDepth 100000
set_option maxHeartbeats 8000000
set_option exponentiation.threshold 9000
/-! Tx, part two: back along the rows. -/
namespace Tx
open PySem PySem.Spec L2 Mo Lw Pw Qw Rw Sw Tw
end Tx
set_option Elab.async false
set_option linter.all false
set_option maxRecDepth 100000
set_option maxHeartbeats 8000000
set_option exponentiation.threshold 9000
/-! Tx, part three: the cheapest way, by the program. -/
namespace Tx
open PySem PySem.Spec L2 Mo Lw Pw Qw Rw Sw Tw
end Tx
set_option Elab.async false
set_option linter.all false
set_option maxRecDepth 100000
set_option maxHeartbeats 8000000
set_option exponentiation.threshold 9000
/-! Tx, part four: all ways along a text, one by one. -/
namespace Tx
open PySem PySem.Spec L2 Mo Lw Pw Qw Rw Sw Tw
end Tx
set_option Elab.async false
set_option linter.all false
set_option maxRecDepth 100000
set_option maxHeartbeats 8000000
set_option exponentiation.threshold 9000
/-! Tx, part five: what the ways are, and how many. -/
namespace Tx
open PySem PySem.Spec L2 Mo Lw Pw Qw Rw Sw Tw
/-! ### how many -/
def num (ws : List Way) (b : Str) : Int := ((ws.filter fun w => decide (w.b = b)).length : Nat)
end Tx
set_option Elab.async false
set_option linter.all false
set_option maxRecDepth 100000
set_option maxHeartbeats 8000000
set_option exponentiation.threshold 9000
/-! Tx, part six: what is told, what is taken, the runs, the price of a run. -/
namespace Tx
open PySem PySem.Spec L2 Mo Lw Pw Qw Rw Sw Tw
end Tx
set_option Elab.async false
set_option linter.all false
set_option maxRecDepth 100000
set_option maxHeartbeats 8000000
set_option exponentiation.threshold 9000
/-! Tx, part seven: what is equal. -/
namespace Tx
open PySem PySem.Spec L2 Mo Lw Pw Qw Rw Sw Tw
end Tx
set_option Elab.async false
set_option linter.all false
set_option maxRecDepth 100000
set_option maxHeartbeats 4000000
set_option exponentiation.threshold 9000
/-! Uw, part one: costs as data; their words. -/
namespace Uw
open PySem PySem.Spec L2 Mo Lw Pw Qw Rw Sw Tw Tx
/-- rows of numbers as data -/
def ctD (rows : List (List Int)) : D := .tup (rows.map rD)
/-! ### words -/
def IntegerB (F : FD) : Prop := ∀ i : Int, -1 ≤ i → i < 10 ^ 60 → Tr F [.int i]
theorem integerB_spec : IntegerB (runM false 1 1 mInteger) := fun i h1 h2 c => by
  refine run_pure rfl ?_
  simp [mInteger, ev_name_v, isi_ii, isi_ib, pow60, -Int.reducePow]
  split <;> omega
@[simp] theorem isZ_tup {C : Addr} {Os : List Addr} {xs : List D} : fIsZ C Os (.tup xs) = some (.bl false) := rfl
@[simp] theorem isZ_non {C : Addr} {Os : List Addr} : fIsZ C Os .non = some (.bl false) := rfl
/-- costs, made -/
def cO (Cc : Addr) (rows : List (List Int)) : D := .ins Cc [("_rows", ctD rows)]
@[simp] theorem fld_cO {Cc : Addr} {rows : List (List Int)} : fldD Cc "_rows" (cO Cc rows) = some (ctD rows) := by
  unfold fldD cO
  simp [getF]
end Uw
set_option Elab.async false
set_option linter.all false
set_option maxRecDepth 100000
set_option maxHeartbeats 4000000
set_option exponentiation.threshold 9000
/-! Uw, part two: costs told, read and compared; signs. -/
namespace Uw
open PySem PySem.Spec L2 Mo Lw Pw Qw Rw Sw Tw Tx
/-! ### entries -/
noncomputable def mIsCount (Fisinteger : FD) : M Oc := (seq (mRet (mAnd (mFn Fisinteger (mCons (mName 0) (ret []))) (mBin iGe (mName 0) (ret (.int 0))))) (ret .nx))
def CountB (F : FD) : Prop := ∀ i : Int, 0 ≤ i → i < 10 ^ 60 → Tr F [.int i]
theorem countB_spec {Fi : FD} (hi : IntegerB Fi) : CountB (runM false 1 1 (mIsCount Fi)) := fun i h1 h2 c => by
  refine run_pure rfl ?_
  have e := hi i (by omega) h2 c
  simp [mIsCount, ev_name_v, e, h1]
/-! ### equal -/
@[simp] theorem isZ_self {Cc : Addr} {Os : List Addr} {rows : List (List Int)} : fIsZ Cc Os (cO Cc rows) = some (.bl true) := if_pos rfl
end Uw
set_option Elab.async false
set_option linter.all false
set_option maxRecDepth 100000
set_option maxHeartbeats 4000000
set_option exponentiation.threshold 9000
/-! Uw, part three: signs and squares. -/
namespace Uw
open PySem PySem.Spec L2 Mo Lw Pw Qw Rw Sw Tw Tx
/-! ### texts of single signs -/
/-- the four signs -/
def sgs : List Str := ["0", "1", "n", "."]
theorem sg_low : ∀ l ∈ sgs, ∀ q, l = ⟨#[q]⟩ → (q = 48 ∨ q = 49 ∨ q = 110 ∨ q = 46) := by
  intro l m q e
  have h0 : ("0" : Str) = ⟨#[48]⟩ := by decide +kernel
  have h1 : ("1" : Str) = ⟨#[49]⟩ := by decide +kernel
  have h2 : ("n" : Str) = ⟨#[110]⟩ := by decide +kernel
  have h3 : ("." : Str) = ⟨#[46]⟩ := by decide +kernel
  unfold sgs at m
  rw [h0, h1, h2, h3] at m
  subst e
  simp at m
  omega
/-- a text of signs -/
def SgT (x : Str) : Prop := ∀ l ∈ signsS x, l ∈ sgs
theorem sgT_cps {x : Str} (h : SgT x) : ∀ q ∈ x.cps.toList, q = 48 ∨ q = 49 ∨ q = 110 ∨ q = 46 := fun q m => sg_low ⟨#[q]⟩ (h _ (List.mem_map.mpr ⟨q, m, rfl⟩)) q rfl
theorem strip_sg {x : Str} (h : SgT x) : Txt.stripChars x "01n." = "" := by
  have e : ("01n." : Str).cps = #[48, 49, 110, 46] := by decide +kernel
  have h0 : (Txt.stripChars x "01n.").length = 0 := by
    unfold Txt.stripChars
    refine Lp.strip_len (a := x.cps.toList) (b := []) (by rw [List.append_nil]) (fun c hc => ?_) (fun c hc => by cases hc)
    have := sgT_cps h c hc
    rw [e]
    simp only [Array.contains_eq_mem, List.mem_toArray, decide_eq_true_eq]
    simp only [List.mem_cons, List.not_mem_nil, or_false]
    omega
  refine str_ext ?_
  have h1 : (Txt.stripChars x "01n.").cps.toList.length = 0 := by simpa [Str.length] using h0
  rw [List.length_eq_zero_iff.mp h1]
  rfl
/-- a square, made -/
def sO (Cq : Addr) (ss : List Str) : D := .ins Cq [("_rows", .tup (sL ss))]
@[simp] theorem fld_sO {Cq : Addr} {ss : List Str} : fldD Cq "_rows" (sO Cq ss) = some (.tup (sL ss)) := by
  unfold fldD sO
  simp [getF]
/-! ### the signs of costs -/
def sg (e : Int) : Str := if e < 0 then "." else if e = 0 then "0" else "1"
theorem sg_mem (e : Int) : sg e ∈ sgs := by
  unfold sg sgs
  split
  · decide +kernel
  · split <;> decide +kernel
end Uw
set_option Elab.async false
set_option linter.all false
set_option maxRecDepth 100000
set_option maxHeartbeats 4000000
set_option exponentiation.threshold 9000
/-! Uw, part four: rows from several starts; what costs mean. -/
namespace Uw
open PySem PySem.Spec L2 Mo Lw Pw Qw Rw Sw Tw Tx
/-! ### the meaning -/
end Uw
set_option Elab.async false
set_option linter.all false
set_option maxRecDepth 100000
set_option maxHeartbeats 4000000
set_option exponentiation.threshold 9000
/-! Uw, part five: costs of a text, by the program and by the law; between; a drawn text. -/
namespace Uw
open PySem PySem.Spec L2 Mo Lw Pw Qw Rw Sw Tw Tx
/-! ### the law's own -/
/-! ### between -/
/-! ### the least of the entries -/
end Uw
set_option Elab.async false
set_option linter.all false
set_option maxRecDepth 100000
set_option maxHeartbeats 8000000
set_option exponentiation.threshold 9000
/-! Uw, part six: drawn texts and machines; costs told right. -/
namespace Uw
open PySem PySem.Spec L2 Mo Lw Pw Qw Rw Sw Tw Tx
@[simp] theorem ev_strI {C : Addr} {F : FD} {mo : M D} {g : G} {Q : D → G → Prop} : Ev (mStrI C F mo) g Q ↔ Ev mo g fun d g1 => ∃ fs, d = .ins C fs ∧ ∃ z c', F [.ins C fs] g1.c = some (.str z, c') ∧ Q (.str z) ⟨g1.s, c'⟩ := by
  unfold mStrI
  rw [ev_bind]
  refine ⟨fun h => h.mono fun d g1 z => ?_, fun h => h.mono fun d g1 ⟨fs, e, z, c', e2, q⟩ => ?_⟩
  · cases d <;> first | exact (ev_bad.mp z).elim | skip
    rename_i C2 fs
    dsimp only at z
    rw [ev_ite] at z
    split at z
    · rename_i hC
      subst hC
      obtain ⟨d, c', e, z⟩ := ev_liftC.mp (ev_bind.mp z)
      cases d <;> first | exact (ev_bad.mp z).elim | skip
      exact ⟨fs, rfl, _, c', e, ev_ret.mp z⟩
    · exact (ev_bad.mp z).elim
  · subst e
    dsimp only
    rw [if_pos rfl]
    exact ev_bind.mpr (ev_liftC.mpr ⟨_, _, e2, ev_ret.mpr q⟩)
/-! ### drawn -/
/-! ### told right -/
end Uw
set_option Elab.async false
set_option linter.all false
set_option maxRecDepth 100000
set_option maxHeartbeats 16000000
set_option exponentiation.threshold 9000
/-! Uw, part seven: the law k23. -/
namespace Uw
open PySem PySem.Spec L2 Mo Lw Pw Qw Rw Sw Tw Tx
end Uw
set_option Elab.async false
set_option linter.all false
set_option maxRecDepth 100000
set_option maxHeartbeats 4000000
/-! Vw, part one: products of squares of signs, as numbers 0 to 3; walks, stable powers, repeats. -/
namespace Vw
/-! ### walks -/
section
variable {n : Nat} {R : Nat → Nat → Prop}
def W (n : Nat) (R : Nat → Nat → Prop) : Nat → Nat → Nat → Prop
  | 0, i, j => i = j
  | m + 1, i, j => ∃ k, k < n ∧ W n R m i k ∧ R k j
theorem w_add {i : Nat} (hi : i < n) : ∀ {a b j : Nat}, j < n → (W n R (a + b) i j ↔ ∃ k, k < n ∧ W n R a i k ∧ W n R b k j)
  | a, 0, j, hj => ⟨fun h => ⟨j, hj, h, rfl⟩, fun ⟨k, _, h, e⟩ => by cases e; exact h⟩
  | a, b + 1, j, hj => by
    constructor
    · rintro ⟨k, hk, h, r⟩
      obtain ⟨l, hl, h1, h2⟩ := (w_add hi (a := a) (b := b) hk).mp h
      exact ⟨l, hl, h1, k, hk, h2, r⟩
    · rintro ⟨l, hl, h1, k, hk, h2, r⟩
      exact ⟨k, hk, (w_add hi (a := a) (b := b) hk).mpr ⟨l, hl, h1, h2⟩, r⟩
theorem w_join {i j k a b : Nat} (hi : i < n) (hj : j < n) (hk : k < n) (h1 : W n R a i k) (h2 : W n R b k j) : W n R (a + b) i j := (w_add hi hj).mpr ⟨k, hk, h1, h2⟩
theorem w_one {i j : Nat} (hi : i < n) : W n R 1 i j ↔ R i j := ⟨fun ⟨k, _, e, r⟩ => by cases e; exact r, fun r => ⟨i, hi, rfl, r⟩⟩
theorem w_many {v c : Nat} (hv : v < n) (h : W n R c v v) : ∀ m, W n R (c * m) v v
  | 0 => rfl
  | m + 1 => w_join hv hv hv (w_many hv h m) h
/-- four steps with a ring of c of them -/
def S (n : Nat) (R : Nat → Nat → Prop) (c i j : Nat) : Prop := ∃ v a b, v < n ∧ a + c + b = 4 ∧ W n R a i v ∧ W n R c v v ∧ W n R b v j
theorem window (h4 : n ≤ 4) {i j : Nat} (hi : i < n) (hj : j < n) (h : W n R 4 i j) : ∃ c, 1 ≤ c ∧ c ≤ 4 ∧ S n R c i j := by
  obtain ⟨v3, h3, ⟨v2, h2, ⟨v1, h1, r1', r2⟩, r3⟩, r4⟩ := h
  have r1 : R i v1 := (w_one hi).mp r1'
  have o : ∀ {x y}, x < n → R x y → W n R 1 x y := fun hx r => (w_one hx).mpr r
  have w01 := o hi r1
  have w12 := o h1 r2
  have w23 := o h2 r3
  have w34 := o h3 r4
  have w02 : W n R 2 i v2 := w_join (a := 1) (b := 1) hi h2 h1 w01 w12
  have w13 : W n R 2 v1 v3 := w_join (a := 1) (b := 1) h1 h3 h2 w12 w23
  have w24 : W n R 2 v2 j := w_join (a := 1) (b := 1) h2 hj h3 w23 w34
  have w03 : W n R 3 i v3 := w_join (a := 2) (b := 1) hi h3 h2 w02 w23
  have w14 : W n R 3 v1 j := w_join (a := 2) (b := 1) h1 hj h3 w13 w34
  have w04 : W n R 4 i j := w_join (a := 3) (b := 1) hi hj h3 w03 w34
  have p : i = v1 ∨ i = v2 ∨ i = v3 ∨ i = j ∨ v1 = v2 ∨ v1 = v3 ∨ v1 = j ∨ v2 = v3 ∨ v2 = j ∨ v3 = j := by omega
  rcases p with e | e | e | e | e | e | e | e | e | e
  · subst e; exact ⟨1, by omega, by omega, i, 0, 3, hi, rfl, rfl, w01, w14⟩
  · subst e; exact ⟨2, by omega, by omega, i, 0, 2, hi, rfl, rfl, w02, w24⟩
  · subst e; exact ⟨3, by omega, by omega, i, 0, 1, hi, rfl, rfl, w03, w34⟩
  · subst e; exact ⟨4, by omega, by omega, i, 0, 0, hi, rfl, rfl, w04, rfl⟩
  · subst e; exact ⟨1, by omega, by omega, v1, 1, 2, h1, rfl, w01, w12, w24⟩
  · subst e; exact ⟨2, by omega, by omega, v1, 1, 1, h1, rfl, w01, w13, w34⟩
  · subst e; exact ⟨3, by omega, by omega, v1, 1, 0, h1, rfl, w01, w14, rfl⟩
  · subst e; exact ⟨1, by omega, by omega, v2, 2, 1, h2, rfl, w02, w23, w34⟩
  · subst e; exact ⟨2, by omega, by omega, v2, 2, 0, h2, rfl, w02, w24, rfl⟩
  · subst e; exact ⟨1, by omega, by omega, v3, 3, 0, h3, rfl, w03, w34, rfl⟩
def Ch (n : Nat) (R : Nat → Nat → Prop) : List Nat → Nat → Nat → Prop
  | [], i, j => i = j
  | c :: r, i, j => ∃ k, k < n ∧ S n R c i k ∧ Ch n R r k j
theorem s_w {c i j : Nat} (hi : i < n) (hj : j < n) (h : S n R c i j) : W n R 4 i j := by
  obtain ⟨v, a, b, hv, e, h1, h2, h3⟩ := h
  rw [← e]
  exact w_join hi hj hv (w_join hi hv hv h1 h2) h3
theorem s_cut {c i j : Nat} (hi : i < n) (hj : j < n) (h : S n R c i j) : ∃ L, L + c = 4 ∧ W n R L i j := by
  obtain ⟨v, a, b, hv, e, h1, h2, h3⟩ := h
  exact ⟨a + b, by omega, w_join hi hj hv h1 h3⟩
theorem s_more {c i j : Nat} (hi : i < n) (hj : j < n) (h : S n R c i j) (m : Nat) : W n R (4 + c * m) i j := by
  obtain ⟨v, a, b, hv, e, h1, h2, h3⟩ := h
  rw [show 4 + c * m = a + (c + c * m) + b by omega]
  exact w_join hi hj hv (w_join hi hv hv h1 (w_join hv hv hv h2 (w_many hv h2 m))) h3
theorem cut (c : Nat) : ∀ (cs : List Nat) (k : Nat) {i j : Nat}, i < n → j < n → Ch n R cs i j → k ≤ cs.count c → ∃ L, L + k * c = 4 * cs.length ∧ W n R L i j
  | [], k, i, j, _, _, h, hk => by
    have : k = 0 := by simpa using hk
    subst this
    exact ⟨0, by simp, h⟩
  | d :: r, k, i, j, hi, hj, ⟨l, hl, s, ch⟩, hk => by
    cases k with
    | zero =>
      obtain ⟨L, e, w⟩ := cut c r 0 hl hj ch (Nat.zero_le _)
      exact ⟨4 + L, by rw [List.length_cons]; omega, w_join hi hj hl (s_w hi hl s) w⟩
    | succ k =>
      by_cases e : d = c
      · subst e
        rw [List.count_cons_self] at hk
        obtain ⟨L, e, w⟩ := cut d r k hl hj ch (by omega)
        obtain ⟨L2, e2, w2⟩ := s_cut hi hl s
        exact ⟨L2 + L, by rw [List.length_cons, Nat.succ_mul]; omega, w_join hi hj hl w2 w⟩
      · rw [List.count_cons_of_ne e] at hk
        obtain ⟨L, e, w⟩ := cut c r (k + 1) hl hj ch hk
        exact ⟨4 + L, by rw [List.length_cons]; omega, w_join hi hj hl (s_w hi hl s) w⟩
theorem more (h4 : n ≤ 4) {i j : Nat} (hi : i < n) (hj : j < n) (h : W n R 168 i j) : W n R 180 i j := by
  obtain ⟨k, hk, h1, h2⟩ := (w_add (a := 4) (b := 164) hi hj).mp h
  obtain ⟨c, c1, c4, s⟩ := window h4 hi hk h1
  have go : ∀ m, c * m = 12 → W n R 180 i j := fun m e => by
    have w := s_more hi hk s m
    rw [e] at w
    exact w_join (a := 16) (b := 164) hi hj hk w h2
  have : c = 1 ∨ c = 2 ∨ c = 3 ∨ c = 4 := by omega
  rcases this with e | e | e | e <;> subst e
  · exact go 12 rfl
  · exact go 6 rfl
  · exact go 4 rfl
  · exact go 3 rfl
end
/-! ### products -/
def pr (n : Nat) (a b : Nat → Nat → Nat) : Nat → Nat → Nat := fun i j => (List.range n).foldl (fun s k => min s (max (a i k) (b k j))) 3
/-- the same places -/
def EqM (n : Nat) (a b : Nat → Nat → Nat) : Prop := ∀ i j, i < n → j < n → a i j = b i j
theorem EqM.symm {n : Nat} {a b : Nat → Nat → Nat} (h : EqM n a b) : EqM n b a := fun i j hi hj => (h i j hi hj).symm
theorem EqM.trans {n : Nat} {a b c : Nat → Nat → Nat} (h : EqM n a b) (h2 : EqM n b c) : EqM n a c := fun i j hi hj => (h i j hi hj).trans (h2 i j hi hj)
theorem EqM.refl {n : Nat} {a : Nat → Nat → Nat} : EqM n a a := fun _ _ _ _ => rfl
/-! ### powers -/
/-! ### repeats -/
def dq (e : Nat → Nat → Nat) (v : Nat) : Nat := if e v v = 1 then 2 else e v v
def dg (e : Nat → Nat → Nat) : Nat → Nat → Nat := fun i j => if i = j then dq e i else 3
def rp (n : Nat) (e : Nat → Nat → Nat) : Nat → Nat → Nat := pr n (pr n e (dg e)) e
end Vw
set_option Elab.async false
set_option linter.all false
set_option maxRecDepth 100000
set_option maxHeartbeats 4000000
set_option exponentiation.threshold 9000
/-! Vw, part two: rows of signs as texts and as octal numbers. -/
namespace Vw
open PySem PySem.Spec L2 Mo Lw Pw Qw Rw Sw Tw Tx Uw
/-! ### figures -/
def cs (r : Nat) : Nat := if r = 0 then 48 else if r = 1 then 49 else if r = 2 then 110 else 46
theorem le3 {r : Nat} (h : r ≤ 3) : r = 0 ∨ r = 1 ∨ r = 2 ∨ r = 3 := by omega
/-! ### texts -/
/-- a row of signs -/
def rt (n : Nat) (h : Nat → Nat) : Str := ⟨((List.range n).map fun j => cs (h j)).toArray⟩
/-- a square -/
def sq (n : Nat) (a : Nat → Nat → Nat) : List Str := (List.range n).map fun i => rt n (a i)
/-! ### octal texts -/
end Vw
set_option Elab.async false
set_option linter.all false
set_option maxRecDepth 100000
set_option maxHeartbeats 4000000
set_option exponentiation.threshold 9000
/-! Vw, part three: products, by the program. -/
namespace Vw
open PySem PySem.Spec L2 Mo Lw Pw Qw Rw Sw Tw Tx Uw
@[simp] theorem o0 : fOrd [.str "0"] = some (.int 48) := by
  have e : ("0" : Str) = ⟨#[48]⟩ := by decide +kernel
  rw [e]
  rfl
@[simp] theorem o1 : fOrd [.str "1"] = some (.int 49) := by
  have e : ("1" : Str) = ⟨#[49]⟩ := by decide +kernel
  rw [e]
  rfl
@[simp] theorem on : fOrd [.str "n"] = some (.int 110) := by
  have e : ("n" : Str) = ⟨#[110]⟩ := by decide +kernel
  rw [e]
  rfl
@[simp] theorem od : fOrd [.str "."] = some (.int 46) := by
  have e : ("." : Str) = ⟨#[46]⟩ := by decide +kernel
  rw [e]
  rfl
@[simp] theorem o7 : fOrd [.str "7"] = some (.int 55) := by
  have e : ("7" : Str) = ⟨#[55]⟩ := by decide +kernel
  rw [e]
  rfl
@[simp] theorem o6 : fOrd [.str "6"] = some (.int 54) := by
  have e : ("6" : Str) = ⟨#[54]⟩ := by decide +kernel
  rw [e]
  rfl
@[simp] theorem o4 : fOrd [.str "4"] = some (.int 52) := by
  have e : ("4" : Str) = ⟨#[52]⟩ := by decide +kernel
  rw [e]
  rfl
@[simp] theorem asKey_i (i : Int) : asKey (.int i) = some (.inl i) := rfl
end Vw
set_option Elab.async false
set_option linter.all false
set_option maxRecDepth 100000
set_option maxHeartbeats 4000000
set_option exponentiation.threshold 9000
/-! Vw, part four: masks, rows of products, products. -/
namespace Vw
open PySem PySem.Spec L2 Mo Lw Pw Qw Rw Sw Tw Tx Uw
theorem fold_app {α : Type} : ∀ (k : Nat) (x z : Array α), (List.replicate k x).foldl (· ++ ·) z = z ++ ((List.replicate k x.toList).flatten).toArray
  | 0, x, z => by simp
  | k + 1, x, z => by
    rw [List.replicate_succ, List.foldl_cons, fold_app k x]
    apply Array.toList_inj.mp
    simp [List.replicate_succ]
end Vw
set_option Elab.async false
set_option linter.all false
set_option maxRecDepth 100000
set_option maxHeartbeats 4000000
set_option exponentiation.threshold 9000
/-! Vw, part five: squares of the program. -/
namespace Vw
open PySem PySem.Spec L2 Mo Lw Pw Qw Rw Sw Tw Tx Uw
/-! ### values without a change of the state -/
theorem ev_fun {α : Type} {m : M α} {g : G} {d : α} (h : Ev m g fun x g' => x = d ∧ g' = g) {Q : α → G → Prop} : Ev m g Q ↔ Q d g := by
  obtain ⟨x, g', e, rfl, rfl⟩ := h
  constructor
  · rintro ⟨y, g2, e2, q⟩
    rw [e] at e2
    cases e2
    exact q
  · exact fun q => ⟨_, _, e, q⟩
/-! ### products -/
/-! ### squares as own things -/
abbrev qO (Cq : Addr) (n : Nat) (a : Nat → Nat → Nat) : D := sO Cq (sq n a)
/-! ### repeats -/
end Vw
set_option Elab.async false
set_option linter.all false
set_option maxRecDepth 100000
set_option maxHeartbeats 4000000
/-! Vm, part two: what a factor may keep, by ranks. -/
set_option Elab.async false
set_option linter.all false
set_option maxRecDepth 100000
set_option maxHeartbeats 4000000
set_option exponentiation.threshold 9000
/-! Vm, part three: a factor made, and rows put before it. -/
set_option Elab.async false
set_option linter.all false
set_option maxRecDepth 100000
set_option maxHeartbeats 4000000
set_option exponentiation.threshold 9000
/-! Vm, part four: the rows of a letter. -/
set_option Elab.async false
set_option linter.all false
set_option maxRecDepth 100000
set_option maxHeartbeats 4000000
set_option exponentiation.threshold 9000
/-! Vm, part five: a letter's square; dicts from texts; the square of a text. -/
set_option Elab.async false
set_option linter.all false
set_option maxRecDepth 100000
set_option maxHeartbeats 4000000
set_option exponentiation.threshold 9000
/-! Vm, part six: the square of a text. -/
set_option Elab.async false
set_option linter.all false
set_option maxRecDepth 100000
set_option maxHeartbeats 4000000
set_option exponentiation.threshold 9000
/-! Vm, part seven: what a text's square means. -/
set_option Elab.async false
set_option linter.all false
set_option maxRecDepth 100000
set_option maxHeartbeats 4000000
set_option exponentiation.threshold 9000
/-! Vw, part six: the law's own products and repeats; least signs. -/
namespace Vw
open PySem PySem.Spec L2 Mo Lw Pw Qw Rw Sw Tw Tx Uw
theorem rep_flat {α : Type} (x : α) : ∀ k, (List.replicate k [x]).flatten = List.replicate k x
  | 0 => rfl
  | k + 1 => by
    rw [List.replicate_succ, List.flatten_cons, rep_flat x k, List.replicate_succ]
    rfl
end Vw
set_option Elab.async false
set_option linter.all false
set_option maxRecDepth 100000
set_option maxHeartbeats 4000000
set_option exponentiation.threshold 9000
/-! Vw, part seven: no lesser signs; drawn squares; stable powers; repeats judged. -/
namespace Vw
open PySem PySem.Spec L2 Mo Lw Pw Qw Rw Sw Tw Tx Uw
theorem fEq_bl {a b : Bool} : fEq true (.bl a) (.bl b) = some (.bl (a != b)) := by
  cases a <;> cases b <;> rfl
end Vw
set_option Elab.async false
set_option linter.all false
set_option maxRecDepth 100000
set_option maxHeartbeats 4000000
set_option exponentiation.threshold 9000
/-! Vm, part eight: the least of any number of signs. -/
set_option Elab.async false
set_option linter.all false
set_option maxRecDepth 100000
set_option maxHeartbeats 4000000
set_option exponentiation.threshold 9000
/-! Vm, part nine: the sign of a text between a machine's first and last states. -/
set_option Elab.async false
set_option linter.all false
set_option maxRecDepth 100000
set_option maxHeartbeats 4000000
set_option exponentiation.threshold 9000
/-! Vm, part ten: a square is told by its ways; the sign of a price. -/
set_option Elab.async false
set_option linter.all false
set_option maxRecDepth 100000
set_option maxHeartbeats 4000000
/-! Vm, part eleven: stable squares and texts repeated. -/
set_option Elab.async false
set_option linter.all false
set_option maxRecDepth 100000
set_option maxHeartbeats 4000000
/-! Vm, part twelve: the least sign and the law's own price. -/
set_option Elab.async false
set_option linter.all false
set_option maxRecDepth 100000
set_option maxHeartbeats 4000000
set_option exponentiation.threshold 9000
/-! Vm, part thirteen: texts many times; the law at one text. -/
namespace Vm
open PySem PySem.Spec L2 Mo Lw Pw Qw Rw Sw Tw Tx Uw Vw
theorem mul_cps (t : Str) (n : Nat) (h : 1 ≤ n) : (Txt.mul t (n : Nat)).cps.toList = (List.replicate n t.cps.toList).flatten := by
  unfold Txt.mul
  rw [if_neg (by omega)]
  by_cases h1 : (((n : Nat) : Int) == 1 || t.length == 0) = true
  · rw [if_pos h1]
    rcases (Bool.or_eq_true_iff.mp h1) with h1 | h1
    · have e : n = 1 := by
        have := beq_iff_eq.mp h1
        omega
      subst e
      simp
    · have e : t.cps.toList = [] := by
        have h2 := beq_iff_eq.mp h1
        have h0 : t.length = t.cps.toList.length := by simp [Str.length]
        exact List.length_eq_zero_iff.mp (h0 ▸ h2)
      rw [e]
      have : ∀ k, ((List.replicate k ([] : List Nat)).flatten : List Nat) = [] := fun k => by
        induction k with
        | zero => rfl
        | succ k ih => rw [List.replicate_succ, List.flatten_cons, ih]; rfl
      exact (this n).symm
  · rw [if_neg h1]
    show (List.foldl (· ++ ·) #[] (List.replicate ((n : Nat) : Int).toNat t.cps)).toList = _
    rw [fold_app, Int.toNat_natCast]
    simp
end Vm
set_option Elab.async false
set_option linter.all false
set_option maxRecDepth 100000
set_option maxHeartbeats 4000000
set_option exponentiation.threshold 9000
/-! Yw, part three: the law's own loops. -/
namespace Yw
open PySem PySem.Spec L2 Mo Lw Pw
open T
theorem mul_S (l : List Nat) (n : Nat) (h : 1 ≤ n) : Txt.mul (S l) (n : Int) = S ((List.replicate n l).flatten) := by
  apply Str.ext'
  apply Array.toList_inj.mp
  rw [Vm.mul_cps _ _ h, S_cps, S_cps]
theorem times_S {l : List Nat} {n : Nat} (h : 1 ≤ n) (hn : n ≤ 1000000) (hl : l.length * n ≤ 1000000) : uTimesT (.str (S l)) (.int (n : Int)) = some (.str (S ((List.replicate n l).flatten))) := by
  unfold uTimesT
  dsimp only
  rw [if_pos ⟨by omega, by omega, by rw [S_len, Int.toNat_natCast]; exact hl⟩, mul_S l n h]
theorem plus_str0 {x y : Str} (h : x.length + y.length ≤ sizeLine) : uPlus (.str x) (.str y) = some (.str (x ++ y)) := by
  show (uAdd (.str x) (.str y)).or ((fCatL (.str x) (.str y)).map O.d) = _
  have : uAdd (.str x) (.str y) = some (.str (x ++ y)) := by
    show (Option.or (none : Option D) (Option.or (fCat (.str x) (.str y)) (Option.or (fCatT (.str x) (.str y)) (fCatT0 (.str x) (.str y))))) = _
    have e : fCat (.str x) (.str y) = some (.str (x ++ y)) := if_pos h
    rw [e]
    rfl
  rw [this]
  rfl
theorem plus_S {a b : List Nat} (h : a.length + b.length ≤ 16777216) : uPlus (.str (S a)) (.str (S b)) = some (.str (S (a ++ b))) := by
  rw [plus_str0 (by rw [S_len, S_len, sizeLine_eq]; exact h), S_app]
theorem uIn_nt (s : Str) (ss : List Str) : uIn true (.str s) (.tup (sL ss)) = some (.bl (!decide (s ∈ ss))) := by
  show (fDIn true (.str s) (.tup (sL ss))).or ((fIn true (.str s) (.tup (sL ss))).or (fInS true (.str s) (.tup (sL ss)))) = _
  have : fIn true (.str s) (.tup (sL ss)) = some (.bl (!decide (s ∈ ss))) := by
    show (if (flatD (.str s) && (sL ss).all flatD) = true then some (D.bl (!(Mo.inD (.str s) (sL ss)))) else none) = _
    rw [flat_sL, inD_sL]
    rfl
  rw [this]
  rfl
theorem one_inj {a b : Nat} : ((⟨#[a]⟩ : Str) = ⟨#[b]⟩) ↔ a = b := ⟨fun h => by simpa using congrArg (fun s : Str => s.cps.getD 0 0) h, fun h => by rw [h]⟩
theorem ne_in3 {c : Nat} : uIn true (.str ⟨#[c]⟩) (.tup [.str ⟨#[40]⟩, .str ⟨#[41]⟩, .str ⟨#[35]⟩]) = some (.bl (!decide (c = 40 ∨ c = 41 ∨ c = 35))) := by
  have := uIn_nt ⟨#[c]⟩ [⟨#[40]⟩, ⟨#[41]⟩, ⟨#[35]⟩]
  simp only [List.mem_cons, List.not_mem_nil, or_false, one_inj] at this
  exact this
/-! ### _law_power -/
noncomputable def bPower30 : M Oc := (seq (mSet 2 (mBin uMul (mName 2) (mName 0))) (ret .nx))
noncomputable def mPower30 : M Oc := (seq (mSet 2 (ret (.int 1))) (seq (mFor (stName 3) (mWk fRng1 (mCons (mName 1) (ret []))) (bPower30)) (seq (mRet (mName 2)) (ret .nx))))
def Power2S (F : FD) : Prop := ∀ (n : Nat) (c : C3), n ≤ 300 → F [.int 2, .int (n : Int)] c = some (.int ((2 ^ n : Nat) : Int), c)
theorem loopPower {c : C3} {Q : Oc → G → Prop} {y : D} : ∀ (ds : List D) (k : Nat) (v : Sl), k + ds.length ≤ 300 → (∀ v, Q .nx ⟨[.v (.int 2), .v y, .v (.int ((2 ^ (k + ds.length) : Nat) : Int)), v], c⟩) →
    Ev (mLoop (stName 3) bPower30 ds) ⟨[.v (.int 2), .v y, .v (.int ((2 ^ k : Nat) : Int)), v], c⟩ Q
  | [], k, v, hk, h => ev_lnil (h v)
  | d :: r, k, v, hk, h => by
    rw [List.length_cons] at hk h
    refine ev_lcons rfl fun I hI => ?_
    have em : uMul (.int ((2 ^ k : Nat) : Int)) (.int 2) = some (.int ((2 ^ (k + 1) : Nat) : Int)) := by
      have e : ((2 ^ k : Nat) : Int) * 2 = ((2 ^ (k + 1) : Nat) : Int) := by rw [Nat.pow_succ]; push_cast; rfl
      rw [← e]
      refine uMul_int ?_
      have : ((2 ^ k : Nat) : Int).natAbs.log2 = k := by rw [Int.natAbs_natCast, Nat.log2_two_pow]
      have : (2 : Int).natAbs.log2 = 1 := by decide
      omega
    generalize ((2 ^ k : Nat) : Int) = a at em ⊢
    generalize hb : ((2 ^ (k + 1) : Nat) : Int) = b at em
    simp [bPower30, ev_name_v, em, Mo.Turn]
    refine hI _ ?_
    rw [← hb]
    exact loopPower r (k + 1) _ (by omega) fun v => by rw [show k + 1 + r.length = k + (r.length + 1) from by omega]; exact h v
theorem power_spec : Power2S (runM false 4 2 mPower30) := fun n c hn => by
  suffices hh : ∃ d c', runM false 4 2 mPower30 [.int 2, .int (n : Int)] c = some (d, c') ∧ d = .int ((2 ^ n : Nat) : Int) ∧ c' = c by
    obtain ⟨d, c', e, rfl, rfl⟩ := hh
    exact e
  refine run_ev rfl ?_
  have er := rng1_nat (n := n) (by omega)
  have hl := rngD_len (lo := 0) (n := n)
  simp [mPower30, ev_name_v, er]
  have := loopPower (c := c) (y := .int (n : Int)) (Q := After (seq (mRet (mName 2)) (Mo.ret .nx)) (RetP fun d c' => d = .int ((2 ^ n : Nat) : Int) ∧ c' = c)) (rngD 0 n) 0 .un (by omega) fun v => by
    rw [hl, Nat.zero_add]
    generalize ((2 ^ n : Nat) : Int) = a
    simp [ev_name_v]
  exact this
/-! ### _law_depth -/
noncomputable def bLDepth : M Oc := (seq (mSet 1 (mBin uSub (mBin uPlus (mName 1) (mCall fInt1 (mCons (mBin (fEq false) (mName 3) (ret (.str "("))) (ret [])))) (mCall fInt1 (mCons (mBin (fEq false) (mName 3) (ret (.str ")"))) (ret []))))) (seq (mSet 2 (mCall fMax2 (mCons (mName 2) (mCons (mName 1) (ret []))))) (ret .nx)))
noncomputable def mLDepth : M Oc := (seq (mAsg (stTup 2 (stCons (stName 1) (stCons (stName 2) stNil))) (mTup (mCons (ret (.int 0)) (mCons (ret (.int 0)) (ret []))))) (seq (mFor (stName 3) (mIter (mName 0)) (bLDepth)) (seq (mRet (mName 2)) (ret .nx))))
theorem max_i (a b : Nat) : fMax2 [.int (a : Int), .int (b : Int)] = some (.int ((max a b : Nat) : Int)) := by
  show some (D.int (if (b : Int) > a then (b : Int) else a)) = _
  congr 2
  split <;> omega
theorem loopLDepth (x : D) {c : C3} {Q : Oc → G → Prop} : ∀ (t : T) (M d : Nat) (v : Sl) (rest : List D), d ≤ M → ok t → (∀ v', Ev (mLoop (stName 3) bLDepth rest) ⟨[.v x, .v (.int d), .v (.int (max M (d + dep t) : Nat)), v'], c⟩ Q) →
    Ev (mLoop (stName 3) bLDepth (chs (sg t) ++ rest)) ⟨[.v x, .v (.int d), .v (.int M), v], c⟩ Q
  | .nil, M, d, v, rest, hd, ho, h => by
    have := h v
    simpa [dep, hd, sg, chs, Nat.max_eq_left hd] using this
  | .ch a r, M, d, v, rest, hd, ⟨h1, h2, ho⟩, h => by
    refine ev_lcons rfl fun I hI => ?_
    have em := max_i M d
    rw [Nat.max_eq_left hd] at em
    simp [bLDepth, ev_name_v, e40, e41, q1, h2, show ¬ a = 40 by omega, show ¬ a = 41 by omega, Mo.Turn, fInt1, em, -fMax2_int]
    refine hI _ ?_
    exact loopLDepth x r M d _ rest hd ho h
  | .part p r, M, d, v, rest, hd, ⟨h1, h2, ho⟩, h => by
    rw [chs_part]
    refine ev_lcons rfl fun I hI => ?_
    have em := max_i M (d + 1)
    push_cast at em
    simp [bLDepth, ev_name_v, e40, e41, q1, Mo.Turn, fInt1, em, -fMax2_int]
    refine hI _ ?_
    have := loopLDepth x p (max M (d + 1)) (d + 1) (.v (.str ⟨#[40]⟩)) (.str ⟨#[41]⟩ :: .str ⟨#[35]⟩ :: (chs (sg r) ++ rest)) (c := c) (Q := Q) (by omega) h2 fun v' => by
      refine ev_lcons rfl fun I hI => ?_
      have em := max_i (max M (d + 1 + dep p)) d
      rw [Nat.max_eq_left (show d ≤ max M (d + 1 + dep p) by omega)] at em
      have e1 : ((d : Int) + 1) - 1 = d := by omega
      simp [bLDepth, ev_name_v, e40, e41, q1, Mo.Turn, fInt1, e1, em, -fMax2_int]
      refine hI _ ?_
      refine ev_lcons rfl fun I hI => ?_
      simp [bLDepth, ev_name_v, e40, e41, q1, Mo.Turn, fInt1, em, -fMax2_int]
      refine hI _ ?_
      have := loopLDepth x r (max (max M (d + 1)) (d + 1 + dep p)) d (.v (.str ⟨#[35]⟩)) rest (c := c) (Q := Q) (by omega) ho fun v2 => by
        have e2 : max M (d + dep (.part p r)) = max (max (max M (d + 1)) (d + 1 + dep p)) (d + dep r) := by simp only [dep]; omega
        have := h v2
        rw [e2] at this
        exact this
      simpa using this
    simpa using this
def LDepthS (F : FD) : Prop := ∀ (t : T) (c : C3), ok t → F [.str (S (sg t))] c = some (.int (dep t), c)
theorem ldepth_spec : LDepthS (runM false 4 1 mLDepth) := fun t c ho => by
  suffices hh : ∃ d c', runM false 4 1 mLDepth [.str (S (sg t))] c = some (d, c') ∧ d = .int (dep t) ∧ c' = c by
    obtain ⟨d, c', e, rfl, rfl⟩ := hh
    exact e
  refine run_ev rfl ?_
  simp [mLDepth, ev_name_v, chars_S, sizeLine_eq]
  refine ⟨⟨[.v (.str (S (sg t))), .v (.int 0), .v (.int 0), .un], c⟩, rfl, ?_⟩
  simp only [ev_name_v (show ([.v (.str (S (sg t))), .v (.int 0), .v (.int 0), .un] : List Sl)[0]? = some (.v (.str (S (sg t)))) from rfl), iterD_str, chars_S, ev_lift_some]
  have := loopLDepth (.str (S (sg t))) (c := c) (Q := After (seq (mRet (mName 2)) (Mo.ret .nx)) (RetP fun d c' => d = .int (dep t) ∧ c' = c)) t 0 0 .un [] (Nat.le_refl _) ho fun v' => by
    refine ev_lnil ?_
    simp [ev_name_v]
  simpa using this
/-! ### _law_weight -/
noncomputable def bLWeight (Fpower : FD) : M Oc := (seq (mSet 2 (mBin uSub (mBin uPlus (mName 2) (mCall fInt1 (mCons (mBin (fEq false) (mName 3) (ret (.str "("))) (ret [])))) (mCall fInt1 (mCons (mBin (fEq false) (mName 3) (ret (.str ")"))) (ret []))))) (seq (mSet 1 (mBin uPlus (mName 1) (mBin uMul (mFn Fpower (mCons (ret (.int 2)) (mCons (mName 2) (ret [])))) (mCall fInt1 (mCons (mBin (uIn true) (mName 3) (mTup (mCons (ret (.str "(")) (mCons (ret (.str ")")) (mCons (ret (.str "#")) (ret [])))))) (ret [])))))) (ret .nx)))
noncomputable def mLWeight (Fpower : FD) : M Oc := (seq (mAsg (stTup 2 (stCons (stName 1) (stCons (stName 2) stNil))) (mTup (mCons (ret (.int 0)) (mCons (ret (.int 0)) (ret []))))) (seq (mFor (stName 3) (mIter (mName 0)) (bLWeight Fpower)) (seq (mRet (mName 1)) (ret .nx))))
theorem mulP {d k : Nat} (hd : d ≤ 300) (hk : k ≤ 1) : uMul (.int ((2 ^ d : Nat) : Int)) (.int (k : Int)) = some (.int ((2 ^ d * k : Nat) : Int)) := by
  have e : ((2 ^ d : Nat) : Int) * (k : Int) = ((2 ^ d * k : Nat) : Int) := by push_cast; rfl
  rw [← e]
  refine uMul_int ?_
  have : ((2 ^ d : Nat) : Int).natAbs.log2 = d := by rw [Int.natAbs_natCast, Nat.log2_two_pow]
  have : (k : Int).natAbs.log2 ≤ 1 := by
    have : k = 0 ∨ k = 1 := by omega
    rcases this with rfl | rfl <;> decide
  omega
theorem loopLWeight {Fp : FD} (hp : Power2S Fp) (x : D) {c : C3} {Q : Oc → G → Prop} : ∀ (t : T) (w d : Nat) (v : Sl) (rest : List D), ok t → d + dep t ≤ 300 → (∀ v', Ev (mLoop (stName 3) (bLWeight Fp) rest) ⟨[.v x, .v (.int (w + wt (2 ^ d) t : Nat)), .v (.int d), v'], c⟩ Q) →
    Ev (mLoop (stName 3) (bLWeight Fp) (chs (sg t) ++ rest)) ⟨[.v x, .v (.int w), .v (.int d), v], c⟩ Q
  | .nil, w, d, v, rest, ho, hd, h => by
    have := h v
    simpa [wt, sg, chs] using this
  | .ch a r, w, d, v, rest, ⟨h1, h2, ho⟩, hd, h => by
    refine ev_lcons rfl fun I hI => ?_
    have hd' : d + dep r ≤ 300 := hd
    have e := hp d c (by omega)
    have em := mulP (d := d) (k := 1) (by omega) (by omega)
    have := fun v => loopLWeight hp x r (w + 2 ^ d) d v rest (c := c) (Q := Q) ho hd' fun v' => by
      have := h v'
      simp only [wt, ← Nat.add_assoc] at this
      exact this
    rw [Nat.mul_one] at em
    generalize hq : ((2 ^ d : Nat) : Int) = q at e em this
    have hq2 : ((w + 2 ^ d : Nat) : Int) = (w : Int) + q := by rw [← hq]; push_cast; rfl
    rw [hq2] at this
    have em' : uMul (.int q) (.int 1) = some (.int q) := em
    simp [bLWeight, ev_name_v, e40, e41, e35, q1, h2, show ¬ a = 40 by omega, show ¬ a = 41 by omega, show ¬ a = 35 by omega, Mo.Turn, fInt1, e, em', ne_in3, sizeLine_eq]
    refine hI _ ?_
    exact this _
  | .part p r, w, d, v, rest, ⟨h1, h2, ho⟩, hd, h => by
    rw [chs_part]
    simp only [dep] at hd
    have e0 := hp (d + 1) c (by omega)
    have em0 := mulP (d := d + 1) (k := 0) (by omega) (by omega)
    have e := hp d c (by omega)
    have em := mulP (d := d) (k := 0) (by omega) (by omega)
    rw [Nat.mul_zero] at em0 em
    generalize ((2 ^ (d + 1) : Nat) : Int) = q0 at e0 em0
    generalize ((2 ^ d : Nat) : Int) = q at e em
    have em0' : uMul (.int q0) (.int 0) = some (.int 0) := em0
    have em' : uMul (.int q) (.int 0) = some (.int 0) := em
    have e0' : Fp [.int 2, .int ((d : Int) + 1)] c = some (.int q0, c) := e0
    refine ev_lcons rfl fun I hI => ?_
    simp [bLWeight, ev_name_v, e40, e41, e35, q1, Mo.Turn, fInt1, e0', em0', ne_in3, sizeLine_eq]
    refine hI _ ?_
    have := loopLWeight hp x p w (d + 1) (.v (.str ⟨#[40]⟩)) (.str ⟨#[41]⟩ :: .str ⟨#[35]⟩ :: (chs (sg r) ++ rest)) (c := c) (Q := Q) h2 (by omega) fun v' => by
      refine ev_lcons rfl fun I hI => ?_
      have e1 : ((d : Int) + 1) - 1 = d := by omega
      simp [bLWeight, ev_name_v, e40, e41, e35, q1, Mo.Turn, fInt1, e1, e, em', ne_in3, sizeLine_eq]
      refine hI _ ?_
      refine ev_lcons rfl fun I hI => ?_
      simp [bLWeight, ev_name_v, e40, e41, e35, q1, Mo.Turn, fInt1, e, em', ne_in3, sizeLine_eq]
      refine hI _ ?_
      have := loopLWeight hp x r (w + wt (2 ^ (d + 1)) p) d (.v (.str ⟨#[35]⟩)) rest (c := c) (Q := Q) ho (by omega) fun v2 => by
        have := h v2
        have e3 : 2 * 2 ^ d = 2 ^ (d + 1) := by rw [Nat.pow_succ]; omega
        simp only [wt, ← Nat.add_assoc, e3] at this
        exact this
      simpa using this
    simpa using this
def LWeightS (F : FD) : Prop := ∀ (t : T) (c : C3), ok t → dep t ≤ 300 → F [.str (S (sg t))] c = some (.int (wt 1 t), c)
theorem lweight_spec {Fp : FD} (hp : Power2S Fp) : LWeightS (runM false 4 1 (mLWeight Fp)) := fun t c ho hd => by
  suffices hh : ∃ d c', runM false 4 1 (mLWeight Fp) [.str (S (sg t))] c = some (d, c') ∧ d = .int (wt 1 t) ∧ c' = c by
    obtain ⟨d, c', e, rfl, rfl⟩ := hh
    exact e
  refine run_ev rfl ?_
  simp [mLWeight, ev_name_v, chars_S, sizeLine_eq]
  refine ⟨⟨[.v (.str (S (sg t))), .v (.int 0), .v (.int 0), .un], c⟩, rfl, ?_⟩
  simp only [ev_name_v (show ([.v (.str (S (sg t))), .v (.int 0), .v (.int 0), .un] : List Sl)[0]? = some (.v (.str (S (sg t)))) from rfl), iterD_str, chars_S, ev_lift_some]
  have := loopLWeight hp (.str (S (sg t))) (c := c) (Q := After (seq (mRet (mName 1)) (Mo.ret .nx)) (RetP fun d c' => d = .int (wt 1 t) ∧ c' = c)) t 0 0 .un [] ho (by omega) fun v' => by
    refine ev_lnil ?_
    simp [ev_name_v]
  simpa using this
/-! ### _law_pattern_at -/
noncomputable def bLAt : M Oc := (seq (mIf (mT2 (fEq false) (mName 4) (ret (.str "("))) (seq (mExpr (mLm1 3 fApp (mName 2))) (seq (mSet 2 (ret (.str ""))) (ret .nx))) (seq (mIf (mT2 (fEq false) (mName 4) (ret (.str "#"))) (seq (mSet 2 (mBin uPlus (mLm0 3 fPop) (mBin uTimesT (mName 2) (mName 1)))) (ret .nx)) (seq (mIf (mT2 (fEq true) (mName 4) (ret (.str ")"))) (seq (mSet 2 (mBin uPlus (mName 2) (mName 4))) (ret .nx)) (ret .nx)) (ret .nx))) (ret .nx))) (ret .nx))
noncomputable def mLAt : M Oc := (seq (mSet 2 (ret (.str ""))) (seq (mSetO 3 (mLst (ret []))) (seq (mFor (stName 4) (mIter (mName 0)) (bLAt)) (seq (mRet (mName 2)) (ret .nx)))))
theorem loopLAt {n : Nat} (h1n : 1 ≤ n) (hn : n ≤ 1000) (x : D) {c : C3} {Q : Oc → G → Prop} : ∀ (t : T) (f : List Nat) (bs : List D) (v : Sl) (rest : List D), ok t → f.length + ln n t ≤ 1000000 → bs.length + dep t ≤ 1000000 → (∀ v', Ev (mLoop (stName 4) bLAt rest) ⟨[.v x, .v (.int (n : Int)), .v (.str (S (f ++ at_ n t))), .o (.l bs), v'], c⟩ Q) →
    Ev (mLoop (stName 4) bLAt (chs (sg t) ++ rest)) ⟨[.v x, .v (.int (n : Int)), .v (.str (S f)), .o (.l bs), v], c⟩ Q
  | .nil, f, bs, v, rest, ho, hf, hb, h => by
    have := h v
    simpa [at_, sg, chs] using this
  | .ch a r, f, bs, v, rest, ⟨h1, h2, ho⟩, hf, hb, h => by
    refine ev_lcons rfl fun I hI => ?_
    simp only [ln] at hf
    have ep := plus_S (a := f) (b := [a]) (by simp; omega)
    simp [bLAt, ev_name_v, e40, e41, e35, q1, h2, show ¬ a = 40 by omega, show ¬ a = 41 by omega, show ¬ a = 35 by omega, Mo.Turn, ep]
    refine hI _ ?_
    refine loopLAt h1n hn x r (f ++ [a]) bs _ rest ho (by simp; omega) hb fun v' => ?_
    have := h v'
    simp only [at_] at this
    simpa using this
  | .part p r, f, bs, v, rest, ⟨h1, h2, ho⟩, hf, hb, h => by
    rw [chs_part]
    simp only [dep] at hb
    simp only [ln] at hf
    have l1 : ln n p ≤ ln n p * n := Nat.le_mul_of_pos_right _ h1n
    have ea : ∀ d, fApp bs d = some (bs ++ [d], .non) := fun d => fApp_ok (by rw [sizeLine_eq]; omega)
    have ee : ("" : Str) = S [] := by decide +kernel
    refine ev_lcons rfl fun I hI => ?_
    simp [bLAt, ev_name_v, e40, e41, e35, q1, Mo.Turn, ea, -List.append_assoc]
    refine hI _ ?_
    rw [ee]
    refine loopLAt h1n hn x p [] (bs ++ [.str (S f)]) _ _ h2 (by simp; omega) (by simp; omega) fun v' => ?_
    refine ev_lcons rfl fun I hI => ?_
    simp [bLAt, ev_name_v, e40, e41, e35, q1, Mo.Turn, -List.append_assoc]
    refine hI _ ?_
    refine ev_lcons rfl fun I hI => ?_
    have hlp := at_len n p
    have et := times_S (l := at_ n p) (n := n) h1n (by omega) (by rw [hlp]; omega)
    have er : ((List.replicate n (at_ n p)).flatten).length = ln n p * n := by simp [hlp, Nat.mul_comm]
    have ep := plus_S (a := f) (b := (List.replicate n (at_ n p)).flatten) (by rw [er]; omega)
    simp [bLAt, ev_name_v, e40, e41, e35, q1, Mo.Turn, pop_last, et, ep, -List.append_assoc]
    refine hI _ ?_
    refine loopLAt h1n hn x r _ bs _ rest ho (by rw [List.length_append, er]; omega) (by omega) fun v' => ?_
    have := h v'
    simp only [at_] at this
    simpa using this
def LAtS (F : FD) : Prop := ∀ (t : T) (n : Nat) (c : C3), ok t → 1 ≤ n → n ≤ 1000 → ln n t ≤ 1000000 → dep t ≤ 1000000 → F [.str (S (sg t)), .int (n : Int)] c = some (.str (S (at_ n t)), c)
theorem lat_spec : LAtS (runM false 5 2 mLAt) := fun t n c ho h1 h2 h3 h4 => by
  suffices hh : ∃ d c', runM false 5 2 mLAt [.str (S (sg t)), .int (n : Int)] c = some (d, c') ∧ d = .str (S (at_ n t)) ∧ c' = c by
    obtain ⟨d, c', e, rfl, rfl⟩ := hh
    exact e
  refine run_ev rfl ?_
  have ee : ("" : Str) = S [] := by decide +kernel
  simp [mLAt, ev_name_v, chars_S]
  rw [ee]
  have := loopLAt h1 h2 (.str (S (sg t))) (c := c) (Q := After (seq (mRet (mName 2)) (Mo.ret .nx)) (RetP fun d c' => d = .str (S (at_ n t)) ∧ c' = c)) t [] [] .un [] ho (by simpa using h3) (by simpa using h4) fun v' => by
    refine ev_lnil ?_
    simp [ev_name_v]
  simpa using this
end Yw
set_option Elab.async false
set_option linter.all false
set_option maxRecDepth 100000
set_option maxHeartbeats 4000000
set_option exponentiation.threshold 9000
/-! Yw, part four: which texts are patterns; patterns made and told. -/
namespace Yw
open PySem PySem.Spec L2 Mo Lw Pw
open T
/-! ### replaced -/
/-- with other signs for ( and for )# -/
def sz (o z : List Nat) : T → List Nat
  | .nil => []
  | .ch a r => a :: sz o z r
  | .part p r => o ++ (sz o z p ++ (z ++ sz o z r))
theorem sz_sg : ∀ t : T, sz [40] [41, 35] t = sg t
  | .nil => rfl
  | .ch a r => by simp [sz, sg, sz_sg r]
  | .part p r => by simp [sz, sg, sz_sg p, sz_sg r]
theorem sz_pl : ∀ t : T, sz [] [] t = pl t
  | .nil => rfl
  | .ch a r => by simp [sz, pl, sz_pl r]
  | .part p r => by simp [sz, pl, sz_pl p, sz_pl r]
theorem rl_open (o : List Nat) : ∀ t : T, ok t → rl [40] o 0 (sg t) = sz o [41, 35] t
  | .nil, _ => rfl
  | .ch a r, ⟨h1, h2, h3⟩ => by
    have ih := rl_open o r h3
    rw [rl_one] at ih ⊢
    simp [sg, sz, ih, show ¬ a = 40 by omega]
  | .part p r, ⟨h1, h2, h3⟩ => by
    have ih := rl_open o r h3
    have ih2 := rl_open o p h2
    rw [rl_one] at ih ih2 ⊢
    simp [sg, sz, ih, ih2]
theorem rl_close (o z : List Nat) (ho : ∀ c ∈ o, c ≠ 41) : ∀ (t : T) (u : List Nat), ok t → rl [41, 35] z 0 (sz o [41, 35] t ++ u) = sz o z t ++ rl [41, 35] z 0 u
  | .nil, _, _ => rfl
  | .ch a r, u, ⟨h1, h2, h3⟩ => by
    have ih := rl_close o z ho r u h3
    have := rl_skip (y := [41, 35]) (z := z) (a := 41) (y' := [35]) rfl (o := [a]) (sz o [41, 35] r ++ u) (by simp; omega)
    simp only [sz, List.cons_append, List.nil_append] at this ⊢
    rw [this, ih]
  | .part p r, u, ⟨h1, h2, h3⟩ => by
    have ih := rl_close o z ho r u h3
    have ih2 := rl_close o z ho p (41 :: 35 :: (sz o [41, 35] r ++ u)) h2
    have e : sz o [41, 35] (.part p r) ++ u = o ++ (sz o [41, 35] p ++ 41 :: 35 :: (sz o [41, 35] r ++ u)) := by simp [sz]
    rw [e, rl_skip rfl _ ho, ih2]
    simp only [rl, sz]
    rw [if_pos (by simp [List.isPrefixOf])]
    simp only [List.length_cons, List.length_nil, rl]
    simp [ih, rl]
theorem close_all (o z : List Nat) (ho : ∀ c ∈ o, c ≠ 41) (t : T) (h : ok t) : rl [41, 35] z 0 (sz o [41, 35] t) = sz o z t := by
  have := rl_close o z ho t [] h
  simp only [List.append_nil] at this
  rw [this]
  simp [rl]
theorem e4135 : (")#" : Str) = S [41, 35] := by decide +kernel
theorem e4041 : ("()" : Str) = S [40, 41] := by decide +kernel
theorem eNil : ("" : Str) = S [] := by decide +kernel
theorem sz_len (o z : List Nat) (h : o.length ≤ 1) (h2 : z.length ≤ 2) : ∀ t : T, (sz o z t).length ≤ (sg t).length
  | .nil => Nat.le_refl _
  | .ch a r => by
    have := sz_len o z h h2 r
    simp [sz, sg]
    omega
  | .part p r => by
    have := sz_len o z h h2 r
    have := sz_len o z h h2 p
    simp [sz, sg]
    omega
theorem sg_mem : ∀ t : T, ok t → ∀ c ∈ sg t, (97 ≤ c ∧ c ≤ 122) ∨ c = 40 ∨ c = 41 ∨ c = 35
  | .nil, _, c, m => by simp [sg] at m
  | .ch a r, ⟨h1, h2, h3⟩, c, m => by
    simp only [sg, List.mem_cons] at m
    rcases m with rfl | m
    · exact .inl ⟨h1, h2⟩
    · exact sg_mem r h3 c m
  | .part p r, ⟨h1, h2, h3⟩, c, m => by
    simp only [sg, List.mem_cons, List.mem_append] at m
    rcases m with rfl | m | rfl | rfl | m
    · exact .inr (.inl rfl)
    · exact sg_mem p h2 c m
    · exact .inr (.inr (.inl rfl))
    · exact .inr (.inr (.inr rfl))
    · exact sg_mem r h3 c m
theorem rest_mem : ∀ t : T, ok t → ∀ c ∈ sz [40] [] t, c ≠ 41 ∧ c ≠ 35
  | .nil, _, c, m => by simp [sz] at m
  | .ch a r, ⟨h1, h2, h3⟩, c, m => by
    simp only [sz, List.mem_cons] at m
    rcases m with rfl | m
    · omega
    · exact rest_mem r h3 c m
  | .part p r, ⟨h1, h2, h3⟩, c, m => by
    simp only [sz, List.mem_cons, List.mem_append, List.not_mem_nil, false_or, or_false] at m
    rcases m with rfl | m | m
    · omega
    · exact rest_mem p h2 c m
    · exact rest_mem r h3 c m
/-- ( and ) never stand beside each other -/
theorem no_pair : ∀ (t : T) (u : List Nat), ok t → ∀ i, i < (sg t).length → ((sg t ++ u).drop i).take 2 ≠ [40, 41]
  | .nil, _, _, i, h => by simp [sg] at h
  | .ch a r, u, ⟨h1, h2, h3⟩, i, h => by
    cases i with
    | zero =>
      intro e
      simp [sg] at e
      omega
    | succ j =>
      simp only [sg, List.length_cons] at h
      have := no_pair r u h3 j (by omega)
      simpa [sg] using this
  | .part p r, u, ⟨h1, h2, h3⟩, i, h => by
    have e0 : sg (.part p r) ++ u = 40 :: (sg p ++ (41 :: 35 :: (sg r ++ u))) := by simp [sg]
    rw [e0]
    have hp : ∃ a l, sg p = a :: l ∧ a ≠ 41 := by
      cases p with
      | nil => exact absurd rfl h1
      | ch a q => exact ⟨a, _, rfl, by have := h2.1; omega⟩
      | part q q2 => exact ⟨40, _, rfl, by omega⟩
    cases i with
    | zero =>
      obtain ⟨a, l, e, ne⟩ := hp
      rw [e]
      intro z
      simp at z
      exact ne z
    | succ j =>
      simp only [List.drop_succ_cons]
      by_cases hj : j < (sg p).length
      · exact no_pair p _ h2 j hj
      · have hlen : (sg (.part p r)).length = (sg p).length + (sg r).length + 3 := by simp [sg]; omega
        rw [hlen] at h
        obtain ⟨k, rfl⟩ : ∃ k, j = (sg p).length + k := ⟨j - (sg p).length, by omega⟩
        have : (sg p ++ 41 :: 35 :: (sg r ++ u)).drop ((sg p).length + k) = (41 :: 35 :: (sg r ++ u)).drop k := by
          rw [← List.drop_drop]
          simp
        rw [this]
        match k with
        | 0 => intro z; simp at z
        | 1 =>
          intro z
          simp at z
        | k + 2 =>
          show ((sg r ++ u).drop k).take 2 ≠ [40, 41]
          exact no_pair r u h3 k (by omega)
/-! ### in -/
theorem inS_one (l : List Nat) (c : Nat) : uIn false (.str ⟨#[c]⟩) (.str (S l)) = some (.bl (decide (c ∈ l))) := by
  have h := StrLaws.found_one (S l) c
  rw [S_cps] at h
  show (fDIn false (.str ⟨#[c]⟩) (.str (S l))).or ((fIn false (.str ⟨#[c]⟩) (.str (S l))).or (some (.bl (!(Builtin.Str.occurrences (S l) ⟨#[c]⟩ 0 (S l).length 1).isEmpty)))) = _
  rw [h]
  rfl
theorem inS_no (l y : List Nat) (h : ∀ i, i + y.length ≤ l.length → (l.drop i).take y.length ≠ y) : uIn false (.str (S y)) (.str (S l)) = some (.bl false) := by
  have h2 : (!(Builtin.Str.occurrences (S l) (S y) 0 (S l).length 1).isEmpty) = false := by
    cases e : (!(Builtin.Str.occurrences (S l) (S y) 0 (S l).length 1).isEmpty) with
    | false => rfl
    | true =>
      obtain ⟨i, h1, h2⟩ := (StrLaws.found_iff (S l) (S y)).mp e
      rw [S_len, S_len] at h1
      rw [StrLaws.subAt_eq, S_len, S_cps] at h2
      refine absurd ?_ (h i h1)
      simpa using h2
  show (fDIn false (.str (S y)) (.str (S l))).or ((fIn false (.str (S y)) (.str (S l))).or (some (.bl (!(Builtin.Str.occurrences (S l) (S y) 0 (S l).length 1).isEmpty)))) = _
  rw [h2]
  rfl
/-! ### is_formed, is_pattern -/
noncomputable def mIsFormed (Fdepthof : FD) : M Oc := (seq (mIf (mtOr (mT2 (fEq false) (mName 0) (ret (.str ""))) (mT2 (fEq true) (mMs1 fStrip (mName 0) (mBin uPlus (ret (.str "abcdefghijklmnopqrstuvwxyz")) (ret (.str "()#")))) (ret (.str "")))) (seq (mRet (ret (.bl false))) (ret .nx)) (ret .nx)) (seq (mSet 1 (mRepl ")#" "" (mName 0))) (seq (mIf (mtOr (mT2 (uIn false) (ret (.str ")")) (mName 1)) (mtOr (mT2 (uIn false) (ret (.str "#")) (mName 1)) (mT2 (uIn false) (ret (.str "()")) (mName 0)))) (seq (mRet (ret (.bl false))) (ret .nx)) (ret .nx)) (seq (mRet (mBin (fIs true) (mFn Fdepthof (mCons (mName 0) (ret []))) (ret .non))) (ret .nx)))))
noncomputable def mIsPattern (Fisformed Fdepthof : FD) : M Oc := (seq (mIf (mtOr (mtNot (mTru (mIsi "str" (mName 0)))) (mT2 iGt (mCall fLenS (mCons (mName 0) (ret []))) (ret (.int 20000)))) (seq (mRet (ret (.bl false))) (ret .nx)) (ret .nx)) (seq (mRet (mAnd (mFn Fisformed (mCons (mName 0) (ret []))) (mBin iLe (mFn Fdepthof (mCons (mName 0) (ret []))) (ret (.int 24))))) (ret .nx)))
noncomputable def mLettersIn : M Oc := (seq (mRet (mRepl ")#" "" (mRepl "(" "" (mName 0)))) (ret .nx))
abbrev patS : Str := "abcdefghijklmnopqrstuvwxyz()#"
theorem pat_cps : patS.cps = #[97, 98, 99, 100, 101, 102, 103, 104, 105, 106, 107, 108, 109, 110, 111, 112, 113, 114, 115, 116, 117, 118, 119, 120, 121, 122, 40, 41, 35] := by decide +kernel
theorem strip_sg (t : T) (h : ok t) : Txt.stripChars (S (sg t)) patS = S [] := by
  have h0 : (Txt.stripChars (S (sg t)) patS).length = 0 := by
    unfold Txt.stripChars
    refine Lp.strip_len (a := sg t) (b := []) (by rw [S_cps, List.append_nil]) (fun c hc => ?_) (fun c hc => by cases hc)
    have := sg_mem t h c hc
    rw [pat_cps]
    simp only [Array.contains_eq_mem, List.mem_toArray, decide_eq_true_eq]
    simp only [List.mem_cons, List.not_mem_nil, or_false]
    omega
  exact KWd.len0 h0
theorem plus_pat : uPlus (.str "abcdefghijklmnopqrstuvwxyz") (.str "()#") = some (.str patS) := by
  rw [plus_str0 (by decide +kernel)]
  congr 2
theorem eqS {neg : Bool} {a b : List Nat} (ha : ∀ c ∈ a, c ≤ 122) (hb : ∀ c ∈ b, c ≤ 122) : fEq neg (.str (S a)) (.str (S b)) = some (.bl (if neg then !decide (a = b) else decide (a = b))) := by
  have ok1 : ∀ l : List Nat, (∀ c ∈ l, c ≤ 122) → PyData.strOk (S l) = true := fun l h => by
    simp [PyData.strOk]
    intro i hi
    have := h i hi
    omega
  rw [fEq_str (ok1 a ha) (ok1 b hb)]
  have : ((S a) == (S b)) = decide (a = b) := by
    by_cases h : a = b
    · subst h
      simp
    · rw [decide_eq_false h]
      exact beq_eq_false_iff_ne.mpr fun e => h (S_inj.mp e)
  rw [this]
theorem sg_122 {t : T} (h : ok t) : ∀ c ∈ sg t, c ≤ 122 := fun c m => by
  have := sg_mem t h c m
  omega
theorem repl_S {l y z : List Nat} (hy : y ≠ []) (h : l.length + (l.length + 1) * z.length ≤ 16777216) : fRepl (S y) (S z) (.str (S l)) = some (.str (S (rl y z 0 l))) := by
  unfold fRepl
  dsimp only
  rw [if_pos (by rw [S_len, S_len]; exact h), replace_rl l y z hy]
theorem ev_repl {y z : Str} {m : M D} {g : G} {Q : D → G → Prop} : Ev (mRepl y z m) g Q ↔ Ev m g fun d g' => Ev (lift (fRepl y z d)) g' Q := by
  unfold mRepl
  simp
def FormedS (F : FD) : Prop := ∀ (t : T) (c : C3), ok t → t ≠ .nil → (sg t).length ≤ 100000 → F [.str (S (sg t))] c = some (.bl true, c)
theorem formed_spec {Fd : FD} (hd : DepthS Fd) : FormedS (runM false 2 1 (mIsFormed Fd)) := fun t c ho hn hl => by
  suffices hh : ∃ d c', runM false 2 1 (mIsFormed Fd) [.str (S (sg t))] c = some (d, c') ∧ d = .bl true ∧ c' = c by
    obtain ⟨d, c', e, rfl, rfl⟩ := hh
    exact e
  refine run_ev rfl ?_
  have e := hd t c ho
  have q0 : fEq false (.str (S (sg t))) (.str (S [])) = some (.bl false) := by
    rw [eqS (sg_122 ho) (by simp)]
    have : ¬ sg t = [] := fun z => hn (sg_nil z)
    simp [this]
  have q2 : fEq true (.str (S [])) (.str (S [])) = some (.bl false) := by
    rw [eqS (by simp) (by simp)]
    simp
  have s1 : fStrip (.str (S (sg t))) (.str patS) = some (.str (S [])) := by
    show (if (S (sg t)).length ≤ sizeLine then some (D.str (Txt.stripChars (S (sg t)) patS)) else none) = _
    rw [if_pos (by rw [S_len, sizeLine_eq]; omega), strip_sg t ho]
  have r1 : fRepl (S [41, 35]) (S []) (.str (S (sg t))) = some (.str (S (sz [40] [] t))) := by
    rw [repl_S (by simp) (by simp; omega)]
    have := close_all [40] [] (by simp) t ho
    rw [sz_sg] at this
    rw [this]
  have i1 : uIn false (.str ⟨#[41]⟩) (.str (S (sz [40] [] t))) = some (.bl false) := by
    rw [inS_one, decide_eq_false fun m => (rest_mem t ho _ m).1 rfl]
  have i2 : uIn false (.str ⟨#[35]⟩) (.str (S (sz [40] [] t))) = some (.bl false) := by
    rw [inS_one, decide_eq_false fun m => (rest_mem t ho _ m).2 rfl]
  have i3 : uIn false (.str (S [40, 41])) (.str (S (sg t))) = some (.bl false) := inS_no _ _ fun i h => by
    have := no_pair t [] ho i (by simp at h; omega)
    simpa using this
  have z1 : fIs true (.int (dep t : Int)) .non = some (.bl true) := rfl
  simp [mIsFormed, ev_name_v, eNil, e4135, e4041, e41, e35, plus_pat, q0, q2, s1, ev_repl, r1, i1, i2, i3, e, z1]
def IsPatS (F : FD) : Prop := ∀ (t : T) (c : C3), ok t → t ≠ .nil → (sg t).length ≤ 20000 → dep t ≤ 24 → F [.str (S (sg t))] c = some (.bl true, c)
theorem isPat_spec {Ff Fd : FD} (hf : FormedS Ff) (hd : DepthS Fd) : IsPatS (runM false 1 1 (mIsPattern Ff Fd)) := fun t c ho hn hl h24 => by
  suffices hh : ∃ d c', runM false 1 1 (mIsPattern Ff Fd) [.str (S (sg t))] c = some (d, c') ∧ d = .bl true ∧ c' = c by
    obtain ⟨d, c', e, rfl, rfl⟩ := hh
    exact e
  refine run_ev rfl ?_
  have e := hd t c ho
  have e2 := hf t c ho hn (by omega)
  have z0 : fIsi "str" (.str (S (sg t))) = some (.bl true) := rfl
  have z1 : fLenS [.str (S (sg t))] = some (.int ((sg t).length : Int)) := by
    show (if (S (sg t)).length ≤ sizeLine then some (D.int ((S (sg t)).length : Int)) else none) = _
    rw [if_pos (by rw [S_len, sizeLine_eq]; omega), S_len]
  have z2 : iLe (.int (dep t : Int)) (.int 24) = some (.bl true) := by
    show some (D.bl (decide ((dep t : Int) ≤ 24))) = _
    rw [decide_eq_true (by omega)]
  simp [mIsPattern, ev_name_v, z0, z1, e, e2, z2]
  omega
def LettersInS (F : FD) : Prop := ∀ (t : T) (c : C3), ok t → (sg t).length ≤ 100000 → F [.str (S (sg t))] c = some (.str (S (pl t)), c)
theorem lettersIn_spec : LettersInS (runM false 1 1 mLettersIn) := fun t c ho hl => by
  suffices hh : ∃ d c', runM false 1 1 mLettersIn [.str (S (sg t))] c = some (d, c') ∧ d = .str (S (pl t)) ∧ c' = c by
    obtain ⟨d, c', e, rfl, rfl⟩ := hh
    exact e
  refine run_ev rfl ?_
  have hz := sz_len [] [41, 35] (by simp) (by simp) t
  have r1 : fRepl ⟨#[40]⟩ (S []) (.str (S (sg t))) = some (.str (S (sz [] [41, 35] t))) := by
    rw [show (⟨#[40]⟩ : Str) = S [40] from rfl, repl_S (by simp) (by simp; omega), rl_open [] t ho]
  have r2 : fRepl (S [41, 35]) (S []) (.str (S (sz [] [41, 35] t))) = some (.str (S (pl t))) := by
    rw [repl_S (by simp) (by simp; omega), close_all [] [] (by simp) t ho, sz_pl]
  simp [mLettersIn, ev_name_v, eNil, e4135, e40, ev_repl, r1, r2]
/-! ### patterns -/
def lets (t : T) : List Str := sortU ((pl t).map fun c => (⟨#[c]⟩ : Str))
def pf (t : T) : List (Str × D) := [("_text", .str (S (sg t))), ("_parts", .tup ((pts t).map fun l => .str (S l))), ("_plain", .str (S (pl t))), ("_letters", .tup ((lets t).map .str))]
abbrev PD (C : Addr) (t : T) : D := .ins C (pf t)
noncomputable def mPInit (CPattern : Addr) (Fispattern Fpartsof Flettersin : FD) : M Oc := (seq (mIf (mtNot (mTru (mBl (mFn Fispattern (mCons (mName 1) (ret [])))))) (seq bad (ret .nx)) (ret .nx)) (seq (mFldPutD 0 CPattern "_text" (mName 1)) (seq (mFldPutD 0 CPattern "_parts" (mFn Fpartsof (mCons (mName 1) (ret [])))) (seq (mFldPutD 0 CPattern "_plain" (mFn Flettersin (mCons (mName 1) (ret [])))) (seq (mFldPutD 0 CPattern "_letters" (mCall fTuple (mCons (frz (mSortSet (mFldD 0 CPattern "_plain"))) (ret [])))) (ret .nx))))))
noncomputable def mPStr (CPattern : Addr) : M Oc := (seq (mRet (mCall fStrT (mCons (mFld CPattern "_text" (mName 0)) (ret [])))) (ret .nx))
noncomputable def mPLen (CPattern : Addr) : M Oc := (seq (mRet (mCall fLen (mCons (mFld CPattern "_plain" (mName 0)) (ret [])))) (ret .nx))
noncomputable def mPWeight (CPattern : Addr) (Fweightof : FD) : M Oc := (seq (mRet (mFn Fweightof (mCons (mFld CPattern "_text" (mName 0)) (ret [])))) (ret .nx))
noncomputable def mPParts (CPattern : Addr) : M Oc := (seq (mRet (mFld CPattern "_parts" (mName 0))) (ret .nx))
noncomputable def mPDepth (CPattern : Addr) (Fdepthof : FD) : M Oc := (seq (mRet (mFn Fdepthof (mCons (mFld CPattern "_text" (mName 0)) (ret [])))) (ret .nx))
noncomputable def mPLetters (CPattern : Addr) : M Oc := (seq (mRet (mFld CPattern "_letters" (mName 0))) (ret .nx))
noncomputable def mPText (CPattern : Addr) : M Oc := (seq (mRet (mFld CPattern "_text" (mName 0))) (ret .nx))
noncomputable def mPEq (CPattern : Addr) : M Oc := (seq (mIf (mtNot (mTru (mIsZ CPattern [] (mName 1)))) (seq (mRet (ret (.bl false))) (ret .nx)) (ret .nx)) (seq (mRet (mBin (fEq false) (mFld CPattern "_text" (mName 0)) (mFld CPattern "_text" (mName 1)))) (ret .nx)))
noncomputable def mPIn (CPattern : Addr) : M Oc := (seq (mRet (mBin (uIn false) (mName 1) (mFld CPattern "_letters" (mName 0)))) (ret .nx))
noncomputable def mPRep (CPattern : Addr) (FPatterninit : FD) : M Oc := (seq (mRet (frz (mMake CPattern FPatterninit (mCons (mJs [(ret (.str "(")), (mFmt (mFld CPattern "_text" (mName 0))), (ret (.str ")#"))] Str.empty) (ret []))))) (ret .nx))
noncomputable def mPAdd (CPattern : Addr) (FPatterninit : FD) : M Oc := (seq (mIf (mtNot (mTru (mIsZ CPattern [] (mName 1)))) (seq (mRet bad) (ret .nx)) (ret .nx)) (seq (mRet (frz (mMake CPattern FPatterninit (mCons (mBin uPlus (mFld CPattern "_text" (mName 0)) (mFld CPattern "_text" (mName 1))) (ret []))))) (ret .nx)))
def Good (t : T) : Prop := ok t ∧ t ≠ .nil ∧ (sg t).length ≤ 4000 ∧ dep t ≤ 24
def PInitS (C : Addr) (F : FD) : Prop := ∀ t : T, Good t → F [.str (S (sg t))] (.n C []) = some (.non, .n C (pf t))
theorem signs_S (l : List Nat) : signsS (S l) = l.map fun c => (⟨#[c]⟩ : Str) := by
  unfold signsS
  rw [S_cps]
theorem sortset_S {l : List Nat} (h : l.length ≤ 4000) : fSortSet (.str (S l)) = some (.l ((sortU (l.map fun c => (⟨#[c]⟩ : Str))).map .str)) := by
  unfold fSortSet fSetS
  dsimp only
  rw [if_pos (by rw [S_len]; exact h), signs_S]
  rfl
theorem tup_lst (xs : List D) : fTuple [.lst xs] = some (.tup xs) := rfl
theorem pinit_spec {C : Addr} {Fi Fp Fl : FD} (hi : IsPatS Fi) (hp : PartsS Fp) (hl : LettersInS Fl) : PInitS C (runM true 2 2 (mPInit C Fi Fp Fl)) := fun t ⟨g1, g2, g3, g4⟩ => by
  suffices hh : ∃ d c', runM true 2 2 (mPInit C Fi Fp Fl) [.str (S (sg t))] (.n C []) = some (d, c') ∧ d = .non ∧ c' = .n C (pf t) by
    obtain ⟨d, c', e, rfl, rfl⟩ := hh
    exact e
  refine run_ev rfl ?_
  have hpl := pl_le t
  have e1 := hi t (.n C []) g1 g2 (by omega) g4
  have e2 := fun c => hp t c g1 (by omega)
  have e3 := fun c => hl t c g1 (by omega)
  have e4 := sortset_S (l := pl t) (by omega)
  have bl : ∀ (m : M D) (g : G) (Q : D → G → Prop), Ev (mBl m) g Q ↔ Ev m g fun d g1 => ∃ b, d = .bl b ∧ Q (.bl b) g1 := fun m g Q => by
    unfold mBl
    rw [ev_bind]
    refine ⟨fun h => h.mono fun d g1 q => ?_, fun h => h.mono fun d g1 ⟨b, e, q⟩ => ?_⟩
    · cases d <;> first | exact (ev_bad.mp q).elim | skip
      exact ⟨_, rfl, ev_ret.mp q⟩
    · subst e
      exact ev_ret.mpr q
  have n1 : ¬ ("_parts" : Str) = "_text" := by decide +kernel
  have n2 : ¬ ("_plain" : Str) = "_text" := by decide +kernel
  have n3 : ¬ ("_plain" : Str) = "_parts" := by decide +kernel
  have n4 : ¬ ("_letters" : Str) = "_text" := by decide +kernel
  have n5 : ¬ ("_letters" : Str) = "_parts" := by decide +kernel
  have n6 : ¬ ("_letters" : Str) = "_plain" := by decide +kernel
  have m1 : ¬ ("_text" : Str) = "_parts" := fun e => n1 e.symm
  have m2 : ¬ ("_text" : Str) = "_plain" := fun e => n2 e.symm
  have m3 : ¬ ("_parts" : Str) = "_plain" := fun e => n3 e.symm
  have m4 : ¬ ("_text" : Str) = "_letters" := fun e => n4 e.symm
  have m5 : ¬ ("_parts" : Str) = "_letters" := fun e => n5 e.symm
  have m6 : ¬ ("_plain" : Str) = "_letters" := fun e => n6 e.symm
  simp [mPInit, ev_name_v, bl, e1, e2, e3, setF, getF, n1, n2, n3, n4, n5, n6, m1, m2, m3, m4, m5, m6, e4, O.d, tup_lst, pf, lets]
theorem pf_text (t : T) : getF "_text" (pf t) = some (.str (S (sg t))) := if_pos rfl
theorem pf_parts (t : T) : getF "_parts" (pf t) = some (.tup ((pts t).map fun l => .str (S l))) := by
  have n1 : ¬ ("_parts" : Str) = "_text" := by decide +kernel
  simp [pf, getF, n1]
theorem pf_plain (t : T) : getF "_plain" (pf t) = some (.str (S (pl t))) := by
  have n2 : ¬ ("_plain" : Str) = "_text" := by decide +kernel
  have n3 : ¬ ("_plain" : Str) = "_parts" := by decide +kernel
  simp [pf, getF, n2, n3]
theorem pf_letters (t : T) : getF "_letters" (pf t) = some (.tup ((lets t).map .str)) := by
  have n4 : ¬ ("_letters" : Str) = "_text" := by decide +kernel
  have n5 : ¬ ("_letters" : Str) = "_parts" := by decide +kernel
  have n6 : ¬ ("_letters" : Str) = "_plain" := by decide +kernel
  simp [pf, getF, n4, n5, n6]
theorem f_text {C : Addr} (t : T) : fldD C "_text" (PD C t) = some (.str (S (sg t))) := by rw [fldD_ins, pf_text]
theorem f_parts {C : Addr} (t : T) : fldD C "_parts" (PD C t) = some (.tup ((pts t).map fun l => .str (S l))) := by rw [fldD_ins, pf_parts]
theorem f_plain {C : Addr} (t : T) : fldD C "_plain" (PD C t) = some (.str (S (pl t))) := by rw [fldD_ins, pf_plain]
theorem f_letters {C : Addr} (t : T) : fldD C "_letters" (PD C t) = some (.tup ((lets t).map .str)) := by rw [fldD_ins, pf_letters]
def PTextS (C : Addr) (F : FD) : Prop := ∀ (t : T) (c : C3), F [PD C t] c = some (.str (S (sg t)), c)
theorem ptext_spec {C : Addr} : PTextS C (runM false 1 1 (mPText C)) := fun t c => by
  refine run_pure rfl ?_
  simp [mPText, ev_name_v, -fldD_ins, f_text]
theorem pstr_spec {C : Addr} : PTextS C (runM false 1 1 (mPStr C)) := fun t c => by
  refine run_pure rfl ?_
  simp [mPStr, ev_name_v, -fldD_ins, f_text, fStrT]
def PPartsS (C : Addr) (F : FD) : Prop := ∀ (t : T) (c : C3), F [PD C t] c = some (.tup ((pts t).map fun l => .str (S l)), c)
theorem pparts_spec {C : Addr} : PPartsS C (runM false 1 1 (mPParts C)) := fun t c => by
  refine run_pure rfl ?_
  simp [mPParts, ev_name_v, -fldD_ins, f_parts]
def PLettersS (C : Addr) (F : FD) : Prop := ∀ (t : T) (c : C3), F [PD C t] c = some (.tup ((lets t).map .str), c)
theorem pletters_spec {C : Addr} : PLettersS C (runM false 1 1 (mPLetters C)) := fun t c => by
  refine run_pure rfl ?_
  simp [mPLetters, ev_name_v, -fldD_ins, f_letters]
def PDepthS (C : Addr) (F : FD) : Prop := ∀ (t : T) (c : C3), ok t → F [PD C t] c = some (.int (dep t), c)
theorem pdepth_spec {C : Addr} {Fd : FD} (hd : DepthS Fd) : PDepthS C (runM false 1 1 (mPDepth C Fd)) := fun t c ho => by
  refine run_pure rfl ?_
  have e := hd t c ho
  simp [mPDepth, ev_name_v, -fldD_ins, f_text, e]
def PWeightS (C : Addr) (F : FD) : Prop := ∀ (t : T) (c : C3), ok t → wt 1 t < 2 ^ 400 → 2 ^ dep t < 2 ^ 400 → F [PD C t] c = some (.int (wt 1 t), c)
theorem pweight_spec {C : Addr} {Fd : FD} (hd : WeightS Fd) : PWeightS C (runM false 1 1 (mPWeight C Fd)) := fun t c ho h1 h2 => by
  refine run_pure rfl ?_
  have e := hd t c ho h1 h2
  simp [mPWeight, ev_name_v, -fldD_ins, f_text, e]
def PLenS (C : Addr) (F : FD) : Prop := ∀ (t : T) (c : C3), (pl t).length ≤ 1000000 → F [PD C t] c = some (.int ((pl t).length : Int), c)
theorem plen_spec {C : Addr} : PLenS C (runM false 1 1 (mPLen C)) := fun t c h => by
  refine run_pure rfl ?_
  have z1 : fLen [.str (S (pl t))] = some (.int ((pl t).length : Int)) := by
    show (if (S (pl t)).length ≤ sizeLine then some (D.int ((S (pl t)).length : Int)) else none) = _
    rw [if_pos (by rw [S_len, sizeLine_eq]; omega), S_len]
  simp [mPLen, ev_name_v, -fldD_ins, f_plain, z1]
def PEqS (C : Addr) (F : FD) : Prop := (∀ (t u : T) (c : C3), ok t → ok u → F [PD C t, PD C u] c = some (.bl (decide (sg t = sg u)), c)) ∧ ∀ (t : T) (x : Str) (c : C3), F [PD C t, .str x] c = some (.bl false, c)
theorem peq_spec {C : Addr} : PEqS C (runM false 2 2 (mPEq C)) := by
  refine ⟨fun t u c h1 h2 => ?_, fun t x c => ?_⟩
  · refine run_pure rfl ?_
    have e := eqS (neg := false) (sg_122 h1) (sg_122 h2)
    have z : fIsZ C [] (PD C u) = some (.bl true) := if_pos rfl
    simp [mPEq, ev_name_v, -fldD_ins, f_text, z, e]
  · refine run_pure rfl ?_
    have z : fIsZ C [] (.str x) = some (.bl false) := rfl
    simp [mPEq, ev_name_v, z]
def PInS (C : Addr) (F : FD) : Prop := (∀ (t : T) (x : Str) (c : C3), F [PD C t, .str x] c = some (.bl (decide (x ∈ lets t)), c)) ∧ ∀ (t : T) (c : C3), F [PD C t, .non] c = some (.bl false, c)
theorem uIn_non (ss : List Str) : uIn false .non (.tup (sL ss)) = some (.bl false) := by
  show (fDIn false .non (.tup (sL ss))).or ((fIn false .non (.tup (sL ss))).or (fInS false .non (.tup (sL ss)))) = _
  have : fIn false .non (.tup (sL ss)) = some (.bl false) := by
    show (if (flatD .non && (sL ss).all flatD) = true then some (D.bl (Mo.inD .non (sL ss))) else none) = _
    rw [flat_sL]
    have : Mo.inD .non (sL ss) = false := by
      induction ss with
      | nil => rfl
      | cons s r ih => exact ih
    rw [this]
    rfl
  rw [this]
  rfl
theorem pin_spec {C : Addr} : PInS C (runM false 2 2 (mPIn C)) := by
  refine ⟨fun t x c => ?_, fun t c => ?_⟩
  · refine run_pure rfl ?_
    have e := uIn_tup x (lets t)
    simp [mPIn, ev_name_v, -fldD_ins, f_letters]
    rw [show (List.map D.str (lets t)) = sL (lets t) from rfl, e]
    simp
  · refine run_pure rfl ?_
    have e := uIn_non (lets t)
    simp [mPIn, ev_name_v, -fldD_ins, f_letters]
    rw [show (List.map D.str (lets t)) = sL (lets t) from rfl, e]
    simp
def PRepS (C : Addr) (F : FD) : Prop := ∀ (t : T) (c : C3), Good (.part t .nil) → F [PD C t] c = some (PD C (.part t .nil), c)
theorem prep_spec {C : Addr} {Fi : FD} (hi : PInitS C Fi) : PRepS C (runM false 1 1 (mPRep C Fi)) := fun t c g => by
  refine run_pure rfl ?_
  have e := hi _ g
  have hl : (sg t).length + 3 ≤ 4000 := by
    have := g.2.2.1
    simp [sg] at this
    omega
  have e2 : Str.empty ++ (⟨#[40]⟩ : Str) ++ S (sg t) ++ S [41, 35] = S (sg (.part t .nil)) := by
    rw [show Str.empty = S [] from rfl, show (⟨#[40]⟩ : Str) = S [40] from rfl, S_app, S_app, S_app]
    rfl
  have fm : fFmt (.str (S (sg t))) = some (.str (S (sg t))) := if_pos (by rw [S_len, sizeLine_eq]; omega)
  simp [mPRep, ev_name_v, -fldD_ins, f_text, e40, e4135, fm]
  have e3 : Str.empty ++ (⟨#[40]⟩ : Str) = S [40] := by
    rw [show Str.empty = S [] from rfl, show (⟨#[40]⟩ : Str) = S [40] from rfl, S_app]
    rfl
  have e4 : Str.empty ++ (⟨#[40]⟩ : Str) ++ S (sg t) = S (40 :: sg t) := by rw [e3, S_app]; rfl
  refine ⟨?_, ?_, ?_, ?_⟩
  · rw [e3, S_len, sizeLine_eq]
    simp
  · rw [e4, S_len, sizeLine_eq]
    simp
    omega
  · rw [e2, S_len, sizeLine_eq]
    have := g.2.2.1
    omega
  · rw [e2]
    exact e
def PAddS (C : Addr) (F : FD) : Prop := ∀ (t u : T) (c : C3), Good (app t u) → F [PD C t, PD C u] c = some (PD C (app t u), c)
theorem padd_spec {C : Addr} {Fi : FD} (hi : PInitS C Fi) : PAddS C (runM false 2 2 (mPAdd C Fi)) := fun t u c g => by
  refine run_pure rfl ?_
  have e := hi _ g
  have hl : (sg t).length + (sg u).length ≤ 4000 := by
    have := g.2.2.1
    rw [sg_app, List.length_append] at this
    exact this
  have ep := plus_S (a := sg t) (b := sg u) (by omega)
  rw [← sg_app] at ep
  have z : fIsZ C [] (PD C u) = some (.bl true) := if_pos rfl
  simp [mPAdd, ev_name_v, -fldD_ins, f_text, z, ep, e]
end Yw
set_option Elab.async false
set_option linter.all false
set_option maxRecDepth 100000
set_option maxHeartbeats 4000000
set_option exponentiation.threshold 9000
/-! Yw, part five: patterns read word by word. -/
namespace Yw
open PySem PySem.Spec L2 Mo Lw Pw
open T
/-! ### words -/
def flW (run : List Nat) : List Str := if run = [] then [] else [S run]
def wds : List Nat → T → (List Nat → List Str) → List Str
  | run, .nil, K => K run
  | run, .ch a r, K => wds (run ++ [a]) r K
  | run, .part p r, K => flW run ++ (⟨#[40]⟩ : Str) :: wds [] p fun run' => flW run' ++ (⟨#[41]⟩ : Str) :: wds [] r K
theorem sp_let {c : Nat} (h1 : 97 ≤ c) (h2 : c ≤ 122) : Unicode.isSpace c = false := by
  have : ∀ c : Fin 128, 97 ≤ c.val → c.val ≤ 122 → Unicode.isSpace c.val = false := by decide +kernel
  exact this ⟨c, by omega⟩ h1 h2
theorem sp32 : Unicode.isSpace 32 = true := by decide +kernel
theorem sp40 : Unicode.isSpace 40 = false := by decide +kernel
theorem sp41 : Unicode.isSpace 41 = false := by decide +kernel
theorem step_sp (run : List Nat) : KWd.step ([], S run) 32 = (flW run, S []) := by
  unfold KWd.step flW
  rw [if_pos sp32]
  by_cases h : run = []
  · subst h
    simp [S_len]
  · rw [if_neg (by rw [S_len]; exact fun z => h (List.length_eq_zero_iff.mp z)), if_neg h]
    rfl
theorem step_ch (ws : List Str) (run : List Nat) {c : Nat} (h : Unicode.isSpace c = false) : KWd.step (ws, S run) c = (ws, S (run ++ [c])) := by
  unfold KWd.step
  rw [if_neg (by rw [h]; exact Bool.false_ne_true)]
  show (ws, S run ++ S [c]) = _
  rw [S_app]
theorem fin_ws (ws : List Str) (run : List Nat) (l : List Nat) : KWd.fin (l.foldl KWd.step (ws, S run)) = ws ++ KWd.fin (l.foldl KWd.step ([], S run)) := by
  have := fold_pre ws l ([], S run)
  simp only [List.append_nil] at this
  rw [this, fin_pre]
theorem fin_tok (run : List Nat) {c : Nat} (h : Unicode.isSpace c = false) (u : List Nat) : KWd.fin ((32 :: c :: 32 :: u).foldl KWd.step ([], S run)) = flW run ++ (⟨#[c]⟩ : Str) :: KWd.fin (u.foldl KWd.step ([], S [])) := by
  rw [List.foldl_cons, step_sp, List.foldl_cons, step_ch _ _ h, fin_ws, List.foldl_cons, List.nil_append, step_sp]
  have : flW [c] = [(⟨#[c]⟩ : Str)] := if_neg (by simp)
  rw [this, fin_ws]
  rfl
theorem fin_sz : ∀ (t : T) (run u : List Nat), ok t → KWd.fin ((sz [32, 40, 32] [32, 41, 32] t ++ u).foldl KWd.step ([], S run)) = wds run t fun run' => KWd.fin (u.foldl KWd.step ([], S run'))
  | .nil, run, u, _ => rfl
  | .ch a r, run, u, ⟨h1, h2, h3⟩ => by
    show KWd.fin ((a :: (sz [32, 40, 32] [32, 41, 32] r ++ u)).foldl KWd.step ([], S run)) = _
    rw [List.foldl_cons, step_ch _ _ (sp_let h1 h2)]
    exact fin_sz r (run ++ [a]) u h3
  | .part p r, run, u, ⟨h1, h2, h3⟩ => by
    have e : sz [32, 40, 32] [32, 41, 32] (.part p r) ++ u = 32 :: 40 :: 32 :: (sz [32, 40, 32] [32, 41, 32] p ++ 32 :: 41 :: 32 :: (sz [32, 40, 32] [32, 41, 32] r ++ u)) := by simp [sz]
    rw [e, fin_tok run sp40, fin_sz p [] _ h2]
    simp only [wds]
    congr 3
    funext run'
    rw [fin_tok run' sp41, fin_sz r [] u h3]
theorem words_sz (t : T) (h : ok t) : Txt.words (S (sz [32, 40, 32] [32, 41, 32] t)) = wds [] t flW := by
  rw [KWd.words_scan]
  unfold KWd.scan
  rw [S_cps]
  have := fin_sz t [] [] h
  rw [List.append_nil] at this
  refine this.trans ?_
  congr 1
  funext run
  show KWd.fin ([], S run) = flW run
  unfold KWd.fin flW
  by_cases h : run = []
  · subst h
    simp [S_len]
  · rw [if_neg (by show ¬ (S run).length = 0; rw [S_len]; exact fun z => h (List.length_eq_zero_iff.mp z)), if_neg h]
    rfl
/-! ### values -/
section
variable {V : Type} (zero : V) (rn : V → List Nat → V) (pt : V → V → V)
def rd : V → List Nat → T → V × List Nat
  | v, run, .nil => (v, run)
  | v, run, .ch a r => rd v (run ++ [a]) r
  | v, run, .part p r => rd (pt (rn v run) (rn (rd zero [] p).1 (rd zero [] p).2)) [] r
theorem rd_m {m : V → Nat} {n : Nat} (m0 : m zero = 0) (mr : ∀ v l, m (rn v l) = m v + l.length) (mp : ∀ v p, m (pt v p) = m v + m p * n) : ∀ (t : T) (v : V) (run : List Nat),
    m (rn (rd zero rn pt v run t).1 (rd zero rn pt v run t).2) = m v + run.length + ln n t
  | .nil, v, run => by simp [rd, mr, ln]
  | .ch a r, v, run => by
    simp only [rd, ln]
    rw [rd_m m0 mr mp r v (run ++ [a])]
    simp
    omega
  | .part p r, v, run => by
    simp only [rd, ln]
    rw [rd_m m0 mr mp r, mp, mr, rd_m m0 mr mp p, m0]
    simp
    omega
end
/-! ### the loop -/
theorem ev_of {α : Type} {m : M α} {g g' : G} {a : α} {Q : α → G → Prop} (e : m g = some (.ok a g')) : Ev m g Q ↔ Q a g' :=
  ⟨fun ⟨_, _, e', q⟩ => by rw [e] at e'; cases e'; exact q, fun q => ⟨a, g', e, q⟩⟩
noncomputable def bRd (mb mp mr : M D) : M Oc := (seq (mIf (mT2 (fEq false) (mName 5) (Mo.ret (.str "("))) (seq (mExpr (mLm1 3 fApp mb)) (Mo.ret .nx)) (seq (mIf (mT2 (fEq false) (mName 5) (Mo.ret (.str ")"))) (seq (mSet 6 (mLm0 3 fPop)) (seq (mExpr (mLm1 3 fApp mp)) (seq (mSet 4 (mBin uPlus (mName 4) (Mo.ret (.int 1)))) (Mo.ret .nx)))) (seq (mExpr (mLm1 3 fApp mr)) (Mo.ret .nx))) (Mo.ret .nx))) (Mo.ret .nx))
def Lets (run : List Nat) : Prop := ∀ c ∈ run, 97 ≤ c ∧ c ≤ 122
abbrev stR (tx : D) (ps : List D) (o : D) (xs : List D) (k : Nat) (x5 x6 : Sl) : List Sl := [.v tx, .v (.tup ps), .v o, .o (.l xs), .v (.int (k : Int)), x5, x6]
structure RdOk {V : Type} (zero : V) (rn : V → List Nat → V) (pt : V → V → V) (m : V → Nat) (emb : V → D) (n B : Nat) (o : D) (mb mp mr : M D) : Prop where
  m0 : m zero = 0
  mr_ : ∀ v l, m (rn v l) = m v + l.length
  mp_ : ∀ v p, m (pt v p) = m v + m p * n
  r0 : ∀ v, rn v [] = v
  hb : ∀ (s : List Sl) c, s[2]? = some (.v o) → mb ⟨s, c⟩ = some (.ok (emb zero) ⟨s, c⟩)
  hr : ∀ tx ps xs k v l x6 c, m v + l.length ≤ B → l.length ≤ 100000 → mr ⟨stR tx ps o (xs ++ [emb v]) k (.v (.str (S l))) x6, c⟩ = some (.ok (emb (rn v l)) ⟨stR tx ps o xs k (.v (.str (S l))) x6, c⟩)
  hp : ∀ tx ps xs k v p x5 c, m v + m p * n ≤ B → k < ps.length → mp ⟨stR tx ps o (xs ++ [emb v]) k x5 (.v (emb p)), c⟩ = some (.ok (emb (pt v p)) ⟨stR tx ps o xs k x5 (.v (emb p)), c⟩)
section
variable {V : Type} {zero : V} {rn : V → List Nat → V} {pt : V → V → V} {m : V → Nat} {emb : V → D} {n B : Nat} {o : D} {mb mp mr : M D}
theorem loopFl (R : RdOk zero rn pt m emb n B o mb mp mr) {tx : D} {ps : List D} {c : C3} {Q : Oc → G → Prop} {run : List Nat} {v : V} {xs : List D} {k : Nat} {x5 x6 : Sl} {rest : List Str} (hl : Lets run) (hB : m v + run.length ≤ B) (hr : run.length ≤ 100000) (hx : xs.length ≤ 1000000)
    (h : ∀ x5, Ev (mLoop (stName 5) (bRd mb mp mr) (rest.map .str)) ⟨stR tx ps o (xs ++ [emb (rn v run)]) k x5 x6, c⟩ Q) :
    Ev (mLoop (stName 5) (bRd mb mp mr) ((flW run ++ rest).map .str)) ⟨stR tx ps o (xs ++ [emb v]) k x5 x6, c⟩ Q := by
  unfold flW
  by_cases e : run = []
  · subst e
    rw [if_pos rfl]
    have := h x5
    rw [R.r0] at this
    exact this
  · rw [if_neg e]
    have q0 : fEq false (.str (S run)) (.str ⟨#[40]⟩) = some (.bl false) := by
      rw [show (⟨#[40]⟩ : Str) = S [40] from rfl, eqS (fun c m => (hl c m).2) (by simp)]
      have : ¬ run = [40] := fun z => by
        have := hl 40 (by rw [z]; simp)
        omega
      simp [this]
    have q1' : fEq false (.str (S run)) (.str ⟨#[41]⟩) = some (.bl false) := by
      rw [show (⟨#[41]⟩ : Str) = S [41] from rfl, eqS (fun c m => (hl c m).2) (by simp)]
      have : ¬ run = [41] := fun z => by
        have := hl 41 (by rw [z]; simp)
        omega
      simp [this]
    have er := R.hr tx ps xs k v run x6 c hB hr
    have ea : fApp xs (emb (rn v run)) = some (xs ++ [emb (rn v run)], .non) := fApp_ok (by rw [sizeLine_eq]; omega)
    refine ev_lcons rfl fun I hI => ?_
    simp [bRd, ev_name_v, e40, e41, q0, q1', Mo.Turn, ev_of er, ea]
    exact hI _ (h _)
theorem loopRead (R : RdOk zero rn pt m emb n B o mb mp mr) (h1n : 1 ≤ n) {tx : D} {ps : List D} {c : C3} {Q : Oc → G → Prop} : ∀ (t : T) (run : List Nat) (v : V) (xs : List D) (k : Nat) (x5 x6 : Sl) (K : List Nat → List Str), ok t → Lets run → m v + run.length + ln n t ≤ B → run.length + (sg t).length ≤ 100000 → xs.length + dep t ≤ 1000000 → k + (pts t).length ≤ ps.length →
    (∀ run', Lets run' → run'.length ≤ 100000 → run' = (rd zero rn pt v run t).2 → ∀ x5 x6, Ev (mLoop (stName 5) (bRd mb mp mr) ((K run').map .str)) ⟨stR tx ps o (xs ++ [emb (rd zero rn pt v run t).1]) (k + (pts t).length) x5 x6, c⟩ Q) →
    Ev (mLoop (stName 5) (bRd mb mp mr) ((wds run t K).map .str)) ⟨stR tx ps o (xs ++ [emb v]) k x5 x6, c⟩ Q
  | .nil, run, v, xs, k, x5, x6, K, ho, hl, hB, hr, hx, hk, h => h run hl (by omega) rfl x5 x6
  | .ch a r, run, v, xs, k, x5, x6, K, ⟨g1, g2, ho⟩, hl, hB, hr, hx, hk, h => by
    simp only [ln] at hB
    simp only [sg, List.length_cons] at hr
    refine loopRead R h1n r (run ++ [a]) v xs k x5 x6 K ho (fun d m => ?_) (by simp; omega) (by simp; omega) hx hk h
    rcases List.mem_append.mp m with m | m
    · exact hl d m
    · rw [List.mem_singleton.mp m]
      exact ⟨g1, g2⟩
  | .part p r, run, v, xs, k, x5, x6, K, ⟨g1, g2, ho⟩, hl, hB, hr, hx, hk, h => by
    simp only [ln] at hB
    simp only [dep] at hx
    simp only [pts, List.length_append, List.length_cons] at hk
    have hs : (sg (.part p r)).length = (sg p).length + (sg r).length + 3 := by simp [sg]; omega
    rw [hs] at hr
    have l1 : ln n p ≤ ln n p * n := Nat.le_mul_of_pos_right _ h1n
    simp only [wds]
    refine loopFl R hl (by omega) (by omega) (by omega) fun x5 => ?_
    have ea : fApp (xs ++ [emb (rn v run)]) (emb zero) = some (xs ++ [emb (rn v run)] ++ [emb zero], .non) := fApp_ok (by rw [sizeLine_eq]; simp; omega)
    have eb := R.hb (stR tx ps o (xs ++ [emb (rn v run)]) k (.v (.str ⟨#[40]⟩)) x6) c rfl
    refine ev_lcons rfl fun I hI => ?_
    simp [bRd, ev_name_v, e40, e41, q1, Mo.Turn, ev_of eb, ea, -List.append_assoc]
    refine hI _ ?_
    have hm0 := R.m0
    refine loopRead R h1n p [] zero (xs ++ [emb (rn v run)]) k _ _ _ g2 (fun c m => by cases m) (by rw [hm0]; simp; omega) (by simp; omega) (by simp; omega) (by omega) fun rp hrp hrl hre x5 x6 => ?_
    have mm := rd_m zero rn pt R.m0 R.mr_ R.mp_ p zero []
    rw [hm0, ← hre, R.mr_] at mm
    simp at mm
    refine loopFl R hrp (by omega) hrl (by simp; omega) fun x5 => ?_
    refine ev_lcons rfl fun I hI => ?_
    have mm2 := rd_m zero rn pt R.m0 R.mr_ R.mp_ p zero []
    rw [hm0, ← hre] at mm2
    simp at mm2
    have ep := R.hp tx ps xs (k + (pts p).length) (rn v run) (rn (rd zero rn pt zero [] p).1 rp) (.v (.str ⟨#[41]⟩)) c (by rw [R.mr_, mm2]; omega) (by omega)
    have ea2 : ∀ d, fApp xs d = some (xs ++ [d], .non) := fun d => fApp_ok (by rw [sizeLine_eq]; omega)
    simp only [stR] at ep
    push_cast at ep
    simp [bRd, ev_name_v, e40, e41, q1, Mo.Turn, pop_last, ev_of ep, ea2, -List.append_assoc]
    refine hI _ ?_
    have := loopRead R h1n r [] (pt (rn v run) (rn (rd zero rn pt zero [] p).1 rp)) xs (k + (pts p).length + 1) (.v (.str ⟨#[41]⟩)) (.v (emb (rn (rd zero rn pt zero [] p).1 rp))) K ho (fun c m => by cases m) (by rw [R.mp_, R.mr_, mm2]; simp; omega) (by simp; omega) (by omega) (by omega) (tx := tx) (ps := ps) (c := c) (Q := Q) fun r2 h2 h3 h4 x5 x6 => by
      have := h r2 h2 h3 (by rw [h4, hre]; rfl) x5 x6
      simp only [rd, pts, List.length_append, List.length_cons, ← hre] at this
      rw [show k + ((pts p).length + ((pts r).length + 1)) = k + (pts p).length + 1 + (pts r).length from by omega] at this
      exact this
    simp only [stR] at this
    push_cast at this
    exact this
end
/-! ### the readers -/
noncomputable def mLBegun : M Oc := (seq (mRet (ret (.int 0))) (ret .nx))
noncomputable def mTBegun : M Oc := (seq (mRet (ret (.str ""))) (ret .nx))
noncomputable def mLPart (CLengthReader : Addr) : M Oc := (seq (mRet (mBin uPlus (mName 1) (mBin uMul (mName 2) (mFld CLengthReader "_number" (mName 0))))) (ret .nx))
noncomputable def mTPart (CTextReader : Addr) : M Oc := (seq (mRet (mBin uPlus (mName 1) (mBin uTimesT (mName 2) (mFld CTextReader "_number" (mName 0))))) (ret .nx))
noncomputable def mLRun : M Oc := (seq (mRet (mBin uPlus (mName 1) (mCall fLen (mCons (mName 2) (ret []))))) (ret .nx))
noncomputable def mTRun : M Oc := (seq (mRet (mBin uPlus (mName 1) (mName 2))) (ret .nx))
noncomputable def mLInit (CLengthReader : Addr) : M Oc := (seq (mFldPutD 0 CLengthReader "_number" (mName 1)) (ret .nx))
noncomputable def mTInit (CTextReader : Addr) : M Oc := (seq (mFldPutD 0 CTextReader "_number" (mName 1)) (ret .nx))
noncomputable def bRead (CLengthReader : Addr) (CTextReader : Addr) (FTextReaderbegun FLengthReaderbegun FTextReaderwithpart FLengthReaderwithpart FTextReaderwithrun FLengthReaderwithrun : FD) : M Oc := (seq (mIf (mT2 (fEq false) (mName 5) (ret (.str "("))) (seq (mExpr (mLm1 3 fApp (mAlt (mMeth CTextReader "begun" FTextReaderbegun (mName 2) (ret [])) (mMeth CLengthReader "begun" FLengthReaderbegun (mName 2) (ret []))))) (ret .nx)) (seq (mIf (mT2 (fEq false) (mName 5) (ret (.str ")"))) (seq (mSet 6 (mLm0 3 fPop)) (seq (mExpr (mLm1 3 fApp (mAlt (mMeth CTextReader "with_part" FTextReaderwithpart (mName 2) (mCons (mLm0 3 fPop) (mCons (mName 6) (mCons (mBin uIx (mName 1) (mName 4)) (ret []))))) (mMeth CLengthReader "with_part" FLengthReaderwithpart (mName 2) (mCons (mLm0 3 fPop) (mCons (mName 6) (mCons (mBin uIx (mName 1) (mName 4)) (ret [])))))))) (seq (mSet 4 (mBin uPlus (mName 4) (ret (.int 1)))) (ret .nx)))) (seq (mExpr (mLm1 3 fApp (mAlt (mMeth CTextReader "with_run" FTextReaderwithrun (mName 2) (mCons (mLm0 3 fPop) (mCons (mName 5) (ret [])))) (mMeth CLengthReader "with_run" FLengthReaderwithrun (mName 2) (mCons (mLm0 3 fPop) (mCons (mName 5) (ret []))))))) (ret .nx))) (ret .nx))) (ret .nx))
noncomputable def mRead (CLengthReader : Addr) (CTextReader : Addr) (FTextReaderbegun FLengthReaderbegun FTextReaderwithpart FLengthReaderwithpart FTextReaderwithrun FLengthReaderwithrun : FD) : M Oc := (seq (mSetO 3 (mLst (mCons (mAlt (mMeth CTextReader "begun" FTextReaderbegun (mName 2) (ret [])) (mMeth CLengthReader "begun" FLengthReaderbegun (mName 2) (ret []))) (ret [])))) (seq (mSet 4 (ret (.int 0))) (seq (mFor (stName 5) (mIter (mLs (mWords (mRepl ")#" " ) " (mRepl "(" " ( " (mName 0)))))) (bRead CLengthReader CTextReader FTextReaderbegun FLengthReaderbegun FTextReaderwithpart FLengthReaderwithpart FTextReaderwithrun FLengthReaderwithrun)) (seq (mRet (mIxQ 3 (ret (.int 0)))) (ret .nx)))))
abbrev tD (C : Addr) (n : Nat) : D := .ins C [("_number", .int (n : Int))]
theorem t_num {C : Addr} (n : Nat) : fldD C "_number" (tD C n) = some (.int (n : Int)) := by
  rw [fldD_ins]
  exact if_pos rfl
def BegT (C : Addr) (F : FD) : Prop := ∀ n c, F [tD C n] c = some (.str (S []), c)
theorem begT_spec {C : Addr} : BegT C (runM false 1 1 mTBegun) := fun n c => by
  refine run_pure rfl ?_
  simp [mTBegun, eNil]
def BegL (C : Addr) (F : FD) : Prop := ∀ n c, F [tD C n] c = some (.int 0, c)
theorem begL_spec {C : Addr} : BegL C (runM false 1 1 mLBegun) := fun n c => by
  refine run_pure rfl ?_
  simp [mLBegun]
def RunT (C : Addr) (F : FD) : Prop := ∀ n v l c, v.length + l.length ≤ 1000000 → F [tD C n, .str (S v), .str (S l)] c = some (.str (S (v ++ l)), c)
theorem runT_spec {C : Addr} : RunT C (runM false 3 3 mTRun) := fun n v l c h => by
  refine run_pure rfl ?_
  have e := plus_S (a := v) (b := l) (by omega)
  simp [mTRun, ev_name_v, e]
def RunL (C : Addr) (F : FD) : Prop := ∀ n (v : Nat) l c, l.length ≤ 100000 → F [tD C n, .int (v : Int), .str (S l)] c = some (.int ((v + l.length : Nat) : Int), c)
theorem runL_spec {C : Addr} : RunL C (runM false 3 3 mLRun) := fun n v l c h => by
  refine run_pure rfl ?_
  have z1 : fLen [.str (S l)] = some (.int (l.length : Int)) := by
    show (if (S l).length ≤ sizeLine then some (D.int ((S l).length : Int)) else none) = _
    rw [if_pos (by rw [S_len, sizeLine_eq]; omega), S_len]
  simp [mLRun, ev_name_v, z1]
def PartT (C : Addr) (F : FD) : Prop := ∀ (n : Nat) (v p : List Nat) (x : D) (c : C3), 1 ≤ n → n ≤ 1000 → v.length + p.length * n ≤ 1000000 → F [tD C n, .str (S v), .str (S p), x] c = some (.str (S (v ++ (List.replicate n p).flatten)), c)
theorem partT_spec {C : Addr} : PartT C (runM false 4 4 (mTPart C)) := fun n v p x c h1 h2 h => by
  refine run_pure rfl ?_
  have et := times_S (l := p) (n := n) h1 (by omega) (by omega)
  have er : ((List.replicate n p).flatten).length = p.length * n := by simp [Nat.mul_comm]
  have ep := plus_S (a := v) (b := (List.replicate n p).flatten) (by rw [er]; omega)
  simp [mTPart, ev_name_v, -fldD_ins, t_num, et, ep]
def PartL (C : Addr) (F : FD) : Prop := ∀ (n v p : Nat) (x : D) (c : C3), n < 2 ^ 400 → p < 2 ^ 400 → F [tD C n, .int (v : Int), .int (p : Int), x] c = some (.int ((v + p * n : Nat) : Int), c)
theorem log400 {k : Nat} (h : k < 2 ^ 400) : (k : Int).natAbs.log2 < 401 := by
  rw [Int.natAbs_natCast]
  by_cases e : k = 0
  · subst e
    decide
  · have := (Nat.log2_lt e).mpr h
    omega
theorem partL_spec {C : Addr} : PartL C (runM false 4 4 (mLPart C)) := fun n v p x c h1 h2 => by
  refine run_pure rfl ?_
  have em : uMul (.int (p : Int)) (.int (n : Int)) = some (.int ((p : Int) * (n : Int))) := uMul_int (by
    have := log400 h1
    have := log400 h2
    omega)
  simp [mLPart, ev_name_v, -fldD_ins, t_num, em]
def NumInit (C : Addr) (F : FD) : Prop := ∀ n : Nat, F [.int (n : Int)] (.n C []) = some (.non, .n C [("_number", .int (n : Int))])
theorem numInitT {C : Addr} : NumInit C (runM true 2 2 (mTInit C)) := fun n => by
  suffices hh : ∃ d c', runM true 2 2 (mTInit C) [.int (n : Int)] (.n C []) = some (d, c') ∧ d = .non ∧ c' = .n C [("_number", .int (n : Int))] by
    obtain ⟨d, c', e, rfl, rfl⟩ := hh
    exact e
  refine run_ev rfl ?_
  simp [mTInit, ev_name_v]
  rfl
theorem numInitL {C : Addr} : NumInit C (runM true 2 2 (mLInit C)) := fun n => by
  suffices hh : ∃ d c', runM true 2 2 (mLInit C) [.int (n : Int)] (.n C []) = some (d, c') ∧ d = .non ∧ c' = .n C [("_number", .int (n : Int))] by
    obtain ⟨d, c', e, rfl, rfl⟩ := hh
    exact e
  refine run_ev rfl ?_
  simp [mLInit, ev_name_v]
  rfl
/-! ### read_pattern -/
abbrev xB (CL CT : Addr) (F1 F2 : FD) : M D := mAlt (mMeth CT "begun" F1 (mName 2) (Mo.ret [])) (mMeth CL "begun" F2 (mName 2) (Mo.ret []))
abbrev aP : M (List D) := mCons (mLm0 3 fPop) (mCons (mName 6) (mCons (mBin uIx (mName 1) (mName 4)) (Mo.ret [])))
abbrev aR : M (List D) := mCons (mLm0 3 fPop) (mCons (mName 5) (Mo.ret []))
abbrev xP (CL CT : Addr) (F1 F2 : FD) : M D := mAlt (mMeth CT "with_part" F1 (mName 2) aP) (mMeth CL "with_part" F2 (mName 2) aP)
abbrev xR (CL CT : Addr) (F1 F2 : FD) : M D := mAlt (mMeth CT "with_run" F1 (mName 2) aR) (mMeth CL "with_run" F2 (mName 2) aR)
theorem bRead_eq {CL CT : Addr} {F1 F2 F3 F4 F5 F6 : FD} : bRead CL CT F1 F2 F3 F4 F5 F6 = bRd (xB CL CT F1 F2) (xP CL CT F3 F4) (xR CL CT F5 F6) := rfl
theorem alt1 {m1 m2 : M D} {g g' : G} {d : D} (h : Ev m1 g fun a g2 => a = d ∧ g2 = g') : mAlt m1 m2 g = some (.ok d g') := by
  obtain ⟨a, g2, e, rfl, rfl⟩ := h
  unfold mAlt
  rw [e]
  rfl
theorem meth_none {C C' : Addr} {nm : Str} {F : FD} {ms : M (List D)} {g : G} {fs : List (Str × D)} {i : Nat} (h : g.s[i]? = some (.v (.ins C' fs))) (hc : C' ≠ C) : mMeth C nm F (mName i) ms g = none := by
  unfold mMeth M.bind mName
  simp only [h]
  rw [if_neg (by rintro ⟨z, _⟩; exact hc z)]
  rfl
theorem alt2 {m1 m2 : M D} {g g' : G} {d : D} (h0 : m1 g = none) (h : Ev m2 g fun a g2 => a = d ∧ g2 = g') : mAlt m1 m2 g = some (.ok d g') := by
  obtain ⟨a, g2, e, rfl, rfl⟩ := h
  unfold mAlt
  rw [h0]
  exact e
theorem no_num : ∀ nm : Str, nm ≠ "_number" → ∀ d : D, getF nm [("_number", d)] = none := fun nm h d => if_neg h
theorem rdT {CL CT : Addr} (hne : CT ≠ CL) {F1 F2 F3 F4 F5 F6 : FD} (h1 : BegT CT F1) (h3 : PartT CT F3) (h5 : RunT CT F5) {n : Nat} (n1 : 1 ≤ n) (n2 : n ≤ 1000) :
    RdOk (V := List Nat) [] (fun v l => v ++ l) (fun v p => v ++ (List.replicate n p).flatten) List.length (fun l => .str (S l)) n 1000000 (tD CT n) (xB CL CT F1 F2) (xP CL CT F3 F4) (xR CL CT F5 F6) where
  m0 := rfl
  mr_ := fun v l => by simp
  mp_ := fun v p => by simp [Nat.mul_comm]
  r0 := fun v => by simp
  hb := fun s c h => by
    refine alt1 ?_
    have e := h1 n c
    have g := no_num "begun" (by decide +kernel) (.int (n : Int))
    simp [ev_name_v h, e, g]
  hr := fun tx ps xs k v l x6 c hB hl => by
    refine alt1 ?_
    have e := h5 n v l c hB
    have g := no_num "with_run" (by decide +kernel) (.int (n : Int))
    simp [ev_name_v, e, g, pop_last]
  hp := fun tx ps xs k v p x5 c hB hk => by
    refine alt1 ?_
    have e := fun x => h3 n v p x c n1 n2 hB
    have g := no_num "with_part" (by decide +kernel) (.int (n : Int))
    have ei : uIx (.tup ps) (.int (k : Int)) = some ps[k] := by
      have e1 : atI ps (k : Int) = some ps[k] := atI_nat (List.getElem?_eq_getElem hk)
      show (fDGet (.tup ps) (.int (k : Int))).or (atI ps (k : Int)) = _
      rw [e1]
      rfl
    simp [ev_name_v, e, g, pop_last, ei]
theorem rdL {CL CT : Addr} (hne : CT ≠ CL) {F1 F2 F3 F4 F5 F6 : FD} (h2 : BegL CL F2) (h4 : PartL CL F4) (h6 : RunL CL F6) {n : Nat} (n1 : 1 ≤ n) (n2 : n < 2 ^ 400) :
    RdOk (V := Nat) 0 (fun v l => v + l.length) (fun v p => v + p * n) id (fun k => .int (k : Int)) n (2 ^ 400 - 1) (tD CL n) (xB CL CT F1 F2) (xP CL CT F3 F4) (xR CL CT F5 F6) where
  m0 := rfl
  mr_ := fun v l => rfl
  mp_ := fun v p => rfl
  r0 := fun v => rfl
  hb := fun s c h => by
    refine alt2 (meth_none (fs := [("_number", .int (n : Int))]) h (Ne.symm hne)) ?_
    have e := h2 n c
    have g := no_num "begun" (by decide +kernel) (.int (n : Int))
    simp [ev_name_v h, e, g]
  hr := fun tx ps xs k v l x6 c hB hl => by
    refine alt2 (meth_none (fs := [("_number", .int (n : Int))]) rfl (Ne.symm hne)) ?_
    have e := h6 n v l c hl
    have g := no_num "with_run" (by decide +kernel) (.int (n : Int))
    simp [ev_name_v, e, g, pop_last]
  hp := fun tx ps xs k v p x5 c hB hk => by
    refine alt2 (meth_none (fs := [("_number", .int (n : Int))]) rfl (Ne.symm hne)) ?_
    have hp : p < 2 ^ 400 := by
      have : p ≤ p * n := Nat.le_mul_of_pos_right _ n1
      have hz : 0 < (2 : Nat) ^ 400 := Nat.two_pow_pos _
      simp only [id] at hB
      generalize (2 : Nat) ^ 400 = z at hB hz ⊢
      omega
    have e := fun x => h4 n v p x c n2 hp
    have g := no_num "with_part" (by decide +kernel) (.int (n : Int))
    have ei : uIx (.tup ps) (.int (k : Int)) = some ps[k] := by
      have e1 : atI ps (k : Int) = some ps[k] := atI_nat (List.getElem?_eq_getElem hk)
      show (fDGet (.tup ps) (.int (k : Int))).or (atI ps (k : Int)) = _
      rw [e1]
      rfl
    simp [ev_name_v, e, g, pop_last, ei]
theorem rd_at (n : Nat) : ∀ (t : T) (v run : List Nat), (rd ([] : List Nat) (fun v l => v ++ l) (fun v p => v ++ (List.replicate n p).flatten) v run t).1 ++ (rd ([] : List Nat) (fun v l => v ++ l) (fun v p => v ++ (List.replicate n p).flatten) v run t).2 = v ++ run ++ at_ n t
  | .nil, v, run => by simp [rd, at_]
  | .ch a r, v, run => by
    simp only [rd, at_]
    rw [rd_at n r v (run ++ [a])]
    simp
  | .part p r, v, run => by
    simp only [rd, at_]
    rw [rd_at n r, rd_at n p]
    simp
theorem read_gen {V : Type} {zero : V} {rn : V → List Nat → V} {pt : V → V → V} {m : V → Nat} {emb : V → D} {n B : Nat} {o : D} {CL CT : Addr} {F1 F2 F3 F4 F5 F6 : FD} (R : RdOk zero rn pt m emb n B o (xB CL CT F1 F2) (xP CL CT F3 F4) (xR CL CT F5 F6)) (h1n : 1 ≤ n)
    (t : T) (c : C3) (ho : ok t) (hl : (sg t).length ≤ 100000) (hB : ln n t ≤ B) : runM false 7 3 (mRead CL CT F1 F2 F3 F4 F5 F6) [.str (S (sg t)), .tup ((pts t).map fun l => .str (S l)), o] c = some (emb (rn (rd zero rn pt zero [] t).1 (rd zero rn pt zero [] t).2), c) := by
  suffices hh : ∃ d c', runM false 7 3 (mRead CL CT F1 F2 F3 F4 F5 F6) [.str (S (sg t)), .tup ((pts t).map fun l => .str (S l)), o] c = some (d, c') ∧ d = emb (rn (rd zero rn pt zero [] t).1 (rd zero rn pt zero [] t).2) ∧ c' = c by
    obtain ⟨d, c', e, rfl, rfl⟩ := hh
    exact e
  refine run_ev rfl ?_
  unfold mRead
  rw [bRead_eq]
  have e1 : (" ( " : Str) = S [32, 40, 32] := by decide +kernel
  have e2 : (" ) " : Str) = S [32, 41, 32] := by decide +kernel
  have hz : (sz [32, 40, 32] [41, 35] t).length ≤ 3 * (sg t).length := by
    have : ∀ t : T, (sz [32, 40, 32] [41, 35] t).length ≤ 3 * (sg t).length := fun t => by
      induction t with
      | nil => exact Nat.le_refl _
      | ch a r ih => simp [sz, sg]; omega
      | part p r ih1 ih2 => simp [sz, sg]; omega
    exact this t
  have hz2 : (sz [32, 40, 32] [32, 41, 32] t).length ≤ 3 * (sg t).length := by
    have : ∀ t : T, (sz [32, 40, 32] [32, 41, 32] t).length ≤ 3 * (sg t).length := fun t => by
      induction t with
      | nil => exact Nat.le_refl _
      | ch a r ih => simp [sz, sg]; omega
      | part p r ih1 ih2 => simp [sz, sg]; omega
    exact this t
  have r1 : fRepl ⟨#[40]⟩ (S [32, 40, 32]) (.str (S (sg t))) = some (.str (S (sz [32, 40, 32] [41, 35] t))) := by
    rw [show (⟨#[40]⟩ : Str) = S [40] from rfl, repl_S (by simp) (by simp; omega), rl_open _ t ho]
  have r2 : fRepl (S [41, 35]) (S [32, 41, 32]) (.str (S (sz [32, 40, 32] [41, 35] t))) = some (.str (S (sz [32, 40, 32] [32, 41, 32] t))) := by
    rw [repl_S (by simp) (by simp; omega), close_all _ _ (by simp) t ho]
  have w1 : fWords (.str (S (sz [32, 40, 32] [32, 41, 32] t))) = some (.lst ((wds [] t flW).map .str)) := by
    unfold fWords
    dsimp only
    rw [if_pos (by rw [S_len, sizeLine_eq]; omega), words_sz t ho]
  have ew : ∀ (m : M D) (g : G) (Q : D → G → Prop), Ev (mWords m) g Q ↔ Ev m g fun d g' => Ev (lift (fWords d)) g' Q := fun m g Q => by
    unfold mWords
    simp
  have el : ∀ (m : M D) (g : G) (Q : D → G → Prop), Ev (mLs m) g Q ↔ Ev m g fun d g' => ∃ xs, d = .lst xs ∧ Q (.lst xs) g' := fun m g Q => by
    unfold mLs
    rw [ev_bind]
    refine ⟨fun h => h.mono fun d g1 q => ?_, fun h => h.mono fun d g1 ⟨b, e, q⟩ => ?_⟩
    · cases d <;> first | exact (ev_bad.mp q).elim | skip
      exact ⟨_, rfl, ev_ret.mp q⟩
    · subst e
      exact ev_ret.mpr q
  have hb : ∀ (s : List Sl) (c : C3) (Q : D → G → Prop), s[2]? = some (.v o) → (Ev (xB CL CT F1 F2) ⟨s, c⟩ Q ↔ Q (emb zero) ⟨s, c⟩) := fun s c Q h => ev_of (R.hb s c h)
  generalize hxb : xB CL CT F1 F2 = xb at R hb ⊢
  rw [show mAlt (mMeth CT "begun" F1 (mName 2) (Mo.ret [])) (mMeth CL "begun" F2 (mName 2) (Mo.ret [])) = xb from hxb]
  have hd := dep_le t
  have hp := pts_le t
  simp [ev_name_v, hb, e40, e4135, e1, e2, ev_repl, r1, r2, ew, el, w1, iterD_lst, sizeLine_eq]
  have := loopRead R h1n (tx := .str (S (sg t))) (ps := (pts t).map fun l => .str (S l)) (c := c) (Q := After (seq (mRet (mIxQ 3 (Mo.ret (.int 0)))) (Mo.ret .nx)) (RetP fun d c' => d = emb (rn (rd zero rn pt zero [] t).1 (rd zero rn pt zero [] t).2) ∧ c' = c)) t [] zero [] 0 .un .un flW ho (fun c m => by cases m) (by rw [R.m0]; simpa using hB) (by simpa using hl) (by simp; omega) (by simp) fun run' h1 h2 h3 x5 x6 => by
    have mm := rd_m zero rn pt R.m0 R.mr_ R.mp_ t zero []
    rw [R.m0, ← h3, R.mr_] at mm
    simp at mm
    have := loopFl R (tx := .str (S (sg t))) (ps := (pts t).map fun l => .str (S l)) (c := c) (Q := After (seq (mRet (mIxQ 3 (Mo.ret (.int 0)))) (Mo.ret .nx)) (RetP fun d c' => d = emb (rn (rd zero rn pt zero [] t).1 (rd zero rn pt zero [] t).2) ∧ c' = c)) (run := run') (v := (rd zero rn pt zero [] t).1) (xs := []) (k := 0 + (pts t).length) (x5 := x5) (x6 := x6) (rest := []) h1 (by omega) h2 (by simp) fun x5 => by
      refine ev_lnil ?_
      have ei : ∀ d : D, fIx (.lst [d]) (.int 0) = some d := fun d => rfl
      rw [h3]
      simp [ev_name_v, ei]
    rw [List.append_nil] at this
    exact this
  exact this
def ReadT (CT : Addr) (F : FD) : Prop := ∀ (t : T) (n : Nat) (c : C3), ok t → (sg t).length ≤ 100000 → 1 ≤ n → n ≤ 1000 → ln n t ≤ 1000000 → F [.str (S (sg t)), .tup ((pts t).map fun l => .str (S l)), tD CT n] c = some (.str (S (at_ n t)), c)
def ReadL (CL : Addr) (F : FD) : Prop := ∀ (t : T) (n : Nat) (c : C3), ok t → (sg t).length ≤ 100000 → 1 ≤ n → n < 2 ^ 400 → ln n t < 2 ^ 400 → F [.str (S (sg t)), .tup ((pts t).map fun l => .str (S l)), tD CL n] c = some (.int (ln n t : Int), c)
theorem readT_spec {CL CT : Addr} (hne : CT ≠ CL) {F1 F2 F3 F4 F5 F6 : FD} (h1 : BegT CT F1) (h3 : PartT CT F3) (h5 : RunT CT F5) : ReadT CT (runM false 7 3 (mRead CL CT F1 F2 F3 F4 F5 F6)) := fun t n c ho hl n1 n2 hB => by
  rw [read_gen (rdT hne h1 h3 h5 n1 n2 (F2 := F2) (F4 := F4) (F6 := F6)) n1 t c ho hl hB, rd_at]
  simp
theorem readL_spec {CL CT : Addr} (hne : CT ≠ CL) {F1 F2 F3 F4 F5 F6 : FD} (h2 : BegL CL F2) (h4 : PartL CL F4) (h6 : RunL CL F6) : ReadL CL (runM false 7 3 (mRead CL CT F1 F2 F3 F4 F5 F6)) := fun t n c ho hl n1 n2 hB => by
  have R := rdL hne h2 h4 h6 n1 n2 (F1 := F1) (F3 := F3) (F5 := F5)
  rw [read_gen R n1 t c ho hl (by omega)]
  have mm := rd_m (V := Nat) 0 (fun v l => v + l.length) (fun v p => v + p * n) (m := id) (n := n) rfl (fun _ _ => rfl) (fun _ _ => rfl) t 0 []
  have e : (rd (V := Nat) 0 (fun v l => v + l.length) (fun v p => v + p * n) 0 [] t).1 + (rd (V := Nat) 0 (fun v l => v + l.length) (fun v p => v + p * n) 0 [] t).2.length = ln n t := by
    have := mm
    simp only [id, List.length_nil, Nat.zero_add, Nat.add_zero] at this
    exact this
  rw [e]
end Yw
set_option Elab.async false
set_option linter.all false
set_option maxRecDepth 100000
set_option maxHeartbeats 4000000
set_option exponentiation.threshold 9000
/-! Yw, part six: length, the text at a number; drawn patterns. -/
namespace Yw
open PySem PySem.Spec L2 Mo Lw Pw
open T
noncomputable def mChkPos (Fiscount : FD) : M Oc := (seq (mIf (mtOr (mtNot (mTru (mFn Fiscount (mCons (mName 0) (ret []))))) (mT2 (fEq false) (mName 0) (ret (.int 0)))) (seq bad (ret .nx)) (ret .nx)) (ret .nx))
noncomputable def mPLength (CLengthReader : Addr) (CPattern : Addr) (Fcheckpositive Freadpattern FLengthReaderinit : FD) : M Oc := (seq (mExpr (mFn Fcheckpositive (mCons (mName 1) (ret [])))) (seq (mRet (mFn Freadpattern (mCons (mFld CPattern "_text" (mName 0)) (mCons (mFld CPattern "_parts" (mName 0)) (mCons (frz (mMake CLengthReader FLengthReaderinit (mCons (mName 1) (ret [])))) (ret [])))))) (ret .nx)))
noncomputable def mPCall (CPattern : Addr) (CTextReader : Addr) (FPatternlength Freadpattern FTextReaderinit : FD) : M Oc := (seq (mIf (mT2 iGt (mMeth CPattern "length" FPatternlength (mName 0) (mCons (mName 1) (ret []))) (ret (.int 100000))) (seq bad (ret .nx)) (ret .nx)) (seq (mRet (mFn Freadpattern (mCons (mFld CPattern "_text" (mName 0)) (mCons (mFld CPattern "_parts" (mName 0)) (mCons (frz (mMake CTextReader FTextReaderinit (mCons (mName 1) (ret [])))) (ret [])))))) (ret .nx)))
def ChkPosS (F : FD) : Prop := ∀ (n : Nat) (c : C3), 1 ≤ n → (n : Int) < 10 ^ 60 → F [.int (n : Int)] c = some (.non, c)
theorem chkPos_spec {Fi : FD} (hi : Uw.CountB Fi) : ChkPosS (runM false 1 1 (mChkPos Fi)) := fun n c h1 h2 => by
  refine run_pure rfl ?_
  have e := hi (n : Int) (by omega) h2 c
  generalize hk : (n : Int) = k at e
  have hk1 : k ≠ 0 := by omega
  simp [mChkPos, ev_name_v, e, hk1]
def PLengthS (C : Addr) (F : FD) : Prop := ∀ (t : T) (n : Nat) (c : C3), ok t → (sg t).length ≤ 100000 → 1 ≤ n → (n : Int) < 10 ^ 60 → ln n t < 2 ^ 400 → F [PD C t, .int (n : Int)] c = some (.int (ln n t : Int), c)
theorem plength_spec {C CL : Addr} {Fc Fr Fi : FD} (hc : ChkPosS Fc) (hr : ReadL CL Fr) (hi : NumInit CL Fi) : PLengthS C (runM false 2 2 (mPLength CL C Fc Fr Fi)) := fun t n c ho hl n1 n2 hB => by
  refine run_pure rfl ?_
  have e1 := hc n c n1 n2
  have n3 : n < 2 ^ 400 := by
    have h : (10 : Nat) ^ 60 < 2 ^ 400 := by decide +kernel
    have h2 : n < 10 ^ 60 := by
      have : ((10 : Nat) ^ 60 : Int) = (10 : Int) ^ 60 := by norm_cast
      omega
    omega
  have e2 := hr t n c ho hl n1 n3 hB
  have e3 := hi n
  simp [mPLength, ev_name_v, -fldD_ins, f_text, f_parts, e1, e3, O.d, e2]
def PCallS (C : Addr) (F : FD) : Prop := ∀ (t : T) (n : Nat) (c : C3), ok t → (sg t).length ≤ 100000 → 1 ≤ n → n ≤ 1000 → ln n t ≤ 100000 → F [PD C t, .int (n : Int)] c = some (.str (S (at_ n t)), c)
theorem no_field (nm : Str) (t : T) (h : nm ≠ "_text") (h2 : nm ≠ "_parts") (h3 : nm ≠ "_plain") (h4 : nm ≠ "_letters") : getF nm (pf t) = none := by
  simp [pf, getF, h, h2, h3, h4]
theorem pcall_spec {C CT : Addr} {Fl Fr Fi : FD} (hl : PLengthS C Fl) (hr : ReadT CT Fr) (hi : NumInit CT Fi) : PCallS C (runM false 2 2 (mPCall C CT Fl Fr Fi)) := fun t n c ho hs n1 n2 hB => by
  refine run_pure rfl ?_
  have e1 := hl t n c ho hs n1 (by
    have : (1000 : Int) < 10 ^ 60 := by decide
    omega) (by
    have : (100000 : Nat) < 2 ^ 400 := by decide +kernel
    omega)
  have e2 := hr t n c ho hs n1 n2 (by omega)
  have e3 := hi n
  have g := no_field "length" t (by decide +kernel) (by decide +kernel) (by decide +kernel) (by decide +kernel)
  simp [mPCall, ev_name_v, -fldD_ins, f_text, f_parts, g, e1, e3, O.d, e2]
  omega
/-! ### drawn -/
noncomputable def bDrawn30 (Froll Fpick : FD) (Fr : FD) : M Oc := (seq (mIf (mtAnd (mT2 iGt (mName 3) (ret (.int 0))) (mT2 (fEq false) (isDi 0 (mFn Froll (mCons (ret (.int 3)) (ret [])))) (ret (.int 0)))) (seq (mSet 4 (mBin uPlus (mBin uPlus (mBin uPlus (mName 4) (ret (.str "("))) (isDi 0 (mFn Fr (mCons (mName 1) (mCons (ret (.int 2)) (mCons (mBin uSub (mName 3) (ret (.int 1))) (ret []))))))) (ret (.str ")#")))) (ret .nx)) (seq (mSet 4 (mBin uPlus (mName 4) (isDi 0 (mFn Fpick (mCons (mName 1) (ret [])))))) (ret .nx))) (ret .nx))
noncomputable def mDrawn30 (Froll Fpick : FD) (Fr : FD) : M Oc := (seq (mSet 4 (ret (.str ""))) (seq (mFor (stName 5) (mWk fRng1 (mCons (mBin uPlus (ret (.int 1)) (isDi 0 (mFn Froll (mCons (mName 2) (ret []))))) (ret []))) (bDrawn30 Froll Fpick Fr)) (seq (mRet (mName 4)) (ret .nx))))
def E_ : Nat → Nat
  | 0 => 1
  | d + 1 => 2 * E_ d + 3
def G_ : Nat → Nat
  | 0 => 1
  | d + 1 => 10 * G_ d
def C_ : Nat → Nat
  | 0 => 1
  | d + 1 => 2 * C_ d + 2
theorem E_pos : ∀ d, 1 ≤ E_ d
  | 0 => Nat.le_refl _
  | d + 1 => by unfold E_; omega
theorem G_pos : ∀ d, 1 ≤ G_ d
  | 0 => Nat.le_refl _
  | d + 1 => by
    have := G_pos d
    unfold G_
    omega
structure Dr (d k : Nat) (t : T) : Prop where
  ok_ : ok t
  dep_ : dep t ≤ d
  sz_ : (sg t).length ≤ k * E_ d
  ln_ : ln 5 t ≤ k * G_ d
theorem Dr.snoc_ch {d k a : Nat} {t : T} (h : Dr d k t) (h1 : 97 ≤ a) (h2 : a ≤ 122) : Dr d (k + 1) (app t (.ch a .nil)) where
  ok_ := ok_app h.ok_ ⟨h1, h2, trivial⟩
  dep_ := by
    have := h.dep_
    rw [dep_app]
    simp [dep]
    exact this
  sz_ := by
    have := h.sz_
    have := E_pos d
    rw [sg_app, List.length_append, Nat.succ_mul]
    simp [sg]
    omega
  ln_ := by
    have := h.ln_
    have := G_pos d
    rw [ln_app, Nat.succ_mul]
    simp [ln]
    omega
theorem Dr.snoc_part {d k : Nat} {t p : T} (h : Dr (d + 1) k t) (hp : Dr d 2 p) (hn : p ≠ .nil) : Dr (d + 1) (k + 1) (app t (.part p .nil)) where
  ok_ := ok_app h.ok_ ⟨hn, hp.ok_, trivial⟩
  dep_ := by
    have := h.dep_
    have := hp.dep_
    rw [dep_app]
    simp [dep]
    omega
  sz_ := by
    have := h.sz_
    have := hp.sz_
    rw [sg_app, List.length_append, Nat.succ_mul]
    simp [sg]
    have e : E_ (d + 1) = 2 * E_ d + 3 := rfl
    omega
  ln_ := by
    have := h.ln_
    have := hp.ln_
    rw [ln_app, Nat.succ_mul]
    simp [ln]
    have e : G_ (d + 1) = 10 * G_ d := rfl
    omega
def DrawnS (d : Nat) (F : FD) : Prop := ∀ (al : List Nat) (many : Nat) (c : C3) (N : Nat), Di c N → N + 1 + many * C_ d ≤ 900000 → al ≠ [] → al.length ≤ 10 → Lets al → 1 ≤ many → many ≤ 3 → ∃ t c', F [.lst (chs al), .int (many : Int), .int (d : Int)] c = some (.str (S (sg t)), c') ∧ Dr d many t ∧ t ≠ .nil ∧ Di c' (N + 1 + many * C_ d)
theorem Di.le {c : C3} {N M : Nat} (h : Di c N) (l : N ≤ M) : Di c M := by
  obtain ⟨a, b, k, e, h1, h2, h3, h4, h5, h6⟩ := h
  exact ⟨a, b, k, e, h1, h2, h3, h4, h5, by omega⟩
theorem drawn_spec {Fo Fp Fr : FD} (ho : RollS Fo) (hp : PickS Fp) (d : Nat) (hd : d ≤ 3) (hr : ∀ e, d = e + 1 → DrawnS e Fr) : DrawnS d (runM true 6 4 (mDrawn30 Fo Fp Fr)) := fun al many c N h hN ha hal hL h1 h3 => by
  suffices hh : ∃ x c', runM true 6 4 (mDrawn30 Fo Fp Fr) [.lst (chs al), .int (many : Int), .int (d : Int)] c = some (x, c') ∧ ∃ t, x = .str (S (sg t)) ∧ Dr d many t ∧ t ≠ .nil ∧ Di c' (N + 1 + many * C_ d) by
    obtain ⟨x, c', e, t, rfl, q⟩ := hh
    exact ⟨t, c', e, q⟩
  refine run_ev rfl ?_
  have hE : E_ d ≤ 29 := by
    have : d = 0 ∨ d = 1 ∨ d = 2 ∨ d = 3 := by omega
    rcases this with rfl | rfl | rfl | rfl <;> decide
  have hC : C_ d ≤ 22 := by
    have : d = 0 ∨ d = 1 ∨ d = 2 ∨ d = 3 := by omega
    rcases this with rfl | rfl | rfl | rfl <;> decide
  obtain ⟨r, c1, e1, r0, r1, d1⟩ := ho c N (many : Int) h (by omega) (by omega) (by
    have : (3 : Int) ≤ 10 ^ 60 := by decide
    omega)
  obtain ⟨k, hk⟩ : ∃ k : Nat, 1 + r = (k : Int) := ⟨(1 + r).toNat, by omega⟩
  have k1 : 1 ≤ k := by omega
  have k3 : k ≤ many := by omega
  have er := rng1_nat (n := k) (by omega)
  have hlen := rngD_len (lo := 0) (n := k)
  simp [mDrawn30, ev_name_v, e1, hk, er]
  obtain ⟨I, hI⟩ : ∃ I : List D → G → Prop, ∀ ds g, I ds g ↔ ∃ t j x5 cc, g = ⟨[.di, .v (.lst (chs al)), .v (.int (many : Int)), .v (.int (d : Int)), .v (.str (S (sg t))), x5], cc⟩ ∧ j + ds.length = k ∧ Dr d j t ∧ (1 ≤ j → t ≠ .nil) ∧ Di cc (N + 1 + j * C_ d) := ⟨_, fun _ _ => Iff.rfl⟩
  refine ev_loop I (fun x rest g hg => ?_) (fun g hg => ?_) _ _ ((hI _ _).mpr ⟨.nil, 0, .un, c1, by rw [eNil]; rfl, by rw [hlen]; omega, ⟨trivial, Nat.zero_le _, Nat.zero_le _, Nat.zero_le _⟩, fun z => by omega, by simpa using d1⟩)
  · obtain ⟨t, j, x5, cc, rfl, hj, dr, hne, dj⟩ := (hI _ _).mp hg
    rw [List.length_cons] at hj
    have jm : j + 1 ≤ many := by omega
    have jC : j * C_ d + C_ d ≤ many * C_ d := by
      have := Nat.mul_le_mul_right (C_ d) jm
      rw [Nat.succ_mul] at this
      exact this
    have tl : (sg t).length ≤ 87 := by
      have h0 := dr.sz_
      have : j * E_ d ≤ 3 * 29 := Nat.mul_le_mul (by omega) hE
      omega
    -- a letter
    have letter : ∀ cc N', Di cc N' → N' ≤ 900000 → ∃ a c2, Fp [.lst (chs al)] cc = some (.str ⟨#[a]⟩, c2) ∧ a ∈ al ∧ Di c2 (N' + 1) := fun cc N' hd' hN' => by
      obtain ⟨y, c2, e2, m2, d2⟩ := hp cc N' (chs al) hd' (by omega) (by simpa [chs] using ha) (by simp [chs]; omega)
      obtain ⟨a, ma, rfl⟩ := List.mem_map.mp m2
      exact ⟨a, c2, e2, ma, d2⟩
    refine ⟨_, rfl, ?_⟩
    cases d with
    | zero =>
      obtain ⟨a, c2, e2, ma, d2⟩ := letter cc _ dj (by omega)
      obtain ⟨a1, a2⟩ := hL a ma
      have ep := plus_S (a := sg t) (b := [a]) (by simp; omega)
      have c0 : C_ 0 = 1 := rfl
      simp [bDrawn30, ev_name_v, e2, ep, Mo.Turn]
      refine (hI _ _).mpr ⟨app t (.ch a .nil), j + 1, _, c2, by rw [sg_app]; rfl, by omega, dr.snoc_ch a1 a2, (fun _ z => by cases (app_nil z).2), ?_⟩
      rw [c0] at d2 ⊢
      exact Di.le d2 (by omega)
    | succ e =>
      obtain ⟨q, c2, e2, q0, q3, d2⟩ := ho cc _ 3 dj (by omega) (by decide) (by decide)
      have cS : C_ (e + 1) = 2 * C_ e + 2 := rfl
      have ge : ((0 : Int) < ((e + 1 : Nat) : Int)) := by omega
      by_cases hq : q = 0
      · obtain ⟨p, c3, e3, dp, np, d3⟩ := hr e rfl al 2 c2 _ d2 (by omega) ha hal hL (by omega) (by omega)
        have pl0 : (sg p).length ≤ 58 := by
          have h0 := dp.sz_
          have hE2 : E_ e ≤ 29 := by
            have : E_ (e + 1) = 2 * E_ e + 3 := rfl
            omega
          omega
        have ep1 := plus_S (a := sg t) (b := [40]) (by simp; omega)
        have ep2 := plus_S (a := sg t ++ [40]) (b := sg p) (by simp; omega)
        have ep3 := plus_S (a := sg t ++ [40] ++ sg p) (b := [41, 35]) (by simp; omega)
        have es : ((e + 1 : Nat) : Int) - 1 = (e : Int) := by omega
        subst hq
        have e3' : Fr [.lst (chs al), .int 2, .int (e : Int)] c2 = some (.str (S (sg p)), c3) := e3
        simp [bDrawn30, ev_name_v, e2, ep1, ep2, ep3, Mo.Turn, e40, e4135, e3', show (0 : Int) < (e : Int) + 1 by omega, -List.append_assoc]
        refine (hI _ _).mpr ⟨app t (.part p .nil), j + 1, .v x, c3, by rw [sg_app]; simp [sg], by omega, dr.snoc_part dp np, (fun _ z => by cases (app_nil z).2), ?_⟩
        refine Di.le d3 ?_
        rw [Nat.add_one_mul j (C_ (e + 1))]
        omega
      · obtain ⟨a, c3, e3, ma, d3⟩ := letter c2 _ d2 (by omega)
        obtain ⟨a1, a2⟩ := hL a ma
        have ep := plus_S (a := sg t) (b := [a]) (by simp; omega)
        simp [bDrawn30, ev_name_v, e2, ep, Mo.Turn, e3, hq, show (0 : Int) < (e : Int) + 1 by omega]
        refine (hI _ _).mpr ⟨app t (.ch a .nil), j + 1, _, c3, by rw [sg_app]; rfl, by omega, dr.snoc_ch a1 a2, (fun _ z => by cases (app_nil z).2), ?_⟩
        refine Di.le d3 ?_
        rw [Nat.add_one_mul j (C_ (e + 1))]
        omega
  · obtain ⟨t, j, x5, cc, rfl, hj, dr, hne, dj⟩ := (hI _ _).mp hg
    simp at hj
    subst hj
    simp [ev_name_v]
    refine ⟨t, rfl, ⟨dr.ok_, dr.dep_, Nat.le_trans dr.sz_ (Nat.mul_le_mul_right _ k3), Nat.le_trans dr.ln_ (Nat.mul_le_mul_right _ k3)⟩, hne k1, Di.le dj ?_⟩
    have := Nat.mul_le_mul_right (C_ d) k3
    omega
end Yw
set_option Elab.async false
set_option linter.all false
set_option maxRecDepth 100000
set_option maxHeartbeats 4000000
set_option exponentiation.threshold 9000
/-! Yw, part seven: a pattern is as it should be. -/
namespace Yw
open PySem PySem.Spec L2 Mo Lw Pw
open T
def LayX (d : D) (x : PyData) : Prop := d.py = some x ∧ x.canLay0 = true ∧ x.depth ≤ 5
theorem fEq_refl {neg : Bool} {d : D} {x : PyData} (h : LayX d x ∨ (d.py = some x ∧ x.canLay0 = true ∧ x.depth ≤ 64)) : fEq neg d d = some (.bl (!neg)) := by
  have h : d.py = some x ∧ x.canLay0 = true ∧ x.depth ≤ 64 := h.elim (fun z => ⟨z.1, z.2.1, by have := z.2.2; omega⟩) id
  have hs : SeqAt.shaped x = true := by
    unfold SeqAt.shaped
    rw [h.2.1, Bool.true_and]
    exact decide_eq_true h.2.2
  unfold fEq
  rw [h.1]
  show (if (SeqAt.shaped x && SeqAt.shaped x) = true then some (D.bl (if neg then !PyData.eqv x x else PyData.eqv x x)) else none) = _
  rw [hs, PySem.SeqAt.eqv_refl x h.2.1]
  cases neg <;> rfl
theorem S_ok {l : List Nat} (h : ∀ c ∈ l, c ≤ 122) : PyData.strOk (S l) = true := by
  simp [PyData.strOk]
  intro i hi
  have := h i hi
  omega
theorem pl_122 : ∀ t : T, ok t → Lets (pl t)
  | .nil, _, c, m => by simp [pl] at m
  | .ch a r, ⟨h1, h2, h3⟩, c, m => by
    simp only [pl, List.mem_cons] at m
    rcases m with rfl | m
    · exact ⟨h1, h2⟩
    · exact pl_122 r h3 c m
  | .part p r, ⟨h1, h2, h3⟩, c, m => by
    simp only [pl, List.mem_append] at m
    rcases m with m | m
    · exact pl_122 p h2 c m
    · exact pl_122 r h3 c m
theorem at_122 (n : Nat) : ∀ t : T, ok t → ∀ c ∈ at_ n t, c ≤ 122
  | .nil, _, c, m => by simp [at_] at m
  | .ch a r, ⟨h1, h2, h3⟩, c, m => by
    simp only [at_, List.mem_cons] at m
    rcases m with rfl | m
    · exact h2
    · exact at_122 n r h3 c m
  | .part p r, ⟨h1, h2, h3⟩, c, m => by
    simp only [at_, List.mem_append, List.mem_flatten, List.mem_replicate] at m
    rcases m with ⟨l, ⟨_, rfl⟩, m⟩ | m
    · exact at_122 n p h2 c m
    · exact at_122 n r h3 c m
theorem pts_122 : ∀ t : T, ok t → ∀ l ∈ pts t, ∀ c ∈ l, c ≤ 122
  | .nil, _, l, m => by simp [pts] at m
  | .ch a r, ⟨h1, h2, h3⟩, l, m => pts_122 r h3 l m
  | .part p r, ⟨h1, h2, h3⟩, l, m => by
    simp only [pts, List.mem_append, List.mem_cons] at m
    rcases m with m | rfl | m
    · exact pts_122 p h2 l m
    · exact sg_122 h2
    · exact pts_122 r h3 l m
theorem lets_mem {t : T} {x : Str} (h : x ∈ lets t) : ∃ c ∈ pl t, x = ⟨#[c]⟩ := by
  obtain ⟨c, m, e⟩ := List.mem_map.mp (sortU_mem.mp h)
  exact ⟨c, m, e.symm⟩
theorem lets_ok {t : T} (h : ok t) : OkS (lets t) := fun x m => by
  obtain ⟨c, mc, rfl⟩ := lets_mem m
  exact one_ok (pl_122 t h c mc).2
theorem ptsS_ok {t : T} (h : ok t) : OkS ((pts t).map S) := fun x m => by
  obtain ⟨l, ml, rfl⟩ := List.mem_map.mp m
  exact S_ok (pts_122 t h l ml)
theorem wt_le : ∀ (t : T) (e : Nat), wt e t ≤ e * 2 ^ dep t * (sg t).length
  | .nil, e => Nat.zero_le _
  | .ch a r, e => by
    have ih := wt_le r e
    simp only [wt, dep, sg, List.length_cons]
    have : e ≤ e * 2 ^ dep r := Nat.le_mul_of_pos_right _ (Nat.two_pow_pos _)
    rw [Nat.mul_add, Nat.mul_one]
    omega
  | .part p r, e => by
    have ih1 := wt_le p (2 * e)
    have ih2 := wt_le r e
    simp only [wt, dep]
    have hs : (sg (.part p r)).length = (sg p).length + (sg r).length + 3 := by simp [sg]; omega
    rw [hs]
    have h1 : 2 * e * 2 ^ dep p ≤ e * 2 ^ max (dep p + 1) (dep r) := by
      have : 2 ^ (dep p + 1) ≤ 2 ^ max (dep p + 1) (dep r) := Nat.pow_le_pow_right (by omega) (Nat.le_max_left _ _)
      have h2 : 2 * e * 2 ^ dep p = e * 2 ^ (dep p + 1) := by rw [Nat.pow_succ]; ac_rfl
      rw [h2]
      exact Nat.mul_le_mul_left e this
    have h2 : e * 2 ^ dep r ≤ e * 2 ^ max (dep p + 1) (dep r) := Nat.mul_le_mul_left e (Nat.pow_le_pow_right (by omega) (Nat.le_max_right _ _))
    have h3 := Nat.mul_le_mul_right (sg p).length h1
    have h4 := Nat.mul_le_mul_right (sg r).length h2
    generalize e * 2 ^ max (dep p + 1) (dep r) = X at *
    rw [Nat.mul_add, Nat.mul_add]
    omega
/-- what is drawn and put together -/
structure GT (t : T) : Prop where
  ok_ : ok t
  ne : t ≠ .nil
  sz_ : (sg t).length ≤ 300
  dep_ : dep t ≤ 5
  ln_ : ln 5 t ≤ 20000
theorem GT.good {t : T} (h : GT t) : Good t := ⟨h.ok_, h.ne, by have := h.sz_; omega, by have := h.dep_; omega⟩
theorem GT.rep {t : T} (h : GT t) : Good (.part t .nil) := by
  have h1 := h.sz_
  have h2 := h.dep_
  refine ⟨⟨h.ne, h.ok_, trivial⟩, (by intro z; cases z), ?_, ?_⟩
  · simp [sg]
    omega
  · simp [dep]
    omega
theorem GT.wt_ {t : T} (h : GT t) : wt 1 t ≤ 9600 := by
  have h1 := wt_le t 1
  have h2 : 2 ^ dep t ≤ 2 ^ 5 := Nat.pow_le_pow_right (by omega) h.dep_
  have h3 : 1 * 2 ^ dep t * (sg t).length ≤ 1 * 2 ^ 5 * 300 := Nat.mul_le_mul (Nat.mul_le_mul_left 1 h2) h.sz_
  omega
theorem sg_pl : ∀ t : T, ok t → (sg t).filter (fun c => !decide (c = 40 ∨ c = 41 ∨ c = 35)) = pl t
  | .nil, _ => rfl
  | .ch a r, ⟨h1, h2, h3⟩ => by
    have ih := sg_pl r h3
    simp [sg, pl, show ¬ a = 40 by omega, show ¬ a = 41 by omega, show ¬ a = 35 by omega]
    simpa using ih
  | .part p r, ⟨h1, h2, h3⟩ => by
    have ih := sg_pl r h3
    have ih2 := sg_pl p h2
    simp [sg, pl, List.filter_append]
    simp at ih ih2
    rw [ih, ih2]
def TD (t : T) : List D := [.str (S (sg t)), .tup (sL (lets t)), .int (dep t : Int), .tup (sL ((pts t).map S)), .int (wt 1 t : Int)]
def TE_ (t : T) : List D := [.int ((pl t).length : Int), .str (S (sg t))]
theorem pys_c {d : D} {x : PyData} {ds : List D} {xs : List PyData} (h : d.py = some x) (h2 : D.pys ds = some xs) : D.pys (d :: ds) = some (x :: xs) := by
  show (match D.py d, D.pys ds with
    | some x, some r => some (x :: r)
    | _, _ => none) = _
  rw [h, h2]
theorem py_tupS (ss : List Str) : D.py (.tup (sL ss)) = some (.tuple (ss.map .str)) := by
  show (D.pys (sL ss)).map PyData.tuple = _
  rw [pys_strs]
  rfl
theorem told_eq (t : T) (h : ok t) (neg : Bool) : fEq neg (.lst (TD t ++ TE_ t)) (.lst (TD t ++ TE_ t)) = some (.bl (!neg)) := by
  refine fEq_refl (x := .list [.str (S (sg t)), .tuple ((lets t).map .str), .int (dep t : Int), .tuple (((pts t).map S).map .str), .int (wt 1 t : Int), .int ((pl t).length : Int), .str (S (sg t))]) (.inr ⟨?_, ?_, ?_⟩)
  · show (D.pys (TD t ++ TE_ t)).map PyData.list = _
    unfold TD TE_
    rw [List.cons_append, List.cons_append, List.cons_append, List.cons_append, List.cons_append, List.nil_append, pys_c rfl (pys_c (py_tupS _) (pys_c rfl (pys_c (py_tupS _) (pys_c rfl (pys_c rfl (pys_c rfl rfl))))))]
    rfl
  · show (PyData.strOk (S (sg t)) && (PyData.canLayAll0 ((lets t).map .str) && (true && (PyData.canLayAll0 (((pts t).map S).map .str) && (true && (true && (PyData.strOk (S (sg t)) && true))))))) = true
    rw [S_ok (sg_122 h), lay_strs (lets_ok h), lay_strs (ptsS_ok h)]
    rfl
  · show max 0 (max (PyData.depthAll ((lets t).map .str) + 1) (max 0 (max (PyData.depthAll (((pts t).map S).map .str) + 1) (max 0 (max 0 (max 0 0)))))) + 1 ≤ 64
    rw [dep_strs, dep_strs]
    decide
noncomputable def m30told (CPattern : Addr) (FPatterntext FPatternletters FPatterndepth FPatternparts FPatternweight FPatternlen FPatternstr Fdepth Fparts Fweight FPatterneq FPatterninit Fispattern FPatterncontains Froll Fpatternat FPatterncall FPatternlength FPatternrepeated : FD) : M Oc := (seq (mSet 3 (frz (mLc [7] (mIter (mName 2)) (stName 7) (mT2 (uIn true) (mName 7) (mTup (mCons (ret (.str "(")) (mCons (ret (.str ")")) (mCons (ret (.str "#")) (ret [])))))) (mName 7)))) (seq (mSet 4 (frz (mLst (mCons (mProp CPattern FPatterntext (mName 1)) (mCons (mProp CPattern FPatternletters (mName 1)) (mCons (mProp CPattern FPatterndepth (mName 1)) (mCons (mProp CPattern FPatternparts (mName 1)) (mCons (mProp CPattern FPatternweight (mName 1)) (mCons (mLenI CPattern FPatternlen (mName 1)) (mCons (mStrI CPattern FPatternstr (mName 1)) (ret []))))))))))) (seq (mSet 5 (frz (mLst (mCons (mName 2) (mCons (mCall fTuple (mCons (frz (mSortSet (mName 3))) (ret []))) (mCons (mFn Fdepth (mCons (mName 2) (ret []))) (mCons (mCall fTuple (mCons (mFn Fparts (mCons (mName 2) (ret []))) (ret []))) (mCons (mFn Fweight (mCons (mName 2) (ret []))) (ret []))))))))) (seq (mIf (mtOr (mT2 (fEq true) (mName 4) (mBin uPlus (mName 5) (frz (mLst (mCons (mCall fLen (mCons (mName 3) (ret []))) (mCons (mName 2) (ret []))))))) (mtOr (mtEqZ true CPattern [] FPatterneq (mName 1) (frz (mMake CPattern FPatterninit (mCons (mName 2) (ret []))))) (mtOr (mtEqZ false CPattern [] FPatterneq (mName 1) (mName 2)) (mtNot (mTru (mFn Fispattern (mCons (mName 2) (ret [])))))))) (seq (mRet (ret (.bl false))) (ret .nx)) (ret .nx)) (seq (mIf (mT2 (fEq true) (frz (mLc [8] (mIter (ret (.str "abcdz"))) (stName 8) (mT2 (fEq true) (mInI false CPattern FPatterncontains (mName 8) (mName 1)) (mBin (uIn false) (mName 8) (mName 3))) (mName 8))) (frz (mLst (ret [])))) (seq (mRet (ret (.bl false))) (ret .nx)) (ret .nx)) (seq (mIf (mtOr (mtInI false CPattern FPatterncontains (ret (.str "ab")) (mName 1)) (mtOr (mtInI false CPattern FPatterncontains (ret .non) (mName 1)) (mtInI false CPattern FPatterncontains (ret (.str "")) (mName 1)))) (seq (mRet (ret (.bl false))) (ret .nx)) (ret .nx)) (seq (mFor (stName 6) (mIter (mTup (mCons (ret (.int 1)) (mCons (ret (.int 2)) (mCons (mBin uPlus (ret (.int 3)) (isDi 0 (mFn Froll (mCons (ret (.int 3)) (ret []))))) (ret [])))))) (seq (mSet 5 (mFn Fpatternat (mCons (mName 2) (mCons (mName 6) (ret []))))) (seq (mIf (mtOr (mT2 (fEq true) (mOCall CPattern FPatterncall (mName 1) (mCons (mName 6) (ret []))) (mName 5)) (mT2 (fEq true) (mMeth CPattern "length" FPatternlength (mName 1) (mCons (mName 6) (ret []))) (mCall fLen (mCons (mName 5) (ret []))))) (seq (mRet (ret (.bl false))) (ret .nx)) (ret .nx)) (ret .nx)))) (seq (mRet (mAnd (mBin (fEq false) (mProp CPattern FPatterntext (mMeth CPattern "repeated" FPatternrepeated (mName 1) (ret []))) (mBin uPlus (mBin uPlus (ret (.str "(")) (mName 2)) (ret (.str ")#")))) (mBin (fEq false) (mProp CPattern FPatterntext (mName 1)) (mName 2)))) (ret .nx)))))))))
def ToldS (C : Addr) (F : FD) : Prop := ∀ (t : T) (c : C3) (N : Nat), GT t → Di c N → N ≤ 900000 → ∃ c', F [PD C t, .str (S (sg t))] c = some (.bl true, c') ∧ Di c' (N + 1)
theorem eqS_self {neg : Bool} {l : List Nat} (h : ∀ c ∈ l, c ≤ 122) : fEq neg (.str (S l)) (.str (S l)) = some (.bl (!neg)) := by
  rw [eqS h h]
  cases neg <;> simp
theorem fEq_nil {neg : Bool} : fEq neg (.lst []) (.lst []) = some (.bl (!neg)) := by cases neg <;> rfl
theorem fEq_bl {neg a : Bool} : fEq neg (.bl a) (.bl a) = some (.bl (!neg)) := by cases neg <;> cases a <;> rfl
theorem in_lets (t : T) (x : Str) : decide (x ∈ lets t) = decide (x ∈ (pl t).map fun c => (⟨#[c]⟩ : Str)) := by
  unfold lets
  simp only [sortU_mem]
theorem chs_sL (l : List Nat) : chs l = sL (l.map fun c => (⟨#[c]⟩ : Str)) := by
  unfold chs sL
  rw [List.map_map]
  rfl
theorem sortset_chs {l : List Nat} (h : l.length ≤ 4000) : fSortSet (.lst (chs l)) = some (.l ((sortU (l.map fun c => (⟨#[c]⟩ : Str))).map .str)) := by
  unfold fSortSet fSetS
  rw [chs_sL]
  dsimp only
  rw [show sL (l.map fun c => (⟨#[c]⟩ : Str)) = (l.map fun c => (⟨#[c]⟩ : Str)).map D.str from rfl, asStrs_map]
  simp [h]
theorem ev_seq_nx {m k : M Oc} {g g1 : G} {Q : Oc → G → Prop} (h : Ev m g fun o g2 => o = .nx ∧ g2 = g1) (hk : Ev k g1 Q) : Ev (seq m k) g Q := by
  rw [ev_seq]
  refine h.mono fun o g2 ⟨e1, e2⟩ => ?_
  subst e1
  subst e2
  exact hk
theorem told_spec {C : Addr} {F1 F2 F3 F4 F5 F6 F7 F8 F9 F10 F11 F12 F13 F14 F15 F16 F17 F18 F19 : FD} (h1 : PTextS C F1) (h2 : PLettersS C F2) (h3 : PDepthS C F3) (h4 : PPartsS C F4) (h5 : PWeightS C F5) (h6 : PLenS C F6) (h7 : PTextS C F7)
    (h8 : LDepthS F8) (h9 : LPartsS F9) (h10 : LWeightS F10) (h11 : PEqS C F11) (h12 : PInitS C F12) (h13 : IsPatS F13) (h14 : PInS C F14) (h15 : RollS F15) (h16 : LAtS F16) (h17 : PCallS C F17) (h18 : PLengthS C F18) (h19 : PRepS C F19) :
    ToldS C (runM true 9 3 (m30told C F1 F2 F3 F4 F5 F6 F7 F8 F9 F10 F11 F12 F13 F14 F15 F16 F17 F18 F19)) := fun t c N gt h hN => by
  suffices hh : ∃ d c', runM true 9 3 (m30told C F1 F2 F3 F4 F5 F6 F7 F8 F9 F10 F11 F12 F13 F14 F15 F16 F17 F18 F19) [PD C t, .str (S (sg t))] c = some (d, c') ∧ d = .bl true ∧ Di c' (N + 1) by
    obtain ⟨d, c', e, rfl, q⟩ := hh
    exact ⟨c', e, q⟩
  refine run_ev rfl ?_
  have sz := gt.sz_
  have dp := gt.dep_
  have ho := gt.ok_
  have hpl := pl_le t
  have hw := gt.wt_
  have p5 : (2 : Nat) ^ dep t ≤ 2 ^ 5 := Nat.pow_le_pow_right (by omega) dp
  have p400 : (9600 : Nat) < 2 ^ 400 := by decide +kernel
  have e1 := h1 t
  have e2 := h2 t
  have e3 := fun c => h3 t c ho
  have e4 := h4 t
  have e5 := fun c => h5 t c ho (by omega) (by omega)
  have e6 := fun c => h6 t c (by omega)
  have e7 := h7 t
  have e8 := fun c => h8 t c ho
  have e9 := fun c => h9 t c ho (by omega)
  have e10 := fun c => h10 t c ho (by omega)
  have e11 := fun c => h11.1 t t c ho ho
  have e11b := fun c => h11.2 t (S (sg t)) c
  have e12 := h12 t gt.good
  have e13 := fun c => h13 t c ho gt.ne (by omega) (by omega)
  have e19 := fun c => h19 t c gt.rep
  have es := sortset_chs (l := pl t) (by omega)
  unfold m30told
  obtain ⟨P, hP⟩ : ∃ P, P = PD C t := ⟨_, rfl⟩
  obtain ⟨X, hX⟩ : ∃ X : D, X = .str (S (sg t)) := ⟨_, rfl⟩
  rw [show ini true 9 [PD C t, D.str (S (sg t))] = [.di, .v P, .v X, .un, .un, .un, .un, .un, .un] from by rw [hP, hX]; rfl]
  refine ev_seq_nx (g1 := ⟨[.di, .v P, .v X, .v (.lst (chs (pl t))), .un, .un, .un, .un, .un], c⟩) ?_ ?_
  · simp only [ev_set, ev_frz, ev_lc, ev_iter]
    rw [ev_name_v rfl, hX, iterD_str, chars_S, ev_lift_some]
    refine ⟨rfl, ?_⟩
    refine ev_lcPure (sg t) (fun c => .str ⟨#[c]⟩) (fun c => !decide (c = 40 ∨ c = 41 ∨ c = 35)) (fun c => .str ⟨#[c]⟩) (fun a m => ⟨_, rfl, ?_⟩) (by rw [sizeLine_eq]; omega) ?_
    · simp only [ev_t2, ev_cons, ev_ret, ev_tup, e40, e41, e35]
      rw [ev_name_v rfl]
      refine ⟨by rw [sizeLine_eq]; decide, ?_⟩
      rw [ne_in3]
      refine ev_lift_some.mpr ⟨rfl, ?_⟩
      split
      · rw [ev_name_v rfl]
        exact ⟨rfl, rfl⟩
      · rfl
    · rw [sg_pl t ho]
      exact ⟨trivial, rfl⟩
  refine ev_seq_nx (g1 := ⟨[.di, .v P, .v X, .v (.lst (chs (pl t))), .v (.lst (TD t ++ TE_ t)), .un, .un, .un, .un], c⟩) ?_ ?_
  · have hz : (0 : Int) ≤ ((pl t).length : Int) := by omega
    have hz2 : ((pl t).length : Int) < 2 ^ 63 := by
      have : (300 : Int) < 2 ^ 63 := by decide
      omega
    simp [ev_name_v, hP, e1, e2, e3, e4, e5, e6, e7, ev_lenI, sizeLine_eq, O.d]
    refine ⟨by omega, ?_⟩
    simp [TD, TE_, sL]
  refine ev_seq_nx (g1 := ⟨[.di, .v P, .v X, .v (.lst (chs (pl t))), .v (.lst (TD t ++ TE_ t)), .v (.lst (TD t)), .un, .un, .un], c⟩) ?_ ?_
  · simp [ev_name_v, hX, e8, e9, e10, mSortSet, es, sizeLine_eq, O.d, tup_lst]
    simp [TD, sL, lets]
  have el1 : fLen [.lst (chs (pl t))] = some (.int ((pl t).length : Int)) := by
    show some (D.int ((chs (pl t)).length : Int)) = _
    simp [chs]
  have ecat : uPlus (.lst (TD t)) (.lst (TE_ t)) = some (.lst (TD t ++ TE_ t)) := uPlus_lst (by rw [sizeLine_eq]; simp [TD, TE_])
  have ete : [D.int ((pl t).length : Int), D.str (S (sg t))] = TE_ t := rfl
  have eq1 := told_eq t ho true
  refine ev_seq_nx (g1 := ⟨[.di, .v P, .v X, .v (.lst (chs (pl t))), .v (.lst (TD t ++ TE_ t)), .v (.lst (TD t)), .un, .un, .un], c⟩) ?_ ?_
  · have tz1 : isTZ C [] (PD C t) = true := by simp [isTZ]
    have tz2 : isTZ C [] (.str (S (sg t))) = true := rfl
    simp [ev_name_v, hP, hX, el1, ete, ecat, eq1, e11, e11b, e12, e13, O.d, sizeLine_eq, tz1, tz2]
  refine ev_seq_nx (g1 := ⟨[.di, .v P, .v X, .v (.lst (chs (pl t))), .v (.lst (TD t ++ TE_ t)), .v (.lst (TD t)), .un, .un, .un], c⟩) ?_ ?_
  · simp only [ev_if, ev_t2, ev_frz, ev_lc, ev_iter, ev_ret]
    have ec : ("abcdz" : Str) = S [97, 98, 99, 100, 122] := by decide +kernel
    rw [ec, iterD_str, chars_S, ev_lift_some]
    refine ⟨rfl, ?_⟩
    refine ev_lcPure [97, 98, 99, 100, 122] (fun c => .str ⟨#[c]⟩) (fun _ => false) (fun c => .str ⟨#[c]⟩) (fun a m => ⟨_, rfl, ?_⟩) (by rw [sizeLine_eq]; decide) ?_
    · have ei := h14.1 t ⟨#[a]⟩
      have eu := uIn_lst ⟨#[a]⟩ ((pl t).map fun c => (⟨#[c]⟩ : Str))
      rw [← chs_sL, ← in_lets] at eu
      generalize decide ((⟨#[a]⟩ : Str) ∈ lets t) = bb at ei eu
      have ef := fEq_bl (neg := true) (a := bb)
      cases bb
      · simp [ev_name_v, hP, ei, eu, ef, wipeG]
      · simp [ev_name_v, hP, ei, eu, ef, wipeG]
    · simp [fEq_nil, O.d, backG, wipeG]
  have nol : ∀ (x : Str), x.length ≠ 1 → decide (x ∈ lets t) = false := fun x hx => decide_eq_false fun m => by
    obtain ⟨a, _, e⟩ := lets_mem m
    rw [e] at hx
    exact hx rfl
  refine ev_seq_nx (g1 := ⟨[.di, .v P, .v X, .v (.lst (chs (pl t))), .v (.lst (TD t ++ TE_ t)), .v (.lst (TD t)), .un, .un, .un], c⟩) ?_ ?_
  · have i1 := fun c => h14.1 t "ab" c
    have i2 := fun c => h14.1 t "" c
    have i3 := fun c => h14.2 t c
    rw [nol "ab" (by decide +kernel)] at i1
    rw [nol "" (by decide +kernel)] at i2
    simp [ev_name_v, hP, i1, i2, i3]
  obtain ⟨r, c1, er, r0, r1, d1⟩ := h15 c N 3 h (by omega) (by decide) (by decide)
  obtain ⟨k, hk⟩ : ∃ k : Nat, 3 + r = (k : Int) := ⟨(3 + r).toNat, by omega⟩
  have k1 : 3 ≤ k := by omega
  have k5 : k ≤ 5 := by omega
  rw [ev_seq, ev_for]
  simp only [ev_iter, ev_tup, ev_cons, ev_ret, ev_bin, ev_isDi, ev_fn]
  refine ⟨rfl, _, c1, er, ?_⟩
  rw [uPlus_int, hk, ev_lift_some]
  refine ⟨by rw [sizeLine_eq]; show 3 ≤ 16777216; decide, ?_⟩
  rw [iterD_tup, ev_lift_some]
  obtain ⟨I, hI⟩ : ∃ I : List D → G → Prop, ∀ ds g, I ds g ↔ ∃ (ns : List Nat) (x5 x6 : D) (s6 : Sl), ds = ns.map (fun n : Nat => D.int (n : Int)) ∧ (∀ n ∈ ns, 1 ≤ n ∧ n ≤ 5) ∧ g = ⟨[.di, .v P, .v X, .v (.lst (chs (pl t))), .v (.lst (TD t ++ TE_ t)), .v x5, s6, .un, .un], c1⟩ := ⟨_, fun _ _ => Iff.rfl⟩
  refine ev_loop I (fun d rest g hg => ?_) (fun g hg => ?_) _ _ ((hI _ _).mpr ⟨[1, 2, k], .lst (TD t), .non, .un, rfl, ?_, rfl⟩)
  · obtain ⟨ns, x5, x6, s6, hd, hn, rfl⟩ := (hI _ _).mp hg
    cases ns with
    | nil => cases hd
    | cons n ns =>
      cases hd
      obtain ⟨n1, n5⟩ := hn n List.mem_cons_self
      have hln : ln n t ≤ 20000 := Nat.le_trans (ln_mono n5 t) gt.ln_
      have a1 := fun c => h16 t n c ho n1 (by omega) (by omega) (by omega)
      have a2 := fun c => h17 t n c ho (by omega) n1 (by omega) (by omega)
      have a3 := fun c => h18 t n c ho (by omega) n1 (by
        have : (5 : Int) < 10 ^ 60 := by decide
        omega) (by
        have : (20000 : Nat) < 2 ^ 400 := by decide +kernel
        omega)
      have q1 := eqS_self (neg := true) (l := at_ n t) (at_122 n t ho)
      have l1 : fLen [.str (S (at_ n t))] = some (.int (ln n t : Int)) := by
        show (if (S (at_ n t)).length ≤ sizeLine then some (D.int ((S (at_ n t)).length : Int)) else none) = _
        rw [if_pos (by rw [S_len, at_len, sizeLine_eq]; omega), S_len, at_len]
      have g0 := no_field "length" t (by decide +kernel) (by decide +kernel) (by decide +kernel) (by decide +kernel)
      refine ⟨_, rfl, ?_⟩
      simp [ev_name_v, hP, hX, a1, a2, a3, q1, l1, g0, Mo.Turn]
      exact (hI _ _).mpr ⟨ns, .str (S (at_ n t)), .non, _, rfl, fun m hm => hn m (List.mem_cons_of_mem _ hm), by rw [hP, hX]⟩
  · obtain ⟨ns, x5, x6, s6, hd, hn, rfl⟩ := (hI _ _).mp hg
    have g0 := no_field "repeated" t (by decide +kernel) (by decide +kernel) (by decide +kernel) (by decide +kernel)
    have er1 := h1 (.part t .nil)
    have ep1 := plus_S (a := [40]) (b := sg t) (by simp; omega)
    have ep2 := plus_S (a := [40] ++ sg t) (b := [41, 35]) (by simp; omega)
    have esg : sg (.part t .nil) = [40] ++ sg t ++ [41, 35] := by simp [sg]
    rw [← esg] at ep2
    have q1 := eqS_self (neg := false) (l := sg (.part t .nil)) (sg_122 gt.rep.1)
    have q2 := eqS_self (neg := false) (l := sg t) (sg_122 ho)
    rw [after_nx]
    have ep1' : uPlus (.str ⟨#[40]⟩) (.str (S (sg t))) = some (.str (S ([40] ++ sg t))) := ep1
    have ep2' : uPlus (.str (S (40 :: sg t))) (.str (S [41, 35])) = some (.str (S (sg (.part t .nil)))) := ep2
    simp only [e40, e4135]
    simp [ev_name_v, hP, hX, g0, e19, er1, e1, ep1', ep2', q1, q2, -List.append_assoc, -List.cons_append, d1]
  · intro n m
    simp only [List.mem_cons, List.not_mem_nil, or_false] at m
    rcases m with rfl | rfl | rfl <;> omega
end Yw
set_option Elab.async false
set_option linter.all false
set_option maxRecDepth 100000
set_option maxHeartbeats 4000000
set_option exponentiation.threshold 9000
/-! Yw, part eight: one cell. -/
namespace Yw
open PySem PySem.Spec L2 Mo Lw Pw
open T
def decC : D → Nat
  | .str x => x.cps.getD 0 0
  | _ => 0
theorem chs_dec {ys : List D} {al : List Nat} (h : ∀ y ∈ ys, y ∈ chs al) : ys = chs (ys.map decC) ∧ ∀ c ∈ ys.map decC, c ∈ al := by
  have key : ∀ y ∈ ys, y = .str ⟨#[decC y]⟩ ∧ decC y ∈ al := fun y m => by
    obtain ⟨a, ma, rfl⟩ := List.mem_map.mp (h y m)
    exact ⟨rfl, ma⟩
  constructor
  · unfold chs
    rw [List.map_map]
    have h2 : ys.map id = ys.map ((fun c => D.str ⟨#[c]⟩) ∘ decC) := List.map_congr_left fun y m => (key y m).1
    rw [List.map_id] at h2
    exact h2
  · intro c m
    obtain ⟨y, my, rfl⟩ := List.mem_map.mp m
    exact (key y my).2
theorem take_lst (ds : List D) (k : Nat) (hk : k ≤ ds.length) : (fSlS (.lst ds) none (some (k : Int))).or ((fSlL (.lst ds) none (some (k : Int))).map O.d) = some (.lst (ds.take k)) := by
  show some (O.d (.l (cutD ds none (some (k : Int))))) = _
  unfold cutD
  rw [HT.sIx_none, HT.sIx_nat, Nat.min_eq_left hk]
  simp [O.d]
theorem m_of {α : Type} {m : M α} {g g2 : G} {v : α} (h : Ev m g fun a g' => a = v ∧ g' = g2) : m g = some (.ok v g2) := by
  obtain ⟨a, g', e, rfl, rfl⟩ := h
  exact e
theorem Dr.gt {d k : Nat} {t : T} (h : Dr d k t) (hn : t ≠ .nil) (hd : d ≤ 5) (h1 : k * E_ d ≤ 300) (h2 : k * G_ d ≤ 20000) : GT t :=
  ⟨h.ok_, hn, Nat.le_trans h.sz_ h1, Nat.le_trans h.dep_ hd, Nat.le_trans h.ln_ h2⟩
noncomputable def m30right (CPattern : Addr) (Fmixed Froll Fdrawnpattern FPatterninit Ftoldright FPatternadd FPatternrepeated FPatterneq : FD) : M Oc := (seq (mSet 1 (mSlU (isDi 0 (mFn Fmixed (mCons (frz (mLst (mCons (ret (.str "a")) (mCons (ret (.str "b")) (mCons (ret (.str "c")) (mCons (ret (.str "z")) (ret []))))))) (ret [])))) (ret none) (mPart (mBin uPlus (ret (.int 1)) (isDi 0 (mFn Froll (mCons (ret (.int 3)) (ret [])))))))) (seq (mPar 2 3 (mXd (isDi 0 (mFn Fdrawnpattern (mCons (mName 1) (mCons (ret (.int 3)) (mCons (ret (.int 3)) (ret []))))))) (mXd (isDi 0 (mFn Fdrawnpattern (mCons (mName 1) (mCons (ret (.int 2)) (mCons (ret (.int 2)) (ret [])))))))) (seq (mPar 4 5 (mXd (frz (mMake CPattern FPatterninit (mCons (mName 2) (ret []))))) (mXd (frz (mMake CPattern FPatterninit (mCons (mName 3) (ret [])))))) (seq (mIf (mtOr (mtNot (mTru (isDi 0 (mFn Ftoldright (mCons (mName 4) (mCons (mName 2) (ret []))))))) (mtNot (mTru (isDi 0 (mFn Ftoldright (mCons (mBinI CPattern FPatternadd (mName 4) (mName 5)) (mCons (mBin uPlus (mName 2) (mName 3)) (ret [])))))))) (seq (mRet (ret (.bl false))) (ret .nx)) (ret .nx)) (seq (mIf (mtNot (mTru (isDi 0 (mFn Ftoldright (mCons (mBinI CPattern FPatternadd (mMeth CPattern "repeated" FPatternrepeated (mName 5) (ret [])) (mName 4)) (mCons (mBin uPlus (mBin uPlus (mBin uPlus (ret (.str "(")) (mName 3)) (ret (.str ")#"))) (mName 2)) (ret []))))))) (seq (mRet (ret (.bl false))) (ret .nx)) (ret .nx)) (seq (mRet (mAnd (mBin (fEq false) (mEqZ false CPattern [] FPatterneq (mName 4) (mName 5)) (mBin (fEq false) (mName 2) (mName 3))) (mBin (fEq false) (mEqZ true CPattern [] FPatterneq (mName 4) (mName 5)) (mBin (fEq true) (mName 2) (mName 3))))) (ret .nx)))))))
def DrawnA (F : FD) : Prop := ∀ d, d ≤ 3 → DrawnS d F
def RightS (F : FD) : Prop := ∀ (c : C3) (N : Nat), Di c N → N ≤ 800000 → ∃ c', F [] c = some (.bl true, c') ∧ Di c' (N + 200)
theorem right_spec {C : Addr} {Fm Fo Fd Fi Ft Fa Fr Fe : FD} (hm : MixS Fm) (ho : RollS Fo) (hd : DrawnA Fd) (hi : PInitS C Fi) (ht : ToldS C Ft) (ha : PAddS C Fa) (hr : PRepS C Fr) (he : PEqS C Fe) : RightS (runM true 6 1 (m30right C Fm Fo Fd Fi Ft Fa Fr Fe)) := fun c N h hN => by
  suffices hh : ∃ d c', runM true 6 1 (m30right C Fm Fo Fd Fi Ft Fa Fr Fe) [] c = some (d, c') ∧ d = .bl true ∧ Di c' (N + 200) by
    obtain ⟨d, c', e, rfl, q⟩ := hh
    exact ⟨c', e, q⟩
  refine run_ev rfl ?_
  obtain ⟨ys, c1, e1, py, d1⟩ := hm c N (chs [97, 98, 99, 122]) h (by simp [chs]; omega)
  have l4 : ys.length = 4 := by rw [py.length_eq]; rfl
  obtain ⟨r, c2, e2, r0, r1, d2⟩ := ho c1 _ 3 d1 (by simp [chs]; omega) (by decide) (by decide)
  obtain ⟨k, hk⟩ : ∃ k : Nat, 1 + r = (k : Int) := ⟨(1 + r).toNat, by omega⟩
  have k1 : 1 ≤ k := by omega
  have k3 : k ≤ 3 := by omega
  obtain ⟨ey, my⟩ := chs_dec (ys := ys.take k) (al := [97, 98, 99, 122]) fun y m => py.mem_iff.mp (List.mem_of_mem_take m)
  obtain ⟨al, hal⟩ : ∃ al, al = (ys.take k).map decC := ⟨_, rfl⟩
  rw [← hal] at ey my
  have hl : al.length = k := by rw [hal, List.length_map, List.length_take, l4]; omega
  have hL : Lets al := fun c m => by
    have := my c m
    simp only [List.mem_cons, List.not_mem_nil, or_false] at this
    omega
  have hne : al ≠ [] := fun z => by rw [z] at hl; simp at hl; omega
  have c3 : C_ 3 = 22 := by decide
  have c2' : C_ 2 = 10 := by decide
  simp only [chs, List.length_map, List.length_cons, List.length_nil] at d2
  obtain ⟨t1, c3', e3, dr1, n1, d3⟩ := hd 3 (by omega) al 3 c2 _ d2 (by rw [c3]; omega) hne (by omega) hL (by omega) (by omega)
  obtain ⟨t2, c4, e4, dr2, n2, d4⟩ := hd 2 (by omega) al 2 c3' _ d3 (by rw [c3, c2']; omega) hne (by omega) hL (by omega) (by omega)
  rw [c3, c2'] at d4
  have g1 : GT t1 := dr1.gt n1 (by omega) (by decide) (by decide)
  have g2 : GT t2 := dr2.gt n2 (by omega) (by decide) (by decide)
  have s1 : (sg t1).length ≤ 87 := dr1.sz_
  have s2 : (sg t2).length ≤ 26 := dr2.sz_
  have p1 : dep t1 ≤ 3 := dr1.dep_
  have p2 : dep t2 ≤ 2 := dr2.dep_
  have q1 : ln 5 t1 ≤ 3000 := dr1.ln_
  have q2 : ln 5 t2 ≤ 200 := dr2.ln_
  have g12 : GT (app t1 t2) := ⟨ok_app g1.ok_ g2.ok_, fun z => n1 (app_nil z).1, by rw [sg_app, List.length_append]; omega, by rw [dep_app]; omega, by rw [ln_app]; omega⟩
  have g3 : GT (app (.part t2 .nil) t1) := ⟨ok_app ⟨n2, g2.ok_, trivial⟩ g1.ok_, (fun z => by cases (app_nil z).1), by rw [sg_app, List.length_append]; simp [sg]; omega, by rw [dep_app]; simp [dep]; omega, by rw [ln_app]; simp [ln]; omega⟩
  unfold m30right
  have ea : ("a" : Str) = ⟨#[97]⟩ := by decide +kernel
  have eb : ("b" : Str) = ⟨#[98]⟩ := by decide +kernel
  have ec : ("c" : Str) = ⟨#[99]⟩ := by decide +kernel
  have ez : ("z" : Str) = ⟨#[122]⟩ := by decide +kernel
  have etk := take_lst ys k (by omega)
  rw [ey] at etk
  refine ev_seq_nx (g1 := ⟨[.di, .v (.lst (chs al)), .un, .un, .un, .un], c2⟩) ?_ ?_
  · have e1' : Fm [.lst [.str ⟨#[97]⟩, .str ⟨#[98]⟩, .str ⟨#[99]⟩, .str ⟨#[122]⟩]] c = some (.lst ys, c1) := e1
    simp [ea, eb, ec, ez, e1', e2, hk, O.d, sizeLine_eq, asI_int, etk]
  refine ev_seq_nx (g1 := ⟨[.di, .v (.lst (chs al)), .v (.str (S (sg t1))), .v (.str (S (sg t2))), .un, .un], c4⟩) ?_ ?_
  · have e3' : Fd [.lst (chs al), .int 3, .int 3] c2 = some (.str (S (sg t1)), c3') := e3
    have e4' : Fd [.lst (chs al), .int 2, .int 2] c3' = some (.str (S (sg t2)), c4) := e4
    simp [ev_name_v, e3', e4']
  refine ev_seq_nx (g1 := ⟨[.di, .v (.lst (chs al)), .v (.str (S (sg t1))), .v (.str (S (sg t2))), .v (PD C t1), .v (PD C t2)], c4⟩) ?_ ?_
  · have i1 := hi t1 g1.good
    have i2 := hi t2 g2.good
    simp [ev_name_v, i1, i2, O.d]
  obtain ⟨c5, e5, d5⟩ := ht t1 c4 _ g1 d4 (by omega)
  obtain ⟨c6, e6, d6⟩ := ht (app t1 t2) c5 _ g12 d5 (by omega)
  obtain ⟨c7, e7, d7⟩ := ht (app (.part t2 .nil) t1) c6 _ g3 d6 (by omega)
  have a1 := fun c => ha t1 t2 c g12.good
  have a2 := fun c => ha (.part t2 .nil) t1 c g3.good
  have r1 := fun c => hr t2 c g2.rep
  have gr := no_field "repeated" t2 (by decide +kernel) (by decide +kernel) (by decide +kernel) (by decide +kernel)
  have ep := plus_S (a := sg t1) (b := sg t2) (by omega)
  rw [← sg_app] at ep
  refine ev_seq_nx (g1 := ⟨[.di, .v (.lst (chs al)), .v (.str (S (sg t1))), .v (.str (S (sg t2))), .v (PD C t1), .v (PD C t2)], c6⟩) ?_ ?_
  · have eb1 : mBinI C Fa (mName 4) (mName 5) ⟨[.di, .v (.lst (chs al)), .v (.str (S (sg t1))), .v (.str (S (sg t2))), .v (PD C t1), .v (PD C t2)], c5⟩ = some (.ok (PD C (app t1 t2)) ⟨[.di, .v (.lst (chs al)), .v (.str (S (sg t1))), .v (.str (S (sg t2))), .v (PD C t1), .v (PD C t2)], c5⟩) :=
      m_of (ev_binI (by simp [ev_name_v, a1]))
    simp [ev_name_v, e5, ev_of eb1, ep, e6]
  refine ev_seq_nx (g1 := ⟨[.di, .v (.lst (chs al)), .v (.str (S (sg t1))), .v (.str (S (sg t2))), .v (PD C t1), .v (PD C t2)], c7⟩) ?_ ?_
  · have eb2 : mBinI C Fa (mMeth C "repeated" Fr (mName 5) (Mo.ret [])) (mName 4) ⟨[.di, .v (.lst (chs al)), .v (.str (S (sg t1))), .v (.str (S (sg t2))), .v (PD C t1), .v (PD C t2)], c6⟩ = some (.ok (PD C (app (.part t2 .nil) t1)) ⟨[.di, .v (.lst (chs al)), .v (.str (S (sg t1))), .v (.str (S (sg t2))), .v (PD C t1), .v (PD C t2)], c6⟩) :=
      m_of (ev_binI (by simp [ev_name_v, gr, r1, a2]))
    have ep1 : uPlus (.str ⟨#[40]⟩) (.str (S (sg t2))) = some (.str (S (40 :: sg t2))) := plus_S (a := [40]) (b := sg t2) (by simp; omega)
    have ep2 : uPlus (.str (S (40 :: sg t2))) (.str (S [41, 35])) = some (.str (S (sg (.part t2 .nil)))) := by
      rw [plus_S (by simp; omega)]
      simp [sg]
    have ep3 := plus_S (a := sg (.part t2 .nil)) (b := sg t1) (by simp [sg]; omega)
    rw [← sg_app] at ep3
    simp [ev_name_v, e40, e4135, ev_of eb2, ep1, ep2, ep3, e7]
  have q12 : ∀ neg, fEq neg (.str (S (sg t1))) (.str (S (sg t2))) = some (.bl (if neg then !decide (sg t1 = sg t2) else decide (sg t1 = sg t2))) := fun neg => eqS (sg_122 g1.ok_) (sg_122 g2.ok_)
  have h12 := fun c => he.1 t1 t2 c g1.ok_ g2.ok_
  have tz1 : isTZ C [] (PD C t2) = true := by simp [isTZ]
  have qf := q12 false
  have qt := q12 true
  generalize decide (sg t1 = sg t2) = bb at h12 qf qt
  have fin : Di c7 (N + 200) := Di.le d7 (by omega)
  cases bb
  · have w1 := fEq_bl (neg := false) (a := false)
    have w2 := fEq_bl (neg := false) (a := true)
    simp at qf qt w1 w2
    simp [ev_name_v, h12, tz1, qf, qt, w1, w2, fin]
  · have w1 := fEq_bl (neg := false) (a := false)
    have w2 := fEq_bl (neg := false) (a := true)
    simp at qf qt w1 w2
    simp [ev_name_v, h12, tz1, qf, qt, w1, w2, fin]
end Yw
set_option Elab.async false
set_option linter.all false
set_option maxRecDepth 100000
set_option maxHeartbeats 4000000
set_option exponentiation.threshold 9000
/-! Yw, part nine: the law. -/
namespace Yw
open PySem PySem.Spec L2 Mo Lw Pw
open T
/-- (ab(c)#)# -/
def t0 : T := .part (.ch 97 (.ch 98 (.part (.ch 99 .nil) .nil))) .nil
theorem t0_ok : ok t0 := ⟨(fun z => by cases z), ⟨by omega, by omega, by omega, by omega, (fun z => by cases z), ⟨by omega, by omega, trivial⟩, trivial⟩, trivial⟩
theorem t0_good : Good t0 := ⟨t0_ok, (fun z => by cases z), by decide, by decide⟩
theorem t0_sg : ("(ab(c)#)#" : Str) = S (sg t0) := by decide +kernel
def aT : Nat → T
  | 0 => .nil
  | n + 1 => .ch 97 (aT n)
theorem aT_sg : ∀ n, sg (aT n) = List.replicate n 97
  | 0 => rfl
  | n + 1 => by
    show 97 :: sg (aT n) = _
    rw [aT_sg n]
    rfl
theorem aT_ok : ∀ n, ok (aT n)
  | 0 => trivial
  | n + 1 => ⟨by omega, by omega, aT_ok n⟩
theorem aT_dep : ∀ n, dep (aT n) = 0
  | 0 => rfl
  | n + 1 => aT_dep n
theorem ln_t0 (n : Nat) : ln n t0 = (2 + n) * n := by
  simp [t0, ln]
  congr 1
  omega
noncomputable def m30law (CPattern : Addr) (Fdice : FO) (Fright FPatterninit FPatterncall FPatternparts FPatternweight FPatternlength FPatterndepth Fispattern : FD) : M Oc := (seq (mFor (stName 1) (mWk fRng1 (mCons (mCall fMax2 (mCons (ret (.int 1)) (mCons (mCall fMin2 (mCons (ret (.int 6)) (mCons (mCall fLen (mCons (mName 0) (ret []))) (ret [])))) (ret [])))) (ret []))) (seq (mIf (mtNot (mTru (mFnE Fright (mFnO Fdice (mCons (mName 0) (mCons (mName 1) (ret [])))) (ret [])))) (seq (mRet (ret (.bl false))) (ret .nx)) (ret .nx)) (ret .nx))) (seq (mSet 2 (frz (mMake CPattern FPatterninit (mCons (ret (.str "(ab(c)#)#")) (ret []))))) (seq (mSet 3 (frz (mLst (mCons (mOCall CPattern FPatterncall (mName 2) (mCons (ret (.int 2)) (ret []))) (mCons (mProp CPattern FPatternparts (mName 2)) (mCons (mProp CPattern FPatternweight (mName 2)) (mCons (mBin (fEq false) (mMeth CPattern "length" FPatternlength (mName 2) (mCons (mBin uPow (ret (.int 10)) (ret (.int 50))) (ret []))) (mBin uMul (mBin uPow (ret (.int 10)) (ret (.int 50))) (mBin uPlus (ret (.int 2)) (mBin uPow (ret (.int 10)) (ret (.int 50)))))) (mCons (mProp CPattern FPatterndepth (mName 2)) (ret []))))))))) (seq (mSet 4 (frz (mLst (mCons (ret (.str "abccabcc")) (mCons (mTup (mCons (ret (.str "c")) (mCons (ret (.str "ab(c)#")) (ret [])))) (mCons (ret (.int 8)) (mCons (ret (.bl true)) (mCons (ret (.int 2)) (ret []))))))))) (seq (mRet (mBin (fEq false) (mBin uPlus (mName 3) (frz (mLst (mCons (ret (.int 20000)) (mCons (ret (.int 24)) (mCons (mFn Fispattern (mCons (mBin uTimesT (ret (.str "a")) (ret (.int 20000))) (ret []))) (ret []))))))) (mBin uPlus (mName 4) (frz (mLst (mCons (ret (.int 20000)) (mCons (ret (.int 24)) (mCons (ret (.bl true)) (ret []))))))))) (ret .nx))))))
theorem law30_spec {C : Addr} {Fd : FO} {F1 F2 F3 F4 F5 F6 F7 F8 : FD} (hd : DiceS Fd) (h1 : RightS F1) (h2 : PInitS C F2) (h3 : PCallS C F3) (h4 : PPartsS C F4) (h5 : PWeightS C F5) (h6 : PLengthS C F6) (h7 : PDepthS C F7) (h8 : IsPatS F8) :
    ∀ ns : List Int, ns.length ≤ 63 → ∃ c', runM false 5 1 (m30law C Fd F1 F2 F3 F4 F5 F6 F7 F8) [.lst (ns.map .int)] (.l []) = some (.bl true, c') := fun ns hnl => by
  suffices hh : ∃ d c', runM false 5 1 (m30law C Fd F1 F2 F3 F4 F5 F6 F7 F8) [.lst (ns.map .int)] (.l []) = some (d, c') ∧ d = .bl true by
    obtain ⟨d, c', e, rfl⟩ := hh
    exact ⟨c', e⟩
  refine run_ev rfl ?_
  obtain ⟨k, hk, k3⟩ : ∃ k : Nat, (if 1 < (if (ns.length : Int) < 6 then (ns.length : Int) else 6) then (if (ns.length : Int) < 6 then (ns.length : Int) else 6) else 1) = (k : Int) ∧ k ≤ 6 := by
    refine ⟨max 1 (min 6 ns.length), ?_, by omega⟩
    split <;> split at * <;> omega
  have rk := rng1_nat (n := k) (by omega)
  rw [show m30law C Fd F1 F2 F3 F4 F5 F6 F7 F8 = m30law C Fd F1 F2 F3 F4 F5 F6 F7 F8 from rfl]
  unfold m30law
  rw [ev_seq, ev_for]
  simp [-List.map_map, ev_name_v, hk, rk]
  obtain ⟨I, hI'⟩ : ∃ I : List D → G → Prop, ∀ ds g, I ds g ↔ ∃ (x1 : Sl) (c' : C3), g = ⟨[.v (.lst (ns.map .int)), x1, .un, .un, .un], c'⟩ ∧ (∀ e ∈ ds, ∃ i : Int, e = .int i ∧ 0 ≤ i ∧ i < 100) := ⟨_, fun _ _ => Iff.rfl⟩
  refine ev_loop I ?_ ?_ _ _ ((hI' _ _).mpr ⟨.un, _, rfl, fun e m => ?_⟩)
  · intro e r g hi
    obtain ⟨x1, c', rfl, hm⟩ := (hI' _ _).mp hi
    obtain ⟨i, rfl, i0, i1⟩ := hm e List.mem_cons_self
    refine ⟨_, rfl, ?_⟩
    obtain ⟨o, c2, f1, hdo⟩ := hd ns i c' i0 i1
    obtain ⟨o2, f2, _⟩ := h1 o 0 hdo (by omega)
    simp [-List.map_map, ev_name_v, f1, f2, Mo.Turn]
    exact (hI' _ _).mpr ⟨_, _, rfl, fun e m => hm e (List.mem_cons_of_mem _ m)⟩
  · intro g hi'
    obtain ⟨x1, c, rfl, hmm⟩ := (hI' _ _).mp hi'
    have p5 : (2 : Nat) ^ 2 < 2 ^ 400 := by decide +kernel
    have p8 : (8 : Nat) < 2 ^ 400 := by decide +kernel
    obtain ⟨Q, hQ⟩ : ∃ Q : Nat, Q = 10 ^ 50 := ⟨_, rfl⟩
    have q50 : uPow (.int 10) (.int 50) = some (.int (Q : Int)) := by
      have := uPow_nat (i := 10) (j := 50) (by decide)
      have e : (Q : Int) = (10 : Int) ^ 50 := by rw [hQ]; norm_cast
      rw [e]
      exact this
    have i2 := h2 t0 t0_good
    have i3 := fun c => h3 t0 2 c t0_ok (by decide) (by omega) (by omega) (by rw [ln_t0]; omega)
    have i4 := h4 t0
    have i5 := fun c => h5 t0 c t0_ok (show wt 1 t0 < 2 ^ 400 from p8) (show 2 ^ dep t0 < 2 ^ 400 from p5)
    have b1 : (2 + 10 ^ 50) * 10 ^ 50 < 2 ^ 400 := by decide +kernel
    have i6 := fun c => h6 t0 Q c t0_ok (by decide) (by rw [hQ]; decide) (by rw [hQ]; decide) (by rw [ln_t0, hQ]; exact b1)
    have i7 := fun c => h7 t0 c t0_ok
    have i8 := fun c => h8 (aT 20000) c (aT_ok _) (fun z => by cases z) (by rw [aT_sg, List.length_replicate]; omega) (by rw [aT_dep]; omega)
    rw [ln_t0] at i6
    have g0 := no_field "length" t0 (by decide +kernel) (by decide +kernel) (by decide +kernel) (by decide +kernel)
    have ea : ("a" : Str) = S [97] := by decide +kernel
    have et : uTimesT (.str (S [97])) (.int 20000) = some (.str (S (sg (aT 20000)))) := by
      have := times_S (l := [97]) (n := 20000) (by omega) (by omega) (by simp)
      rw [aT_sg]
      rw [List.flatten_replicate_singleton] at this
      exact this
    have hq4 : Q < 2 ^ 400 := by rw [hQ]; decide
    have em : uMul (.int (Q : Int)) (.int (2 + (Q : Int))) = some (.int ((Q : Int) * (2 + (Q : Int)))) := uMul_int (by
      have w1 := log400 hq4
      have w2 : 2 + Q < 2 ^ 400 := by rw [hQ]; decide
      have w3 := log400 w2
      have e : ((2 + Q : Nat) : Int) = 2 + (Q : Int) := by push_cast; rfl
      rw [e] at w3
      omega)
    have ec : (((2 + Q) * Q : Nat) : Int) = (Q : Int) * (2 + (Q : Int)) := by push_cast; exact Int.mul_comm _ _
    rw [ec] at i6
    generalize hR : (Q : Int) * (2 + (Q : Int)) = R at em i6
    have z1 : ("abccabcc" : Str) = S (at_ 2 t0) := by decide +kernel
    have z2 : D.tup [.str "c", .str "ab(c)#"] = .tup ((pts t0).map fun l => .str (S l)) := by
      have a1 : ("c" : Str) = S [99] := by decide +kernel
      have a2 : ("ab(c)#" : Str) = S [97, 98, 40, 99, 41, 35] := by decide +kernel
      rw [a1, a2]
      rfl
    have w0 : wt 1 t0 = 8 := by decide
    have d0 : dep t0 = 2 := by decide
    rw [w0] at i5
    rw [d0] at i7
    obtain ⟨LD, hLD⟩ : ∃ LD : List D, LD = [.str (S (at_ 2 t0)), .tup ((pts t0).map fun l => .str (S l)), .int 8, .bl true, .int 2] := ⟨_, rfl⟩
    have i3' : ∀ c, F3 [PD C t0, .int 2] c = some (.str (S (at_ 2 t0)), c) := i3
    refine ev_seq_nx (g1 := ⟨[.v (.lst (ns.map .int)), x1, .v (PD C t0), .un, .un], c⟩) ?_ ?_
    · simp [-List.map_map, t0_sg, i2, O.d]
    refine ev_seq_nx (g1 := ⟨[.v (.lst (ns.map .int)), x1, .v (PD C t0), .v (.lst LD), .un], c⟩) ?_ ?_
    · simp [-List.map_map, ev_name_v, i3', i4, i5, i6, i7, q50, em, g0, O.d, sizeLine_eq, hLD]
    refine ev_seq_nx (g1 := ⟨[.v (.lst (ns.map .int)), x1, .v (PD C t0), .v (.lst LD), .v (.lst LD)], c⟩) ?_ ?_
    · simp [-List.map_map, z1, O.d, sizeLine_eq, hLD]
      exact (D.tup.inj z2)
    have ecat : uPlus (.lst LD) (.lst [.int 20000, .int 24, .bl true]) = some (.lst (LD ++ [.int 20000, .int 24, .bl true])) := uPlus_lst (by rw [sizeLine_eq, hLD]; simp)
    have eq1 : fEq false (.lst (LD ++ [.int 20000, .int 24, .bl true])) (.lst (LD ++ [.int 20000, .int 24, .bl true])) = some (.bl true) := by
      refine (fEq_refl (x := .list [.str (S (at_ 2 t0)), .tuple (((pts t0).map S).map .str), .int 8, .bool true, .int 2, .int 20000, .int 24, .bool true]) (.inr ⟨?_, ?_, ?_⟩)).trans rfl
      · rw [hLD]
        rfl
      · decide +kernel
      · decide +kernel
    simp [-List.map_map, ev_name_v, ea, et, i8, O.d, sizeLine_eq, ecat, eq1]
  · rw [rngD, List.mem_map] at m
    obtain ⟨j, hj, rfl⟩ := m
    have := List.mem_range.mp hj
    exact ⟨_, rfl, by omega, by omega⟩
end Yw
set_option Elab.async false
set_option linter.all false
set_option maxRecDepth 100000
set_option maxHeartbeats 4000000
set_option exponentiation.threshold 9000
/-! K430: the law's def, from its parts. -/
namespace K430
open PySem PySem.Spec L2 Mo Lw Pw Yw
theorem lawT0 (c : CA) (hne : c.TextReader ≠ c.LengthReader) : ∀ ns : List Int, ns.length ≤ 63 → ∃ c', F_law c [.lst (ns.map .int)] (.l []) = some (.bl true, c') := by
  have roll : RollS (F__law_roll c) := roll_spec
  have dice : DiceS (F__law_dice c) := dice_spec
  have pick : PickS (F__law_pick c) := pick_spec roll
  have mixed : MixS (F__law_mixed c) := mixed_spec roll
  have depth : DepthS (F_depth_of c) := depth_spec
  have weight : WeightS (F_weight_of c) := weight_spec
  have parts : PartsS (F_parts_of c) := parts_spec
  have formed : Yw.FormedS (F_is_formed c) := formed_spec depth
  have isPat : IsPatS (F_is_pattern c) := isPat_spec formed depth
  have lettersIn : LettersInS (F_letters_in c) := lettersIn_spec
  have init : PInitS c.Pattern (F_Pattern_init c) := pinit_spec isPat parts lettersIn
  have ptext : PTextS c.Pattern (F_Pattern_text c) := ptext_spec
  have pstr : PTextS c.Pattern (F_Pattern_str c) := pstr_spec
  have pparts : PPartsS c.Pattern (F_Pattern_parts c) := pparts_spec
  have pletters : PLettersS c.Pattern (F_Pattern_letters c) := pletters_spec
  have pdepth : PDepthS c.Pattern (F_Pattern_depth c) := pdepth_spec depth
  have pweight : PWeightS c.Pattern (F_Pattern_weight c) := pweight_spec weight
  have plen : PLenS c.Pattern (F_Pattern_len c) := plen_spec
  have peq : PEqS c.Pattern (F_Pattern_eq c) := peq_spec
  have pin : PInS c.Pattern (F_Pattern_contains c) := pin_spec
  have prep : PRepS c.Pattern (F_Pattern_repeated c) := prep_spec init
  have padd : PAddS c.Pattern (F_Pattern_add c) := padd_spec init
  have integer : Uw.IntegerB (F_is_integer c) := Uw.integerB_spec
  have count : Uw.CountB (F_is_count c) := Uw.countB_spec integer
  have chk : ChkPosS (F_check_positive c) := chkPos_spec count
  have begT : BegT c.TextReader (F_TextReader_begun c) := begT_spec
  have begL : BegL c.LengthReader (F_LengthReader_begun c) := begL_spec
  have runT : RunT c.TextReader (F_TextReader_with_run c) := runT_spec
  have runL : RunL c.LengthReader (F_LengthReader_with_run c) := runL_spec
  have partT : PartT c.TextReader (F_TextReader_with_part c) := partT_spec
  have partL : PartL c.LengthReader (F_LengthReader_with_part c) := partL_spec
  have numT : NumInit c.TextReader (F_TextReader_init c) := numInitT
  have numL : NumInit c.LengthReader (F_LengthReader_init c) := numInitL
  have readT : ReadT c.TextReader (F_read_pattern c) := readT_spec hne begT partT runT
  have readL : ReadL c.LengthReader (F_read_pattern c) := readL_spec hne begL partL runL
  have plength : PLengthS c.Pattern (F_Pattern_length c) := plength_spec chk readL numL
  have pcall : PCallS c.Pattern (F_Pattern_call c) := pcall_spec plength readT numT
  have power : Power2S (F__law_power c) := power_spec
  have ldepth : LDepthS (F__law_depth c) := ldepth_spec
  have lweight : LWeightS (F__law_weight c) := lweight_spec power
  have lparts : LPartsS (F__law_parts c) := lparts_spec
  have lat : LAtS (F__law_pattern_at c) := lat_spec
  have told : ToldS c.Pattern (F__law_told_right c) := told_spec ptext pletters pdepth pparts pweight plen pstr ldepth lparts lweight peq init isPat pin roll lat pcall plength prep
  have drawn : ∀ n, n ≤ 4 → ∀ d, d < n → DrawnS d (FR__law_drawn_pattern c n) := fun n => by
    induction n with
    | zero => exact fun _ d hd => by omega
    | succ n ih => exact fun hn d hd => drawn_spec roll pick d (by omega) fun e he => ih (by omega) e (by omega)
  have drawnA : DrawnA (F__law_drawn_pattern c) := fun d hd => drawn 4 (by omega) d (by omega)
  have right : Yw.RightS (F__law_right c) := right_spec mixed roll drawnA init told padd prep peq
  exact law30_spec dice right init pcall pparts pweight plength pdepth isPat
theorem rd_ne {c : CA} {K : PySem.W.Frag} {mg : Str → Option Value} {w : World} (T : TF c K mg w) : c.TextReader ≠ c.LengthReader := fun e => by
  have m1 := T.me_TextReader_begun.at_
  have m2 := T.me_LengthReader_begun.at_
  rw [← e, m1] at m2
  have ef : T.f_TextReader_begun = T.f_LengthReader_begun := by simpa using m2
  obtain ⟨oc, od, kV, doc, pm, an, cdv, ct, osl, e1, l1, _⟩ := T.F_TextReader_begun.ex
  obtain ⟨oc2, od2, kV2, doc2, pm2, an2, cdv2, ct2, osl2, e2, l2, _⟩ := T.F_LengthReader_begun.ex
  rw [ef, l2] at l1
  have ed : T.d_LengthReader_begun = T.d_TextReader_begun := by simpa using congrArg (fun o : Option Obj => o.map Obj.data) l1
  rw [e1, e2] at ed
  have eq : ("LengthReader.begun" : Str) = "TextReader.begun" := congrArg FuncData.qualname ed
  revert eq
  decide +kernel
theorem lawT {c : CA} {K : PySem.W.Frag} {mg : Str → Option Value} {w : World} (T : TF c K mg w) : ∀ ns : List Int, ns.length ≤ 63 → ∃ c', F_law c [.lst (ns.map .int)] (.l []) = some (.bl true, c') := lawT0 c (rd_ne T)
end K430
set_option Elab.async false
set_option linter.all false
set_option maxRecDepth 100000
set_option maxHeartbeats 0
open PySem PySem.W PySem.Calls PyProof.Rows
theorem PySem.Challenge.cw_lastprices_k30_patterns_told_holds : PySem.Challenge.rw_lastprices_k30_patterns_told.Holds := by
  w_on; o_law
  refine HandSHeadRun.head_any (r := OpenLaw.row PySem.Challenge.rw_lastprices_k30_patterns_told) (q := view (PySem.W.OpenLaw.row PySem.Challenge.rw_lastprices_k30_patterns_told).prog [42]) (H := Mh.hookA K430.hAs K430.hCs K430.hDs) (ob := Mh.obS K430.hAs K430.hCs K430.hDs) (M := 60000) (loose := K430.hNs) (d := HandSHeadRun.topDef (PySem.W.OpenLaw.row PySem.Challenge.rw_lastprices_k30_patterns_told).prog 42) (kwd := []) Mh.obS_eq
    (by kernel_rfl) (fun s => by kernel_rfl) K430.hRun (by kernel_rfl) (by kernel_rfl) (by kernel_rfl) (by rfl) (by first | assumption | decide +kernel) (by decide +kernel) ⟨rfl, rfl, rfl, rfl, rfl, by decide +kernel⟩ ?hw ?hc
  case hw => w_witness2
  case hc =>
    refine Mh.walkH (l := PySem.Challenge.rw_lastprices_k30_patterns_told) (n := 63) (k := 14) (x := "_law_script") (cs := K430.hCs) (ds := K430.hDs) (fun _ _ h => h) rfl (by decide) (by kernel_rfl) ⟨rfl, by decide, by decide⟩ ?F
    intro w mg fa h K KX c G hmg0
    have hmg : mg ("law" : PySem.Str) = some (.ref fa) := by
      have e : (HandSHeadRun.topDef (PySem.W.OpenLaw.row PySem.Challenge.rw_lastprices_k30_patterns_told).prog 42).name = ("law" : PySem.Str) := by kernel_rfl
      rw [← e]
      exact hmg0
    have e := hmg.symm.trans (K430.facts KX G c w).m_law
    have e2 : fa = (K430.facts KX G c w).f_law := by cases e; rfl
    subst e2
    exact ⟨_, Mo.spLaw K, Mh.bindsLaw (K430.facts KX G c w).F_law fun _ _ _ _ _ _ _ => rfl, fun J a ns hl _ hS => ⟨a, ns, rfl, hS, hl, fun _ => rfl⟩, fun b0 X0 G0 => Mo.law_end (K430.ok_law (K430.facts KX G c w)) (K430.lawT (K430.facts KX G c w))⟩
