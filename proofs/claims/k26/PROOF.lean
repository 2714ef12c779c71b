import PyProof.Rows.All
import Wide.All
import OpenK.AllK
import Wide.FinOn
import HandS.Words
import HandS.Head2
import HandS.HeadHook2
import HandS.Codes
import HandS.Property
import KE.KExcInit
import HandS.ExcField
import HandS.ExcIs
import HandS.ForMost
import HandS.Evl
import HandS.Style
import HandS.IsInst
import HandS.StrMore
import HandS.Flow
import HandS.Wide
import HandS.Zip
import PyProof.ReprRoads
import HandS.Set
import HandS.SetFor
import PyProof.Rows.SortShellAny
import HandS.ExcInit
import HandS.Text
import HandS.Walk
import HandS.Strs
import HandS.WordsDict
import HandS.TupLen
import KE.GoesEnum
import KE.GoesZip
import KE.GoesMore
import HandS.Comp
import HandS.NoneIn
import HandS.Star
import HandS.FStr
import KE.KSortTupG
import HandS.Conv
import HandS.Sort
import HandS.SortInts
import PyProof.Rows.StrMeet
import KE.KMinBuiltin
import HandS.SortKw
import HandS.DictComp
import HandS.TupLe
import KE.KeyNested
import HandS.More
import PyProof.InstNe
import KE.KDictDisplayH
import HandS.TupMul
import PyProof.StrBlock2
import HandS.DictEq
import KE.KDictPairs
import HandS.ListItems
import KE.KDictZip
import KE.KDictList
import KE.KCallOwn
import HandS.DictTup
import KE.KDictCopyH
import HandS.TryMany
import KE.KItemsList
import HandS.TupAny
import HandS.Translate
import HandS.IntHex
import PyProof.FString3
import PyProof.Rows.ZipGen
import PyProof.ListStr
import HandS.Rev
import PyProof.ExcBaseAll.LookupError
import PyProof.ExcBaseAll.RuntimeError
import PyProof.ExcBaseAll.ArithmeticError
import HandS.Deep
import PyProof.ExcBaseAll.IndexError
import PyProof.ExcBaseAll.OverflowError
import PyProof.ExcBaseAll.ValueError
import HandS.MakeKwOnly
import HandS.ClsMeth
import OpenK.KMeth
import KE.KExcIs
import HandS.HotCalls
import PyProof.Rows.RegFStrParts
import PyProof.Rows.ReprOcc
import KE.KIntText
import PySem.Challenge.RW_lastprices_k26_whole_repeats
set_option Elab.async false
set_option linter.all false
set_option maxRecDepth 100000
set_option maxHeartbeats 4000000
/-! Mh: checks by names, the hook. -/
namespace Mh
open PySem PySem.Spec PyProof.Rows L2 He
abbrev Ck := PySem.W.Frag → Bool
def kGlo (x : Str) : Ck := fun K => eqO (PySem.W.nsIn K mainGlobals x) (some (some (.ref (ga K x))))
def kFree (x : Str) : Ck := (Fa.free x).ok
def kInt (x : Str) (i : Int) : Ck := fun K => match PySem.W.nsIn K mainGlobals x with
  | some (some (.int j _)) => decide (j = i)
  | _ => false
def kStr (x z : Str) : Ck := fun K => match PySem.W.nsIn K mainGlobals x with
  | some (some (.str j _)) => decide (j = z)
  | _ => false
def kCls (x : Str) : Ck := fun K => (Fa.cls x).ok K && (kGlo x K && PySem.W.keepIn K (.ref (ga K x)))
def kNo (x f : Str) : Ck := (Fa.noat x f).ok
def kMeth (x m : Str) : Ck := (Fa.meth x m).ok
def kMk (x : Str) : Ck := (Fa.mkr x).ok
def kSpec (x m : Str) : Ck := fun K => eqO (PySem.W.findIn K (.ref (ga K x)) m) (some (some (.ref (ma K (ga K x) m)))) && PySem.W.isFn K (.ref (ma K (ga K x) m))
def kIns (x : Str) : Ck := fun K => (Fa.cls x).ok K && (eqO (PySem.W.findIn K (.ref (ga K x)) "__class__") (some (some (.builtin "object.__class__"))) &&
  (eqO (PySem.W.specialIn K (.builtin "object.__class__") "__get__") (some (some (.builtin "getset_descriptor.__get__"))) &&
  (decide (PySem.W.takesIn K (.builtin "object.__class__") = some true) && decide (PySem.W.mroIn K (ga K x) (.type "object") = some true))))
/-- no thing of a plain type is an x -/
def kNotIn (x : Str) : Ck := fun K => ((["NoneType", "bool", "int", "str", "list", "tuple", "dict"] : List String)).all fun n => decide (PySem.W.kitOne K (.type n) (.ref (ga K x)) = some false)
/-- the getter of a property -/
def pg (K : PySem.W.Frag) (C : Addr) (m : Str) : Addr := match PySem.W.recIn K (ma K C m) "property" with
  | some (.ref g :: _) => g
  | _ => 0
def recB (K : PySem.W.Frag) (p : Addr) : Bool := match PySem.W.recIn K p "property" with
  | some (.ref _ :: _) => true
  | _ => false
def kProp (x m : Str) : Ck := fun K => eqO (PySem.W.findIn K (.ref (ga K x)) m) (some (some (.ref (ma K (ga K x) m)))) &&
  (eqO (PySem.W.specialIn K (.ref (ma K (ga K x) m)) "__get__") (some (some (.builtin "property.__get__"))) &&
  (decide (PySem.W.takesIn K (.ref (ma K (ga K x) m)) = some true) && recB K (ma K (ga K x) m)))
def tokOf (K : PySem.W.Frag) (x : Str) : Tok := match PySem.W.nsIn K mainGlobals x with
  | some (some (.int _ t)) => t
  | some (some (.str _ t)) => t
  | _ => 0
inductive Pl where
  | g (x : Str)
  | m (x f : Str)
  | p (x f : Str)
  | c (x f : Str)
/-- the def of a classmethod -/
def cg (K : PySem.W.Frag) (C : Addr) (m : Str) : Addr := match PySem.W.recIn K (ma K C m) "classmethod" with
  | some (.ref g :: _) => g
  | _ => 0
def Pl.ad (K : PySem.W.Frag) : Pl → Addr
  | .g x => ga K x
  | .m x f => ma K (ga K x) f
  | .p x f => pg K (ga K x) f
  | .c x f => cg K (ga K x) f
structure Df where
  pl : Pl
  name : Str
  qual : Str
  st : Stmt
abbrev Vf : Type := Option (Str × Str × Arguments × FuncBody × Scope × Addr × List (Str × Addr) × Value × Addr)
def fdOf (K : PySem.W.Frag) (a : Addr) : FuncData := match K.lookup a with
  | some ⟨_, _, .func fd, _⟩ => fd
  | _ => PySem.W.fnOf "" "" ⟨[], [], none, [], [], none, []⟩ [] ⟨.function, [], false, false, []⟩ .none .none .none .none none .none .none
def seeF (K : PySem.W.Frag) (a : Addr) : Vf := match K.lookup a with
  | some ⟨_, _, .func fd, _⟩ => some (fd.name, fd.qualname, fd.params, fd.body, fd.scope, fd.globals, fd.closure, fd.defaults, fd.builtins)
  | _ => none
def Df.val (d : Df) : Vf := some (d.name, d.qual, defArgs d.st, .stmts (defBody d.st), defScope d.st, mainGlobals, [], .none, builtinsNs)
def Df.good (d : Df) : Ck := fun K => PySem.W.codeIn K (fdOf K (d.pl.ad K)).code d.qual && PySem.W.keepIn K (.ref (d.pl.ad K))
abbrev Ah : Type := Bool × List Vf
def seeH (cs : List Ck) (ds : List Df) (K : PySem.W.Frag) : Ah := ((cs.all fun c => c K) && ds.all fun d => d.good K, ds.map fun d => seeF K (d.pl.ad K))
def valH (ds : List Df) : Ah := (true, ds.map Df.val)
def SaysH (cs : List Ck) (ds : List Df) (K : PySem.W.Frag) : Prop := seeH cs ds K = valH ds
/-! .. over told addresses -/
def obA (as : List Addr) (cs : List Ck) (ds : List Df) (g : Addr → Option Obj) : Ah := seeH cs ds (frG g as)
def hookA (as : List Addr) (cs : List Ck) (ds : List Df) : PySem.W.Hook where
  α := Ah
  obs := fun s => obA as cs ds s.heap.get?
  val := fun _ => valH ds
  says := fun _ h => ∃ K : PySem.W.Frag, K.In h ∧ SaysH cs ds K
  of := fun _ _ e => ⟨_, frG_in, e⟩
  keeps := fun _ _ _ ⟨K, hK, c⟩ k => ⟨K, PySem.W.Frag.In.keeps hK k, c⟩
def obS (as : List Addr) (cs : List Ck) (ds : List Df) (s : PySem.W.SharedT) : Ah := obA as cs ds (HandSHeadRun.getT s)
theorem obS_eq {as : List Addr} {cs : List Ck} {ds : List Df} (s : PySem.W.SharedT) : obS as cs ds s = (hookA as cs ds).obs s.abs := by
  have e : HandSHeadRun.getT s = s.abs.heap.get? := funext (HandSHeadRun.getT_eq s)
  unfold obS
  rw [e] <;> rfl
/-- the run's two looks, each a run of its own -/
theorem runEq {r : PySem.W.OpenRow} {q : Program} {H : PySem.W.Hook} {ob : PySem.W.SharedT → H.α} {M : Nat} {loose : List PySem.Str} {w : World}
    (h1 : ∀ os : OsState, (HandSHeadRun.endF (HandSHeadRun.stepQ (HandSHeadRun.denQ HandSHeadRun.tabQ) r.prog w) M r.prog w os).map (fun s => (HandSHeadRun.looksF r.prog (PySem.W.boot_heap w.params) s.abs, HandSHeadRun.seenQ q loose (importedModules r.prog.main.body) (fun s => PySem.W.xlAt q [] s && PySem.W.recOk r.toRowW.records s) s.abs)) = some (true, PySem.W.openGood q loose))
    (h2 : ∀ os : OsState, (HandSHeadRun.endF (HandSHeadRun.stepQ (HandSHeadRun.denQ HandSHeadRun.tabQ) r.prog w) M r.prog w os).map ob = some (H.val w)) : HandSHeadRun.RunEq r q H ob M loose w := fun os => by
  obtain ⟨s, e, a⟩ := Option.map_eq_some_iff.mp (h1 os)
  have b := h2 os
  rw [e] at b ⊢
  have b := Option.some.inj b
  obtain ⟨a1, a2⟩ := Prod.mk.injEq .. ▸ a
  show some _ = some _
  rw [← b, ← a2, ← a1]
def kBin (x m : Str) : Ck := fun K => kSpec x m K && PySem.W.selfFirst K (ga K x)
def kEq (x : Str) : Ck := fun K => kSpec x "__eq__" K && (eqO (PySem.W.findIn K (.ref (ga K x)) "__ne__") (some (some (.builtin "object.__ne__"))) && decide (PySem.W.mroIn K (ga K x) (.type "object") = some true))
end Mh
set_option Elab.async false
set_option linter.all false
set_option maxRecDepth 100000
set_option maxHeartbeats 4000000
/-! Mh: checks of the text's own errors. -/
namespace Mh
open PySem PySem.Spec PyProof.Rows L2 He
end Mh
set_option Elab.async false
set_option linter.all false
set_option maxRecDepth 100000
set_option maxHeartbeats 4000000
/-! Mh: checks of the text's own errors that keep a field. -/
namespace Mh
open PySem PySem.Spec PyProof.Rows L2 He
end Mh
set_option Elab.async false
set_option linter.all false
set_option maxRecDepth 100000
set_option maxHeartbeats 4000000
/-! Mh: checks of classmethods, subscripts, == and isinstance with anything. -/
namespace Mh
open PySem PySem.Spec PyProof.Rows L2 He
def tys7 : List String := ["NoneType", "bool", "int", "str", "list", "tuple", "dict"]
def kNtZ (x : Str) (os : List Str) : Ck := fun K => (tys7.all fun n => PySem.W.notFirst K (ga K x) (.type n)) && os.all fun o => PySem.W.notFirst K (ga K x) (.ref (ga K o))
def kIsZ (x : Str) (os : List Str) : Ck := fun K => kIns x K && (kNotIn x K && os.all fun o => kIns o K && decide (PySem.W.kitOne K (.ref (ga K o)) (.ref (ga K x)) = some false))
end Mh
set_option Elab.async false
set_option linter.all false
set_option maxRecDepth 100000
set_option maxHeartbeats 4000000
/-! Mh: the check of an own `**`. -/
namespace Mh
open PySem PySem.Spec PyProof.Rows L2 He
end Mh
set_option Elab.async false
set_option linter.all false
set_option maxRecDepth 100000
set_option maxHeartbeats 4000000
/-! Mh: checks of errors as values: isinstance of them, their classes apart. -/
namespace Mh
open PySem PySem.Spec PyProof.Rows L2 He
end Mh
set_option Elab.async false
set_option linter.all false
set_option maxRecDepth 100000
set_option maxHeartbeats 4000000
/-! Mh: the check of a written table. -/
namespace Mh
open PySem PySem.Spec PyProof.Rows L2 He
/-- a written table -/
def kTabW (x : Str) (tab : List (Nat × Nat)) : Ck := fun K => kGlo x K && (match K.lookup (ga K x) with
  | some ⟨.type "dict", none, .dict es _, sl⟩ => sl.toList.isEmpty && ((es.toList.all fun e => match e.key with
    | .int i _ => decide (e.hash = hashInt i)
    | _ => false) && tab.all fun y => match findBy Value.isInt es (y.1 : Int) with
    | some (.str z _) => decide (z.cps.toList = [y.2])
    | _ => false)
  | _ => false)
end Mh
set_option Elab.async false
set_option linter.all false
set_option maxRecDepth 100000
set_option maxHeartbeats 0
namespace K426
open PySem PySem.Spec L2 Mh He PyProof.Rows
def tS (i : Nat) : Stmt := PySem.Challenge.pw_lastprices_k26_whole_repeats.main.body.getD i (.Pass ⟨0, 0, 0, 0⟩)
def hCs0 : List Ck := [kFree "abs",
  kFree "all",
  kFree "enumerate",
  kFree "int",
  kFree "isinstance",
  kFree "len",
  kFree "max",
  kFree "min",
  kFree "range",
  kFree "str",
  kFree "tuple",
  kFree "zip",
  kInt "MAX_STATES" 24,
  kStr "SIGNS" "01n.",
  kCls "Square",
  kIsZ "Square" [],
  kNtZ "Square" [],
  kTabW "TO_FIGURES" [(48, 55), (49, 54), (110, 52), (46, 48)],
  kTabW "TO_SIGNS" [(55, 48), (54, 49), (52, 110), (48, 46)],
  kNo "Square" "_rows",
  kGlo "_law_dice",
  kGlo "_law_roll",
  kGlo "_law_pick",
  kGlo "_law_drawn_square",
  kGlo "check_size",
  kGlo "_is_of_signs",
  kGlo "is_sized",
  kGlo "is_square",
  kMk "Square",
  kGlo "row_number",
  kGlo "masks_for",
  kGlo "written_row",
  kGlo "least_behind",
  kGlo "product_of",
  kBin "Square" "__mul__",
  kEq "Square",
  kProp "Square" "rows",
  kGlo "_law_lesser",
  kGlo "_law_greater",
  kGlo "_law_product"]
def hCs1 : List Ck := [kGlo "is_stable_by_numbers",
  kGlo "is_stable_square",
  kProp "Square" "is_stable",
  kGlo "repeat_by_numbers",
  kGlo "repeat_of",
  kMeth "Square" "repeated",
  kGlo "_law_repeat",
  kGlo "_ranks",
  kGlo "least_sign",
  kGlo "_law_no_less",
  kGlo "_law_repeats_right",
  kGlo "_law_stable_of",
  kGlo "_law_right",
  kSpec "Square" "__str__",
  kGlo "law"]
def hCs : List Ck := hCs0 ++ (hCs1)
def hDs0 : List Df := [⟨.g "_law_dice", "_law_dice", "_law_dice", (tS 34)⟩,
  ⟨.g "_law_roll", "_law_roll", "_law_roll", (tS 35)⟩,
  ⟨.g "_law_pick", "_law_pick", "_law_pick", (tS 36)⟩,
  ⟨.g "_law_drawn_square", "_law_drawn_square", "_law_drawn_square", (tS 41)⟩,
  ⟨.g "check_size", "check_size", "check_size", (tS 13)⟩,
  ⟨.g "_is_of_signs", "_is_of_signs", "_is_of_signs", (tS 32)⟩,
  ⟨.g "is_sized", "is_sized", "is_sized", (tS 11)⟩,
  ⟨.g "is_square", "is_square", "is_square", (tS 29)⟩,
  ⟨.m "Square" "__init__", "__init__", "Square.__init__", (inClass (tS 30) 0)⟩,
  ⟨.g "row_number", "row_number", "row_number", (tS 18)⟩,
  ⟨.g "masks_for", "masks_for", "masks_for", (tS 20)⟩,
  ⟨.g "written_row", "written_row", "written_row", (tS 19)⟩,
  ⟨.g "least_behind", "least_behind", "least_behind", (tS 21)⟩,
  ⟨.g "product_of", "product_of", "product_of", (tS 22)⟩,
  ⟨.m "Square" "__mul__", "__mul__", "Square.__mul__", (inClass (tS 30) 6)⟩,
  ⟨.m "Square" "__eq__", "__eq__", "Square.__eq__", (inClass (tS 30) 10)⟩,
  ⟨.p "Square" "rows", "rows", "Square.rows", (inClass (tS 30) 2)⟩,
  ⟨.g "_law_lesser", "_law_lesser", "_law_lesser", (tS 37)⟩,
  ⟨.g "_law_greater", "_law_greater", "_law_greater", (tS 38)⟩,
  ⟨.g "_law_product", "_law_product", "_law_product", (tS 39)⟩,
  ⟨.g "is_stable_by_numbers", "is_stable_by_numbers", "is_stable_by_numbers", (tS 26)⟩,
  ⟨.g "is_stable_square", "is_stable_square", "is_stable_square", (tS 25)⟩,
  ⟨.p "Square" "is_stable", "is_stable", "Square.is_stable", (inClass (tS 30) 3)⟩,
  ⟨.g "repeat_by_numbers", "repeat_by_numbers", "repeat_by_numbers", (tS 24)⟩,
  ⟨.g "repeat_of", "repeat_of", "repeat_of", (tS 23)⟩,
  ⟨.m "Square" "repeated", "repeated", "Square.repeated", (inClass (tS 30) 4)⟩,
  ⟨.g "_law_repeat", "_law_repeat", "_law_repeat", (tS 40)⟩,
  ⟨.g "_ranks", "_ranks", "_ranks", (tS 31)⟩,
  ⟨.g "least_sign", "least_sign", "least_sign", (tS 28)⟩,
  ⟨.g "_law_no_less", "_law_no_less", "_law_no_less", (tS 43)⟩,
  ⟨.g "_law_repeats_right", "_law_repeats_right", "_law_repeats_right", (tS 44)⟩,
  ⟨.g "_law_stable_of", "_law_stable_of", "_law_stable_of", (tS 42)⟩,
  ⟨.g "_law_right", "_law_right", "_law_right", (tS 45)⟩,
  ⟨.m "Square" "__str__", "__str__", "Square.__str__", (inClass (tS 30) 11)⟩,
  ⟨.g "law", "law", "law", (tS 46)⟩]
def hDs : List Df := hDs0
def hNs0 : List Str := [("_wall" : Str),
  ("is_integer" : Str),
  ("is_count" : Str),
  ("PriceError" : Str),
  ("InvalidSquare" : Str),
  ("InvalidOperation" : Str),
  ("InvalidNumber" : Str),
  ("MAX_STATES" : Str),
  ("is_sized" : Str),
  ("entry_at" : Str),
  ("check_size" : Str),
  ("SIGNS" : Str),
  ("TO_FIGURES" : Str),
  ("TO_SIGNS" : Str),
  ("row_number" : Str),
  ("written_row" : Str),
  ("masks_for" : Str),
  ("least_behind" : Str),
  ("product_of" : Str),
  ("repeat_of" : Str),
  ("repeat_by_numbers" : Str),
  ("is_stable_square" : Str),
  ("is_stable_by_numbers" : Str),
  ("least_sign" : Str),
  ("is_square" : Str),
  ("Square" : Str),
  ("_ranks" : Str),
  ("_is_of_signs" : Str),
  ("_law_dice" : Str),
  ("_law_roll" : Str)]
def hNs1 : List Str := [("_law_pick" : Str),
  ("_law_lesser" : Str),
  ("_law_greater" : Str),
  ("_law_product" : Str),
  ("_law_repeat" : Str),
  ("_law_drawn_square" : Str),
  ("_law_stable_of" : Str),
  ("_law_no_less" : Str),
  ("_law_repeats_right" : Str),
  ("_law_right" : Str)]
def hNs : List Str := hNs0 ++ (hNs1)
def hAs0 : List Addr := [3,
  99,
  111,
  112,
  113,
  120,
  127,
  134,
  141,
  146,
  151,
  156,
  161,
  168,
  175,
  180,
  279,
  288,
  295,
  302,
  309,
  316,
  323,
  330,
  337,
  344,
  349,
  356,
  363,
  370,
  375,
  380,
  98,
  110,
  119,
  126,
  133,
  140,
  145,
  150]
def hAs1 : List Addr := [155,
  160,
  167,
  174,
  179,
  278,
  287,
  294,
  301,
  308,
  315,
  322,
  329,
  336,
  343,
  348,
  355,
  362,
  369,
  374,
  379,
  194,
  212,
  220,
  227,
  241,
  269,
  276,
  193,
  211,
  219,
  226,
  240,
  268,
  275,
  210,
  218]
def hAs : List Addr := hAs0 ++ (hAs1)
abbrev hR : PySem.W.OpenRow := (PySem.W.OpenLaw.row PySem.Challenge.rw_lastprices_k26_whole_repeats)
def ovW (w : World) (b : Bool) : World := { w with params := { w.params with followText := fun s => if s = "special-get-raises" then b else w.params.followText s } }
theorem ovW_eq (w : World) : ovW w (w.params.followText "special-get-raises") = w := by
  have e : (fun s => if s = "special-get-raises" then w.params.followText "special-get-raises" else w.params.followText s) = w.params.followText := funext fun s => by
    by_cases h : s = "special-get-raises"
    · rw [if_pos h, h]
    · rw [if_neg h]
  unfold ovW
  rw [e]
theorem hRun1t (w : World) (os : OsState) : (HandSHeadRun.endF (HandSHeadRun.stepQ (HandSHeadRun.denQ HandSHeadRun.tabQ) hR.prog (ovW w true)) 60000 hR.prog (ovW w true) os).map (fun s => (HandSHeadRun.looksF hR.prog (PySem.W.boot_heap (ovW w true).params) s.abs, HandSHeadRun.seenQ (PySem.W.view hR.prog [46]) hNs (importedModules hR.prog.main.body) (fun s => PySem.W.xlAt (PySem.W.view hR.prog [46]) [] s && PySem.W.recOk hR.toRowW.records s) s.abs)) = some (true, PySem.W.openGood (PySem.W.view hR.prog [46]) hNs) := by kernel_rfl
theorem hRun2t (w : World) (os : OsState) : (HandSHeadRun.endF (HandSHeadRun.stepQ (HandSHeadRun.denQ HandSHeadRun.tabQ) hR.prog (ovW w true)) 60000 hR.prog (ovW w true) os).map (fun s => obS hAs hCs hDs s) = some ((hookA hAs hCs hDs).val (ovW w true)) := by kernel_rfl
theorem hRun1f (w : World) (os : OsState) : (HandSHeadRun.endF (HandSHeadRun.stepQ (HandSHeadRun.denQ HandSHeadRun.tabQ) hR.prog (ovW w false)) 60000 hR.prog (ovW w false) os).map (fun s => (HandSHeadRun.looksF hR.prog (PySem.W.boot_heap (ovW w false).params) s.abs, HandSHeadRun.seenQ (PySem.W.view hR.prog [46]) hNs (importedModules hR.prog.main.body) (fun s => PySem.W.xlAt (PySem.W.view hR.prog [46]) [] s && PySem.W.recOk hR.toRowW.records s) s.abs)) = some (true, PySem.W.openGood (PySem.W.view hR.prog [46]) hNs) := by kernel_rfl
theorem hRun2f (w : World) (os : OsState) : (HandSHeadRun.endF (HandSHeadRun.stepQ (HandSHeadRun.denQ HandSHeadRun.tabQ) hR.prog (ovW w false)) 60000 hR.prog (ovW w false) os).map (fun s => obS hAs hCs hDs s) = some ((hookA hAs hCs hDs).val (ovW w false)) := by kernel_rfl
theorem hRunB (w : World) : ∀ b, HandSHeadRun.RunEq (PySem.W.OpenLaw.row PySem.Challenge.rw_lastprices_k26_whole_repeats) (PySem.W.view (PySem.W.OpenLaw.row PySem.Challenge.rw_lastprices_k26_whole_repeats).prog [46]) (hookA hAs hCs hDs) (obS hAs hCs hDs) 60000 hNs (ovW w b)
  | true => runEq (hRun1t w) (hRun2t w)
  | false => runEq (hRun1f w) (hRun2f w)
theorem hRun (w : World) : HandSHeadRun.RunEq (PySem.W.OpenLaw.row PySem.Challenge.rw_lastprices_k26_whole_repeats) (PySem.W.view (PySem.W.OpenLaw.row PySem.Challenge.rw_lastprices_k26_whole_repeats).prog [46]) (hookA hAs hCs hDs) (obS hAs hCs hDs) 60000 hNs w := by
  have h := hRunB w (w.params.followText "special-get-raises")
  rw [ovW_eq w] at h
  exact h
end K426
set_option Elab.async false
set_option linter.all false
set_option maxRecDepth 100000
set_option maxHeartbeats 4000000
/-! Lp, part one: a promise that is kept where no repr is under way (A.guards = some []), and the law's end over such promises. -/
namespace Lp
open PySem PySem.Spec PyProof.Rows L2
/-- a def's promise, asked only where no repr is under way -/
structure FnG (P : Program) (w : World) (K : PySem.W.Frag) (mg : Str → Option Value) (base : Heap) (CX : CXT) (k : Nat) (f : Addr) (fd : FuncData) (ps : List Str) (sp : Sp) : Prop where
  len : ∀ vs H Q E, sp vs H Q E → vs.length = ps.length
  go : ∀ (B : Around) (fr : List Env) (st : Shared) (J : Hp) (ar : Args) (ws : List Value) (xs : List V) (R : VK) (Z : XK),
    Room k B → B.guards = some [] → Env0 P w K mg base B fr st J → BindsTo st fd ar (ps.zip ws) → Vals xs ws → sp xs J R Z →
    codeAny (model P w) B (.call (.ref f) ar) (CR CX fr P w J st R Z) st
section
variable {P : Program} {w : World} {K : PySem.W.Frag} {mg : Str → Option Value} {base : Heap} {CX : CXT}
theorem FnG.mono {j k : Nat} {f : Addr} {fd : FuncData} {ps : List Str} {sp : Sp} (F : FnG P w K mg base CX j f fd ps sp) (h : j ≤ k) : FnG P w K mg base CX k f fd ps sp :=
  ⟨F.len, fun B fr st J ar ws xs R Z r => F.go B fr st J ar ws xs R Z (r.mono h)⟩
theorem FnG.of {k : Nat} {f : Addr} {fd : FuncData} {ps : List Str} {sp : Sp} (F : FnOk P w K mg base CX k f fd ps sp) : FnG P w K mg base CX k f fd ps sp :=
  ⟨F.len, fun B fr st J ar ws xs R Z r _ => F.run B fr st J ar ws xs R Z r⟩
/-- the rule for a def, its body walked where no repr is under way -/
theorem okG {x qual : Str} {st : Stmt} {f : Addr} {fd : FuncData} {N ps : List Str} {k : Nat} {sp : Sp} (F : Fun K x qual st f fd) (S : FnScope N ps (defScope st)) (len : ∀ vs H Q E, sp vs H Q E → vs.length = ps.length)
    (body : ∀ (cdv : Value) (B : Around) (fr : List Env) (s : Shared) (J : Hp) (xs : List V) (R : VK) (Z : XK),
      Room k (B.deeper (envOfC qual (defScope st) s.heap.objs.size f cdv)) → (B.deeper (envOfC qual (defScope st) s.heap.objs.size f cdv)).guards = some [] → sp xs J R Z →
      ∃ t, PSs (cxOf CX P w K mg base N qual (defScope st) f cdv B fr s J Z) (defBody st) t ∧ t { nx := fun _ H' => R .non H', rt := R } (start N xs) J) :
    FnG P w K mg base CX (k + 1) f fd ps sp := by
  obtain ⟨oc, od, kV, doc, pm, an, cdv, ct, osl, rfl, lk, hcd⟩ := F.ex
  refine ⟨len, fun B fr s J ar ws xs R Z hr hg e0 hb r hsp => ?_⟩
  have hl := len _ _ _ _ hsp
  have inH : ∀ b o, base.get? b = some o → s.heap.get? b = some o := fun b o e => (e0.bs b o e).1
  have KX : K.In s.heap := e0.mod.kin.keeps inH
  have par : ∀ y ∈ ps.zip ws, (defScope st).names.lookup y.1 = some .local ∨ ((defScope st).names.lookup y.1 = some .cell ∧ ((cellsFrom (s.heap.objs.size + 1) (defScope st).names []).lookup y.1).isSome = true) := fun y hy =>
    (S.par y.1 (List.of_mem_zip (show (y.1, y.2) ∈ ps.zip ws from hy)).1).elim .inl fun q => .inr ⟨q, PySem.W.cellsFrom_some _ _ _ (.inl q)⟩
  refine codeAny_call_function hr.depth (KX _ _ lk) rfl S.co S.gen rfl (PySem.W.codeRec_of KX hcd) (hb _ _ _ _ ?_)
  refine wpAny_newFunctionEnv_cells S.kind par fun en hen s1 c1 => ?_
  subst hen
  refine ⟨(e0.mod.nolimit.keeps inH).keeps c1.toInCall.keep, codeAny_func ?_⟩
  obtain ⟨t, ht, hq⟩ := body cdv B fr s J xs R Z (hr.deeper _) hg hsp
  have I := inv_start (CX := CX) (cd := cdv) (qual := qual) (f := f) (E := Z) S hr.hd e0 hl r c1
  refine wpAny_mono (ht.run [] s1 (start N xs) J _ I hq) (fun fl s2 hs => ?_) fun _ _ z => z
  match fl, hs with
  | .ret u, ⟨v, _, H2, I2, rv, q⟩ => exact ⟨v, H2, I2.os, I2.bare, I2.base, I2.hok, rv, q⟩
  | .next, ⟨_, H2, I2, q⟩ => exact ⟨V.non, H2, I2.os, I2.bare, I2.base, I2.hok, rfl, q⟩
  | .brk, ⟨_, _, _, q⟩ => exact q.elim
  | .cont, ⟨_, _, _, q⟩ => exact q.elim
/-- the same for a def that lets no exception out -/
theorem okN {x qual : Str} {st : Stmt} {f : Addr} {fd : FuncData} {N ps : List Str} {k : Nat} {sp : Sp} (F : Fun K x qual st f fd) (S : FnScope N ps (defScope st)) (len : ∀ vs H Q E, sp vs H Q E → vs.length = ps.length)
    (body : ∀ (cdv : Value) (B : Around) (fr : List Env) (s : Shared) (J : Hp) (xs : List V) (R : VK) (Z : XK),
      Room k (B.deeper (envOfC qual (defScope st) s.heap.objs.size f cdv)) → (B.deeper (envOfC qual (defScope st) s.heap.objs.size f cdv)).guards = some [] → sp xs J R Z →
      ∃ t, PSs (cxOf CX P w K mg base N qual (defScope st) f cdv B fr s J Z).nox (defBody st) t ∧ t { nx := fun _ H' => R .non H', rt := R } (start N xs) J) :
    FnG P w K mg base CX (k + 1) f fd ps sp :=
  okG F S len fun cdv B fr s J xs R Z h1 h2 h3 => by
    obtain ⟨t, a, b⟩ := body cdv B fr s J xs R Z h1 h2 h3
    exact ⟨t, a.nox, b⟩
/-- a call of such a def by its global name -/
theorem callG {X : Cx} {k : Nat} {f : Addr} {fd : FuncData} {ps : List Str} {sp : Sp} {x : Str} {p pos : Pos} {e : Expr} {es : List Expr} {t : TA} {Z : XK} (F : FnG X.prog X.w X.K X.mg X.base CX k f fd ps sp) (hr : Room k X.A) (hgd : X.A.guards = some [])
    (hg : Gl X x) (hm : X.mg x = some (.ref f)) (hk : PySem.W.keepIn X.K (.ref f) = true) (hb : Binds X.K fd ps []) (hx : Passes CX X Z)
    (ha : PA X (e :: es) t) (hdb : (x == ("__debug__" : Str)) = false := by decide) (he : starEach (e :: es) X.env = (false, eval e X.env) :: starEach es X.env := by rfl) (hpl : (backTo pos (starEach es X.env)).any (·.1) = false := by rfl) :
    PE X (.Call (.Name x p) (e :: es) [] pos) (tCall sp [] Z t) := by
  constructor
  intro pins s σ J R I h
  apply wpAny_Call_Name_kw
  refine ld_glob I hg hm ?_ hdb
  refine PySem.W.callWith_K (h₀ := X.base) I.ok.mod.kin hk (thn (ha.run pos pins s σ J _ I h) fun ws s1 z => ?_) he hpl
  obtain ⟨xs, J1, I1, r, q⟩ := z
  refine ⟨I1.kIn, ?_⟩
  have q' : sp xs J1 R Z := by
    have q2 : sp (xs ++ []) J1 R Z := q
    rwa [List.append_nil] at q2
  have bt := hb s1 ws I1.kIn (by rw [List.append_nil, ← r.length]; exact F.len _ _ _ _ q')
  rw [List.append_nil] at bt
  refine wpAny_call (codeAny_mono (F.go X.A X.stack s1 J1 ⟨ws, []⟩ ws xs R Z hr hgd I1.env0 bt r q') fun o s2 w2 => ?_)
  match o, w2 with
  | .error e, w2 => exact hx pins σ J1 s1 e s2 I1 w2
  | .ok (.ret u), w2 => exact I1.after w2
/-- the law's own call -/
theorem law_callG {mb : Str → Option Value} {k : Nat} {fa a : Addr} {fd : FuncData} {x : Str} {sp : Sp} {st : Shared} {vs : List Value} {ns : List Int}
    (KX : K.In st.heap) (hns : st.heap.Ns mainGlobals mg) (hb : st.heap.Ns builtinsNs mb) (hbb : ∀ y : Str, y ≠ "__name__" → mb y = bootBuiltins y) (hlim : st.heap.NoLimit) (hgen : st.gens = #[])
    (ha : st.heap.get? a = some { cls := .type "list", data := .seq vs.toArray }) (hi : IntsAre vs ns) (hl : ns.length ≤ sizeLine) (hr : Room k callerA)
    (F : ∀ b0 : Heap, K.In b0 → b0.Ns mainGlobals mg → FnG P w K mg b0 CX k fa fd [x] sp) (hbind : ∀ (s : Shared) (u : Value), BindsTo s fd ⟨[u], []⟩ [(x, u)])
    (hsp : ∀ J : Hp, Only J → SqL K J a (ns.map V.int) → sp [.ref a] J (fun v _ => v = .bl true) fun _ _ _ => False)
    (hCX : ∀ J e s', CX [] J st (fun _ _ _ => False) e s' → False) :
    codeAny (model P w) callerA (.call (.ref fa) ⟨[.ref a], []⟩) (fun r s' => r = .ok (.ret (.bool true)) ∧ OldK st.heap s'.heap ∧ s'.os = st.os ∧ AllBare s'.gens) st := by
  have rv := vals_ints hi
  have lv := hi.length
  -- J tracks the script at most
  have main : ∀ J : Hp, Only J → SqL K J a (ns.map V.int) → HOk P w J st.heap → (∀ b, J b ≠ none → b = a) → (J a ≠ none → K.lookup a = none) →
      codeAny (model P w) callerA (.call (.ref fa) ⟨[.ref a], []⟩) (fun r s' => r = .ok (.ret (.bool true)) ∧ OldK st.heap s'.heap ∧ s'.os = st.os ∧ AllBare s'.gens) st := by
    intro J hO hS hok hA hK
    have seen : ∀ b, J b = none ∨ b = a := fun b => by
      cases q : J b with
      | none => exact .inl rfl
      | some u => exact .inr (hA b (by rw [q]; exact Option.some_ne_none u))
    have dn : ∀ {b : Addr} {o : Obj} {es : Array DictEntry} {ep : Nat}, st.heap.get? b = some o → o.data = .dict es ep → J b = none := fun {b o es ep} e d => (seen b).elim id fun z => by
      subst z
      rw [ha] at e
      cases e
      exact nomatch (show Data.seq vs.toArray _ = Data.dict es ep from d)
    have nsT : ∀ {b : Addr} {m : Str → Option Value}, st.heap.Ns b m → (hidT st.heap J).Ns b m := fun ⟨o, es, ep, e, d, r⟩ => ⟨o, es, ep, hidT_get e (dn e d), d, r⟩
    have kT : K.In (hidT st.heap J) := fun b o e => hidT_get (KX b o e) ((seen b).elim id fun z => by
      subst z
      cases q : J b with
      | none => rfl
      | some u =>
        have := hK (by rw [q]; exact Option.some_ne_none u)
        rw [e] at this
        cases this)
    obtain ⟨mc, l1, l2⟩ := hlim
    have env : Env0 P w K mg (hidT st.heap J) callerA [] st J :=
      ⟨rfl, ⟨kT, nsT hns, ⟨mb, nsT hb, hbb⟩, ⟨mc, nsT l1, l2⟩⟩, fun b o e => of_hidT e, Nat.le_of_eq (hidT_size _ _), trivial, fun b z => (List.not_mem_nil z).elim, hok, .of_eq hgen⟩
    refine codeAny_mono ((F _ kT (nsT hns)).go callerA [] st J ⟨[.ref a], []⟩ [.ref a] [.ref a] _ _ hr rfl env (hbind st (.ref a)) (.cons rfl .nil) (hsp J hO hS)) fun r s' h => ?_
    match r, h with
    | .error e, h => exact (hCX J e s' h).elim
    | .ok (.ret u), ⟨v, J2, os, bare, un, hok2, r2, q⟩ =>
      have q2 : v = .bl true := q
      subst q2
      have r3 : u = Value.bool true := r2
      subst r3
      refine ⟨rfl, OldK.of_keep fun b o e => ?_, os, bare⟩
      rcases hO b with z | ⟨ob, xs, z⟩
      · exact un.keep b o e z (fun y => (List.not_mem_nil y).elim) (fun y => (List.not_mem_nil y).elim)
      · have f1 := (hok b _ z).1
        have f2 := (hok2 b _ (un.frzs b ob _ z)).1
        rw [e] at f1
        cases f1
        exact f2
  cases hk : K.lookup a with
  | some o =>
    have e := KX a o hk
    rw [ha] at e
    cases e
    refine main (fun _ => none) (fun _ => .inl rfl) (.inr ⟨_, vs.toArray, _, hk, rfl, rfl, rfl, by rw [List.size_toArray, lv]; exact hl, by simpa using rv⟩) (fun b u z => ?_) (fun b z => (z rfl).elim) (fun z => (z rfl).elim)
    cases (show (none : Option HO) = some u from z)
  | none =>
    have on : ∀ {b : Addr} {u : HO}, (if b = a then some (HO.frz { cls := .type "list", data := .seq vs.toArray } (.lst (ns.map V.int))) else none) = some u → b = a ∧ u = HO.frz { cls := .type "list", data := .seq vs.toArray } (.lst (ns.map V.int)) := fun {b u} z => by
      by_cases hb : b = a
      · rw [if_pos hb] at z
        exact ⟨hb, (Option.some.inj z).symm⟩
      · rw [if_neg hb] at z
        cases z
    refine main (fun b => if b = a then some (.frz { cls := .type "list", data := .seq vs.toArray } (.lst (ns.map V.int))) else none) (fun b => ?_) (.inl (.inr ⟨_, if_pos rfl⟩)) (fun b u z => ?_) (fun b z => ?_) fun _ => hk
    · by_cases hb : b = a
      · exact .inr ⟨_, _, if_pos hb⟩
      · exact .inl (if_neg hb)
    · obtain ⟨rfl, rfl⟩ := on z
      exact ⟨ha, by rw [List.length_map]; exact hl, vs, _, rv, ha⟩
    · by_cases hb : b = a
      · exact hb
      · exact (z (if_neg hb)).elim
end
end Lp
set_option Elab.async false
set_option linter.all false
set_option maxRecDepth 100000
set_option maxHeartbeats 4000000
/-! Lp, part two: what an expression gives, as plain data; the list of dice may change, all else stays. -/
namespace Lp
open PySem PySem.Spec L2
/-! ### the heap without the dice and without what is being filled -/
structure Mt where
  d : Option Addr
  o : List Addr
abbrev OA := Mt
abbrev no : Mt := ⟨none, []⟩
abbrev Mt.add (p : Mt) (q : Addr) : Mt := ⟨p.d, q :: p.o⟩
def Hid (p : Mt) (b : Addr) : Prop := p.d = some b ∨ b ∈ p.o
instance {p : Mt} {b : Addr} : Decidable (Hid p b) := inferInstanceAs (Decidable (p.d = some b ∨ b ∈ p.o))
def del (p : Mt) (H : Hp) : Hp := fun b => if Hid p b then none else H b
theorem del_of {p : Mt} {H : Hp} {b : Addr} {o : HO} (h : del p H b = some o) : H b = some o := by
  unfold del at h
  split at h
  · cases h
  · exact h
theorem del_no {p : Mt} {H : Hp} {b : Addr} {o : HO} (h : del p H b = some o) : ¬ Hid p b := fun z => by
  unfold del at h
  rw [if_pos z] at h
  cases h
theorem del_at {p : Mt} {H : Hp} {b : Addr} (h : ¬ Hid p b) : del p H b = H b := if_neg h
/-- what is not there need not be hidden -/
theorem del_add {p : Mt} {H : Hp} {q : Addr} (h : H q = none) : del (p.add q) H = del p H := by
  funext b
  unfold del
  by_cases e : b = q
  · subst e
    rw [if_pos (show Hid (p.add b) b from Or.inr List.mem_cons_self), h]
    split <;> rfl
  · by_cases f : Hid p b
    · rw [if_pos f, if_pos (show Hid (p.add q) b from f.imp id (List.mem_cons_of_mem _))]
    · rw [if_neg f, if_neg (show ¬ Hid (p.add q) b from fun z => f (z.imp id fun y => (List.mem_cons.mp y).resolve_left e))]
def Dice (H : Hp) (a : Addr) : Prop := ∃ l s c : Int, H a = some (.lst [.int l, .int s, .int c])
structure DOk (p : Mt) (H : Hp) : Prop where
  di : ∀ a, p.d = some a → Dice H a
  lv : ∀ a ∈ p.o, H a ≠ none
theorem DOk.ne {p : Mt} {H : Hp} {q : Addr} (d : DOk p H) (h : H q = none) : ¬ Hid p q := fun e => by
  rcases e with e | e
  · obtain ⟨l, s, c, z⟩ := d.di q e
    rw [h] at z
    cases z
  · exact d.lv q e h
structure Go (p : Mt) (H H' : Hp) : Prop where
  ex : ∀ a o, p.d ≠ some a → H a = some o → H' a = some o
  dk : DOk p H'
theorem Go.exd {p : Mt} {H H' : Hp} (g : Go p H H') : ∀ a o, del p H a = some o → del p H' a = some o := fun a o e => by
  have n := del_no e
  rw [del_at n] at e ⊢
  exact g.ex a o (fun z => n (.inl z)) e
theorem Go.refl {p : Mt} {H : Hp} (d : DOk p H) : Go p H H := ⟨fun _ _ _ h => h, d⟩
theorem Go.trans {p : Mt} {H H1 H2 : Hp} (a : Go p H H1) (b : Go p H1 H2) : Go p H H2 := ⟨fun x o n h => b.ex x o n (a.ex x o n h), b.dk⟩
theorem Go.free {p : Mt} {H H' : Hp} {q : Addr} (g : Go p H H') (h : H' q = none) : H q = none := by
  have n := g.dk.ne h
  cases e : H q with
  | none => rfl
  | some o =>
    have z := g.ex q o (fun y => n (.inl y)) e
    rw [h] at z
    cases z
/-- an object that H does not know is written -/
theorem Go.put {p : Mt} {H H' : Hp} {q : Addr} {o : HO} (d : DOk p H) (g : Go p H H') (h : H q = none) : Go p H (upd H' q o) := by
  have n := d.ne h
  refine ⟨fun a u na e => ?_, fun a e => ?_, fun a m => ?_⟩
  · rw [upd_ne (ne_of_none e h)]
    exact g.ex a u na e
  · obtain ⟨l, s, c, z⟩ := g.dk.di a e
    have na : a ≠ q := fun y => n (.inl (by rw [e, y]))
    exact ⟨l, s, c, by rw [upd_ne na]; exact z⟩
  · by_cases na : a = q
    · rw [na, upd_same]
      exact Option.some_ne_none o
    · rw [upd_ne na]
      exact g.dk.lv a m
theorem Go.new {p : Mt} {H : Hp} {q : Addr} {o : HO} (d : DOk p H) (h : H q = none) : Go p H (upd H q o) := Go.put d (.refl d) h
/-- from a wider context to a narrower one, and back where q was not there -/
theorem Go.sub {p : Mt} {H H' : Hp} {q : Addr} (g : Go (p.add q) H H') : Go p H H' := ⟨g.ex, g.dk.di, fun a m => g.dk.lv a (List.mem_cons_of_mem _ m)⟩
theorem Go.sup {p : Mt} {H H' : Hp} {q : Addr} (g : Go p H H') (h : H' q ≠ none) : Go (p.add q) H H' := ⟨g.ex, g.dk.di, fun a m => (List.mem_cons.mp m).elim (fun e => e ▸ h) (g.dk.lv a)⟩
theorem tu_ex {K : PySem.W.Frag} {H H' : Hp} {a : Addr} {xs : List V} (e : ∀ a o, H a = some o → H' a = some o) (h : SqT K H a xs) : SqT K H' a xs := by
  rcases h with (h | ⟨o, h⟩) | h
  · exact .inl (.inl (e _ _ h))
  · exact .inl (.inr ⟨o, e _ _ h⟩)
  · exact .inr h
theorem ls_q {K : PySem.W.Frag} {p : OA} {H : Hp} {a : Addr} {xs : List V} (h : del p H a = some (.lst xs)) : SqL K H a xs := .inl (.inl (del_of h))
/-! ### plain data -/
def kD : Key → PyData
  | .inl i => .int i
  | .inr x => .str x
mutual
inductive Rep (K : PySem.W.Frag) (H : Hp) : V → PyData → Prop
  | non : Rep K H .non .none
  | bl (b : Bool) : Rep K H (.bl b) (.bool b)
  | int (i : Int) : Rep K H (.int i) (.int i)
  | str (x : Str) : Rep K H (.str x) (.str x)
  | lst {a : Addr} {xs : List V} {ds : List PyData} : H a = some (.lst xs) → Reps K H xs ds → Rep K H (.ref a) (.list ds)
  | tup {a : Addr} {xs : List V} {ds : List PyData} : SqT K H a xs → Reps K H xs ds → Rep K H (.ref a) (.tuple ds)
  | dic {a : Addr} {kvs : List (Key × V)} {es : List (PyData × PyData)} : H a = some (.dK kvs) → RepKv K H kvs es → Rep K H (.ref a) (.dict es)
inductive Reps (K : PySem.W.Frag) (H : Hp) : List V → List PyData → Prop
  | nil : Reps K H [] []
  | cons {v : V} {vs : List V} {d : PyData} {ds : List PyData} : Rep K H v d → Reps K H vs ds → Reps K H (v :: vs) (d :: ds)
inductive RepKv (K : PySem.W.Frag) (H : Hp) : List (Key × V) → List (PyData × PyData) → Prop
  | nil : RepKv K H [] []
  | cons {k : Key} {v : V} {d : PyData} {kvs : List (Key × V)} {es : List (PyData × PyData)} : Rep K H v d → RepKv K H kvs es → RepKv K H ((k, v) :: kvs) ((kD k, d) :: es)
end
section
variable {K : PySem.W.Frag} {H H' : Hp}
mutual
theorem Rep.mono (e : ∀ a o, H a = some o → H' a = some o) : ∀ {v : V} {d : PyData}, Rep K H v d → Rep K H' v d
  | _, _, .non => .non
  | _, _, .bl b => .bl b
  | _, _, .int i => .int i
  | _, _, .str x => .str x
  | _, _, .lst h r => .lst (e _ _ h) (Reps.mono e r)
  | _, _, .tup h r => .tup (tu_ex e h) (Reps.mono e r)
  | _, _, .dic h r => .dic (e _ _ h) (RepKv.mono e r)
theorem Reps.mono (e : ∀ a o, H a = some o → H' a = some o) : ∀ {vs : List V} {ds : List PyData}, Reps K H vs ds → Reps K H' vs ds
  | _, _, .nil => .nil
  | _, _, .cons h r => .cons (Rep.mono e h) (Reps.mono e r)
theorem RepKv.mono (e : ∀ a o, H a = some o → H' a = some o) : ∀ {vs : List (Key × V)} {ds : List (PyData × PyData)}, RepKv K H vs ds → RepKv K H' vs ds
  | _, _, .nil => .nil
  | _, _, .cons h r => .cons (Rep.mono e h) (RepKv.mono e r)
end
theorem Rep.go {p : OA} {v : V} {d : PyData} (g : Go p H H') (h : Rep K (del p H) v d) : Rep K (del p H') v d := h.mono g.exd
theorem Reps.go {p : OA} {v : List V} {d : List PyData} (g : Go p H H') (h : Reps K (del p H) v d) : Reps K (del p H') v d := h.mono g.exd
theorem del_le {p : OA} {q : Addr} : ∀ a o, del (p.add q) H a = some o → del p H a = some o := fun a o e => by
  have n := del_no e
  rw [del_at n] at e
  rw [del_at (show ¬ Hid p a from fun z => n (Or.imp id (List.mem_cons_of_mem _) z))]
  exact e
theorem del_put {p : OA} {q : Addr} {o : HO} : ∀ a u, del (p.add q) H a = some u → del (p.add q) (upd H q o) a = some u := fun a u e => by
  have n := del_no e
  have na : a ≠ q := fun z => n (.inr (z ▸ List.mem_cons_self))
  rw [del_at n] at e ⊢
  rw [upd_ne na]
  exact e
theorem Rep.add {p : OA} {v : V} {d : PyData} {q : Addr} (h : Rep K (del p H) v d) (hq : H q = none) : Rep K (del (p.add q) H) v d := by rw [del_add hq]; exact h
theorem Reps.add {p : OA} {v : List V} {d : List PyData} {q : Addr} (h : Reps K (del p H) v d) (hq : H q = none) : Reps K (del (p.add q) H) v d := by rw [del_add hq]; exact h
theorem Rep.sub {p : OA} {v : V} {d : PyData} {q : Addr} (h : Rep K (del (p.add q) H) v d) : Rep K (del p H) v d := h.mono del_le
theorem Reps.sub {p : OA} {v : List V} {d : List PyData} {q : Addr} (h : Reps K (del (p.add q) H) v d) : Reps K (del p H) v d := h.mono del_le
theorem Reps.len {vs : List V} {ds : List PyData} (h : Reps K H vs ds) : vs.length = ds.length := by
  induction vs generalizing ds with
  | nil =>
    cases h
    rfl
  | cons v r ih =>
    cases h with
    | cons a b => exact congrArg (· + 1) (ih b)
theorem Reps.get {vs : List V} {ds : List PyData} (h : Reps K H vs ds) : ∀ {i : Nat} {v : V}, vs[i]? = some v → ∃ d, ds[i]? = some d ∧ Rep K H v d := by
  induction vs generalizing ds with
  | nil => exact fun e => by simp at e
  | cons u r ih =>
    cases h with
    | cons a b =>
      intro i v e
      cases i with
      | zero => exact ⟨_, rfl, by cases e; exact a⟩
      | succ j => exact ih b e
theorem Reps.app {vs us : List V} {ds es : List PyData} (h : Reps K H vs ds) (h2 : Reps K H us es) : Reps K H (vs ++ us) (ds ++ es) := by
  induction vs generalizing ds with
  | nil =>
    cases h
    exact h2
  | cons u r ih =>
    cases h with
    | cons a b => exact .cons a (ih b)
theorem reps_ints {vs : List V} {ns : List Int} (h : Reps K H vs (ns.map PyData.int)) : vs = ns.map V.int := by
  induction ns generalizing vs with
  | nil =>
    cases h
    rfl
  | cons n r ih =>
    cases h with
    | cons a b =>
      cases a
      rw [ih b]
      rfl
theorem reps_strs {vs : List V} {ns : List Str} (h : Reps K H vs (ns.map PyData.str)) : vs = ns.map V.str := by
  induction ns generalizing vs with
  | nil =>
    cases h
    rfl
  | cons n r ih =>
    cases h with
    | cons a b =>
      cases a
      rw [ih b]
      rfl
end
class Enc (α : Type) where
  toD : α → PyData
abbrev enc {α : Type} [Enc α] (a : α) : PyData := Enc.toD a
instance : Enc PyData := ⟨fun d => d⟩
instance : Enc Int := ⟨.int⟩
instance : Enc Bool := ⟨.bool⟩
instance : Enc Str := ⟨.str⟩
instance : Enc Unit := ⟨fun _ => .none⟩
instance {α : Type} [Enc α] : Enc (List α) := ⟨fun l => .list (l.map enc)⟩
/-! ### readings by the text itself -/
structure SemE (X : Cx) (e : Expr) (σ : St) (H : Hp) (Q : VK) : Prop where
  run : ∀ (pins : List (Addr × Obj)) (s : Shared), Inv X pins σ H s → wpAny (model X.prog X.w) X.A (eval e X.env) (EP X pins σ Q) X.xe s
structure SemT (X : Cx) (e : Expr) (σ : St) (H : Hp) (Q : Bool → Hp → Prop) : Prop where
  run : ∀ (pins : List (Addr × Obj)) (s : Shared), Inv X pins σ H s → wpAny (model X.prog X.w) X.A (isTrue e X.env (eval e X.env)) (TP X pins σ Q) X.xe s
structure SemA (X : Cx) (es : List Expr) (σ : St) (H : Hp) (Q : List V → Hp → Prop) : Prop where
  run : ∀ (pos : Pos) (pins : List (Addr × Obj)) (s : Shared), Inv X pins σ H s → wpAny (model X.prog X.w) X.A (spliced (backTo pos (starEach es X.env))) (AP X pins σ Q) X.xe s
structure SemS (X : Cx) (st : Stmt) (D : Ends) (σ : St) (H : Hp) : Prop where
  run : ∀ (pins : List (Addr × Obj)) (s : Shared), Inv X pins σ H s → wpAny (model X.prog X.w) X.A (exec st X.env) (SP X pins D) X.xe s
structure SemSs (X : Cx) (st : List Stmt) (D : Ends) (σ : St) (H : Hp) : Prop where
  run : ∀ (pins : List (Addr × Obj)) (s : Shared), Inv X pins σ H s → wpAny (model X.prog X.w) X.A (execs st X.env) (SP X pins D) X.xe s
section
variable {X : Cx}
theorem semE {e : Expr} : PE X e (SemE X e) := ⟨fun pins s _ _ _ I h => h.run pins s I⟩
theorem semT {e : Expr} : PT X e (SemT X e) := ⟨fun pins s _ _ _ I h => h.run pins s I⟩
theorem semA {es : List Expr} : PA X es (SemA X es) := ⟨fun pos pins s _ _ _ I h => h.run pos pins s I⟩
theorem semS {st : Stmt} : PS X st (SemS X st) := ⟨fun pins s _ _ _ I h => h.run pins s I⟩
theorem semSs {st : List Stmt} : PSs X st (SemSs X st) := ⟨fun pins s _ _ _ I h => h.run pins s I⟩
theorem of_pe {e : Expr} {t : TE} {σ : St} {H : Hp} {Q : VK} (h : PE X e t) (q : t σ H Q) : SemE X e σ H Q := ⟨fun pins s I => h.run pins s σ H Q I q⟩
theorem of_pt {e : Expr} {t : TT} {σ : St} {H : Hp} {Q : Bool → Hp → Prop} (h : PT X e t) (q : t σ H Q) : SemT X e σ H Q := ⟨fun pins s I => h.run pins s σ H Q I q⟩
theorem of_pa {es : List Expr} {t : TA} {σ : St} {H : Hp} {Q : List V → Hp → Prop} (h : PA X es t) (q : t σ H Q) : SemA X es σ H Q := ⟨fun pos pins s I => h.run pos pins s σ H Q I q⟩
theorem of_ps {st : Stmt} {t : TS} {σ : St} {H : Hp} {D : Ends} (h : PS X st t) (q : t D σ H) : SemS X st D σ H := ⟨fun pins s I => h.run pins s σ H D I q⟩
theorem of_pss {st : List Stmt} {t : TS} {σ : St} {H : Hp} {D : Ends} (h : PSs X st t) (q : t D σ H) : SemSs X st D σ H := ⟨fun pins s I => h.run pins s σ H D I q⟩
end
end Lp
set_option Elab.async false
set_option linter.all false
set_option maxRecDepth 100000
set_option maxHeartbeats 4000000
/-! Lp, part three: judgements on the text itself. JE: an expression gives data of which P holds. -/
namespace Lp
open PySem PySem.Spec L2
def JE {α : Type} [Enc α] (X : Cx) (p : OA) (e : Expr) (σ : St) (H : Hp) (P : α → Prop) : Prop :=
  ∀ H1, Go p H H1 → ∀ Q : VK, (∀ v H2 a, Go p H1 H2 → P a → Rep X.K (del p H2) v (enc a) → Q v H2) → SemE X e σ H1 Q
abbrev JV {α : Type} [Enc α] (X : Cx) (p : OA) (e : Expr) (σ : St) (H : Hp) (a : α) : Prop := JE X p e σ H (fun b : α => b = a)
def JT (X : Cx) (p : OA) (e : Expr) (σ : St) (H : Hp) (P : Bool → Prop) : Prop :=
  ∀ H1, Go p H H1 → ∀ Q : Bool → Hp → Prop, (∀ b H2, Go p H1 H2 → P b → Q b H2) → SemT X e σ H1 Q
abbrev JTV (X : Cx) (p : OA) (e : Expr) (σ : St) (H : Hp) (b : Bool) : Prop := JT X p e σ H (fun c => c = b)
def JA (X : Cx) (p : OA) (es : List Expr) (σ : St) (H : Hp) (P : List PyData → Prop) : Prop :=
  ∀ H1, Go p H H1 → ∀ Q : List V → Hp → Prop, (∀ vs H2 ds, Go p H1 H2 → P ds → Reps X.K (del p H2) vs ds → Q vs H2) → SemA X es σ H1 Q
section
variable {X : Cx} {p : OA} {σ : St} {H H' : Hp} {e a b c : Expr} {es : List Expr} {pos ps : Pos} {α β γ : Type} [Enc α] [Enc β] [Enc γ]
theorem JE.imp {P P' : α → Prop} (h : JE X p e σ H P) (i : ∀ a, P a → P' a) : JE X p e σ H P' := fun H1 g Q q => h H1 g Q fun v H2 a g2 pa r => q v H2 a g2 (i a pa) r
theorem JE.mono {P : α → Prop} (h : JE X p e σ H P) (g : Go p H H') : JE X p e σ H' P := fun H1 g1 Q q => h H1 (g.trans g1) Q q
theorem JT.imp {P P' : Bool → Prop} (h : JT X p e σ H P) (i : ∀ a, P a → P' a) : JT X p e σ H P' := fun H1 g Q q => h H1 g Q fun b H2 g2 pb => q b H2 g2 (i b pb)
theorem JT.mono {P : Bool → Prop} (h : JT X p e σ H P) (g : Go p H H') : JT X p e σ H' P := fun H1 g1 Q q => h H1 (g.trans g1) Q q
theorem JA.mono {P : List PyData → Prop} (h : JA X p es σ H P) (g : Go p H H') : JA X p es σ H' P := fun H1 g1 Q q => h H1 (g.trans g1) Q q
/-! ### names and constants -/
/-! ### ints -/
theorem rep_int {K : PySem.W.Frag} {J : Hp} {v : V} {i : Int} (h : Rep K J v (enc i)) : v = .int i := by cases h; rfl
theorem rep_bool {K : PySem.W.Frag} {J : Hp} {v : V} {i : Bool} (h : Rep K J v (enc i)) : v = .bl i := by cases h; rfl
theorem rep_str {K : PySem.W.Frag} {J : Hp} {v : V} {i : Str} (h : Rep K J v (enc i)) : v = .str i := by cases h; rfl
mutual
theorem Rep.dp {K : PySem.W.Frag} {J : Hp} : ∀ {d : PyData} {v : V}, Rep K J v d → d.canLay0 = true → Dp K J v d
  | .none, _, h, _ => by cases h; exact .non
  | .bool _, _, h, _ => by cases h; exact .bl _
  | .int _, _, h, _ => by cases h; exact .int _
  | .str _, _, h, _ => by cases h; exact .str _
  | .list ds, _, h, c => by
    cases h with
    | lst s r => exact .lst (.inl (.inl s)) (Reps.dp r (by simpa only [PyData.canLay0] using c))
  | .tuple ds, _, h, c => by
    cases h with
    | tup s r => exact .tup s (Reps.dp r (by simpa only [PyData.canLay0] using c))
  | .dict _, _, _, c => by simp only [PyData.canLay0] at c; cases c
theorem Reps.dp {K : PySem.W.Frag} {J : Hp} : ∀ {ds : List PyData} {vs : List V}, Reps K J vs ds → PyData.canLayAll0 ds = true → DpAll K J vs ds
  | [], _, h, _ => by cases h; exact .nil
  | d :: ds, _, h, c => by
    cases h with
    | cons a b =>
      simp only [PyData.canLayAll0, Bool.and_eq_true] at c
      exact .cons (Rep.dp a c.1) (Reps.dp b c.2)
end
theorem Rep.all {K : PySem.W.Frag} {J : Hp} {v : V} {d : PyData} (h : Rep K (del p J) v d) : Rep K J v d := h.mono fun _ _ e => del_of e
theorem Reps.all {K : PySem.W.Frag} {J : Hp} {v : List V} {d : List PyData} (h : Reps K (del p J) v d) : Reps K J v d := h.mono fun _ _ e => del_of e
/-! ### and, or, not; tests -/
theorem t_not {x : Bool} (h : JTV X p a σ H x) : JTV X p (.UnaryOp .Not a pos) σ H (!x) := fun H1 g Q q =>
  of_pt (pt_not semT) (h H1 g _ fun c H2 g2 e => by
    subst e
    exact q _ H2 g2 rfl)
/-! ### argument lists, displays -/
theorem a_nil : JA X p [] σ H (fun ds => ds = []) := fun H1 g Q q => of_pa pa_nil (q [] H1 [] (.refl g.dk) rfl .nil)
theorem a_cons {A : α → Prop} {B : List PyData → Prop} (ha : JE X p e σ H A) (hr : JA X p es σ H B) (hs : starEach (e :: es) X.env = (false, eval e X.env) :: starEach es X.env := by rfl) :
    JA X p (e :: es) σ H (fun ds => ∃ x r, A x ∧ B r ∧ ds = enc x :: r) := fun H1 g Q q =>
  of_pa (pa_cons semE semA hs) (ha H1 g _ fun v H2 x g2 px rx => hr H2 (g.trans g2) _ fun vs H3 r g3 pr rr => q _ H3 _ (g2.trans g3) ⟨x, r, px, pr, rfl⟩ (.cons (rx.go g3) rr))
theorem JA.imp {P P' : List PyData → Prop} (h : JA X p es σ H P) (i : ∀ ds, P ds → P' ds) : JA X p es σ H P' := fun H1 g Q q => h H1 g Q fun v H2 a g2 pa r => q v H2 a g2 (i a pa) r
/-! ### calls of built-ins -/
end
end Lp
set_option Elab.async false
set_option linter.all false
set_option maxRecDepth 100000
set_option maxHeartbeats 4000000
/-! Lp, part four: operators by data, repr, calls of one's own defs, statements, loops. -/
namespace Lp
open PySem PySem.Spec L2
section
variable {X : Cx} {p : OA} {σ : St} {H H' : Hp} {e a b c : Expr} {es : List Expr} {pos ps : Pos} {α β γ : Type} [Enc α] [Enc β] [Enc γ]
/-! ### operators -/
def OpD (X : Cx) (r : R2) (p : OA) (x : α) (y : β) (z : γ) : Prop := ∀ J v w, DOk p J → Rep X.K (del p J) v (enc x) → Rep X.K (del p J) w (enc y) → ∀ Q : VK, (∀ u J2, Go p J J2 → Rep X.K (del p J2) u (enc z) → Q u J2) → r v w J Q
theorem t_cmp {op : CmpOp} {r : R2} {x : α} {y : β} {z : Bool} (ho : OpR X (compareOp op) r) (ha : JV X p a σ H x) (hb : JV X p b σ H y) (d : OpD X r p x y z) (hm : behindInMarks op b = false := by first | exact nomark _ | rfl) : JTV X p (.Compare a [op] [b] pos) σ H z := fun H1 g Q q =>
  of_pt (pt_cmpR ho semE semE hm) (ha H1 g _ fun v H2 i g2 pi rx => hb H2 (g.trans g2) _ fun w H3 j g3 pj ry => by
    subst pi pj
    exact d H3 v w g3.dk (rx.go g3) ry _ fun u J2 g4 ru => ⟨z, rep_bool ru, q z J2 ((g2.trans g3).trans g4) rfl⟩)
/-! ### repr -/
/-! ### more built-ins of ints and texts -/
/-! ### subscripts -/
end
end Lp
set_option Elab.async false
set_option linter.all false
set_option maxRecDepth 100000
set_option maxHeartbeats 4000000
/-! Lp, part five: one's own defs, statements, loops. -/
namespace Lp
open PySem PySem.Spec L2
/-! ### promises of one's own defs -/
section
variable {P : Program} {w : World} {K : PySem.W.Frag} {mg : Str → Option Value} {base : Heap} {β : Type} [Enc β] {Pre : List PyData → Prop} {R : List PyData → β → Prop}
abbrev XX (P : Program) (w : World) (K : PySem.W.Frag) (mg : Str → Option Value) (base : Heap) (N : List Str) (qual : Str) (st : Stmt) (f : Addr) (cdv : Value) (B : Around) (fr : List Env) (s : Shared) (J : Hp) (Z : XK) : Cx :=
  (cxOf CX0 P w K mg base N qual (defScope st) f cdv B fr s J Z).nox
end
section
variable {X : Cx} {p : OA} {σ : St} {H H' : Hp} {e a b c : Expr} {es : List Expr} {pos ps : Pos} {α β γ : Type} [Enc α] [Enc β] [Enc γ] {D : Ends}
/-! ### statements -/
theorem s_set {P : α → Prop} {x : Str} {px : Pos} (i : Nat) (dk : DOk p H) (h : JE X p e σ H P) (nd : X.N.Nodup) (k : ∀ v H1 u, Go p H H1 → P u → Rep X.K (del p H1) v (enc u) → D.nx (σ.set i (some v)) H1) (hi : X.N[i]? = some x := by rfl)
    (hx : Loc X.env.scope x := by exact Or.inl rfl) (hs : swapsWith e (some (.Name x px)) pos.line X.env = pure false := by rfl) (hf : X.fn x = true ∨ X.env.scope.names.lookup x = some .local := by first | exact .inl rfl | exact .inr rfl) : SemS X (.Assign [.Name x px] e pos) D σ H :=
  of_ps (ps_set (i := i) nd hi hx semE hs hf) (h H (.refl dk) _ fun v H1 u g pu r => k v H1 u g pu r)
theorem s_ret {P : α → Prop} (dk : DOk p H) (h : JE X p e σ H P) (k : ∀ v H1 u, Go p H H1 → P u → Rep X.K (del p H1) v (enc u) → D.rt v H1) : SemS X (.Return (some e) pos) D σ H := of_ps (ps_ret semE) (h H (.refl dk) _ k)
theorem s_if {P : Bool → Prop} {th el : List Stmt} (dk : DOk p H) (h : JT X p c σ H P) (h1 : ∀ H1, Go p H H1 → P true → SemSs X th D σ H1) (h2 : ∀ H1, Go p H H1 → P false → SemSs X el D σ H1) : SemS X (.If c th el pos) D σ H :=
  of_ps (ps_if semT semSs semSs) (h H (.refl dk) _ fun u H1 g pu => by
    cases u with
    | true => exact iteT (h1 H1 g pu)
    | false => exact iteF (h2 H1 g pu))
end
end Lp
set_option Elab.async false
set_option linter.all false
set_option maxRecDepth 100000
set_option maxHeartbeats 4000000
/-! Lp, part six: where only bounds are known; the dice's cells. -/
namespace Lp
open PySem PySem.Spec L2
end Lp
set_option Elab.async false
set_option linter.all false
set_option maxRecDepth 100000
set_option maxHeartbeats 4000000
/-! Lp, part seven: comprehensions, zip, isinstance, more of texts. -/
namespace Lp
open PySem PySem.Spec L2
section
variable {X : Cx} {p : OA} {σ : St} {H H' : Hp} {e a b c : Expr} {es : List Expr} {pos ps : Pos} {α β γ : Type} [Enc α] [Enc β] [Enc γ] {D : Ends}
/-! ### tests joined by and, or -/
theorem t_or {x y : Bool} (ha : JTV X p a σ H x) (hb : x = false → JTV X p b σ H y) : JTV X p (.BoolOp .Or [a, b] pos) σ H (x || y) := fun H1 g Q q =>
  of_pt (PW.pt (pw_or semT (pw_or1 semT))) (ha H1 g _ fun u H2 g2 e => by
    subst e
    cases u with
    | false => exact iteF (hb rfl H2 (g.trans g2) Q fun v H3 g3 e => q v H3 (g2.trans g3) e)
    | true => exact iteT (q _ H2 g2 rfl))
/-! ### isinstance -/
def tyN : PyData → String
  | .none => "NoneType"
  | .bool _ => "bool"
  | .int _ => "int"
  | .str _ => "str"
  | .list _ => "list"
  | .tuple _ => "tuple"
  | .dict _ => "dict"
theorem rep_ty {K : PySem.W.Frag} {J : Hp} {v : V} {d : PyData} (h : Rep K J v d) : TyX K J v (.type (tyN d)) := by
  cases h with
  | non => exact .base .non
  | bl b => exact .base (.bl b)
  | int i => exact .base (.int i)
  | str x => exact .base (.str x)
  | lst s r => exact .base (.lst s)
  | tup s r =>
    rcases s with (s | ⟨o, s⟩) | ⟨o, its, n, hk, hc, _⟩
    · exact .base (.tup s)
    · exact .fTuple s
    · exact .kTuple hk hc
  | dic s r => exact .base (.dK s)
/-! ### texts -/
/-! ### xs[::-1], zip -/
end
/-! ### comprehensions -/
def SemEB (X : Cx) (sc : Scope) (e : Expr) : TE := fun σ H Q => ∀ (s : Shared) (J : Hp) (C : Addr) (cl : List (Str × Addr)) (fp : List Addr), SemE (X.blk s J sc (compEnvC sc cl C X.env) fp) e σ H Q
def SemTB (X : Cx) (sc : Scope) (e : Expr) : TT := fun σ H Q => ∀ (s : Shared) (J : Hp) (C : Addr) (cl : List (Str × Addr)) (fp : List Addr), SemT (X.blk s J sc (compEnvC sc cl C X.env) fp) e σ H Q
def JEB {α : Type} [Enc α] (X : Cx) (sc : Scope) (p : OA) (e : Expr) (σ : St) (H : Hp) (P : α → Prop) : Prop := ∀ (s : Shared) (J : Hp) (C : Addr) (cl : List (Str × Addr)) (fp : List Addr), JE (X.blk s J sc (compEnvC sc cl C X.env) fp) p e σ H P
def JTB (X : Cx) (sc : Scope) (p : OA) (e : Expr) (σ : St) (H : Hp) (P : Bool → Prop) : Prop := ∀ (s : Shared) (J : Hp) (C : Addr) (cl : List (Str × Addr)) (fp : List Addr), JT (X.blk s J sc (compEnvC sc cl C X.env) fp) p e σ H P
section
variable {X : Cx} {p : OA} {σ : St} {H H' : Hp} {it elt c : Expr} {pos : Pos} {D : Ends}
theorem wipe1 {σ : St} {i : Nat} {v : Option V} : wipe (σ.set i v) [i] = wipe σ [i] := by
  show (wipe (σ.set i v) []).set i none = (wipe σ []).set i none
  show (σ.set i v).set i none = σ.set i none
  exact List.set_set ..
/-- from H, where q is not, to J, where it is -/
structure Gq (p : OA) (q : Addr) (H J : Hp) : Prop where
  no : H q = none
  go : Go p H J
  yes : J q ≠ none
theorem Gq.dk {q : Addr} {H J : Hp} (g : Gq p q H J) : DOk (p.add q) J := (g.go.sup g.yes).dk
theorem Rep.gq {K : PySem.W.Frag} {q : Addr} {H J : Hp} {v : V} {d : PyData} (h : Rep K (del p H) v d) (g : Gq p q H J) : Rep K (del (p.add q) J) v d := (h.add g.no).mono (Go.exd (p := p.add q) (g.go.sup g.yes))
theorem Reps.gq {K : PySem.W.Frag} {q : Addr} {H J : Hp} {v : List V} {d : List PyData} (h : Reps K (del p H) v d) (g : Gq p q H J) : Reps K (del (p.add q) J) v d := (h.add g.no).mono (Go.exd (p := p.add q) (g.go.sup g.yes))
/-- the reading of a comprehension over a list, with one test; f, g: the test's and the element's function -/
theorem lc_read {σ : St} {H : Hp} {i : Nat} {tt : TT} {te : TE} {P : List PyData → Prop} {f : PyData → Bool} {g : PyData → PyData} {K : PySem.W.Frag} {tl : TE}
    (hl : ∀ H1, Go p H H1 → ∀ Q : VK, (∀ v H2 d, Go p H1 H2 → (∃ ds, P ds ∧ d = PyData.list ds) → Rep K (del p H2) v d → Q v H2) → tl σ H1 Q) (hz : ∀ ds, P ds → ds.length ≤ sizeLine)
    (ht : ∀ ds d v J q, P ds → d ∈ ds → Gq p q H J → Rep K (del (p.add q) J) v d → ∀ Q : Bool → Hp → Prop, (∀ H2, Go (p.add q) J H2 → Q (f d) H2) → tt (σ.set i (some v)) J Q)
    (he : ∀ ds d v J q, P ds → d ∈ ds → f d = true → Gq p q H J → Rep K (del (p.add q) J) v d → ∀ Q : VK, (∀ v H2, Go (p.add q) J H2 → Rep K (del (p.add q) H2) v (g d) → Q v H2) → te (σ.set i (some v)) J Q) :
    ∀ H1, Go p H H1 → ∀ Q : VK, (∀ v H2 d, Go p H1 H2 → (∃ ds, P ds ∧ d = PyData.list ((ds.filter f).map g)) → Rep K (del p H2) v d → Q v H2) → tLc (iList K tl) (gName i) tt te [i] σ H1 Q := by
  intro H1 g1 Q q
  refine hl H1 g1 _ fun v H2 d g2 ⟨ds, pd, ed⟩ r => ?_
  subst ed
  cases r with
  | lst s rr =>
    have len := rr.len
    refine ⟨_, rfl, ⟨_, ls_q s⟩, fun Dn hD => ?_⟩
    have nD := g2.dk.ne hD
    have nDd : p.d ≠ some Dn := fun z => nD (.inl z)
    have fH : H Dn = none := (g1.trans g2).free hD
    have rr' := rr.add hD
    refine lc_list (fun k J => ∃ acc, J Dn = some (.lst acc) ∧ Reps K (del (p.add Dn) J) acc (((ds.take k).filter f).map g) ∧ Go p H2 J) ⟨[], upd_same, .nil, .new g2.dk hD⟩ (fun k J _ ⟨acc, e1, e2, e3⟩ => ls_q (e3.exd _ _ s)) (fun k x J ex ⟨acc, e1, e2, e3⟩ => ?_) fun J ⟨acc, e1, e2, e3⟩ => ?_
    · have gs : Gq p Dn H J := ⟨fH, (g1.trans g2).trans e3, by rw [e1]; exact Option.some_ne_none _⟩
      obtain ⟨d, ed, rd⟩ := (rr.gq ⟨hD, e3, gs.yes⟩).get ex
      have md : d ∈ ds := List.mem_of_getElem? ed
      have tk : ds.take (k + 1) = ds.take k ++ [d] := by rw [List.take_add_one, ed]; rfl
      show wipe ((wipe σ [i]).set i (some x)) [i] = wipe σ [i] ∧ _
      have es : (wipe σ [i]).set i (some x) = σ.set i (some x) := by
        show ((wipe σ []).set i none).set i (some x) = σ.set i (some x)
        exact List.set_set ..
      rw [es]
      refine ⟨wipe1, ht ds d x J Dn pd md gs rd _ fun J1 gt => ?_⟩
      have gs1 : Gq p Dn H J1 := ⟨fH, gs.go.trans gt.sub, fun z => gt.dk.lv Dn List.mem_cons_self z⟩
      cases hf : f d with
      | true =>
        refine iteT (he ds d x J1 Dn pd md hf gs1 (rd.go gt) _ fun y J2 ge ry => ?_)
        have gg := gt.trans ge
        have eD : J2 Dn = some (.lst acc) := gg.ex Dn _ nDd e1
        have gu : Go p H2 (upd J2 Dn (.lst (acc ++ [y]))) := Go.put g2.dk (e3.trans gg.sub) hD
        refine ⟨acc, eD, ?_, acc ++ [y], upd_same, ?_, gu⟩
        · have h1 := e2.len
          rw [List.length_map] at h1
          have h2 := List.length_filter_le f (ds.take k)
          have h4 : k < ds.length := (List.getElem?_eq_some_iff.mp ed).1
          have h5 := hz ds pd
          have h6 : (ds.take k).length ≤ k := List.length_take_le ..
          omega
        · rw [tk, List.filter_append, List.map_append]
          have : List.filter f [d] = [d] := by rw [List.filter_cons, hf]; rfl
          rw [this]
          exact Reps.mono del_put ((e2.go gg).app (.cons ry .nil))
      | false =>
        refine iteF ⟨acc, gt.ex Dn _ nDd e1, ?_, e3.trans gt.sub⟩
        rw [tk, List.filter_append]
        have : List.filter f [d] = [] := by rw [List.filter_cons, hf]; rfl
        rw [this, List.append_nil]
        exact e2.go gt
    · rw [len, List.take_length] at e2
      exact q _ J _ (g2.trans e3) ⟨ds, pd, rfl⟩ (.lst (by rw [del_at nD]; exact e1) e2.sub)
/-- name = [elt for x in it if c] -/
theorem s_setLc {x y : Str} {px py spos : Pos} {sc : Scope} {P : List PyData → Prop} {f : PyData → Bool} {g : PyData → PyData} (i j : Nat) (dk : DOk p H) (hc : X.calm = true) (nd : X.N.Nodup) (hl : JE X p it σ H (fun d : PyData => ∃ ds, P ds ∧ d = .list ds)) (hz : ∀ ds, P ds → ds.length ≤ sizeLine)
    (ok : BlkOk X.N X.env.scope sc [(x, i)])
    (ht : ∀ ds d v J q, P ds → d ∈ ds → Gq p q H J → Rep X.K (del (p.add q) J) v d → JTB X sc (p.add q) c (σ.set i (some v)) J (fun r => r = f d))
    (he : ∀ ds d v J q, P ds → d ∈ ds → f d = true → Gq p q H J → Rep X.K (del (p.add q) J) v d → JEB X sc (p.add q) elt (σ.set i (some v)) J (fun r : PyData => r = g d))
    (k : ∀ v H1 ds, Go p H H1 → P ds → Rep X.K (del p H1) v (.list ((ds.filter f).map g)) → D.nx (σ.set j (some v)) H1)
    (hsw : swapsWith (.ListComp elt [⟨.Name x px, it, [c], 0⟩] sc pos) (some (.Name y py)) spos.line X.env = pure true)
    (hi : X.N[i]? = some x := by rfl) (hj : X.N[j]? = some y := by rfl) (hyl : X.env.scope.names.lookup y = some .local := by rfl) (hx : sc.names.lookup x = some .local := by rfl)
    (hs : ∀ y, foldedSetIterable it X.env y = pure y := by intro _; rfl) :
    SemS X (.Assign [.Name y py] (.ListComp elt [⟨.Name x px, it, [c], 0⟩] sc pos) spos) D σ H :=
  of_ps (ps_setLc (i := j) (own := [(x, i)]) (g := gName i) (tt := SemTB X sc c) (te := SemEB X sc elt) hc nd hj hyl hsw (pi_list semE) ok
      (fun s J C cl fp => pg_name nd hi (show L2.Loc (compEnvC sc cl C X.env).scope x from .inl (lookup_relabel_local hx)) (.inr (show (compEnvC sc cl C X.env).scope.names.lookup x = some .local from lookup_relabel_local hx)))
      (fun s J C cl fp => pts_one ⟨fun pins st _ _ _ I h => (h s J C cl fp).run pins st I⟩) (fun s J C cl fp => ⟨fun pins st _ _ _ I h => (h s J C cl fp).run pins st I⟩) hs)
    (lc_read (K := X.K) (f := f) (g := g) hl hz (fun ds d v J q pd md gs r Q k s J' C cl fp => ht ds d v J q pd md gs r s J' C cl fp J (.refl gs.dk) Q fun b H2 g2 eb => by subst eb; exact k H2 g2)
      (fun ds d v J q pd md hf gs r Q k s J' C cl fp => he ds d v J q pd md hf gs r s J' C cl fp J (.refl gs.dk) Q fun v H2 a g2 ea rv => by subst ea; exact k v H2 g2 rv) H (.refl dk) _
      fun v H2 d g2 ⟨ds, pd, ed⟩ r => by
        subst ed
        exact k v H2 ds g2 pd r)
end
end Lp
set_option Elab.async false
set_option linter.all false
set_option maxRecDepth 100000
set_option maxHeartbeats 1000000
/-! Lp, part eight: set(a list of texts), sorted of it. -/
namespace Lp
open PySem PySem.Spec PySem.Calls PyProof.Rows L2
/-! ### what a set of texts is -/
def txOf (e : Int × Value) : Str := match e.2 with
  | .str x _ => x
  | _ => Str.empty
def TxE (w : World) (e : Int × Value) : Prop := ∃ x u, e.2 = Value.str x u ∧ e.1 = hashStr w x
/-- at a: the set of the texts of zs, which are different -/
structure TxSet (w : World) (h : Heap) (a : Addr) (zs : List Str) (o : Obj) (es : Array (Int × Value)) (ep : Nat) (t : SetTable) : Prop where
  at_ : h.get? a = some o
  ex : o.ExactSet
  da : o.data = .set es ep t
  el : ∀ e ∈ es.toList, TxE w e
  pm : (es.toList.map txOf).Perm zs
  nd : zs.Nodup
  sm : es.size < scanBound
  fi : t.fits es.size = true
  ri : Ris t.place.toList
  le : w.params.followText "set-order" = true ∨ t.led = true
def TxAt (w : World) (h : Heap) (a : Addr) (zs : List Str) : Prop := ∃ o es ep t, TxSet w h a zs o es ep t
section
variable {P : Program} {w : World} {A : Around} {E : Value → Shared → Prop} {s : Shared} {a : Addr} {zs : List Str}
theorem TxAt.keep {h h1 : Heap} (T : TxAt w h a zs) (k : ∀ o, h.get? a = some o → h1.get? a = some o) : TxAt w h1 a zs := by
  obtain ⟨o, es, ep, t, T⟩ := T
  exact ⟨o, es, ep, t, { T with at_ := k o T.at_ }⟩
theorem tx_elems {l : List (Int × Value)} (g : ∀ e ∈ l, TxE w e) : ElemsOf (strKind P w) l := fun e m => by
  obtain ⟨x, u, e1, e2⟩ := g e m
  refine ⟨⟨x, ?_, e2⟩, by rw [e1] <;> rfl⟩
  rw [e1]
  exact (show Value.isStrOf x (.str x u) = true by simp [Value.isStrOf])
theorem tx_is {e : Int × Value} (g : TxE w e) (k : Str) : (strKind P w).is k e.2 = true ↔ txOf e = k := by
  obtain ⟨x, u, e1, _⟩ := g
  unfold txOf
  rw [e1]
  show Value.isStrOf k (.str x u) = true ↔ x = k
  simp [Value.isStrOf]
theorem TxSet.size {o : Obj} {es : Array (Int × Value)} {ep : Nat} {t : SetTable} (T : TxSet w s.heap a zs o es ep t) : es.size = zs.length := by
  have := T.pm.length_eq
  rw [List.length_map, Array.length_toList] at this
  exact this
/-- the set's table is laid, and laid anew where it is too full -/
theorem tx_tail {gv : Bool → Sem Unit} (hgv : ∀ (b : Bool) (s1 : Shared) (R : Unit → Shared → Prop), R () s1 → wpAny (model P w) A (gv b) R E s1) {o : Obj} {es es1 : Array (Int × Value)} {ep : Nat} {t t1 : SetTable}
    (ho : s.heap.get? a = some o) (hx : o.ExactSet) (hd : o.data = .set es ep t) (g : ∀ e ∈ es1.toList, TxE w e) (pm : (es1.toList.map txOf).Perm zs) (nd : zs.Nodup) (sm : es1.size < scanBound)
    (fi : t1.fits es1.size = true) (ri : Ris t1.place.toList) (le : w.params.followText "set-order" = true ∨ t1.led = true) {dum : Bool} {R : Option Bool → Shared → Prop}
    (q : ∀ h1, Heap.SameBut a s.heap h1 → TxAt w h1 a zs → R (some true) { s with heap := h1 }) :
    wpAny (model P w) A (do
      storeSet a es1 t1
      if (!dum && t1.tooFull) = true then do
        gv (relayAll t1 es1 (SetTable.grown es1.size)).2.2
        storeSet a (relayAll t1 es1 (SetTable.grown es1.size)).1 (relayAll t1 es1 (SetTable.grown es1.size)).2.1
        pure (some true)
      else pure (some true)) R E s := by
  apply wpAny_bind
  refine wpAny_storeSet_of (hz := fits_of_scanBound sm) ho hd ?_
  have at1 := store_at (es' := es1) (t' := t1) ho hd
  have but1 := Heap.SameBut.update s.heap a (Obj.putSet es1 t1)
  by_cases c : (!dum && t1.tooFull) = true
  · rw [if_pos c]
    have p2 := relayAll_perm t1 es1 (SetTable.grown es1.size)
    have f2 := relayAll_fits t1 es1 (SetTable.grown es1.size)
    have r2 := relayAll_ris t1 es1 (SetTable.grown es1.size)
    have l2 := relayAll_led t1 es1 (SetTable.grown es1.size)
    generalize relayAll t1 es1 (SetTable.grown es1.size) = N at p2 f2 r2 l2 ⊢
    have z2 : N.1.size = es1.size := by rw [← Array.length_toList, p2.length_eq, Array.length_toList]
    have sm2 : N.1.size < scanBound := by omega
    apply wpAny_bind
    apply hgv
    apply wpAny_bind
    refine wpAny_storeSet_of (hz := fits_of_scanBound sm2) at1 rfl ?_
    have at2 := store_at (es' := N.1) (t' := N.2.1) at1 rfl
    apply wpAny_pure
    refine q _ (but1.trans (Heap.SameBut.update _ a _)) ⟨_, N.1, _, N.2.1, at2, hx, rfl, fun e m => g e (p2.mem_iff.mp m), (p2.map txOf).trans pm, nd, sm2, f2, r2, ?_⟩
    rcases le with le | le
    · exact .inl le
    · exact .inr (by rw [l2]; exact le)
  · rw [if_neg c]
    exact wpAny_pure (q _ but1 ⟨_, es1, _, t1, at1, hx, rfl, g, pm, nd, sm, fi, ri, le⟩)
/-- one more text -/
theorem tx_add {k : Str} {u : Tok} {Q : Bool → Shared → Prop} (T : TxAt w s.heap a zs) (room : zs.length + 1 < scanBound)
    (q : ∀ b h1 ys, Heap.SameBut a s.heap h1 → TxAt w h1 a ys → (∀ x, x ∈ ys ↔ x ∈ zs ∨ x = k) → ys.length ≤ zs.length + 1 → Q b { s with heap := h1 }) :
    wpAny (model P w) A (setAddHashed a (.str k u) ((strKind P w).hash k)) Q E s := by
  obtain ⟨o, es, ep, t, T⟩ := T
  have zsz := T.size
  have key : (strKind P w).is k (.str k u) = true := (show Value.isStrOf k (.str k u) = true by simp [Value.isStrOf])
  have elm : ElemsOf (strKind P w) es.toList := tx_elems T.el
  have inz : ∀ x, x ∈ zs ↔ ∃ e ∈ es.toList, (strKind P w).is x e.2 = true := fun x => by
    rw [← T.pm.mem_iff, List.mem_map]
    exact ⟨fun ⟨e, m, z⟩ => ⟨e, m, (tx_is (T.el e m) x).mpr z⟩, fun ⟨e, m, z⟩ => ⟨e, m, (tx_is (T.el e m) x).mp z⟩⟩
  unfold setAddHashed setAddHashedIn
  apply wpAny_holding
  apply wpAny_bind
  apply wpAny_setState_of T.at_ T.da T.fi
  dsimp only
  rw [byScan_of (x := Value.str k u) rfl T.sm elm]
  simp only [↓reduceIte]
  unfold setAddByScan
  apply wpAny_bind
  apply wpAny_bind
  apply wpAny_rule
  apply wpAny_bind
  refine wpAny_setScan_of key T.at_ T.da T.fi elm ?_
  cases found : List.findIdx? (fun e => (strKind P w).is k e.2) es.toList with
  | some j =>
    obtain ⟨hj, pj, _⟩ := List.findIdx?_eq_some_iff_getElem.mp found
    have kz : k ∈ zs := (inz k).mpr ⟨es.toList[j], List.getElem_mem hj, pj⟩
    dsimp only
    apply wpAny_pure
    apply wpAny_pure
    exact q _ s.heap zs (Heap.SameBut.refl a s.heap) ⟨o, es, ep, t, T⟩ (fun x => ⟨.inl, fun z => z.elim id fun e => e ▸ kz⟩) (Nat.le_succ _)
  | none =>
    have kz : k ∉ zs := fun m => by
      obtain ⟨e, he, z⟩ := (inz k).mp m
      have := List.findIdx?_eq_none_iff.mp found e he
      rw [z] at this
      cases this
    have way : ∀ (b : Bool) {s1 : Shared} {R : Unit → Shared → Prop}, R () s1 → wpAny (model P w) A (match b with
        | true => rule "set.scan.the-table-gave-way"
        | false => pure ()) R E s1 := fun b _ _ z => by
      cases b
      · exact wpAny_pure z
      · exact wpAny_rule z
    dsimp only
    have p1 := layNew_perm t es ((strKind P w).hash k) (.str k u)
    have f1 := layNew_fits t es ((strKind P w).hash k) (.str k u)
    have r1 := layNew_ris t es ((strKind P w).hash k) (.str k u) T.ri
    have l1 := layNew_led t es ((strKind P w).hash k) (.str k u)
    generalize layNew t es ((strKind P w).hash k) (.str k u) = N at p1 f1 r1 l1 ⊢
    obtain ⟨es1, t1, dum, gave⟩ := N
    dsimp only at p1 f1 r1 l1 ⊢
    rw [Array.toList_push] at p1
    have p2 : es1.toList.Perm (((strKind P w).hash k, Value.str k u) :: es.toList) := p1.trans (List.perm_append_singleton _ _)
    have pm : (es1.toList.map txOf).Perm (k :: zs) := (p2.map txOf).trans (T.pm.cons k)
    have nd : (k :: zs).Nodup := List.nodup_cons.mpr ⟨kz, T.nd⟩
    have g : ∀ e ∈ es1.toList, TxE w e := fun e m => (List.mem_cons.mp (p2.mem_iff.mp m)).elim (fun z => by rw [z]; exact ⟨k, u, rfl, rfl⟩) (T.el e)
    have z1 : es1.size = zs.length + 1 := by rw [← Array.length_toList, p2.length_eq, List.length_cons, Array.length_toList, zsz]
    have sm : es1.size < scanBound := by omega
    have le : w.params.followText "set-order" = true ∨ t1.led = true := T.le.elim .inl fun z => .inr (by rw [l1]; exact z)
    have fin : ∀ b h1, Heap.SameBut a s.heap h1 → TxAt w h1 a (k :: zs) → Q b { s with heap := h1 } := fun b h1 sb T1 =>
      q b h1 (k :: zs) sb T1 (fun x => List.mem_cons.trans Or.comm) (Nat.le_refl _)
    apply wpAny_bind
    apply way
    by_cases c : t1.plain = true
    · rw [if_pos c]
      apply wpAny_bind
      rw [hashByValue_scannable 8 (x := Value.str k u) rfl]
      apply wpAny_pure
      have fi : (if t1.plain = true then { t1 with plain := false } else t1).fits es1.size = true := by
        rw [if_pos c]
        exact SetTable.fits_plain_off f1
      have ri : Ris (if t1.plain = true then { t1 with plain := false } else t1).place.toList := by
        rw [if_pos c]
        exact r1
      have le2 : w.params.followText "set-order" = true ∨ (if t1.plain = true then { t1 with plain := false } else t1).led = true := by
        rw [if_pos c]
        exact le
      rw [if_pos c] at fi ri le2
      refine tx_tail (fun b s1 R z => ?_) T.at_ T.ex T.da g pm nd sm fi ri le2 fun h1 sb T1 => ?_
      · cases b
        · exact wpAny_pure z
        · exact wpAny_rule z
      · dsimp only
        exact wpAny_pure (fin _ h1 sb T1)
    · rw [if_neg c]
      apply wpAny_bind
      apply wpAny_pure
      simp only [↓reduceIte]
      refine tx_tail (fun b s1 R z => ?_) T.at_ T.ex T.da g pm nd sm f1 r1 le fun h1 sb T1 => ?_
      · cases b
        · exact wpAny_pure z
        · exact wpAny_rule z
      · dsimp only
        exact wpAny_pure (fin _ h1 sb T1)
/-- the loop of set(..) over any walk that gives texts -/
theorem tx_loop {I : Addr} {fp wr : List Addr} {G : Array GenState → Array GenState → Prop} {n : Nat} {Pv : Nat → Value → Prop} {St : Nat → Shared → Prop} {R : Result → Shared → Prop}
    (W : WalksS P w A.in1 I fp wr G n Pv St) (S : Addr) (out : S ∉ fp) (xs : List Str) (len : n = xs.length) (sm : xs.length + 1 < scanBound) (val : ∀ i v, Pv i v → ∃ x u, xs[i]? = some x ∧ v = .str x u) :
    ∀ (k i : Nat) (s : Shared), n - i = k → i ≤ n → St i s → (∃ ys, TxAt w s.heap S ys ∧ (∀ x, x ∈ ys ↔ x ∈ xs.take i) ∧ ys.length ≤ i) →
      (∀ s2 ys, Moved (S :: wr) G s s2 → TxAt w s2.heap S ys → (∀ x, x ∈ ys ↔ x ∈ xs) → R (.ok (.ret .none)) s2) →
      codeAny (model P w) A (.builtin "set.update.loop" ⟨[.ref S, .ref I], []⟩) R s := by
  have outw : S ∉ wr := fun z => out (W.sub _ z)
  have wide : ∀ b ∈ wr, b ∈ S :: wr := fun _ => List.mem_cons_of_mem _
  intro k
  induction k with
  | zero =>
    rintro i s hk hi st ⟨ys, T, mem, _⟩ q
    obtain rfl : i = n := by omega
    refine codeAny_builtin F.entry_set_update_loop ?_
    rw [Around.under_plainId F.plain_set_update_loop _]
    apply wpAny_bind
    refine W.done s _ _ st fun s2 mv => ?_
    apply wpAny_pure
    refine q s2 ys (mv.mono wide) (T.keep fun o e => mv.heap S o outw e) fun x => ?_
    rw [mem x, List.take_of_length_le (by omega)]
  | succ k ih =>
    rintro i s hk hi st ⟨ys, T, mem, le⟩ q
    have lt : i < n := by omega
    refine codeAny_builtin F.entry_set_update_loop ?_
    rw [Around.under_plainId F.plain_set_update_loop _]
    apply wpAny_bind
    refine W.item i s _ _ lt st fun v s2 pv st2 mv => ?_
    obtain ⟨x, u, ex, rfl⟩ := val i v pv
    have T2 : TxAt w s2.heap S ys := T.keep fun o e => mv.heap S o outw e
    dsimp only
    apply wpAny_bind
    apply wpAny_holding
    unfold setAdd
    apply wpAny_holding
    apply wpAny_bind
    refine (strKind P w).pyHash (k := x) (show Value.isStrOf x (.str x u) = true by simp [Value.isStrOf]) ?_
    refine tx_add (s := { s2 with toks := s2.toks + 1 }) T2 (by omega) fun b h1 zs sb T3 mem3 le3 => ?_
    have mem4 : ∀ y, y ∈ zs ↔ y ∈ xs.take (i + 1) := fun y => by
      rw [mem3 y, mem y, List.take_add_one, ex]
      simp [List.mem_append]
    apply wpAny_pure
    refine ⟨plainId_quiet F.plain_set_update_loop _, ih (i + 1) _ (by omega) lt (W.frame _ s2 _ _ st2 (Nat.le_succ _) fun c hc o e => ?_) ⟨zs, T3, mem4, by omega⟩ fun s3 ys3 mv3 T4 mem5 => ?_⟩
    · have nc : c ≠ S := fun z => out (z ▸ hc)
      rw [sb.2 c nc]
      exact e
    · refine q s3 ys3 (Moved.trans W.gtrans ((mv.mono wide).then_heap (Nat.le_succ _) fun c o hc e => ?_) mv3) T4 mem5
      have nc : c ≠ S := fun z => hc (z ▸ List.mem_cons_self)
      rw [sb.2 c nc]
      exact e
/-- a set as it is made -/
abbrev newSet (w : World) : Obj := { cls := .type "set", dict := none, data := .set #[] 0 (.fresh 0 0 (!w.params.followText "set-order")) }
theorem tx_new {h : Heap} (e : h.get? a = some (newSet w)) : TxAt w h a [] := by
  refine ⟨_, #[], 0, .fresh 0 0 (!w.params.followText "set-order"), e, ⟨rfl, rfl, rfl⟩, rfl, fun e m => ?_, List.Perm.refl _, List.nodup_nil, by decide, by rfl, List.Pairwise.nil, ?_⟩
  · simp at m
  · show w.params.followText "set-order" = true ∨ (!w.params.followText "set-order") = true
    cases w.params.followText "set-order"
    · exact .inr rfl
    · exact .inl rfl
theorem sa_at : ∀ {us : List Value} {xs : List Str} {i : Nat} {v : Value}, StrsAre us xs → us[i]? = some v → ∃ x u, xs[i]? = some x ∧ v = .str x u
  | _, _, _, _, .nil, h => by simp at h
  | _, _, 0, _, .cons y t r, h => ⟨y, t, rfl, (Option.some.inj h).symm⟩
  | _, _, i + 1, _, .cons y t r, h => sa_at (i := i) r h
set_option maxHeartbeats 4000000 in
/-- set(xs), xs a list of texts -/
theorem call_set_tx {l : Addr} {items : Array Value} {xs : List Str} {Q : Value → Shared → Prop} (hh : A.handled = none) (hl : s.heap.IsList l items) (hi : StrsAre items.toList xs) (sm : xs.length + 1 < scanBound)
    (q : ∀ h1 tk ys, TxAt w h1 s.heap.objs.size ys → (∀ x, x ∈ ys ↔ x ∈ xs) → (∀ b o, s.heap.get? b = some o → h1.get? b = some o) → Q (.ref s.heap.objs.size) { s with heap := h1, toks := tk }) :
    wpAny (model P w) A (call (.type "set") [.ref l]) Q E s := by
  have isz : items.size = xs.length := by
    have := hi.length
    rw [Array.length_toList] at this
    exact this
  have hmade := F.called_set.made
  have hsub := F.called_set.sub
  have h1 := F.called_set.notType
  have h2 := F.called_set.canCreate
  have hct := F.typeCall_set_1 (.ref l)
  obtain ⟨c, tl, hmro⟩ := F.called_set.mro
  apply wpAny_call
  apply codeAny_of_tree
  show wpAny _ _ (callAny (.type "set") _) _ _ _
  apply wpAny_pure
  refine ⟨Code.quiet_builtin _ (by decide +kernel), codeAny_builtin F.entry_type_call ?_⟩
  rw [Around.under_plain (weight_type_call_type "set" [.ref l] []) rfl]
  repeat (any_goals (first | assumption | wp_step))
  refine codeAny_mono (code_set_led1 (.ref l) (E := E) (Q₁ := fun ob s1 => ob = .ref s.heap.objs.size ∧ s1 = { s with heap := s.heap.push (newSet w) }) ⟨rfl, rfl⟩) fun r s1 hr => ?_
  match r, hr with
  | .error e, hr => exact hr
  | .ok (.ret ob), ⟨e1, e2⟩ =>
    subst e1 e2
    have gS : (s.heap.push (newSet w)).get? s.heap.objs.size = some (newSet w) := Heap.get?_push_size _ rfl
    have hT : Shared.TypeIs { s with heap := s.heap.push (newSet w) } (.ref s.heap.objs.size) "set" := ⟨_, gS, rfl⟩
    have hli := F.called_set.init.lookup
    have hbi := F.called_set.init.bind (.ref s.heap.objs.size)
    repeat (any_goals (first | assumption | wp_step))
    refine codeAny_mono (codeAny_call_builtin (R := wants (fun r s2 => r = .none ∧ ∃ h1 tk ys, s2 = { s with heap := h1, toks := tk } ∧ TxAt w h1 s.heap.objs.size ys ∧ (∀ x, x ∈ ys ↔ x ∈ xs) ∧ ∀ b o, s.heap.get? b = some o → h1.get? b = some o) E)
      F.called_set.init.plain F.entry_set_init (check_set_init_1 hT ?_)) fun r2 s2 hr2 => ?_
    · obtain ⟨⟨lc, ldd, lda, lsl⟩, hol, hcl, nl, hdl⟩ := hl
      simp only at hcl hdl
      subst hcl hdl
      have gL : (s.heap.push (newSet w)).get? l = some { cls := .type "list", dict := ldd, data := .seq items nl, slots := lsl } := Heap.get?_push_of_some _ hol
      have i1 := F.sub_list_set
      have i2 := F.sub_list_frozenset
      have i3 : (Value.type "list" == Value.type "dict") = false := by decide
      have isL : (s.heap.push (newSet w)).IsList l items := ⟨_, gL, rfl, nl, rfl⟩
      have ltl : l < s.heap.objs.size := Heap.lt_size hol
      have zS : (s.heap.push (newSet w)).objs.size = s.heap.objs.size + 1 := Heap.size_push ..
      have hand : A.in1.in1.in1.handled = none := by simp [hh]
      unfold Builtin.«set.__init__» noKeywords Builtin.Frozenset.updateFrom
      generalize hPI : pyIter = PI
      wp_walk
      subst hPI
      refine wpAny_pyIter_list isL ?_
      apply wpAny_bind
      apply wpAny_runValue
      have neI : l ≠ (s.heap.push (newSet w)).objs.size := fun m => Nat.ne_of_lt (Nat.lt_succ_of_lt ltl) (m.trans zS)
      have outS : s.heap.objs.size ∉ [(s.heap.push (newSet w)).objs.size, l] := fun m => by
        rcases List.mem_cons.mp m with m | m
        · exact Nat.ne_of_lt (Nat.lt_succ_self _) (m.trans zS)
        · exact Nat.ne_of_gt ltl (List.mem_singleton.mp m)
      refine tx_loop ((Walks.list hand _ l neI items).toS) s.heap.objs.size outS xs isz sm (fun i v hv => ?_) (items.size - 0) 0 _ (by omega) (Nat.zero_le _)
        ⟨⟨_, Heap.get?_push_size _ rfl, rfl, rfl⟩, (isL.push _)⟩ ⟨[], tx_new (Heap.get?_push_of_some _ gS), fun x => by simp, Nat.zero_le _⟩ fun s3 ys mv T mem => ?_
      · have hv' : items.toList[i]? = some v := by rw [Array.getElem?_toList]; exact hv
        exact sa_at hi hv'
      · obtain ⟨h3, g3, d3, tk3, os3⟩ := s3
        obtain rfl : g3 = s.gens := mv.gens
        obtain rfl : d3 = s.drawn := mv.drawn
        obtain rfl : os3 = s.os := mv.os
        apply wpAny_pure
        apply wpAny_pure
        refine ⟨rfl, h3, tk3, ys, rfl, T, mem, fun b o e => ?_⟩
        have lb : b < s.heap.objs.size := Heap.lt_size e
        refine mv.heap b o (fun m => ?_) (Heap.get?_push_of_some _ (Heap.get?_push_of_some _ e))
        rcases List.mem_cons.mp m with m | m
        · exact Nat.ne_of_lt lb m
        · exact Nat.ne_of_lt (Nat.lt_succ_of_lt lb) ((List.mem_singleton.mp m).trans zS)
    · match r2, hr2 with
      | .error e, hr2 => exact hr2
      | .ok (.ret v), ⟨e1, h3, tk, ys, e2, T, mem, kp⟩ =>
        subst e1 e2
        repeat (any_goals (first | assumption | wp_step))
        exact q _ _ _ T mem kp
set_option maxHeartbeats 4000000 in
/-- sorted(such a set) -/
theorem call_sorted_tx {Q : Value → Shared → Prop} (T : TxAt w s.heap a zs) (hh : A.handled = none)
    (q : ∀ s1 p (out : Array Value) c ys, (∀ b o, s.heap.get? b = some o → s1.heap.get? b = some o) → s1.gens = s.gens → s1.os = s.os → s.heap.objs.size ≤ p → s1.heap.get? p = some (seqObj "list" out c) → StrsAre out.toList ys →
      ys.Perm zs → sortedS ys = true → Q (.ref p) s1) : wpAny (model P w) A (call (.builtin "sorted") [.ref a]) Q E s := by
  obtain ⟨o, es, ep, t, T⟩ := T
  have zsz := T.size
  refine Calls.call_function_entry kind_sorted plain_sorted entry_sorted (args_sorted1 _) ?_
  unfold Builtin.«sorted»
  refine wpAny_bind (m := checkCount "sorted" 1 1 _) ?_
  apply wpAny_pure
  apply wpAny_bind
  refine collect_set (A := A.in1) hh ⟨o, T.at_, T.ex.1, T.da⟩ T.fi T.sm T.ri T.le fun s1 vs k1 hz g1 o1 pm => ?_
  have vl : vs.length = zs.length := by rw [pm.length_eq, List.length_map, Array.length_toList, zsz]
  have small : vs.length ≤ sizeLine := by
    rw [vl, ← zsz]
    exact fits_of_scanBound T.sm
  have allTx : ∀ us : List Value, (∀ v ∈ us, ∃ x u, v = Value.str x u) → ∃ xs, StrsAre us xs ∧ xs = us.map fun v => match v with
      | .str x _ => x
      | _ => Str.empty := fun us => by
    induction us with
    | nil => exact fun _ => ⟨[], .nil, rfl⟩
    | cons v r ih =>
      intro h
      obtain ⟨x, u, rfl⟩ := h v List.mem_cons_self
      obtain ⟨xs, i1, i2⟩ := ih fun v m => h v (List.mem_cons_of_mem _ m)
      exact ⟨x :: xs, .cons x u i1, by rw [List.map_cons, ← i2]⟩
  obtain ⟨xs, hS, exs⟩ := allTx vs fun v m => by
    obtain ⟨e, he, z⟩ := List.mem_map.mp (pm.mem_iff.mp m)
    obtain ⟨x, u, e1, _⟩ := T.el e he
    exact ⟨x, u, z.symm.trans e1⟩
  have pz : xs.Perm zs := by
    have p1 := pm.map fun v => match v with
      | Value.str x _ => x
      | _ => Str.empty
    rw [← exs, List.map_map] at p1
    exact p1.trans T.pm
  apply wpAny_bind
  refine wpAny_newList ?_ small
  have gL : (s1.heap.push (seqObj "list" vs.toArray 0)).get? s1.heap.objs.size = some (seqObj "list" vs.toArray 0) := Heap.get?_push_size _ rfl
  apply wpAny_bind
  apply wpAny_holding
  refine wpAny_call_entry slot_list_sort ⟨_, gL, rfl⟩ entry_list_sort (list_sort_treeKAny strKind_oneLt gL hS.keysOf (fun v1 v2 rest e => keyKind_strs (by rw [← e]; exact hS)) small fun st hp hs => ?_) (args_list_sort _)
  obtain ⟨ys, y1, y2, y3⟩ := sorted_out_str hS hp hs
  obtain ⟨c, hc⟩ := sortedHeap_at (vs := vs) (out := (arrOf st).map (·.2)) gL
  refine ⟨_, rfl, ?_⟩
  apply wpAny_pure
  refine ⟨_, rfl, q _ s1.heap.objs.size _ c ys (fun b u e => ?_) g1 o1 hz hc y1 (y2.trans pz) y3⟩
  have e1 := k1 b u e
  have lb := Heap.lt_size e1
  have e2 := Heap.get?_push_of_some (seqObj "list" vs.toArray 0) e1
  refine (sortedHeap_old (Nat.ne_of_lt lb) ?_).trans e2
  rw [Heap.size_push]
  exact Nat.lt_succ_of_lt lb
end
/-! ### as rules of the layer -/
def SetX (w : World) (a : Addr) (zs : List Str) : HO := .ext fun h => TxAt w h a zs
theorem setX_new {P : Program} {w : World} {H : Hp} {h : Heap} {a : Addr} {zs : List Str} (T : TxAt w h a zs) : ObjOk P w H h a (SetX w a zs) :=
  ⟨T, let ⟨o, _, _, _, t⟩ := T; ⟨o, t.at_⟩, fun h1 h2 t k => t.keep k⟩
section
variable {X : Cx}
def rSetX (w : World) : List V → Hp → VK → Prop := fun vs H Q => ∃ (l : Addr) (xs : List Str), vs = [.ref l] ∧ H l = some (.lst (xs.map V.str)) ∧ xs.length ≤ 4000 ∧
  ∀ p ys, H p = none → (∀ x, x ∈ ys ↔ x ∈ xs) → Q (.ref p) (upd H p (SetX w p ys))
theorem cr_setX (hc : X.calm = true) : CallR X (.type "set") (rSetX X.w) := by
  intro pins s σ H vs us Q I r h
  obtain ⟨l, xs, rfl, hl, hz, q⟩ := h
  obtain ⟨its, rv, pl, _⟩ := I.list (.inl (.inl hl))
  rw [Vals.ref1 r]
  refine call_set_tx (P := X.prog) (w := X.w) (I.ok.hd hc) pl.isList rv.strs (by unfold scanBound; omega) fun h1 tk ys T mem k => ?_
  exact ⟨.ref s.heap.objs.size, _, I.laid (t' := tk) k (Nat.le_refl _) (setX_new T), rfl, q _ ys (I.hok.fresh (Nat.le_refl _)) mem⟩
def rSortX (w : World) : List V → Hp → VK → Prop := fun vs H Q => ∃ (a : Addr) (zs : List Str), vs = [.ref a] ∧ H a = some (SetX w a zs) ∧
  ∀ p ys, H p = none → ys.Perm zs → sortedS ys = true → ys.Nodup → Q (.ref p) (upd H p (.lst (ys.map V.str)))
theorem cr_sortX (hc : X.calm = true) : CallR X (.builtin "sorted") (rSortX X.w) := by
  intro pins s σ H vs us Q I r h
  obtain ⟨a, zs, rfl, ha, q⟩ := h
  have T : TxAt X.w s.heap a zs := (I.hok a _ ha).1
  have nd : zs.Nodup := let ⟨_, _, _, _, t⟩ := T; t.nd
  have lz : zs.length ≤ sizeLine := let ⟨_, _, _, _, t⟩ := T; by rw [← t.size]; exact fits_of_scanBound t.sm
  rw [Vals.ref1 r]
  refine call_sorted_tx (P := X.prog) (w := X.w) T (I.ok.hd hc) fun s1 p out c ys k hg ho hp gp hS pm srt => ?_
  have hn : H p = none := I.hok.fresh hp
  obtain ⟨h1, g1, d1, t1, os1⟩ := s1
  obtain rfl : g1 = s.gens := hg
  obtain rfl : os1 = s.os := ho
  have hlen : (ys.map V.str).length ≤ sizeLine := by rw [List.length_map, pm.length_eq]; exact lz
  have J : Inv X pins σ (upd H p (.lst (ys.map V.str))) { heap := h1, gens := s.gens, drawn := d1, toks := t1, os := s.os } :=
    I.call (h' := h1) (g' := s.gens) (d' := d1) (t' := t1) (ch := []) (Un.laid k hp hn) (I.hok.laid k hp ⟨hlen, out.toList, c, vals_of_strs hS, gp⟩) I.bare (fun _ z => nomatch z)
  exact ⟨.ref p, _, J, rfl, q p ys hn pm srt (pm.nodup_iff.mpr nd)⟩
end
end Lp
set_option Elab.async false
set_option linter.all false
set_option maxRecDepth 100000
set_option maxHeartbeats 4000000
/-! Mo, part one: data, how the heap stands for it, the state of a def's body. -/
namespace Mo
open PySem PySem.Spec L2
/-! ### data -/
/-- at a: a dict of texts that others may fill, each of its entries one of m -/
def VagD (w : World) (a : Addr) (m : List (Str × Str)) : HO := .ext fun h => (a == sysModules) = false ∧ ∃ kvs : List (Str × Str), (kvs.map (·.1)).Nodup ∧ (∀ x ∈ kvs, x ∈ m) ∧ ∃ vs, KV (kvs.map fun x => ((Sum.inr x.1 : Key), V.str x.2)) vs ∧ ∀ P : Program, h.DictOf (mixKind P w) a vs
inductive D where
  | non | bl (b : Bool) | int (i : Int) | str (x : Str)
  | lst (xs : List D) | tup (xs : List D)
  | dk (kvs : List (Key × D)) | dt (kvs : List (List Key × D))
  | ins (C : Addr) (fs : List (Str × D))
  | sx (w : World) (xs : List Str)
  | cl (C : Addr)
  | vd (w : World) (m : List (Str × Str))
  | any
  | exv (C : Addr) (fs : List (Str × D))
instance : Inhabited D := ⟨.non⟩
/-- a thing that is still the def's own -/
inductive O where
  | l (xs : List D) | k (kvs : List (Key × D)) | t (kvs : List (List Key × D)) | n (C : Addr) (fs : List (Str × D))
def O.d : O → D
  | .l xs => .lst xs
  | .k kvs => .dk kvs
  | .t kvs => .dt kvs
  | .n C fs => .ins C fs
/-! ### what is hidden -/
structure Mt where
  d : Option Addr
  o : List Addr
abbrev Mt.add (p : Mt) (q : Addr) : Mt := ⟨p.d, q :: p.o⟩
abbrev Mt.rem (p : Mt) (q : Addr) : Mt := ⟨p.d, p.o.filter fun a => decide (a ≠ q)⟩
def Hid (p : Mt) (b : Addr) : Prop := p.d = some b ∨ b ∈ p.o
instance {p : Mt} {b : Addr} : Decidable (Hid p b) := inferInstanceAs (Decidable (p.d = some b ∨ b ∈ p.o))
def del (p : Mt) (H : Hp) : Hp := fun b => if Hid p b then none else H b
section
variable {p p' : Mt} {H H' : Hp} {b q : Addr} {o u : HO}
theorem del_of (h : del p H b = some o) : H b = some o := by
  unfold del at h
  split at h
  · cases h
  · exact h
theorem del_no (h : del p H b = some o) : ¬ Hid p b := fun z => by
  unfold del at h
  rw [if_pos z] at h
  cases h
theorem del_at (h : ¬ Hid p b) : del p H b = H b := if_neg h
theorem del_hid (h : Hid p b) : del p H b = none := if_pos h
end
def isD : HO → Bool
  | .dK _ => true
  | .dT _ => true
  | _ => false
/-- what is read as u: u itself; a dict while it is walked, too -/
def Vw (H : Hp) (a : Addr) (u : HO) : Prop := H a = some u ∨ (isD u = true ∧ ∃ o, H a = some (.frz o u))
section
variable {p p' : Mt} {H H' : Hp} {b q : Addr} {o u : HO}
theorem vw_of (h : Vw (del p H) b o) : Vw H b o := h.elim (fun z => .inl (del_of z)) fun ⟨i, u, z⟩ => .inr ⟨i, u, del_of z⟩
theorem vw_no (h : Vw (del p H) b o) : ¬ Hid p b := h.elim del_no fun ⟨_, _, z⟩ => del_no z
theorem vw_at (h : ¬ Hid p b) (r : Vw H b o) : Vw (del p H) b o := r.elim (fun z => .inl (by rw [del_at h]; exact z)) fun ⟨i, u, z⟩ => .inr ⟨i, u, by rw [del_at h]; exact z⟩
theorem Vw.rd (h : Vw H b o) : Rd H b o := h.elim .inl fun ⟨_, z⟩ => .inr z
theorem Vw.ex (h : Vw H b o) (n : isD o = false) : H b = some o := h.elim id fun ⟨i, _⟩ => by rw [n] at i; cases i
end
theorem sl_of {K : PySem.W.Frag} {p : Mt} {H : Hp} {a : Addr} {xs : List V} (h : SqL K (del p H) a xs) : SqL K H a xs := h.elim (fun z => .inl (z.elim (fun y => .inl (del_of y)) fun ⟨o, y⟩ => .inr ⟨o, del_of y⟩)) .inr
/-- a dict that is walked -/
def isFD : HO → Bool
  | .frz _ u => isD u
  | _ => false
/-- what can be read in H can be read in H' -/
def Le (H H' : Hp) : Prop := ∀ a u, isFD u = false → Vw H a u → Vw H' a u
theorem Le.refl (H : Hp) : Le H H := fun _ _ _ h => h
theorem Le.trans {H H1 H2 : Hp} (a : Le H H1) (b : Le H1 H2) : Le H H2 := fun x u n h => b x u n (a x u n h)
theorem Le.of {H H' : Hp} (h : ∀ a o, H a = some o → H' a = some o) : Le H H' := fun a u _ r => r.elim (fun z => .inl (h a u z)) fun ⟨i, o, z⟩ => .inr ⟨i, o, h a _ z⟩
section
variable {K : PySem.W.Frag} {H H' : Hp} {a : Addr} {xs : List V}
theorem Le.ex {o : HO} (e : Le H H') (h : H a = some o) (n : isD o = false) (f : isFD o = false := by rfl) : H' a = some o := (e a o f (.inl h)).ex n
theorem sl_le (e : Le H H') (h : SqL K H a xs) : SqL K H' a xs := h.elim (fun z => .inl (z.elim (fun y => .inl (e.ex y rfl)) fun ⟨o, y⟩ => .inr ⟨o, e.ex y rfl⟩)) .inr
/-! ### the heap stands for data -/
mutual
inductive Rep (K : PySem.W.Frag) (H : Hp) : V → D → Prop
  | non : Rep K H .non .non
  | bl (b : Bool) : Rep K H (.bl b) (.bl b)
  | int (i : Int) : Rep K H (.int i) (.int i)
  | str (x : Str) : Rep K H (.str x) (.str x)
  | lst {a : Addr} {xs : List V} {ds : List D} : SqL K H a xs → Reps K H xs ds → Rep K H (.ref a) (.lst ds)
  | tup {a : Addr} {xs : List V} {ds : List D} : H a = some (.tup xs) → Reps K H xs ds → Rep K H (.ref a) (.tup ds)
  | dk {a : Addr} {kvs : List (Key × V)} {es : List (Key × D)} : Vw H a (.dK kvs) → RepK K H kvs es → Rep K H (.ref a) (.dk es)
  | dt {a : Addr} {kvs : List (List Key × V)} {es : List (List Key × D)} : Vw H a (.dT kvs) → RepT K H kvs es → Rep K H (.ref a) (.dt es)
  | ins {a C dx : Addr} {fs : List (Str × V)} {es : List (Str × D)} : H a = some (.ins C dx fs) → RepF K H fs es → Rep K H (.ref a) (.ins C es)
  | sx {a : Addr} {w : World} {zs xs : List Str} : H a = some (Lp.SetX w a zs) → (∀ y, y ∈ zs ↔ y ∈ xs) → Rep K H (.ref a) (.sx w xs)
  | cl (C : Addr) : Rep K H (.ref C) (.cl C)
  | vd {a : Addr} {w : World} {m : List (Str × Str)} : H a = some (VagD w a m) → Rep K H (.ref a) (.vd w m)
  | any (a : Addr) : Rep K H (.ref a) .any
  | exn {a C : Addr} : H a = some (L2.exo a C none) → Rep K H (.ref a) (.exv C [])
  | exf {a C dx : Addr} {f : Str} {v : V} {d : D} : H a = some (L2.exo a C (some dx)) → H dx = some (L2.exd dx [(f, v)]) → Rep K H v d → Rep K H (.ref a) (.exv C [(f, d)])
inductive Reps (K : PySem.W.Frag) (H : Hp) : List V → List D → Prop
  | nil : Reps K H [] []
  | cons {v : V} {vs : List V} {d : D} {ds : List D} : Rep K H v d → Reps K H vs ds → Reps K H (v :: vs) (d :: ds)
inductive RepK (K : PySem.W.Frag) (H : Hp) : List (Key × V) → List (Key × D) → Prop
  | nil : RepK K H [] []
  | cons {k : Key} {v : V} {d : D} {kvs : List (Key × V)} {es : List (Key × D)} : Rep K H v d → RepK K H kvs es → RepK K H ((k, v) :: kvs) ((k, d) :: es)
inductive RepT (K : PySem.W.Frag) (H : Hp) : List (List Key × V) → List (List Key × D) → Prop
  | nil : RepT K H [] []
  | cons {k : List Key} {v : V} {d : D} {kvs : List (List Key × V)} {es : List (List Key × D)} : Rep K H v d → RepT K H kvs es → RepT K H ((k, v) :: kvs) ((k, d) :: es)
inductive RepF (K : PySem.W.Frag) (H : Hp) : List (Str × V) → List (Str × D) → Prop
  | nil : RepF K H [] []
  | cons {k : Str} {v : V} {d : D} {kvs : List (Str × V)} {es : List (Str × D)} : Rep K H v d → RepF K H kvs es → RepF K H ((k, v) :: kvs) ((k, d) :: es)
end
mutual
theorem Rep.le (e : Le H H') : ∀ {v : V} {d : D}, Rep K H v d → Rep K H' v d
  | _, _, .non => .non
  | _, _, .bl b => .bl b
  | _, _, .int i => .int i
  | _, _, .str x => .str x
  | _, _, .lst h r => .lst (sl_le e h) (Reps.le e r)
  | _, _, .tup h r => .tup (e.ex h rfl) (Reps.le e r)
  | _, _, .dk h r => .dk (e _ _ rfl h) (RepK.le e r)
  | _, _, .dt h r => .dt (e _ _ rfl h) (RepT.le e r)
  | _, _, .ins h r => .ins (e.ex h rfl) (RepF.le e r)
  | _, _, .sx h r => .sx (e.ex h rfl) r
  | _, _, .cl C => .cl C
  | _, _, .vd h => .vd (e.ex h rfl)
  | _, _, .any a => .any a
  | _, _, .exn h => .exn (e.ex h rfl)
  | _, _, .exf h h2 r => .exf (e.ex h rfl) (e.ex h2 rfl) (Rep.le e r)
theorem Reps.le (e : Le H H') : ∀ {vs : List V} {ds : List D}, Reps K H vs ds → Reps K H' vs ds
  | _, _, .nil => .nil
  | _, _, .cons h r => .cons (Rep.le e h) (Reps.le e r)
theorem RepK.le (e : Le H H') : ∀ {vs : List (Key × V)} {ds : List (Key × D)}, RepK K H vs ds → RepK K H' vs ds
  | _, _, .nil => .nil
  | _, _, .cons h r => .cons (Rep.le e h) (RepK.le e r)
theorem RepT.le (e : Le H H') : ∀ {vs : List (List Key × V)} {ds : List (List Key × D)}, RepT K H vs ds → RepT K H' vs ds
  | _, _, .nil => .nil
  | _, _, .cons h r => .cons (Rep.le e h) (RepT.le e r)
theorem RepF.le (e : Le H H') : ∀ {vs : List (Str × V)} {ds : List (Str × D)}, RepF K H vs ds → RepF K H' vs ds
  | _, _, .nil => .nil
  | _, _, .cons h r => .cons (Rep.le e h) (RepF.le e r)
end
theorem Reps.len {vs : List V} {ds : List D} (h : Reps K H vs ds) : vs.length = ds.length := by
  induction vs generalizing ds with
  | nil =>
    cases h
    rfl
  | cons v r ih =>
    cases h with
    | cons a b => exact congrArg (· + 1) (ih b)
theorem Reps.get {vs : List V} {ds : List D} (h : Reps K H vs ds) : ∀ {i : Nat} {v : V}, vs[i]? = some v → ∃ d, ds[i]? = some d ∧ Rep K H v d := by
  induction vs generalizing ds with
  | nil => exact fun e => by simp at e
  | cons u r ih =>
    cases h with
    | cons a b =>
      intro i v e
      cases i with
      | zero => exact ⟨_, rfl, by cases e; exact a⟩
      | succ j => exact ih b e
theorem Reps.getD {vs : List V} {ds : List D} (h : Reps K H vs ds) : ∀ {i : Nat} {d : D}, ds[i]? = some d → ∃ v, vs[i]? = some v ∧ Rep K H v d := by
  induction vs generalizing ds with
  | nil =>
    cases h
    exact fun e => by simp at e
  | cons u r ih =>
    cases h with
    | cons a b =>
      intro i v e
      cases i with
      | zero => exact ⟨_, rfl, by cases e; exact a⟩
      | succ j => exact ih b e
theorem Reps.app {vs us : List V} {ds es : List D} (h : Reps K H vs ds) (h2 : Reps K H us es) : Reps K H (vs ++ us) (ds ++ es) := by
  induction vs generalizing ds with
  | nil =>
    cases h
    exact h2
  | cons u r ih =>
    cases h with
    | cons a b => exact .cons a (ih b)
end
theorem rep_int {K : PySem.W.Frag} {J : Hp} {v : V} {i : Int} (h : Rep K J v (.int i)) : v = .int i := by cases h; rfl
theorem rep_bl {K : PySem.W.Frag} {J : Hp} {v : V} {i : Bool} (h : Rep K J v (.bl i)) : v = .bl i := by cases h; rfl
theorem rep_str {K : PySem.W.Frag} {J : Hp} {v : V} {i : Str} (h : Rep K J v (.str i)) : v = .str i := by cases h; rfl
/-! ### what an own thing holds -/
def OwnAt (K : PySem.W.Frag) (F H : Hp) (q : Addr) : O → Prop
  | .l xs => ∃ vs, H q = some (.lst vs) ∧ Reps K F vs xs
  | .k kvs => ∃ vs, H q = some (.dK vs) ∧ RepK K F vs kvs
  | .t kvs => ∃ vs, H q = some (.dT vs) ∧ RepT K F vs kvs
  | .n C fs => ∃ dx vs, H q = some (.ins C dx vs) ∧ RepF K F vs fs
theorem OwnAt.le {K : PySem.W.Frag} {F F' H H' : Hp} {q : Addr} {o : O} (h : OwnAt K F H q o) (e : Le F F') (eq : H' q = H q) : OwnAt K F' H' q o := by
  cases o with
  | l xs =>
    obtain ⟨vs, h1, h2⟩ := h
    exact ⟨vs, by rw [eq]; exact h1, h2.le e⟩
  | k xs =>
    obtain ⟨vs, h1, h2⟩ := h
    exact ⟨vs, by rw [eq]; exact h1, h2.le e⟩
  | t xs =>
    obtain ⟨vs, h1, h2⟩ := h
    exact ⟨vs, by rw [eq]; exact h1, h2.le e⟩
  | n C fs =>
    obtain ⟨dx, vs, h1, h2⟩ := h
    exact ⟨dx, vs, by rw [eq]; exact h1, h2.le e⟩
/-- an own thing that is shown -/
theorem OwnAt.rep {K : PySem.W.Frag} {F H : Hp} {q : Addr} {o : O} (h : OwnAt K F H q o) (e : F q = H q) : Rep K F (.ref q) o.d := by
  cases o with
  | l xs =>
    obtain ⟨vs, h1, h2⟩ := h
    exact .lst (.inl (.inl (by rw [e]; exact h1))) h2
  | k xs =>
    obtain ⟨vs, h1, h2⟩ := h
    exact .dk (.inl (by rw [e]; exact h1)) h2
  | t xs =>
    obtain ⟨vs, h1, h2⟩ := h
    exact .dt (.inl (by rw [e]; exact h1)) h2
  | n C fs =>
    obtain ⟨dx, vs, h1, h2⟩ := h
    exact .ins (by rw [e]; exact h1) h2
theorem mut_ne {o : Option HO} (h : Mut o) : o ≠ none := fun z => by rw [z] at h; exact h
theorem mut_tup {o : Option HO} {xs : List V} (h : Mut o) : o ≠ some (.tup xs) := fun z => by rw [z] at h; exact h
theorem mut_frz {o : Option HO} {x : Obj} {u : HO} (h : Mut o) : o ≠ some (.frz x u) := fun z => by rw [z] at h; exact h
theorem mut_nf {o : HO} (h : Mut (some o)) : isFD o ≠ true := fun z => by
  cases o <;> first | (cases z; done) | exact h
theorem OwnAt.mut {K : PySem.W.Frag} {F H : Hp} {q : Addr} {o : O} (h : OwnAt K F H q o) : Mut (H q) := by
  cases o with
  | l xs =>
    obtain ⟨vs, h1, h2⟩ := h
    rw [h1]
    trivial
  | k xs =>
    obtain ⟨vs, h1, h2⟩ := h
    rw [h1]
    trivial
  | t xs =>
    obtain ⟨vs, h1, h2⟩ := h
    rw [h1]
    trivial
  | n C fs =>
    obtain ⟨dx, vs, h1, h2⟩ := h
    rw [h1]
    trivial
/-! ### the state -/
/-- what the parameter holds that may be changed (the dice, an object) -/
abbrev C3 := O
inductive Sl where
  | un | v (d : D) | o (o : O) | di
structure G where
  s : List Sl
  c : C3
def G.set (g : G) (i : Nat) (x : Sl) : G := ⟨g.s.set i x, g.c⟩
structure Rl (K : PySem.W.Frag) (J : Hp) (p : Mt) (g : G) (σ : St) (H : Hp) : Prop where
  len : g.s.length = σ.length
  old : ∀ a o, p.d ≠ some a → J a = some o → H a = some o
  dice : ∀ a, p.d = some a → OwnAt K (del p H) H a g.c
  dno : ∀ a, p.d = some a → a ∉ p.o
  lv : ∀ a ∈ p.o, Mut (H a)
  fz : ∀ a o, isFD o = true → H a = some o → J a = some o
  sv : ∀ (i : Nat) d, g.s[i]? = some (.v d) → ∃ v, σ[i]? = some (some v) ∧ Rep K (del p H) v d
  so : ∀ (i : Nat) o, g.s[i]? = some (.o o) → ∃ q, σ[i]? = some (some (.ref q)) ∧ q ∈ p.o ∧ J q = none ∧ OwnAt K (del p H) H q o
  sd : ∀ i : Nat, g.s[i]? = some .di → ∃ a, σ[i]? = some (some (.ref a)) ∧ p.d = some a
  inj : ∀ (i j : Nat) o o' q, g.s[i]? = some (.o o) → g.s[j]? = some (.o o') → σ[i]? = some (some (.ref q)) → σ[j]? = some (some (.ref q)) → i = j
/-- q belongs to no slot -/
def NoSl (g : G) (σ : St) (q : Addr) : Prop := ∀ (i : Nat) o, g.s[i]? = some (.o o) → σ[i]? ≠ some (some (.ref q))
/-- from one state to the next, the slots' values as they are -/
structure Ad (g : G) (σ : St) (p : Mt) (H : Hp) (g' : G) (p' : Mt) (H' : Hp) : Prop where
  dd : p'.d = p.d
  le : Le (del p H) (del p' H')
  ex : ∀ a ∈ p.o, NoSl g σ a → a ∈ p'.o ∧ H' a = H a
  sl : ∀ a, NoSl g σ a → NoSl g' σ a
  th : ∀ a, H a ≠ none → H' a ≠ none
theorem Ad.refl {g : G} {σ : St} {p : Mt} {H : Hp} : Ad g σ p H g p H := ⟨rfl, .refl _, fun _ h _ => ⟨h, rfl⟩, fun _ h => h, fun _ h => h⟩
theorem Ad.gone {g g' : G} {σ : St} {p p' : Mt} {H H' : Hp} {q : Addr} (a : Ad g σ p H g' p' H') (h : H' q = none) : H q = none := by
  cases e : H q with
  | none => rfl
  | some o => exact absurd h (a.th q (by rw [e]; exact Option.some_ne_none _))
theorem upd_th {H : Hp} {q : Addr} {o : HO} : ∀ a, H a ≠ none → upd H q o a ≠ none := fun a h => by
  by_cases e : a = q
  · rw [e, upd_same]
    exact Option.some_ne_none _
  · rw [upd_ne e]
    exact h
theorem Ad.trans {g g1 g2 : G} {σ : St} {p p1 p2 : Mt} {H H1 H2 : Hp} (a : Ad g σ p H g1 p1 H1) (b : Ad g1 σ p1 H1 g2 p2 H2) : Ad g σ p H g2 p2 H2 :=
  ⟨b.dd.trans a.dd, a.le.trans b.le, fun x hx n => by
    obtain ⟨h1, h2⟩ := a.ex x hx n
    obtain ⟨h3, h4⟩ := b.ex x h1 (a.sl x n)
    exact ⟨h3, h4.trans h2⟩, fun x n => b.sl x (a.sl x n), fun x n => b.th x (a.th x n)⟩
section
variable {K : PySem.W.Frag} {J : Hp} {p : Mt} {g : G} {σ : St} {H : Hp} {q : Addr} {o : HO}
theorem Rl.ne (R : Rl K J p g σ H) (h : H q = none) : ¬ Hid p q := fun e => by
  rcases e with e | e
  · exact mut_ne (R.dice q e).mut h
  · exact mut_ne (R.lv q e) h
theorem Rl.jn (R : Rl K J p g σ H) (h : H q = none) : J q = none := by
  cases e : J q with
  | none => rfl
  | some o =>
    have := R.old q o (fun z => R.ne h (.inl z)) e
    rw [h] at this
    cases this
/-- a new object that all may see -/
theorem Rl.new (R : Rl K J p g σ H) (h : H q = none) (nf : isFD o = false := by rfl) : Rl K J p g σ (upd H q o) ∧ Ad g σ p H g p (upd H q o) ∧ del p (upd H q o) q = some o := by
  have n := R.ne h
  have e1 : ∀ a u, H a = some u → upd H q o a = some u := fun a u e => by rw [upd_ne (ne_of_none e h)]; exact e
  have e2 : Le (del p H) (del p (upd H q o)) := .of fun a u e => by
    rw [del_at (del_no e)]
    exact e1 a u (del_of e)
  have e3 : ∀ a, a ∈ p.o → upd H q o a = H a := fun a m => upd_ne fun z => n (.inr (z ▸ m))
  refine ⟨⟨R.len, fun a u na e => e1 a u (R.old a u na e), fun a e => (R.dice a e).le e2 (upd_ne fun z => n (.inl (z ▸ e))), R.dno, fun a m => ?_, fun a o f e => ?_, fun i d e => ?_, fun i d e => ?_, R.sd, R.inj⟩, ⟨rfl, e2, fun a m _ => ⟨m, e3 a m⟩, fun _ h => h, upd_th⟩, by rw [del_at n, upd_same]⟩
  · rw [e3 a m]
    exact R.lv a m
  · by_cases z : a = q
    · rw [z, upd_same] at e
      cases e
      rw [nf] at f
      cases f
    · rw [upd_ne z] at e
      exact R.fz a o f e
  · obtain ⟨v, h1, h2⟩ := R.sv i d e
    exact ⟨v, h1, h2.le e2⟩
  · obtain ⟨x, h1, h2, h3, h4⟩ := R.so i d e
    exact ⟨x, h1, h2, h3, h4.le e2 (e3 x h2)⟩
/-- a new object that is kept hidden -/
theorem Rl.hide (R : Rl K J p g σ H) (h : H q = none) (mu : Mut (some o) := by trivial) : Rl K J (p.add q) g σ (upd H q o) ∧ Ad g σ p H g (p.add q) (upd H q o) ∧ q ∈ (p.add q).o ∧ J q = none ∧ NoSl g σ q ∧ Le (del p H) (del (p.add q) (upd H q o)) := by
  have n := R.ne h
  have e1 : ∀ a u, H a = some u → upd H q o a = some u := fun a u e => by rw [upd_ne (ne_of_none e h)]; exact e
  have e2 : Le (del p H) (del (p.add q) (upd H q o)) := .of fun a u e => by
    have na : a ≠ q := ne_of_none (del_of e) h
    rw [del_at (fun z : Hid (p.add q) a => del_no e (Or.imp id (fun y => (List.mem_cons.mp y).resolve_left na) z))]
    exact e1 a u (del_of e)
  have e3 : ∀ a, a ∈ p.o → upd H q o a = H a := fun a m => upd_ne fun z => n (.inr (z ▸ m))
  have ns : NoSl g σ q := fun i o e z => by
    obtain ⟨x, h1, h2, _⟩ := R.so i o e
    rw [h1] at z
    cases z
    exact n (.inr h2)
  refine ⟨⟨R.len, fun a u na e => e1 a u (R.old a u na e), fun a e => (R.dice a e).le e2 (upd_ne fun z => n (.inl (z ▸ e))), fun a e m => ?_, fun a m => ?_, fun a o f e => ?_, fun i d e => ?_, fun i d e => ?_, R.sd, R.inj⟩, ⟨rfl, e2, fun a m _ => ⟨List.mem_cons_of_mem _ m, e3 a m⟩, fun _ h => h, upd_th⟩, List.mem_cons_self, R.jn h, ns, e2⟩
  · rcases List.mem_cons.mp m with z | m
    · exact n (.inl (by rw [← z]; exact e))
    · exact R.dno a e m
  · rcases List.mem_cons.mp m with z | m
    · rw [z, upd_same]
      exact mu
    · rw [e3 a m]
      exact R.lv a m
  · by_cases z : a = q
    · rw [z, upd_same] at e
      cases e
      exact absurd f (mut_nf mu)
    · rw [upd_ne z] at e
      exact R.fz a o f e
  · obtain ⟨v, h1, h2⟩ := R.sv i d e
    exact ⟨v, h1, h2.le e2⟩
  · obtain ⟨x, h1, h2, h3, h4⟩ := R.so i d e
    exact ⟨x, h1, List.mem_cons_of_mem _ h2, h3, h4.le e2 (e3 x h2)⟩
theorem del_rem {p : Mt} {q : Addr} {H : Hp} : Le (del p H) (del (p.rem q) H) := .of fun a u e => by
  rw [del_at fun z : Hid (p.rem q) a => del_no e (Or.imp id (fun y => (List.mem_filter.mp y).1) z)]
  exact del_of e
/-- what is hidden and no slot's is shown -/
theorem Rl.show_ (R : Rl K J p g σ H) (n : NoSl g σ q) (m : q ∈ p.o) : Rl K J (p.rem q) g σ H ∧ del (p.rem q) H q = H q := by
  refine ⟨⟨R.len, R.old, fun a e => (R.dice a e).le del_rem rfl, fun a e m => R.dno a e (List.mem_filter.mp m).1, fun a m => R.lv a (List.mem_filter.mp m).1, R.fz, fun i d e => ?_, fun i d e => ?_, R.sd, R.inj⟩, del_at fun z => ?_⟩
  · obtain ⟨v, h1, h2⟩ := R.sv i d e
    exact ⟨v, h1, h2.le del_rem⟩
  · obtain ⟨x, h1, h2, h3, h4⟩ := R.so i d e
    refine ⟨x, h1, List.mem_filter.mpr ⟨h2, decide_eq_true fun z => n i d e (by rw [h1, z])⟩, h3, h4.le del_rem rfl⟩
  · rcases z with z | z
    · exact R.dno q z m
    · have := (List.mem_filter.mp z).2
      rw [decide_eq_true_eq] at this
      exact this rfl
end
end Mo
set_option Elab.async false
set_option linter.all false
set_option maxRecDepth 100000
set_option maxHeartbeats 4000000
/-! Mo, part two: what an expression computes, as a function of the state. -/
namespace Mo
open PySem PySem.Spec L2
structure Exn where
  C : Addr
  fs : List (Str × D)
inductive R (α : Type) where
  | ok (a : α) (g : G) | ex (E : Exn) (g : G)
abbrev M (α : Type) := G → Option (R α)
def M.bind {α β : Type} (m : M α) (k : α → M β) : M β := fun g => match m g with
  | some (.ok a g') => k a g'
  | some (.ex E g') => some (.ex E g')
  | none => none
def ret {α : Type} (a : α) : M α := fun g => some (.ok a g)
def bad {α : Type} : M α := fun _ => none
def lift {α : Type} (o : Option α) : M α := fun g => match o with
  | some a => some (.ok a g)
  | none => none
abbrev WW := Exn → G → Mt → St → Hp → Prop
def Post {α : Type} (K : PySem.W.Frag) (W : WW) (J : Hp) (p : Mt) (g : G) (σ : St) (H : Hp) (r : R α) (q : α → G → Mt → Hp → Prop) : Prop := match r with
  | .ok a g' => ∀ p' H', Ad g σ p H g' p' H' → Rl K J p' g' σ H' → q a g' p' H'
  | .ex E g' => ∀ p' H', Ad g σ p H g' p' H' → Rl K J p' g' σ H' → W E g' p' σ H'
theorem Post.adv {α : Type} {K : PySem.W.Frag} {W : WW} {J : Hp} {p p1 : Mt} {g g1 : G} {σ : St} {H H1 : Hp} {r : R α} {q : α → G → Mt → Hp → Prop} (h : Post K W J p g σ H r q) (a : Ad g σ p H g1 p1 H1) : Post K W J p1 g1 σ H1 r q := by
  cases r with
  | ok x g' => exact fun p' H' b R => h p' H' (a.trans b) R
  | ex E g' => exact fun p' H' b R => h p' H' (a.trans b) R
/-! ### readings by the text itself -/
structure SemE (X : Cx) (e : Expr) (σ : St) (H : Hp) (Q : VK) : Prop where
  run : ∀ (pins : List (Addr × Obj)) (s : Shared), Inv X pins σ H s → wpAny (model X.prog X.w) X.A (eval e X.env) (EP X pins σ Q) X.xe s
structure SemT (X : Cx) (e : Expr) (σ : St) (H : Hp) (Q : Bool → Hp → Prop) : Prop where
  run : ∀ (pins : List (Addr × Obj)) (s : Shared), Inv X pins σ H s → wpAny (model X.prog X.w) X.A (isTrue e X.env (eval e X.env)) (TP X pins σ Q) X.xe s
structure SemW (X : Cx) (e : Expr) (σ : St) (H : Hp) (Q : Bool → Hp → Prop) : Prop where
  run : ∀ (whole : Sem Value) (pins : List (Addr × Obj)) (s : Shared), Inv X pins σ H s → wpAny (model X.prog X.w) X.A (isTrue e X.env whole) (TP X pins σ Q) X.xe s
structure SemA (X : Cx) (es : List Expr) (σ : St) (H : Hp) (Q : List V → Hp → Prop) : Prop where
  run : ∀ (pos : Pos) (pins : List (Addr × Obj)) (s : Shared), Inv X pins σ H s → wpAny (model X.prog X.w) X.A (spliced (backTo pos (starEach es X.env))) (AP X pins σ Q) X.xe s
structure SemS (X : Cx) (st : Stmt) (D : Ends) (σ : St) (H : Hp) : Prop where
  run : ∀ (pins : List (Addr × Obj)) (s : Shared), Inv X pins σ H s → wpAny (model X.prog X.w) X.A (exec st X.env) (SP X pins D) X.xe s
structure SemSs (X : Cx) (st : List Stmt) (D : Ends) (σ : St) (H : Hp) : Prop where
  run : ∀ (pins : List (Addr × Obj)) (s : Shared), Inv X pins σ H s → wpAny (model X.prog X.w) X.A (execs st X.env) (SP X pins D) X.xe s
section
variable {X : Cx}
theorem semE {e : Expr} : PE X e (SemE X e) := ⟨fun pins s _ _ _ I h => h.run pins s I⟩
theorem semT {e : Expr} : PT X e (SemT X e) := ⟨fun pins s _ _ _ I h => h.run pins s I⟩
theorem semW {e : Expr} : PW X e (SemW X e) := ⟨fun wh pins s _ _ _ I h => h.run wh pins s I⟩
theorem semA {es : List Expr} : PA X es (SemA X es) := ⟨fun pos pins s _ _ _ I h => h.run pos pins s I⟩
theorem semS {st : Stmt} : PS X st (SemS X st) := ⟨fun pins s _ _ _ I h => h.run pins s I⟩
theorem semSs {st : List Stmt} : PSs X st (SemSs X st) := ⟨fun pins s _ _ _ I h => h.run pins s I⟩
theorem of_pe {e : Expr} {t : TE} {σ : St} {H : Hp} {Q : VK} (h : PE X e t) (q : t σ H Q) : SemE X e σ H Q := ⟨fun pins s I => h.run pins s σ H Q I q⟩
theorem of_pt {e : Expr} {t : TT} {σ : St} {H : Hp} {Q : Bool → Hp → Prop} (h : PT X e t) (q : t σ H Q) : SemT X e σ H Q := ⟨fun pins s I => h.run pins s σ H Q I q⟩
theorem of_pw {e : Expr} {t : TT} {σ : St} {H : Hp} {Q : Bool → Hp → Prop} (h : PW X e t) (q : t σ H Q) : SemW X e σ H Q := ⟨fun wh pins s I => h.run wh pins s σ H Q I q⟩
theorem of_pa {es : List Expr} {t : TA} {σ : St} {H : Hp} {Q : List V → Hp → Prop} (h : PA X es t) (q : t σ H Q) : SemA X es σ H Q := ⟨fun pos pins s I => h.run pos pins s σ H Q I q⟩
theorem of_ps {st : Stmt} {t : TS} {σ : St} {H : Hp} {D : Ends} (h : PS X st t) (q : t D σ H) : SemS X st D σ H := ⟨fun pins s I => h.run pins s σ H D I q⟩
theorem of_pss {st : List Stmt} {t : TS} {σ : St} {H : Hp} {D : Ends} (h : PSs X st t) (q : t D σ H) : SemSs X st D σ H := ⟨fun pins s I => h.run pins s σ H D I q⟩
end
/-! ### judgements -/
def qF (K : PySem.W.Frag) (Q : VK) : D → G → Mt → Hp → Prop := fun d _ p' H' => ∀ v, Rep K (del p' H') v d → Q v H'
def qO (K : PySem.W.Frag) (H : Hp) (σ : St) (Q : VK) : O → G → Mt → Hp → Prop := fun o g' p' H' => ∀ q, q ∈ p'.o → H q = none → NoSl g' σ q → OwnAt K (del p' H') H' q o → Q (.ref q) H'
def qA (K : PySem.W.Frag) (Q : List V → Hp → Prop) : List D → G → Mt → Hp → Prop := fun ds _ p' H' => ∀ vs, Reps K (del p' H') vs ds → Q vs H'
def qT (Q : Bool → Hp → Prop) : Bool → G → Mt → Hp → Prop := fun b _ _ H' => Q b H'
def EF (X : Cx) (W : WW) (e : Expr) (m : M D) : Prop := ∀ J p g σ H, Rl X.K J p g σ H → ∀ r, m g = some r → ∀ Q : VK, Post X.K W J p g σ H r (qF X.K Q) → SemE X e σ H Q
def EO (X : Cx) (W : WW) (e : Expr) (m : M O) : Prop := ∀ J p g σ H, Rl X.K J p g σ H → ∀ r, m g = some r → ∀ Q : VK, Post X.K W J p g σ H r (qO X.K H σ Q) → SemE X e σ H Q
def EA (X : Cx) (W : WW) (es : List Expr) (m : M (List D)) : Prop := ∀ J p g σ H, Rl X.K J p g σ H → ∀ r, m g = some r → ∀ Q : List V → Hp → Prop, Post X.K W J p g σ H r (qA X.K Q) → SemA X es σ H Q
def ET (X : Cx) (W : WW) (e : Expr) (m : M Bool) : Prop := ∀ J p g σ H, Rl X.K J p g σ H → ∀ r, m g = some r → ∀ Q : Bool → Hp → Prop, Post X.K W J p g σ H r (qT Q) → SemT X e σ H Q
def EW (X : Cx) (W : WW) (e : Expr) (m : M Bool) : Prop := ∀ J p g σ H, Rl X.K J p g σ H → ∀ r, m g = some r → ∀ Q : Bool → Hp → Prop, Post X.K W J p g σ H r (qT Q) → SemW X e σ H Q
section
variable {X : Cx} {W : WW} {e a b c : Expr} {es : List Expr} {pos ps : Pos} {α β : Type}
section
variable {J : Hp} {p : Mt} {g : G} {σ : St} {H : Hp} {q : β → G → Mt → Hp → Prop} {r : R β}
/-- the first step of a chain -/
theorem EF.then {m : M D} {k : D → M β} (h : EF X W e m) (R0 : Rl X.K J p g σ H) (hm : m.bind k g = some r) (hp : Post X.K W J p g σ H r q) {Q : VK}
    (hk : ∀ d g1 p1 H1 v, Ad g σ p H g1 p1 H1 → Rl X.K J p1 g1 σ H1 → Rep X.K (del p1 H1) v d → k d g1 = some r → Post X.K W J p1 g1 σ H1 r q → Q v H1) : SemE X e σ H Q := by
  unfold M.bind at hm
  cases e1 : m g with
  | none => rw [e1] at hm; cases hm
  | some r1 =>
    cases r1 with
    | ok d g1 =>
      rw [e1] at hm
      exact h J p g σ H R0 _ e1 Q fun p1 H1 ad R1 v rv => hk d g1 p1 H1 v ad R1 rv hm (hp.adv ad)
    | ex E g1 =>
      rw [e1] at hm
      cases hm
      exact h J p g σ H R0 _ e1 Q hp
theorem EO.then {m : M O} {k : O → M β} (h : EO X W e m) (R0 : Rl X.K J p g σ H) (hm : m.bind k g = some r) (hp : Post X.K W J p g σ H r q) {Q : VK}
    (hk : ∀ o g1 p1 H1 x, Ad g σ p H g1 p1 H1 → Rl X.K J p1 g1 σ H1 → x ∈ p1.o → H x = none → NoSl g1 σ x → OwnAt X.K (del p1 H1) H1 x o → k o g1 = some r → Post X.K W J p1 g1 σ H1 r q → Q (.ref x) H1) : SemE X e σ H Q := by
  unfold M.bind at hm
  cases e1 : m g with
  | none => rw [e1] at hm; cases hm
  | some r1 =>
    cases r1 with
    | ok d g1 =>
      rw [e1] at hm
      exact h J p g σ H R0 _ e1 Q fun p1 H1 ad R1 v h1 h2 h3 h4 => hk d g1 p1 H1 v ad R1 h1 h2 h3 h4 hm (hp.adv ad)
    | ex E g1 =>
      rw [e1] at hm
      cases hm
      exact h J p g σ H R0 _ e1 Q hp
theorem EA.then {m : M (List D)} {k : List D → M β} (h : EA X W es m) (R0 : Rl X.K J p g σ H) (hm : m.bind k g = some r) (hp : Post X.K W J p g σ H r q) {Q : List V → Hp → Prop}
    (hk : ∀ ds g1 p1 H1 vs, Ad g σ p H g1 p1 H1 → Rl X.K J p1 g1 σ H1 → Reps X.K (del p1 H1) vs ds → k ds g1 = some r → Post X.K W J p1 g1 σ H1 r q → Q vs H1) : SemA X es σ H Q := by
  unfold M.bind at hm
  cases e1 : m g with
  | none => rw [e1] at hm; cases hm
  | some r1 =>
    cases r1 with
    | ok d g1 =>
      rw [e1] at hm
      exact h J p g σ H R0 _ e1 Q fun p1 H1 ad R1 v rv => hk d g1 p1 H1 v ad R1 rv hm (hp.adv ad)
    | ex E g1 =>
      rw [e1] at hm
      cases hm
      exact h J p g σ H R0 _ e1 Q hp
theorem ET.then {m : M Bool} {k : Bool → M β} (h : ET X W e m) (R0 : Rl X.K J p g σ H) (hm : m.bind k g = some r) (hp : Post X.K W J p g σ H r q) {Q : Bool → Hp → Prop}
    (hk : ∀ b g1 p1 H1, Ad g σ p H g1 p1 H1 → Rl X.K J p1 g1 σ H1 → k b g1 = some r → Post X.K W J p1 g1 σ H1 r q → Q b H1) : SemT X e σ H Q := by
  unfold M.bind at hm
  cases e1 : m g with
  | none => rw [e1] at hm; cases hm
  | some r1 =>
    cases r1 with
    | ok d g1 =>
      rw [e1] at hm
      exact h J p g σ H R0 _ e1 Q fun p1 H1 ad R1 => hk d g1 p1 H1 ad R1 hm (hp.adv ad)
    | ex E g1 =>
      rw [e1] at hm
      cases hm
      exact h J p g σ H R0 _ e1 Q hp
/-- the end of a chain: the value is known, nothing is new -/
theorem post_lift {o : Option D} {r : R D} (hm : lift o g = some r) {Q : VK} (hp : Post X.K W J p g σ H r (qF X.K Q)) (R0 : Rl X.K J p g σ H) : ∃ d, o = some d ∧ (∀ p' H', Ad g σ p H g p' H' → Rl X.K J p' g σ H' → ∀ v, Rep X.K (del p' H') v d → Q v H') := by
  cases o with
  | none => cases hm
  | some d =>
    cases hm
    exact ⟨d, rfl, hp⟩
end
/-! ### own things shown -/
theorem Ad.shown {K : PySem.W.Frag} {J : Hp} {p p1 : Mt} {g g1 : G} {σ : St} {H H1 : Hp} {x : Addr} (ad : Ad g σ p H g1 p1 H1) (h : H x = none) (R0 : Rl K J p g σ H) : Ad g σ p H g1 (p1.rem x) H1 :=
  ⟨ad.dd, ad.le.trans del_rem, fun a ha n => by
    obtain ⟨h1, h2⟩ := ad.ex a ha n
    exact ⟨List.mem_filter.mpr ⟨h1, decide_eq_true fun z => mut_ne (R0.lv a ha) (z ▸ h)⟩, h2⟩, ad.sl, ad.th⟩
theorem EO.f {m : M O} (h : EO X W e m) : EF X W e (m.bind fun o => ret o.d) := fun J p g σ H R0 r hm Q hp =>
  h.then R0 hm hp fun o g1 p1 H1 x ad R1 h1 h2 h3 h4 hk hq => by
    cases hk
    obtain ⟨R2, e2⟩ := R1.show_ h3 h1
    exact hp (p1.rem x) H1 (ad.shown h2 R0) R2 _ ((h4.le del_rem rfl).rep e2)
/-! ### names, constants -/
def mName (i : Nat) : M D := fun g => match g.s[i]? with
  | some (.v d) => some (.ok d g)
  | some (.o o) => some (.ok o.d (g.set i (.v o.d)))
  | _ => none
end
end Mo
set_option Elab.async false
set_option linter.all false
set_option maxRecDepth 100000
set_option maxHeartbeats 4000000
/-! Mo, part three: names, constants, operators, tests. -/
namespace Mo
open PySem PySem.Spec L2
section
variable {X : Cx} {W : WW} {e a b c : Expr} {es : List Expr} {pos ps : Pos} {α β : Type}
/-! ### names, constants -/
theorem getE_set {l : List Sl} {i j : Nat} {x y : Sl} (h : (l.set i x)[j]? = some y) : (j = i ∧ y = x ∧ i < l.length) ∨ (j ≠ i ∧ l[j]? = some y) := by
  by_cases e : j = i
  · subst e
    by_cases hl : j < l.length
    · rw [List.getElem?_set_self hl] at h
      exact .inl ⟨rfl, (Option.some.inj h).symm, hl⟩
    · rw [List.getElem?_eq_none (by rw [List.length_set]; omega)] at h
      cases h
  · rw [List.getElem?_set_ne (Ne.symm e)] at h
    exact .inr ⟨e, h⟩
/-- an own thing is shown from now on -/
theorem Rl.thaw {K : PySem.W.Frag} {J : Hp} {p : Mt} {g : G} {σ : St} {H : Hp} {i : Nat} {o : O} (R : Rl K J p g σ H) (h : g.s[i]? = some (.o o)) : ∃ q, σ[i]? = some (some (.ref q)) ∧ Rl K J (p.rem q) (g.set i (.v o.d)) σ H ∧ Ad g σ p H (g.set i (.v o.d)) (p.rem q) H ∧ Rep K (del (p.rem q) H) (.ref q) o.d := by
  obtain ⟨q, h1, h2, h3, h4⟩ := R.so i o h
  have hq : del (p.rem q) H q = H q := del_at fun z : Hid (p.rem q) q => by
    rcases z with z | z
    · exact R.dno q z h2
    · have := (List.mem_filter.mp z).2
      rw [decide_eq_true_eq] at this
      exact this rfl
  have rp : Rep K (del (p.rem q) H) (.ref q) o.d := (h4.le del_rem rfl).rep hq
  refine ⟨q, h1, ⟨(List.length_set ..).trans R.len, R.old, fun a e => (R.dice a e).le del_rem rfl, fun a e m => R.dno a e (List.mem_filter.mp m).1, fun a m => R.lv a (List.mem_filter.mp m).1, R.fz, fun j d e => ?_, fun j d e => ?_, fun j e => ?_, fun j k o1 o2 x e1 e2 e3 e4 => ?_⟩, ⟨rfl, del_rem, fun a m n => ⟨List.mem_filter.mpr ⟨m, decide_eq_true fun z => n i o h (by rw [h1, z])⟩, rfl⟩, fun a n j o' e => ?_, fun _ h => h⟩, rp⟩
  · rcases getE_set e with ⟨rfl, e2, _⟩ | ⟨ne, e⟩
    · cases e2
      exact ⟨_, h1, rp⟩
    · obtain ⟨v, x1, x2⟩ := R.sv j d e
      exact ⟨v, x1, x2.le del_rem⟩
  · rcases getE_set e with ⟨rfl, e2, _⟩ | ⟨ne, e⟩
    · cases e2
    · obtain ⟨x, x1, x2, x3, x4⟩ := R.so j d e
      exact ⟨x, x1, List.mem_filter.mpr ⟨x2, decide_eq_true fun z => ne (R.inj j i d o x e h x1 (by rw [h1, z]))⟩, x3, x4.le del_rem rfl⟩
  · rcases getE_set e with ⟨rfl, e2, _⟩ | ⟨ne, e⟩
    · cases e2
    · exact R.sd j e
  · rcases getE_set e1 with ⟨_, z, _⟩ | ⟨_, e1⟩
    · cases z
    · rcases getE_set e2 with ⟨_, z, _⟩ | ⟨_, e2⟩
      · cases z
      · exact R.inj j k o1 o2 x e1 e2 e3 e4
  · rcases getE_set e with ⟨_, z, _⟩ | ⟨_, e⟩
    · cases z
    · exact n j o' e
theorem e_name {x : Str} (i : Nat) (hN : X.N[i]? = some x := by rfl) (hv : Vis X.env.scope x := by first | exact Or.inl rfl | exact Or.inr (Or.inl rfl) | exact Or.inr (Or.inr rfl))
    (hd : (x == ("__debug__" : Str)) = false := by decide) (hcd : (x == ("__classdict__" : Str)) = false := by decide) : EF X W (.Name x pos) (mName i) := fun J p g σ H R0 r hm Q hp => by
  unfold mName at hm
  split at hm
  · rename_i d e
    cases hm
    obtain ⟨v, h1, h2⟩ := R0.sv i d e
    exact of_pe (pv i hN hv hd hcd) ⟨v, h1, hp p H .refl R0 v h2⟩
  · rename_i o e
    cases hm
    obtain ⟨q, h1, R1, ad, rp⟩ := R0.thaw e
    exact of_pe (pv i hN hv hd hcd) ⟨_, h1, hp _ H ad R1 _ rp⟩
  · cases hm
theorem e_const {d : D} {v : V} {t : TE} (h : PE X e t) (ht : ∀ σ H Q, Q v H → t σ H Q) (hr : ∀ H, Rep X.K H v d) : EF X W e (ret d) := fun J p g σ H R0 r hm Q hp => by
  cases hm
  exact of_pe h (ht _ _ _ (hp p H .refl R0 v (hr _)))
theorem e_int {i : Int} {k} : EF X W (.Constant (.int i) k pos) (ret (.int i)) := e_const pe_int (fun _ _ _ h => h) fun _ => .int i
theorem e_str {i : Str} {k} : EF X W (.Constant (.str i) k pos) (ret (.str i)) := e_const pe_str (fun _ _ _ h => h) fun _ => .str i
theorem e_bool {i : Bool} {k} : EF X W (.Constant (.bool i) k pos) (ret (.bl i)) := e_const pe_bl (fun _ _ _ h => h) fun _ => .bl i
theorem e_globI {x : Str} {i : Int} {t : Tok} (hm : X.mg x = some (.int i t)) (hg : Gl X x := by rfl) (hd : (x == ("__debug__" : Str)) = false := by decide) : EF X W (.Name x pos) (ret (.int i)) := e_const (pe_glob (v := .int i) hg hm ⟨t, rfl⟩ hd) (fun _ _ _ h => h) fun _ => .int i
theorem e_globS {x : Str} {i : Str} {t : Tok} (hm : X.mg x = some (.str i t)) (hg : Gl X x := by rfl) (hd : (x == ("__debug__" : Str)) = false := by decide) : EF X W (.Name x pos) (ret (.str i)) := e_const (pe_glob (v := .str i) hg hm ⟨t, rfl⟩ hd) (fun _ _ _ h => h) fun _ => .str i
/-! ### operators by values -/
/-- what an operator's rule does on data -/
def OpS (K : PySem.W.Frag) (r2 : R2) (f : D → D → Option D) : Prop := ∀ J p g σ H v w x y z (Q : VK), Rl K J p g σ H → Rep K (del p H) v x → Rep K (del p H) w y → f x y = some z →
  (∀ p' H', Ad g σ p H g p' H' → Rl K J p' g σ H' → ∀ u, Rep K (del p' H') u z → Q u H') → r2 v w H Q
def mBin (f : D → D → Option D) (ma mb : M D) : M D := ma.bind fun x => mb.bind fun y => lift (f x y)
theorem e_bin {op : Operator} {r2 : R2} {f : D → D → Option D} {ma mb : M D} (ho : OpR X (binaryOp op) r2) (hs : OpS X.K r2 f) (ha : EF X W a ma) (hb : EF X W b mb) : EF X W (.BinOp a op b pos) (mBin f ma mb) := fun J p g σ H R0 r hm Q hp =>
  of_pe (pe_op ho semE semE) (ha.then R0 hm hp fun x g1 p1 H1 v ad1 R1 rv hm1 hp1 => hb.then R1 hm1 hp1 fun y g2 p2 H2 w ad2 R2 rw' hm2 hp2 => by
    obtain ⟨z, hz, hq⟩ := post_lift hm2 hp2 R2
    exact hs J p2 g2 σ H2 v w x y z Q R2 (rv.le ad2.le) rw' hz hq)
theorem e_cmp {op : CmpOp} {r2 : R2} {f : D → D → Option D} {ma mb : M D} (ho : OpR X (compareOp op) r2) (hs : OpS X.K r2 f) (ha : EF X W a ma) (hb : EF X W b mb) (hm : behindInMarks op b = false := by first | exact nomark _ | rfl) : EF X W (.Compare a [op] [b] pos) (mBin f ma mb) := fun J p g σ H R0 r hm' Q hp =>
  of_pe (pe_cmpR ho semE semE hm) (ha.then R0 hm' hp fun x g1 p1 H1 v ad1 R1 rv hm1 hp1 => hb.then R1 hm1 hp1 fun y g2 p2 H2 w ad2 R2 rw' hm2 hp2 => by
    obtain ⟨z, hz, hq⟩ := post_lift hm2 hp2 R2
    exact hs J p2 g2 σ H2 v w x y z Q R2 (rv.le ad2.le) rw' hz hq)
def asB : D → Option Bool
  | .bl b => some b
  | _ => none
/-- the outcome of a test that was told as data -/
def mTst (m : M D) : M Bool := m.bind fun d => lift (asB d)
theorem t_cmp {op : CmpOp} {r2 : R2} {f : D → D → Option D} {ma mb : M D} (ho : OpR X (compareOp op) r2) (hs : OpS X.K r2 f) (ha : EF X W a ma) (hb : EF X W b mb) (hm : behindInMarks op b = false := by first | exact nomark _ | rfl) : ET X W (.Compare a [op] [b] pos) (ma.bind fun x => mb.bind fun y => lift ((f x y).bind asB)) := fun J p g σ H R0 r hm' Q hp =>
  of_pt (pt_cmpR ho semE semE hm) (ha.then R0 hm' hp fun x g1 p1 H1 v ad1 R1 rv hm1 hp1 => hb.then R1 hm1 hp1 fun y g2 p2 H2 w ad2 R2 rw' hm2 hp2 => by
    cases e : f x y with
    | none =>
      rw [e] at hm2
      cases hm2
    | some z =>
      rw [e] at hm2
      cases z <;> first | (cases hm2; done) | skip
      rename_i b0
      obtain rfl : R.ok b0 g2 = r := Option.some.inj hm2
      exact hs J p2 g2 σ H2 v w x y _ _ R2 (rv.le ad2.le) rw' e fun p' H' ad R3 u ru => ⟨_, rep_bl ru, hp2 p' H' ad R3⟩)
theorem OpS.or {K : PySem.W.Frag} {r r' : R2} {f f' : D → D → Option D} (h : OpS K r f) (h' : OpS K r' f') : OpS K (fun x y H Q => r x y H Q ∨ r' x y H Q) (fun x y => (f x y).or (f' x y)) := fun J p g σ H v w x y z Q R0 rv rw' e q => by
  dsimp only at e
  cases e1 : f x y with
  | some z' =>
    rw [e1] at e
    cases e
    exact .inl (h J p g σ H v w x y _ Q R0 rv rw' e1 q)
  | none =>
    rw [e1] at e
    exact .inr (h' J p g σ H v w x y z Q R0 rv rw' e q)
section
variable {K : PySem.W.Frag}
def fI (C : Int → Int → Bool) (f : Int → Int → D) : D → D → Option D
  | .int i, .int j => if C i j then some (f i j) else none
  | _, _ => none
def fI0 (f : Int → Int → D) : D → D → Option D
  | .int i, .int j => some (f i j)
  | _, _ => none
theorem os_I {C : Int → Int → Prop} {c : Int → Int → Bool} {f : Int → Int → Int} (hc : ∀ i j, c i j = true → C i j) : OpS K (rI C fun i j => .int (f i j)) (fI c fun i j => .int (f i j)) := fun J p g σ H v w x y z Q R0 rv rw' e q => by
  cases x <;> first | (cases e; done) | skip
  cases y <;> first | (cases e; done) | skip
  cases rep_int rv
  cases rep_int rw'
  simp only [fI] at e
  split at e
  · rename_i h
    cases e
    exact ⟨_, _, rfl, rfl, hc _ _ h, q p H .refl R0 _ (.int _)⟩
  · cases e
theorem os_I0 {f : Int → Int → Int} : OpS K (rI0 fun i j => .int (f i j)) (fI0 fun i j => .int (f i j)) := fun J p g σ H v w x y z Q R0 rv rw' e q => by
  cases x <;> first | (cases e; done) | skip
  cases y <;> first | (cases e; done) | skip
  cases rep_int rv
  cases rep_int rw'
  cases e
  exact ⟨_, _, rfl, rfl, q p H .refl R0 _ (.int _)⟩
theorem os_IB {f : Int → Int → Bool} : OpS K (rI0 fun i j => .bl (f i j)) (fI0 fun i j => .bl (f i j)) := fun J p g σ H v w x y z Q R0 rv rw' e q => by
  cases x <;> first | (cases e; done) | skip
  cases y <;> first | (cases e; done) | skip
  cases rep_int rv
  cases rep_int rw'
  cases e
  exact ⟨_, _, rfl, rfl, q p H .refl R0 _ (.bl _)⟩
def fCat : D → D → Option D
  | .str i, .str j => if i.length + j.length ≤ sizeLine then some (.str (i ++ j)) else none
  | _, _ => none
theorem os_cat : OpS K (fun x y H Q => ∃ i j, x = .str i ∧ y = .str j ∧ i.length + j.length ≤ sizeLine ∧ Q (.str (i ++ j)) H) fCat := fun J p g σ H v w x y z Q R0 rv rw' e q => by
  cases x <;> first | (cases e; done) | skip
  cases y <;> first | (cases e; done) | skip
  cases rep_str rv
  cases rep_str rw'
  simp only [fCat] at e
  split at e
  · rename_i h
    cases e
    exact ⟨_, _, rfl, rfl, h, q p H .refl R0 _ (.str _)⟩
  · cases e
def fCatT : D → D → Option D
  | .tup xs, .tup ys => if xs ≠ [] ∧ xs.length + ys.length ≤ sizeLine then some (.tup (xs ++ ys)) else none
  | _, _ => none
theorem rep_tup {J : Hp} {v : V} {ds : List D} (h : Rep K J v (.tup ds)) : ∃ a vs, v = .ref a ∧ J a = some (.tup vs) ∧ Reps K J vs ds := by
  cases h with
  | tup s r => exact ⟨_, _, rfl, s, r⟩
theorem rep_lst {J : Hp} {v : V} {ds : List D} (h : Rep K J v (.lst ds)) : ∃ a vs, v = .ref a ∧ SqL K J a vs ∧ Reps K J vs ds := by
  cases h with
  | lst s r => exact ⟨_, _, rfl, s, r⟩
theorem st_del {p : Mt} {H : Hp} {a : Addr} {xs : List V} (h : del p H a = some (.tup xs)) : SqT K H a xs := .inl (.inl (del_of h))
theorem os_catT : OpS K (rCatT K) fCatT := fun J p g σ H v w x y z Q R0 rv rw' e q => by
  cases x <;> first | (cases e; done) | skip
  cases y <;> first | (cases e; done) | skip
  rename_i xs ys
  obtain ⟨a, vs, rfl, sa, ra⟩ := rep_tup rv
  obtain ⟨b, ws, rfl, sb, rb⟩ := rep_tup rw'
  simp only [fCatT] at e
  split at e
  · rename_i h
    cases e
    have la := ra.len
    have lb := rb.len
    refine ⟨a, b, vs, ws, rfl, rfl, st_del sa, st_del sb, fun z => ?_, by rw [la, lb]; exact h.2, fun z => ?_, fun z x hx => ?_⟩
    · rw [z] at la
      exact h.1 (List.eq_nil_of_length_eq_zero la.symm)
    · rw [z] at lb
      rw [List.eq_nil_of_length_eq_zero lb.symm, List.append_nil] at q
      exact q p H .refl R0 _ rv
    · obtain ⟨R1, ad, e1⟩ := R0.new (o := .tup (vs ++ ws)) hx
      exact q p _ ad R1 _ (.tup e1 ((ra.app rb).le ad.le))
  · cases e
/-! the data of plain kinds as the library tells them -/
mutual
def D.py : D → Option PyData
  | .non => some .none
  | .bl b => some (.bool b)
  | .int i => some (.int i)
  | .str x => some (.str x)
  | .lst xs => (D.pys xs).map .list
  | .tup xs => (D.pys xs).map .tuple
  | _ => none
def D.pys : List D → Option (List PyData)
  | [] => some []
  | d :: ds => match D.py d, D.pys ds with
    | some x, some r => some (x :: r)
    | _, _ => none
end
mutual
theorem Rep.dp {H : Hp} {p : Mt} : ∀ {d : D} {v : V} {x : PyData}, Rep K (del p H) v d → d.py = some x → Dp K H v x
  | .non, _, _, h, e => by cases h; simp only [D.py] at e; cases e; exact .non
  | .bl b, _, _, h, e => by cases h; simp only [D.py] at e; cases e; exact .bl b
  | .int b, _, _, h, e => by cases h; simp only [D.py] at e; cases e; exact .int b
  | .str b, _, _, h, e => by cases h; simp only [D.py] at e; cases e; exact .str b
  | .lst ds, _, _, h, e => by
    simp only [D.py] at e
    cases q : D.pys ds with
    | none => rw [q] at e; cases e
    | some r =>
      rw [q] at e
      cases e
      cases h with
      | lst s h => exact .lst (sl_of s) (Reps.dp h q)
  | .tup ds, _, _, h, e => by
    simp only [D.py] at e
    cases q : D.pys ds with
    | none => rw [q] at e; cases e
    | some r =>
      rw [q] at e
      cases e
      cases h with
      | tup s h => exact .tup (st_del s) (Reps.dp h q)
  | .dk _, _, _, _, e => by simp only [D.py] at e; cases e
  | .dt _, _, _, _, e => by simp only [D.py] at e; cases e
  | .ins _ _, _, _, _, e => by simp only [D.py] at e; cases e
  | .sx _ _, _, _, _, e => by simp only [D.py] at e; cases e
  | .vd _ _, _, _, _, e => by simp only [D.py] at e; cases e
  | .any, _, _, _, e => by simp only [D.py] at e; cases e
  | .cl _, _, _, _, e => by simp only [D.py] at e; cases e
theorem Reps.dp {H : Hp} {p : Mt} : ∀ {ds : List D} {vs : List V} {xs : List PyData}, Reps K (del p H) vs ds → D.pys ds = some xs → DpAll K H vs xs
  | [], _, _, h, e => by cases h; simp only [D.pys] at e; cases e; exact .nil
  | d :: ds, _, _, h, e => by
    cases h with
    | cons h1 h2 =>
      simp only [D.pys] at e
      cases q1 : d.py with
      | none => rw [q1] at e; cases e
      | some x =>
        cases q2 : D.pys ds with
        | none => rw [q1, q2] at e; cases e
        | some r =>
          rw [q1, q2] at e
          cases e
          exact .cons (Rep.dp h1 q1) (Reps.dp h2 q2)
end
def fEq (neg : Bool) (x y : D) : Option D := match x.py, y.py with
  | some d, some e => if SeqAt.shaped d && SeqAt.shaped e then some (.bl (if neg then !PyData.eqv d e else PyData.eqv d e)) else none
  | _, _ => none
theorem os_eq : OpS K (rEqD K) (fEq false) := fun J p g σ H v w x y z Q R0 rv rw' e q => by
  simp only [fEq] at e
  split at e
  · rename_i d1 d2 e1 e2
    split at e
    · rename_i h
      rw [Bool.and_eq_true] at h
      cases e
      exact ⟨_, _, rv.dp e1, rw'.dp e2, h.1, h.2, q p H .refl R0 _ (.bl _)⟩
    · cases e
  · cases e
theorem os_ne : OpS K (rNeD K) (fEq true) := fun J p g σ H v w x y z Q R0 rv rw' e q => by
  simp only [fEq] at e
  split at e
  · rename_i d1 d2 e1 e2
    split at e
    · rename_i h
      rw [Bool.and_eq_true] at h
      cases e
      exact ⟨_, _, rv.dp e1, rw'.dp e2, h.1, h.2, q p H .refl R0 _ (.bl _)⟩
    · cases e
  · cases e
end
end
end Mo
set_option Elab.async false
set_option linter.all false
set_option maxRecDepth 100000
set_option maxHeartbeats 4000000
/-! Mo, part four: and, or, not; tests; argument lists; displays; calls of built-ins; subscripts. -/
namespace Mo
open PySem PySem.Spec L2
section
variable {X : Cx} {W : WW} {e a b c : Expr} {es : List Expr} {pos ps : Pos} {α β : Type}
/-! ### and, or, not -/
def mAnd (ma mb : M D) : M D := ma.bind fun x => match x with
  | .bl true => mb
  | .bl false => ret (.bl false)
  | _ => bad
def mOr (ma mb : M D) : M D := ma.bind fun x => match x with
  | .bl false => mb
  | .bl true => ret (.bl true)
  | _ => bad
def fNot : D → Option D
  | .bl b => some (.bl (!b))
  | _ => none
def mNot (ma : M D) : M D := ma.bind fun x => lift (fNot x)
theorem e_one {op : BoolOp} {m : M D} (h : EF X W a m) : EF X W (.BoolOp op [a] pos) m := fun J p g σ H R0 r hm Q hp => of_pe (pe_one semE) (h J p g σ H R0 r hm Q hp)
theorem e_and {ma mb : M D} {rest : List Expr} (ha : EF X W a ma) (hb : EF X W (.BoolOp .And (b :: rest) pos) mb) : EF X W (.BoolOp .And (a :: b :: rest) pos) (mAnd ma mb) := fun J p g σ H R0 r hm Q hp =>
  of_pe (pe_and semE semE) (ha.then R0 hm hp fun x g1 p1 H1 v ad1 R1 rv hm1 hp1 => by
    cases x <;> first | (cases hm1; done) | skip
    rename_i k
    cases rep_bl rv
    cases k with
    | true => exact ⟨true, rfl, (if_pos rfl).mpr (hb J p1 g1 σ H1 R1 r hm1 Q hp1)⟩
    | false =>
      cases hm1
      exact ⟨false, rfl, (if_neg Bool.false_ne_true).mpr (hp1 p1 H1 .refl R1 _ (.bl _))⟩)
/-! ### tests -/
def truD : D → Option Bool
  | .non => some false
  | .bl b => some b
  | .int i => some (i != 0)
  | .str y => if y.length ≤ sizeLine then some ((y.length : Int) != 0) else none
  | .lst xs => some (!xs.isEmpty)
  | .tup xs => some (!xs.isEmpty)
  | _ => none
theorem truV {K : PySem.W.Frag} {p : Mt} {H : Hp} {v : V} {d : D} {k : Bool} (h : Rep K (del p H) v d) (e : truD d = some k) : TruV K v H k := by
  have lem : ∀ {vs : List V} {ds : List D}, Reps K (del p H) vs ds → (!ds.isEmpty) = !vs.isEmpty := fun r => by cases r <;> rfl
  cases h <;> simp only [truD] at e <;> first | (cases e; done) | skip
  · cases e; rfl
  · cases e; rfl
  · cases e; rfl
  · split at e
    · rename_i h
      cases e
      exact ⟨h, rfl⟩
    · cases e
  · rename_i s r
    cases e
    exact .inl ⟨_, sl_of s, lem r⟩
  · rename_i s r
    cases e
    exact .inr (.inl ⟨_, st_del s, lem r⟩)
def mTru (m : M D) : M Bool := m.bind fun d => lift (truD d)
theorem t_truth {m : M D} (h : EF X W e m) (he : ∀ whole, isTrue e X.env whole = (do let v ← whole; standAt e.pos; holding [v] (truthy v)) := by intro _; rfl) : ET X W e (mTru m) := fun J p g σ H R0 r hm Q hp =>
  of_pt (pt_truth semE he) (h.then R0 hm hp fun x g1 p1 H1 v ad1 R1 rv hm1 hp1 => by
    cases q : truD x with
    | none =>
      rw [q] at hm1
      cases hm1
    | some k =>
      rw [q] at hm1
      cases hm1
      exact ⟨k, truV rv q, hp1 p1 H1 .refl R1⟩)
def mtNot (m : M Bool) : M Bool := m.bind fun b => ret (!b)
theorem t_not {m : M Bool} (h : ET X W a m) : ET X W (.UnaryOp .Not a pos) (mtNot m) := fun J p g σ H R0 r hm Q hp =>
  of_pt (pt_not semT) (h.then R0 hm hp fun x g1 p1 H1 ad1 R1 hm1 hp1 => by
    cases hm1
    exact hp1 p1 H1 .refl R1)
def mtAnd (ma mb : M Bool) : M Bool := ma.bind fun x => match x with
  | true => mb
  | false => ret false
def mtOr (ma mb : M Bool) : M Bool := ma.bind fun x => match x with
  | false => mb
  | true => ret true
theorem w_and1 {m : M Bool} (h : ET X W a m) : EW X W (.BoolOp .And [a] pos) m := fun J p g σ H R0 r hm Q hp => of_pw (pw_and1 semT) (h J p g σ H R0 r hm Q hp)
theorem w_or1 {m : M Bool} (h : ET X W a m) : EW X W (.BoolOp .Or [a] pos) m := fun J p g σ H R0 r hm Q hp => of_pw (pw_or1 semT) (h J p g σ H R0 r hm Q hp)
theorem w_and {ma mb : M Bool} {rest : List Expr} (ha : ET X W a ma) (hb : EW X W (.BoolOp .And (b :: rest) pos) mb) : EW X W (.BoolOp .And (a :: b :: rest) pos) (mtAnd ma mb) := fun J p g σ H R0 r hm Q hp =>
  of_pw (pw_and semT semW) (ha.then R0 hm hp fun x g1 p1 H1 ad1 R1 hm1 hp1 => by
    cases x with
    | true => exact (if_pos rfl).mpr (hb J p1 g1 σ H1 R1 r hm1 Q hp1)
    | false =>
      cases hm1
      exact (if_neg Bool.false_ne_true).mpr (hp1 p1 H1 .refl R1))
theorem w_or {ma mb : M Bool} {rest : List Expr} (ha : ET X W a ma) (hb : EW X W (.BoolOp .Or (b :: rest) pos) mb) : EW X W (.BoolOp .Or (a :: b :: rest) pos) (mtOr ma mb) := fun J p g σ H R0 r hm Q hp =>
  of_pw (pw_or semT semW) (ha.then R0 hm hp fun x g1 p1 H1 ad1 R1 hm1 hp1 => by
    cases x with
    | false => exact (if_neg Bool.false_ne_true).mpr (hb J p1 g1 σ H1 R1 r hm1 Q hp1)
    | true =>
      cases hm1
      exact (if_pos rfl).mpr (hp1 p1 H1 .refl R1))
theorem t_w {m : M Bool} (h : EW X W e m) : ET X W e m := fun J p g σ H R0 r hm Q hp => of_pt (PW.pt semW) (h J p g σ H R0 r hm Q hp)
def mIf {γ : Type} (mc : M Bool) (ma mb : M γ) : M γ := mc.bind fun x => match x with
  | true => ma
  | false => mb
theorem e_if {mc : M Bool} {ma mb : M D} (hc : ET X W c mc) (ha : EF X W a ma) (hb : EF X W b mb) : EF X W (.IfExp c a b pos) (mIf mc ma mb) := fun J p g σ H R0 r hm Q hp =>
  of_pe (pe_ifExp semT semE semE) (hc.then R0 hm hp fun x g1 p1 H1 ad1 R1 hm1 hp1 => by
    cases x with
    | true => exact (if_pos rfl).mpr (ha J p1 g1 σ H1 R1 r hm1 Q hp1)
    | false => exact (if_neg Bool.false_ne_true).mpr (hb J p1 g1 σ H1 R1 r hm1 Q hp1))
/-! ### unary operators -/
def fNeg : D → Option D
  | .int i => some (.int (-i))
  | _ => none
def mNeg (m : M D) : M D := m.bind fun x => lift (fNeg x)
/-! ### argument lists -/
def mCons (m : M D) (ms : M (List D)) : M (List D) := m.bind fun d => ms.bind fun ds => ret (d :: ds)
theorem a_nil : EA X W [] (ret []) := fun J p g σ H R0 r hm Q hp => by
  cases hm
  exact of_pa pa_nil (hp p H .refl R0 [] .nil)
theorem a_cons {m : M D} {ms : M (List D)} (h : EF X W e m) (hr : EA X W es ms) (hs : starEach (e :: es) X.env = (false, eval e X.env) :: starEach es X.env := by rfl) : EA X W (e :: es) (mCons m ms) := fun J p g σ H R0 r hm Q hp =>
  of_pa (pa_cons semE semA hs) (h.then R0 hm hp fun x g1 p1 H1 v ad1 R1 rv hm1 hp1 => hr.then R1 hm1 hp1 fun ds g2 p2 H2 vs ad2 R2 rs hm2 hp2 => by
    cases hm2
    exact hp2 p2 H2 .refl R2 _ (.cons (rv.le ad2.le) rs))
/-! ### displays -/
def mTup (ms : M (List D)) : M D := ms.bind fun ds => if ds.length ≤ sizeLine then ret (.tup ds) else bad
theorem e_tup {ms : M (List D)} {k : Nat} (h : EA X W es ms) : EF X W (.Tuple es k pos) (mTup ms) := fun J p g σ H R0 r hm Q hp =>
  of_pe (pe_tup semA) (h.then R0 hm hp fun ds g1 p1 H1 vs ad1 R1 rs hm1 hp1 => by
    split at hm1
    · rename_i hz
      cases hm1
      refine ⟨by rw [rs.len]; exact hz, fun l hl => ?_⟩
      obtain ⟨R2, ad2, e2⟩ := R1.new (o := .tup vs) hl
      exact hp1 p1 _ ad2 R2 _ (.tup e2 (rs.le ad2.le))
    · cases hm1)
def mLst (ms : M (List D)) : M O := ms.bind fun ds => if ds.length ≤ sizeLine then ret (.l ds) else bad
theorem eo_lst {ms : M (List D)} (h : EA X W es ms) : EO X W (.List es pos) (mLst ms) := fun J p g σ H R0 r hm Q hp =>
  of_pe (pe_lst semA) (h.then R0 hm hp fun ds g1 p1 H1 vs ad1 R1 rs hm1 hp1 => by
    split at hm1
    · rename_i hz
      cases hm1
      refine ⟨by rw [rs.len]; exact hz, fun l hl => ?_⟩
      obtain ⟨R2, ad2, m2, j2, n2, le2⟩ := R1.hide (o := .lst vs) hl
      exact hp1 (p1.add l) _ ad2 R2 l m2 (ad1.gone hl) n2 ⟨vs, upd_same, rs.le le2⟩
    · cases hm1)
/-! ### calls of built-ins -/
/-- what a call's rule does on data -/
def CS (K : PySem.W.Frag) (rr : List V → Hp → VK → Prop) (f : List D → Option D) : Prop := ∀ J p g σ H vs ds z (Q : VK), Rl K J p g σ H → Reps K (del p H) vs ds → f ds = some z →
  (∀ p' H', Ad g σ p H g p' H' → Rl K J p' g σ H' → ∀ u, Rep K (del p' H') u z → Q u H') → rr vs H Q
def CO (K : PySem.W.Frag) (rr : List V → Hp → VK → Prop) (f : List D → Option O) : Prop := ∀ J p g σ H vs ds z (Q : VK), Rl K J p g σ H → Reps K (del p H) vs ds → f ds = some z →
  (∀ p' H', Ad g σ p H g p' H' → Rl K J p' g σ H' → ∀ q, q ∈ p'.o → H q = none → NoSl g σ q → OwnAt K (del p' H') H' q z → Q (.ref q) H') → rr vs H Q
theorem CS.or {K : PySem.W.Frag} {r r' : List V → Hp → VK → Prop} {f f' : List D → Option D} (h : CS K r f) (h' : CS K r' f') : CS K (fun xs H Q => r xs H Q ∨ r' xs H Q) (fun xs => (f xs).or (f' xs)) := fun J p g σ H vs ds z Q R0 rs e q => by
  dsimp only at e
  cases e1 : f ds with
  | some z' =>
    rw [e1] at e
    cases e
    exact .inl (h J p g σ H vs ds _ Q R0 rs e1 q)
  | none =>
    rw [e1] at e
    exact .inr (h' J p g σ H vs ds z Q R0 rs e q)
def mCall (f : List D → Option D) (ms : M (List D)) : M D := ms.bind fun ds => lift (f ds)
def mCallO (f : List D → Option O) (ms : M (List D)) : M O := ms.bind fun ds => lift (f ds)
section
variable {x : Str} {id : String} {rr : List V → Hp → VK → Prop} {f : List D → Option D} {fo : List D → Option O} {ms : M (List D)}
theorem e_blt (hc : CallR X (.builtin id) rr) (hs : CS X.K rr f) (hm : X.mg x = none) (ha : EA X W (e :: es) ms) (hv : bootBuiltins x = some (.builtin id) := by decide +kernel) (hg : Gl X x := by rfl)
    (hn : x ≠ "__name__" := by decide) (hdb : (x == ("__debug__" : Str)) = false := by decide) (he : starEach (e :: es) X.env = (false, eval e X.env) :: starEach es X.env := by rfl) (hpl : (backTo pos (starEach es X.env)).any (·.1) = false := by rfl) :
    EF X W (.Call (.Name x ps) (e :: es) [] pos) (mCall f ms) := fun J p g σ H R0 r hm' Q hp =>
  of_pe (pe_callB hc hg hm hv semA hn hdb he hpl) (ha.then R0 hm' hp fun ds g1 p1 H1 vs ad1 R1 rs hm1 hp1 => by
    obtain ⟨z, hz, hq⟩ := post_lift hm1 hp1 R1
    exact hs J p1 g1 σ H1 vs ds z Q R1 rs hz hq)
theorem post_liftO {J : Hp} {p p0 : Mt} {g g0 : G} {σ : St} {H H0 : Hp} {o : Option O} {r : R O} (hm : lift o g = some r) {Q : VK} (hp : Post X.K W J p g σ H r (qO X.K H0 σ Q)) (ad : Ad g0 σ p0 H0 g p H) :
    ∃ d, o = some d ∧ (∀ p' H', Ad g σ p H g p' H' → Rl X.K J p' g σ H' → ∀ q, q ∈ p'.o → H q = none → NoSl g σ q → OwnAt X.K (del p' H') H' q d → Q (.ref q) H') := by
  cases o with
  | none => cases hm
  | some d =>
    cases hm
    exact ⟨d, rfl, fun p' H' a R q h1 h2 h3 h4 => hp p' H' a R q h1 (ad.gone h2) h3 h4⟩
theorem e_ty (hc : CallR X (.type id) rr) (hs : CS X.K rr f) (hm : X.mg x = none) (ha : EA X W (e :: es) ms) (hv : bootBuiltins x = some (.type id) := by decide +kernel) (hg : Gl X x := by rfl)
    (hn : x ≠ "__name__" := by decide) (hdb : (x == ("__debug__" : Str)) = false := by decide) (he : starEach (e :: es) X.env = (false, eval e X.env) :: starEach es X.env := by rfl) (hpl : (backTo pos (starEach es X.env)).any (·.1) = false := by rfl) :
    EF X W (.Call (.Name x ps) (e :: es) [] pos) (mCall f ms) := fun J p g σ H R0 r hm' Q hp =>
  of_pe (pe_callTy hc hg hm hv semA hn hdb he hpl) (ha.then R0 hm' hp fun ds g1 p1 H1 vs ad1 R1 rs hm1 hp1 => by
    obtain ⟨z, hz, hq⟩ := post_lift hm1 hp1 R1
    exact hs J p1 g1 σ H1 vs ds z Q R1 rs hz hq)
end
end
end Mo
set_option Elab.async false
set_option linter.all false
set_option maxRecDepth 100000
set_option maxHeartbeats 4000000
/-! Mo, part five: statements, loops. -/
namespace Mo
open PySem PySem.Spec L2
inductive Oc where
  | nx | rt (d : D) | rto (o : O) | bk | ct
/-- from one state to a later one -/
structure As (J : Hp) (p : Mt) (H : Hp) (p' : Mt) (H' : Hp) : Prop where
  dd : p'.d = p.d
  le : Le (del p H) (del p' H')
  ex : ∀ a ∈ p.o, J a ≠ none → a ∈ p'.o
  th : ∀ a, H a ≠ none → H' a ≠ none
theorem As.refl {J : Hp} {p : Mt} {H : Hp} : As J p H p H := ⟨rfl, .refl _, fun _ h _ => h, fun _ h => h⟩
theorem As.trans {J : Hp} {p p1 p2 : Mt} {H H1 H2 : Hp} (a : As J p H p1 H1) (b : As J p1 H1 p2 H2) : As J p H p2 H2 :=
  ⟨b.dd.trans a.dd, a.le.trans b.le, fun x h n => b.ex x (a.ex x h n) n, fun x n => b.th x (a.th x n)⟩
theorem Ad.as {K : PySem.W.Frag} {J : Hp} {g g' : G} {σ : St} {p p' : Mt} {H H' : Hp} (a : Ad g σ p H g' p' H') (R : Rl K J p g σ H) : As J p H p' H' :=
  ⟨a.dd, a.le, fun x h n => (a.ex x h fun i o e z => by
    obtain ⟨q, h1, _, h3, _⟩ := R.so i o e
    rw [h1] at z
    cases z
    exact n h3).1, a.th⟩
def PostS (K : PySem.W.Frag) (W : WW) (J : Hp) (p : Mt) (H : Hp) (r : R Oc) (Dd : Ends) : Prop := match r with
  | .ok .nx g' => ∀ σ' p' H', As J p H p' H' → Rl K J p' g' σ' H' → Dd.nx σ' H'
  | .ok .bk g' => ∀ σ' p' H', As J p H p' H' → Rl K J p' g' σ' H' → Dd.bk σ' H'
  | .ok .ct g' => ∀ σ' p' H', As J p H p' H' → Rl K J p' g' σ' H' → Dd.ct σ' H'
  | .ok (.rt d) g' => ∀ σ' p' H' v, As J p H p' H' → Rl K J p' g' σ' H' → Rep K (del p' H') v d → Dd.rt v H'
  | .ok (.rto o) g' => ∀ σ' p' H' q, As J p H p' H' → Rl K J p' g' σ' H' → q ∈ p'.o → J q = none → NoSl g' σ' q → OwnAt K (del p' H') H' q o → Dd.rt (.ref q) H'
  | .ex E g' => ∀ σ' p' H', As J p H p' H' → Rl K J p' g' σ' H' → W E g' p' σ' H'
theorem PostS.adv {K : PySem.W.Frag} {W : WW} {J : Hp} {p p1 : Mt} {H H1 : Hp} {r : R Oc} {Dd : Ends} (h : PostS K W J p H r Dd) (a : As J p H p1 H1) : PostS K W J p1 H1 r Dd := by
  cases r with
  | ex E g => exact fun σ' p' H' b => h σ' p' H' (a.trans b)
  | ok o g =>
    cases o with
    | nx => exact fun σ' p' H' b => h σ' p' H' (a.trans b)
    | bk => exact fun σ' p' H' b => h σ' p' H' (a.trans b)
    | ct => exact fun σ' p' H' b => h σ' p' H' (a.trans b)
    | rt d => exact fun σ' p' H' v b => h σ' p' H' v (a.trans b)
    | rto d => exact fun σ' p' H' v b => h σ' p' H' v (a.trans b)
def SS (X : Cx) (W : WW) (st : Stmt) (m : M Oc) : Prop := ∀ J p g σ H, Rl X.K J p g σ H → ∀ r, m g = some r → ∀ Dd : Ends, PostS X.K W J p H r Dd → SemS X st Dd σ H
def SB (X : Cx) (W : WW) (st : List Stmt) (m : M Oc) : Prop := ∀ J p g σ H, Rl X.K J p g σ H → ∀ r, m g = some r → ∀ Dd : Ends, PostS X.K W J p H r Dd → SemSs X st Dd σ H
/-- one behind the other -/
def seq (m k : M Oc) : M Oc := fun g => match m g with
  | some (.ok .nx g') => k g'
  | r => r
section
variable {X : Cx} {W : WW} {e a b c : Expr} {es : List Expr} {st : Stmt} {sts th el body : List Stmt} {pos ps : Pos}
theorem b_nil : SB X W [] (ret .nx) := fun J p g σ H R0 r hm Dd hp => by
  cases hm
  exact of_pss pss_nil (hp σ p H .refl R0)
theorem b_cons {m k : M Oc} (h : SS X W st m) (hr : SB X W sts k) : SB X W (st :: sts) (seq m k) := fun J p g σ H R0 r hm Dd hp =>
  of_pss (pss_cons semS semSs) (by
    unfold seq at hm
    cases e1 : m g with
    | none => rw [e1] at hm; cases hm
    | some r1 =>
      rw [e1] at hm
      refine h J p g σ H R0 r1 e1 _ ?_
      cases r1 with
      | ex E g1 =>
        cases hm
        exact hp
      | ok o g1 =>
        cases o with
        | nx => exact fun σ' p' H' a1 R1 => hr J p' g1 σ' H' R1 r hm Dd (hp.adv a1)
        | bk =>
          cases hm
          exact hp
        | ct =>
          cases hm
          exact hp
        | rt d =>
          cases hm
          exact hp
        | rto d =>
          cases hm
          exact hp)
/-- what comes of an expression's error in a statement -/
theorem post_s {α : Type} {J : Hp} {p : Mt} {g : G} {σ : St} {H : Hp} {m : M α} {k : α → M Oc} {r : R Oc} {Dd : Ends} (R0 : Rl X.K J p g σ H) (hm : m.bind k g = some r) (hp : PostS X.K W J p H r Dd) : ∃ r1, m g = some r1 ∧ (∀ q : α → G → Mt → Hp → Prop, (∀ a g1 p1 H1, r1 = .ok a g1 → Ad g σ p H g1 p1 H1 → Rl X.K J p1 g1 σ H1 → k a g1 = some r → PostS X.K W J p1 H1 r Dd → q a g1 p1 H1) → Post X.K W J p g σ H r1 q) := by
  unfold M.bind at hm
  cases e1 : m g with
  | none => rw [e1] at hm; cases hm
  | some r1 =>
    refine ⟨r1, rfl, fun q hq => ?_⟩
    cases r1 with
    | ok a1 g1 =>
      rw [e1] at hm
      exact fun p1 H1 ad R1 => hq a1 g1 p1 H1 rfl ad R1 hm (hp.adv (ad.as R0))
    | ex E g1 =>
      rw [e1] at hm
      cases hm
      exact fun p1 H1 ad R1 => hp σ p1 H1 (ad.as R0) R1
section
variable {K : PySem.W.Frag} {J : Hp} {p : Mt} {g : G} {σ : St} {H : Hp} {i : Nat} {v : V} {d : D}
theorem getV_set {l : List (Option V)} {i j : Nat} {x : Option V} : (l.set i x)[j]? = if j = i ∧ i < l.length then some x else l[j]? := by
  by_cases e : j = i
  · subst e
    by_cases hl : j < l.length
    · rw [List.getElem?_set_self hl, if_pos ⟨rfl, hl⟩]
    · rw [if_neg (fun z => hl z.2), List.getElem?_eq_none (by rw [List.length_set]; omega), List.getElem?_eq_none (by omega)]
  · rw [List.getElem?_set_ne (Ne.symm e), if_neg fun z => e z.1]
theorem Rl.setV (R : Rl K J p g σ H) (rv : Rep K (del p H) v d) : Rl K J p (g.set i (.v d)) (σ.set i (some v)) H := by
  have hl : g.s.length = σ.length := R.len
  refine ⟨?_, R.old, R.dice, R.dno, R.lv, R.fz, fun j x e => ?_, fun j x e => ?_, fun j e => ?_, fun j k o1 o2 q e1 e2 e3 e4 => ?_⟩
  · show (g.s.set i _).length = (σ.set i _).length
    rw [List.length_set, List.length_set, hl]
  · rw [getV_set]
    rcases getE_set e with ⟨rfl, e2, e3⟩ | ⟨ne, e⟩
    · cases e2
      rw [if_pos ⟨rfl, hl ▸ e3⟩]
      exact ⟨v, rfl, rv⟩
    · rw [if_neg fun z => ne z.1]
      exact R.sv j x e
  · rw [getV_set]
    rcases getE_set e with ⟨rfl, e2, e3⟩ | ⟨ne, e⟩
    · cases e2
    · rw [if_neg fun z => ne z.1]
      exact R.so j x e
  · rw [getV_set]
    rcases getE_set e with ⟨rfl, e2, e3⟩ | ⟨ne, e⟩
    · cases e2
    · rw [if_neg fun z => ne z.1]
      exact R.sd j e
  · rcases getE_set e1 with ⟨_, z, _⟩ | ⟨n1, e1⟩
    · cases z
    · rcases getE_set e2 with ⟨_, z, _⟩ | ⟨n2, e2⟩
      · cases z
      · rw [getV_set, if_neg fun z => n1 z.1] at e3
        rw [getV_set, if_neg fun z => n2 z.1] at e4
        exact R.inj j k o1 o2 q e1 e2 e3 e4
theorem Rl.setO {q : Addr} {o : O} (R : Rl K J p g σ H) (m : q ∈ p.o) (jn : J q = none) (n : NoSl g σ q) (ow : OwnAt K (del p H) H q o) : Rl K J p (g.set i (.o o)) (σ.set i (some (.ref q))) H := by
  have hl : g.s.length = σ.length := R.len
  refine ⟨?_, R.old, R.dice, R.dno, R.lv, R.fz, fun j x e => ?_, fun j x e => ?_, fun j e => ?_, fun j k o1 o2 q' e1 e2 e3 e4 => ?_⟩
  · show (g.s.set i _).length = (σ.set i _).length
    rw [List.length_set, List.length_set, hl]
  · rw [getV_set]
    rcases getE_set e with ⟨rfl, e2, e3⟩ | ⟨ne, e⟩
    · cases e2
    · rw [if_neg fun z => ne z.1]
      exact R.sv j x e
  · rw [getV_set]
    rcases getE_set e with ⟨rfl, e2, e3⟩ | ⟨ne, e⟩
    · cases e2
      rw [if_pos ⟨rfl, hl ▸ e3⟩]
      exact ⟨q, rfl, m, jn, ow⟩
    · rw [if_neg fun z => ne z.1]
      exact R.so j x e
  · rw [getV_set]
    rcases getE_set e with ⟨rfl, e2, e3⟩ | ⟨ne, e⟩
    · cases e2
    · rw [if_neg fun z => ne z.1]
      exact R.sd j e
  · rcases getE_set e1 with ⟨i1, z1, l1⟩ | ⟨n1, e1⟩
    · rcases getE_set e2 with ⟨i2, z2, l2⟩ | ⟨n2, e2⟩
      · rw [i1, i2]
      · rw [getV_set, if_pos ⟨i1, hl ▸ l1⟩] at e3
        rw [getV_set, if_neg fun z => n2 z.1] at e4
        cases e3
        exact absurd e4 (n k o2 e2)
    · rw [getV_set, if_neg fun z => n1 z.1] at e3
      rcases getE_set e2 with ⟨i2, z2, l2⟩ | ⟨n2, e2⟩
      · rw [getV_set, if_pos ⟨i2, hl ▸ l2⟩] at e4
        cases e4
        exact absurd e3 (n j o1 e1)
      · rw [getV_set, if_neg fun z => n2 z.1] at e4
        exact R.inj j k o1 o2 q' e1 e2 e3 e4
end
/-! ### x = e -/
def mSet (i : Nat) (m : M D) : M Oc := m.bind fun d g => some (.ok .nx (g.set i (.v d)))
def mSetO (i : Nat) (m : M O) : M Oc := m.bind fun d g => some (.ok .nx (g.set i (.o d)))
section
variable {x : Str} {px : Pos}
theorem s_set {m : M D} (i : Nat) (nd : X.N.Nodup) (h : EF X W e m) (hi : X.N[i]? = some x := by rfl) (hx : Loc X.env.scope x := by first | exact Or.inl rfl | exact Or.inr rfl)
    (hs : swapsWith e (some (.Name x px)) pos.line X.env = pure false := by rfl) (hf : X.fn x = true ∨ X.env.scope.names.lookup x = some .local := by first | exact .inl rfl | exact .inr rfl) : SS X W (.Assign [.Name x px] e pos) (mSet i m) := fun J p g σ H R0 r hm Dd hp => by
  obtain ⟨r1, e1, hq⟩ := post_s R0 hm hp
  refine of_ps (ps_set (i := i) nd hi hx semE hs hf) (h J p g σ H R0 r1 e1 _ (hq _ fun d g1 p1 H1 er ad R1 hk hp1 v rv => ?_))
  cases hk
  exact hp1 _ p1 H1 .refl (R1.setV rv)
theorem s_setO {m : M O} (i : Nat) (nd : X.N.Nodup) (h : EO X W e m) (hi : X.N[i]? = some x := by rfl) (hx : Loc X.env.scope x := by first | exact Or.inl rfl | exact Or.inr rfl)
    (hs : swapsWith e (some (.Name x px)) pos.line X.env = pure false := by rfl) (hf : X.fn x = true ∨ X.env.scope.names.lookup x = some .local := by first | exact .inl rfl | exact .inr rfl) : SS X W (.Assign [.Name x px] e pos) (mSetO i m) := fun J p g σ H R0 r hm Dd hp => by
  obtain ⟨r1, e1, hq⟩ := post_s R0 hm hp
  refine of_ps (ps_set (i := i) nd hi hx semE hs hf) (h J p g σ H R0 r1 e1 _ (hq _ fun d g1 p1 H1 er ad R1 hk hp1 q h1 h2 h3 h4 => ?_))
  cases hk
  exact hp1 _ p1 H1 .refl (R1.setO h1 (R0.jn h2) h3 h4)
end
/-! ### return, if, pass, break, continue -/
def mRet (m : M D) : M Oc := m.bind fun d => ret (.rt d)
def mRetO (m : M O) : M Oc := m.bind fun d => ret (.rto d)
theorem s_ret {m : M D} (h : EF X W e m) : SS X W (.Return (some e) pos) (mRet m) := fun J p g σ H R0 r hm Dd hp => by
  obtain ⟨r1, e1, hq⟩ := post_s R0 hm hp
  refine of_ps (ps_ret semE) (h J p g σ H R0 r1 e1 _ (hq _ fun d g1 p1 H1 er ad R1 hk hp1 v rv => ?_))
  cases hk
  exact hp1 _ p1 H1 v .refl R1 rv
theorem s_retO {m : M O} (h : EO X W e m) : SS X W (.Return (some e) pos) (mRetO m) := fun J p g σ H R0 r hm Dd hp => by
  obtain ⟨r1, e1, hq⟩ := post_s R0 hm hp
  refine of_ps (ps_ret semE) (h J p g σ H R0 r1 e1 _ (hq _ fun d g1 p1 H1 er ad R1 hk hp1 q h1 h2 h3 h4 => ?_))
  cases hk
  exact hp1 _ p1 H1 q .refl R1 h1 (R0.jn h2) h3 h4
theorem s_if {mc : M Bool} {mt me : M Oc} (hc : ET X W c mc) (ht : SB X W th mt) (he : SB X W el me) : SS X W (.If c th el pos) (mIf mc mt me) := fun J p g σ H R0 r hm Dd hp => by
  obtain ⟨r1, e1, hq⟩ := post_s R0 hm hp
  refine of_ps (ps_if semT semSs semSs) (hc J p g σ H R0 r1 e1 _ (hq _ fun d g1 p1 H1 er ad R1 hk hp1 => ?_))
  unfold qT
  cases d with
  | true => exact iteT (ht J p1 g1 σ H1 R1 r hk Dd hp1)
  | false => exact iteF (he J p1 g1 σ H1 R1 r hk Dd hp1)
theorem s_break : SS X W (.Break pos) (ret .bk) := fun J p g σ H R0 r hm Dd hp => by
  cases hm
  exact of_ps ps_break (hp σ p H .refl R0)
/-- a statement that no way reaches -/
theorem s_never : SS X W st bad := fun J p g σ H R0 r hm Dd hp => by cases hm
/-! ### loops -/
structure SemI (X : Cx) (tg it : Expr) (σ : St) (H : Hp) (Q : It → Hp → Prop) : Prop where
  run : ∀ (pins : List (Addr × Obj)) (s : Shared), Inv X pins σ H s → wpAny (model X.prog X.w) X.A (eval it X.env) (fun v s1 => wpAny (model X.prog X.w) X.A (pyIter v) (PIE X pins σ tg Q) X.xe s1) X.xe s
theorem semI {tg it : Expr} : PI X tg it (SemI X tg it) := ⟨fun pins s _ _ _ I h => h.run pins s I⟩
theorem of_pi {tg it : Expr} {t : TI} {σ : St} {H : Hp} {Q : It → Hp → Prop} (h : PI X tg it t) (q : t σ H Q) : SemI X tg it σ H Q := ⟨fun pins s I => h.run pins s σ H Q I q⟩
/-- storing into a target -/
structure SemG (X : Cx) (tg : Expr) (v : V) (σ : St) (H : Hp) (Q : St → Hp → Prop) : Prop where
  run : ∀ (pins : List (Addr × Obj)) (s : Shared) (u : Value), Inv X pins σ H s → RelV v u → wpAny (model X.prog X.w) X.A (assign tg X.env u) (fun _ s' => ∃ σ' H', Inv X pins σ' H' s' ∧ Q σ' H') X.xe s
theorem semG {tg : Expr} : PG X tg (SemG X tg) := ⟨fun pins s _ _ _ u _ I r h => h.run pins s u I r⟩
theorem of_pg {tg : Expr} {t : TG} {v : V} {σ : St} {H : Hp} {Q : St → Hp → Prop} (h : PG X tg t) (q : t v σ H Q) : SemG X tg v σ H Q := ⟨fun pins s u I r => h.run pins s σ H v u Q I r q⟩
/-- from slots to slots: but for the places vs nothing is otherwise -/
structure Same (vs : List Nat) (g : G) (σ : St) (g' : G) (σ' : St) : Prop where
  at_ : ∀ i, i ∉ vs → σ'[i]? = σ[i]?
  len : σ'.length = σ.length
  sl : ∀ a, NoSl g σ a → NoSl g' σ' a
theorem Same.refl {vs : List Nat} {g : G} {σ : St} : Same vs g σ g σ := ⟨fun _ _ => rfl, rfl, fun _ h => h⟩
theorem Same.trans {vs : List Nat} {g g1 g2 : G} {σ σ1 σ2 : St} (a : Same vs g σ g1 σ1) (b : Same vs g1 σ1 g2 σ2) : Same vs g σ g2 σ2 := ⟨fun i h => (b.at_ i h).trans (a.at_ i h), b.len.trans a.len, fun x h => b.sl x (a.sl x h)⟩
theorem Same.mono {vs ws : List Nat} {g g1 : G} {σ σ1 : St} (a : Same vs g σ g1 σ1) (h : ∀ i ∈ vs, i ∈ ws) : Same ws g σ g1 σ1 := ⟨fun i n => a.at_ i fun m => n (h i m), a.len, a.sl⟩
def ES (X : Cx) (vs : List Nat) (tg : Expr) (f : D → G → Option G) : Prop := ∀ J p g σ H v d g', Rl X.K J p g σ H → Rep X.K (del p H) v d → f d g = some g' → ∀ Q : St → Hp → Prop, (∀ σ', Same vs g σ g' σ' → Rl X.K J p g' σ' H → Q σ' H) → SemG X tg v σ H Q
def stName (i : Nat) : D → G → Option G := fun d g => some (g.set i (.v d))
theorem g_name {x : Str} {px : Pos} (i : Nat) (nd : X.N.Nodup) (hi : X.N[i]? = some x := by rfl) (hx : Loc X.env.scope x := by first | exact Or.inl rfl | exact Or.inr rfl) (hf : X.fn x = true ∨ X.env.scope.names.lookup x = some .local := by first | exact .inl rfl | exact .inr rfl) : ES X [i] (.Name x px) (stName i) := fun J p g σ H v d g' R0 rv e Q hQ => by
  cases e
  refine of_pg (pg_name nd hi hx hf) (hQ _ ⟨fun j n => ?_, List.length_set .., fun a n j o e1 e2 => ?_⟩ (R0.setV rv))
  · rw [getV_set, if_neg fun z => n (by rw [z.1]; exact List.mem_singleton_self _)]
  · rcases getE_set e1 with ⟨_, z, _⟩ | ⟨n1, e1⟩
    · cases z
    · rw [getV_set, if_neg fun z => n1 z.1] at e2
      exact n j o e1 e2
def stNil : List D → G → Option G := fun ds g => match ds with
  | [] => some g
  | _ => none
def stCons (f : D → G → Option G) (r : List D → G → Option G) : List D → G → Option G := fun ds g => match ds with
  | [] => none
  | d :: ds => (f d g).bind (r ds)
structure SemGs (X : Cx) (ts : List Expr) (vs : List V) (σ : St) (H : Hp) (Q : St → Hp → Prop) : Prop where
  run : ∀ (pins : List (Addr × Obj)) (s : Shared) (us : List Value), Inv X pins σ H s → Vals vs us → wpAny (model X.prog X.w) X.A (assignInOrder ((assignEach ts X.env).map (·.2)) us) (fun _ s' => ∃ σ' H', Inv X pins σ' H' s' ∧ Q σ' H') X.xe s
theorem semGs {ts : List Expr} : PGs X ts (SemGs X ts) := ⟨fun pins s _ _ _ us _ I r h => h.run pins s us I r⟩
theorem of_pgs {ts : List Expr} {t : TGs} {vs : List V} {σ : St} {H : Hp} {Q : St → Hp → Prop} (h : PGs X ts t) (q : t vs σ H Q) : SemGs X ts vs σ H Q := ⟨fun pins s us I r => h.run pins s σ H vs us Q I r q⟩
def ESs (X : Cx) (is : List Nat) (ts : List Expr) (f : List D → G → Option G) : Prop := ∀ J p g σ H vs ds g', Rl X.K J p g σ H → Reps X.K (del p H) vs ds → f ds g = some g' → ∀ Q : St → Hp → Prop, (∀ σ', Same is g σ g' σ' → Rl X.K J p g' σ' H → Q σ' H) → SemGs X ts vs σ H Q
theorem gs_nil : ESs X [] [] stNil := fun J p g σ H vs ds g' R0 rs e Q hQ => by
  cases rs with
  | nil =>
    cases e
    exact of_pgs pgs_nil ⟨rfl, hQ σ .refl R0⟩
  | cons _ _ => cases e
theorem gs_cons {tg : Expr} {ts : List Expr} {is js : List Nat} {f : D → G → Option G} {r : List D → G → Option G} (h : ES X is tg f) (hr : ESs X js ts r) (hs : (assignEach (tg :: ts) X.env).map (·.2) = assign tg X.env :: (assignEach ts X.env).map (·.2) := by rfl) : ESs X (is ++ js) (tg :: ts) (stCons f r) := fun J p g σ H vs ds g' R0 rs e Q hQ => by
  cases rs with
  | nil => cases e
  | cons r1 r2 =>
    rename_i v vs d ds
    have e' : (f d g).bind (r ds) = some g' := e
    cases e1 : f d g with
    | none =>
      rw [e1] at e'
      cases e'
    | some g1 =>
      rw [e1] at e'
      exact of_pgs (pgs_cons semG semGs hs) ⟨v, vs, rfl, h J p g σ H v d g1 R0 r1 e1 _ fun σ1 a1 R1 => hr J p g1 σ1 H vs ds g' R1 r2 e' Q fun σ2 a2 R2 => hQ σ2 ((a1.mono fun _ m => List.mem_append_left _ m).trans (a2.mono fun _ m => List.mem_append_right _ m)) R2⟩
def stTup (n : Nat) (r : List D → G → Option G) : D → G → Option G := fun d g => match d with
  | .tup ds => if ds.length = n then r ds g else none
  | _ => none
theorem g_tup {ts : List Expr} {is : List Nat} {k n : Nat} {r : List D → G → Option G} (hc : X.calm = true) (h : ESs X is ts r) (hn : (assignEach ts X.env).length = n := by rfl) (hst : (assignEach ts X.env).findIdx? (·.1) = none := by rfl) : ES X is (.Tuple ts k pos) (stTup n r) := fun J p g σ H v d g' R0 rv e Q hQ => by
  unfold stTup at e
  cases d <;> first | (cases e; done) | skip
  rename_i ds
  dsimp only at e
  split at e
  · rename_i hl
    obtain ⟨a, vs, rfl, sa, ra⟩ := rep_tup rv
    exact of_pg (pg_tup hc semGs hn hst) ⟨a, vs, rfl, st_del sa, by rw [ra.len]; exact hl, h J p g σ H vs ds g' R0 ra e Q hQ⟩
  · cases e
/-- the turns of a loop over data -/
def mLoop (f : D → G → Option G) (mb : M Oc) : List D → M Oc
  | [] => ret .nx
  | d :: ds => fun g => match f d g with
    | none => none
    | some g1 => match mb g1 with
      | some (.ok .nx g2) => mLoop f mb ds g2
      | some (.ok .ct g2) => mLoop f mb ds g2
      | some (.ok .bk g2) => some (.ok .nx g2)
      | r => r
def mFor (f : D → G → Option G) (mi : M (List D)) (mb : M Oc) : M Oc := mi.bind fun ds => mLoop f mb ds
end
end Mo
set_option Elab.async false
set_option linter.all false
set_option maxRecDepth 100000
set_option maxHeartbeats 4000000
/-! Mo, part six: one's own defs, as functions of data and of the dice. -/
namespace Mo
open PySem PySem.Spec L2
open Lp (FnG okN callG)
abbrev WN : WW := fun _ _ _ _ _ => False
abbrev FD := List D → C3 → Option (D × C3)
abbrev FO := List D → C3 → Option (O × C3)
structure Hd (K : PySem.W.Frag) (p : Mt) (J : Hp) (c : C3) : Prop where
  di : ∀ a, p.d = some a → OwnAt K (del p J) J a c
  no : ∀ a, p.d = some a → a ∉ p.o
  lv : ∀ a ∈ p.o, Mut (J a)
def argsM (dice : Bool) (p : Mt) (vs ws : List V) : Prop := match dice with
  | true => ∃ a, p.d = some a ∧ vs = .ref a :: ws
  | false => vs = ws
/-- behind a call: what stood stands, the dice are as told -/
structure Af (K : PySem.W.Frag) (p ph : Mt) (J J2 : Hp) (c : C3) : Prop where
  old : ∀ a o, p.d ≠ some a → J a = some o → J2 a = some o
  di : ∀ a, p.d = some a → OwnAt K (del ph J2) J2 a c
  fz : ∀ a o, isFD o = true → J2 a = some o → J a = some o
def spM (K : PySem.W.Frag) (dice : Bool) (F : FD) : Sp := fun vs J Q _ => ∃ (p : Mt) (c : C3) (ds : List D) (ws : List V) (d : D) (c' : C3), argsM dice p vs ws ∧ Hd K p J c ∧ Reps K (del p J) ws ds ∧ F ds c = some (d, c') ∧
  ∀ v J2, Af K p p J J2 c' → Rep K (del p J2) v d → Q v J2
def spO (K : PySem.W.Frag) (dice : Bool) (F : FO) : Sp := fun vs J Q _ => ∃ (p : Mt) (c : C3) (ds : List D) (ws : List V) (d : O) (c' : C3), argsM dice p vs ws ∧ Hd K p J c ∧ Reps K (del p J) ws ds ∧ F ds c = some (d, c') ∧
  ∀ q J2, Af K p (p.add q) J J2 c' → J q = none → OwnAt K (del (p.add q) J2) J2 q d → Q (.ref q) J2
def ini (dice : Bool) (n : Nat) (ds : List D) : List Sl := match dice with
  | true => .di :: (ds.map .v ++ List.replicate (n - (ds.length + 1)) .un)
  | false => ds.map .v ++ List.replicate (n - ds.length) .un
def runM (dice : Bool) (n k : Nat) (m : M Oc) : FD := fun ds c => if ds.length + dice.toNat = k then (match m ⟨ini dice n ds, c⟩ with
  | some (.ok .nx g) => some (.non, g.c)
  | some (.ok (.rt d) g) => some (d, g.c)
  | some (.ok (.rto o) g) => some (o.d, g.c)
  | _ => none) else none
def runO (dice : Bool) (n k : Nat) (m : M Oc) : FO := fun ds c => if ds.length + dice.toNat = k then (match m ⟨ini dice n ds, c⟩ with
  | some (.ok (.rto o) g) => some (o, g.c)
  | _ => none) else none
abbrev XX (P : Program) (w : World) (K : PySem.W.Frag) (mg : Str → Option Value) (base : Heap) (N : List Str) (qual : Str) (st : Stmt) (f : Addr) (cdv : Value) (B : Around) (fr : List Env) (s : Shared) (J : Hp) (Z : XK) : Cx :=
  (cxOf CX0 P w K mg base N qual (defScope st) f cdv B fr s J Z).nox
theorem args_len {dice : Bool} {p : Mt} {vs ws : List V} (h : argsM dice p vs ws) : vs.length = ws.length + dice.toNat := by
  cases dice with
  | true =>
    obtain ⟨a, _, rfl⟩ := h
    rfl
  | false =>
    have : vs = ws := h
    rw [this]
    rfl
section
variable {K : PySem.W.Frag} {J : Hp}
theorem rep_some {p : Mt} {vs : List V} {ds : List D} {n : Nat} {c : C3} (hd : Hd K p J c) (r : Reps K (del p J) vs ds) : Rl K J p ⟨ds.map .v ++ List.replicate n .un, c⟩ (vs.map some ++ List.replicate n none) J := by
  have hl := r.len
  have key : ∀ (i : Nat) x, (ds.map Sl.v ++ List.replicate n .un)[i]? = some x → (∃ d, ds[i]? = some d ∧ x = .v d) ∨ x = .un := fun i x e => by
    by_cases h : i < ds.length
    · rw [List.getElem?_append_left (by rw [List.length_map]; exact h), List.getElem?_map, List.getElem?_eq_getElem h] at e
      exact .inl ⟨_, List.getElem?_eq_getElem h, (Option.some.inj e).symm⟩
    · rw [List.getElem?_append_right (by rw [List.length_map]; omega)] at e
      exact .inr (List.eq_of_mem_replicate (List.mem_of_getElem? e))
  refine ⟨by simp [hl], fun _ _ _ e => e, hd.di, hd.no, hd.lv, fun _ _ _ e => e, fun i d e => ?_, fun i o e => ?_, fun i e => ?_, fun i j o o' q e => ?_⟩
  · rcases key i _ e with ⟨d', e', z⟩ | z
    · cases z
      obtain ⟨v, h1, h2⟩ := r.getD e'
      refine ⟨v, ?_, h2⟩
      have hi : i < vs.length := (List.getElem?_eq_some_iff.mp h1).1
      rw [List.getElem?_append_left (by rw [List.length_map]; exact hi), List.getElem?_map, h1]
      rfl
    · cases z
  · rcases key i _ e with ⟨d', e', z⟩ | z <;> cases z
  · rcases key i _ e with ⟨d', e', z⟩ | z <;> cases z
  · rcases key i _ e with ⟨d', e', z⟩ | z <;> cases z
theorem rl_start {dice : Bool} {p : Mt} {vs ws : List V} {ds : List D} {N : List Str} {c : C3} (ha : argsM dice p vs ws) (hd : Hd K p J c) (r : Reps K (del p J) ws ds) : Rl K J p ⟨ini dice N.length ds, c⟩ (L2.start N vs) J := by
  have hl := r.len
  cases dice with
  | false =>
    have e : vs = ws := ha
    subst e
    unfold L2.start ini
    rw [hl]
    exact rep_some hd r
  | true =>
    obtain ⟨a, e, rfl⟩ := ha
    have R := rep_some (n := N.length - (ds.length + 1)) hd r
    unfold L2.start ini
    rw [List.length_cons, hl]
    have shift : ∀ {l : List Sl} {x : Sl} {i : Nat} {y : Sl}, (x :: l)[i]? = some y → (i = 0 ∧ x = y) ∨ ∃ j, i = j + 1 ∧ l[j]? = some y := fun {l x i y} e => by
      cases i with
      | zero => exact .inl ⟨rfl, Option.some.inj e⟩
      | succ j => exact .inr ⟨j, rfl, e⟩
    refine ⟨?_, R.old, R.dice, R.dno, R.lv, R.fz, fun i d e => ?_, fun i o e => ?_, fun i e' => ?_, fun i j o o' q e1 e2 e3 e4 => ?_⟩
    · show (_ :: _ : List Sl).length = (some (V.ref a) :: _ : List (Option V)).length
      rw [List.length_cons, List.length_cons]
      exact congrArg (· + 1) R.len
    · rcases shift e with ⟨_, z⟩ | ⟨j, rfl, e⟩
      · cases z
      · exact R.sv j d e
    · rcases shift e with ⟨_, z⟩ | ⟨j, rfl, e⟩
      · cases z
      · exact R.so j o e
    · rcases shift e' with ⟨i0, z⟩ | ⟨j, rfl, e'⟩
      · subst i0
        exact ⟨a, rfl, e⟩
      · exact R.sd j e'
    · rcases shift e1 with ⟨_, z⟩ | ⟨i', rfl, e1⟩
      · cases z
      · rcases shift e2 with ⟨_, z⟩ | ⟨j', rfl, e2⟩
        · cases z
        · exact congrArg (· + 1) (R.inj i' j' o o' q e1 e2 e3 e4)
theorem le_back {p p' : Mt} {H : Hp} (hd : ∀ a ∈ p.o, J a ≠ none) (e1 : p'.d = p.d) (e2 : ∀ a ∈ p.o, J a ≠ none → a ∈ p'.o) : Le (del p' H) (del p H) := .of fun a u e => by
  rw [del_at fun z : Hid p a => del_no e (z.elim (fun y => .inl (by rw [e1]; exact y)) fun y => .inr (e2 a y (hd a y)))]
  exact del_of e
theorem le_back1 {p p' : Mt} {H : Hp} {q : Addr} (hd : ∀ a ∈ p.o, J a ≠ none) (e1 : p'.d = p.d) (e2 : ∀ a ∈ p.o, J a ≠ none → a ∈ p'.o) (hq : q ∈ p'.o) : Le (del p' H) (del (p.add q) H) := .of fun a u e => by
  rw [del_at fun z : Hid (p.add q) a => del_no e (z.elim (fun y => .inl (by rw [e1]; exact y)) fun y => .inr ((List.mem_cons.mp y).elim (fun w => w ▸ hq) fun w => e2 a w (hd a w)))]
  exact del_of e
end
section
variable {P : Program} {w : World} {K : PySem.W.Frag} {mg : Str → Option Value} {base : Heap} {dice : Bool} {x qual : Str} {st : Stmt} {f : Addr} {fd : FuncData} {N ps : List Str} {k : Nat} {m : M Oc}
theorem okM (F : Fun K x qual st f fd) (S : FnScope N ps (defScope st))
    (body : ∀ (cdv : Value) (B : Around) (fr : List Env) (s : Shared) (J0 : Hp) (Z : XK), Room k (XX P w K mg base N qual st f cdv B fr s J0 Z).A → (XX P w K mg base N qual st f cdv B fr s J0 Z).A.guards = some [] →
      SB (XX P w K mg base N qual st f cdv B fr s J0 Z) WN (defBody st) m) : FnG P w K mg base CX0 (k + 1) f fd ps (spM K dice (runM dice N.length ps.length m)) := by
  refine okN F S (fun vs J Q Z ⟨p, c, ds, ws, d, c', ha, _, r, e, _⟩ => ?_) fun cdv B fr s J vs Q Z hr hg ⟨p, c, ds, ws, d, c', ha, hd, r, e, q⟩ => ⟨_, semSs, ?_⟩
  · unfold runM at e
    split at e
    · rename_i h
      rw [args_len ha, r.len]
      exact h
    · cases e
  · unfold runM at e
    split at e
    · cases e1 : m ⟨ini dice N.length ds, c⟩ with
      | none =>
        rw [e1] at e
        cases e
      | some r1 =>
        rw [e1] at e
        refine body cdv B fr s J Z hr hg J p _ _ J (rl_start ha hd r) r1 e1 _ ?_
        have fin : ∀ {p' : Mt} {H' : Hp} {g' : G} {σ' : St}, As J p J p' H' → Rl K J p' g' σ' H' → Af K p p J H' g'.c := fun a R => ⟨fun b o n e => R.old b o (by rw [a.dd]; exact n) e, fun b e => (R.dice b (by rw [a.dd]; exact e)).le (le_back (fun a m => mut_ne (hd.lv a m)) a.dd a.ex) rfl, R.fz⟩
        cases r1 with
        | ex E g => cases e
        | ok o g =>
          cases o with
          | nx =>
            cases e
            exact fun σ' p' H' a R => q _ H' (fin a R) .non
          | rt d =>
            cases e
            exact fun σ' p' H' v a R rv => q v H' (fin a R) (rv.le (le_back (fun a m => mut_ne (hd.lv a m)) a.dd a.ex))
          | rto o =>
            cases e
            refine fun σ' p' H' y a R h1 h2 h3 h4 => q _ H' (fin a R) ?_
            obtain ⟨R2, e2⟩ := R.show_ h3 h1
            refine ((h4.le del_rem rfl).rep e2).le (le_back (p' := p'.rem y) (fun a m => mut_ne (hd.lv a m)) a.dd fun b hb n => List.mem_filter.mpr ⟨a.ex b hb n, decide_eq_true fun z => n (z ▸ h2)⟩)
          | bk => cases e
          | ct => cases e
    · cases e
theorem okO (F : Fun K x qual st f fd) (S : FnScope N ps (defScope st))
    (body : ∀ (cdv : Value) (B : Around) (fr : List Env) (s : Shared) (J0 : Hp) (Z : XK), Room k (XX P w K mg base N qual st f cdv B fr s J0 Z).A → (XX P w K mg base N qual st f cdv B fr s J0 Z).A.guards = some [] →
      SB (XX P w K mg base N qual st f cdv B fr s J0 Z) WN (defBody st) m) : FnG P w K mg base CX0 (k + 1) f fd ps (spO K dice (runO dice N.length ps.length m)) := by
  refine okN F S (fun vs J Q Z ⟨p, c, ds, ws, d, c', ha, _, r, e, _⟩ => ?_) fun cdv B fr s J vs Q Z hr hg ⟨p, c, ds, ws, d, c', ha, hd, r, e, q⟩ => ⟨_, semSs, ?_⟩
  · unfold runO at e
    split at e
    · rename_i h
      rw [args_len ha, r.len]
      exact h
    · cases e
  · unfold runO at e
    split at e
    · cases e1 : m ⟨ini dice N.length ds, c⟩ with
      | none =>
        rw [e1] at e
        cases e
      | some r1 =>
        rw [e1] at e
        refine body cdv B fr s J Z hr hg J p _ _ J (rl_start ha hd r) r1 e1 _ ?_
        have fin : ∀ {p' : Mt} {H' : Hp} {g' : G} {σ' : St} {y : Addr}, y ∈ p'.o → As J p J p' H' → Rl K J p' g' σ' H' → Af K p (p.add y) J H' g'.c := fun hy a R => ⟨fun b o n e => R.old b o (by rw [a.dd]; exact n) e, fun b e => (R.dice b (by rw [a.dd]; exact e)).le (le_back1 (fun a m => mut_ne (hd.lv a m)) a.dd a.ex hy) rfl, R.fz⟩
        cases r1 with
        | ex E g => cases e
        | ok o g =>
          cases o with
          | rto o =>
            cases e
            exact fun σ' p' H' y a R h1 h2 h3 h4 => q y H' (fin h1 a R) h2 (h4.le (le_back1 (fun a m => mut_ne (hd.lv a m)) a.dd a.ex h1) rfl)
          | nx => cases e
          | rt d => cases e
          | bk => cases e
          | ct => cases e
    · cases e
end
section
variable {X : Cx} {W : WW} {e : Expr} {es : List Expr} {pos ps : Pos} {k : Nat} {f : Addr} {fd : FuncData} {qs : List Str} {x : Str}
theorem Rl.hd {K : PySem.W.Frag} {J : Hp} {p : Mt} {g : G} {σ : St} {H : Hp} (R : Rl K J p g σ H) : Hd K p H g.c := ⟨R.dice, R.dno, R.lv⟩
/-- the state behind a call -/
theorem Rl.after {K : PySem.W.Frag} {J : Hp} {p : Mt} {g : G} {σ : St} {H J2 : Hp} {c : C3} (R : Rl K J p g σ H) (a : Af K p p H J2 c) : Rl K J p ⟨g.s, c⟩ σ J2 ∧ Ad g σ p H ⟨g.s, c⟩ p J2 := by
  have le : Le (del p H) (del p J2) := .of fun b o e => by
    have n := del_no e
    rw [del_at n]
    exact a.old b o (fun z => n (.inl z)) (del_of e)
  have kp : ∀ b ∈ p.o, J2 b = H b := fun b m => by
    cases e : H b with
    | none => exact absurd e (mut_ne (R.lv b m))
    | some o => exact a.old b o (fun z => R.dno b z m) e
  have th : ∀ b, H b ≠ none → J2 b ≠ none := fun b n => by
    by_cases z : p.d = some b
    · exact mut_ne (a.di b z).mut
    · cases e : H b with
      | none => exact absurd e n
      | some o =>
        rw [a.old b o z e]
        exact Option.some_ne_none _
  refine ⟨⟨R.len, fun b o n e => a.old b o n (R.old b o n e), a.di, R.dno, fun b m => by rw [kp b m]; exact R.lv b m, fun b o f e => R.fz b o f (a.fz b o f e), fun i d e => ?_, fun i o e => ?_, R.sd, R.inj⟩, ⟨rfl, le, fun b m _ => ⟨m, kp b m⟩, fun _ h => h, th⟩⟩
  · obtain ⟨v, h1, h2⟩ := R.sv i d e
    exact ⟨v, h1, h2.le le⟩
  · obtain ⟨q, h1, h2, h3, h4⟩ := R.so i o e
    exact ⟨q, h1, h2, h3, h4.le le (kp q h2)⟩
/-- .. with something new that is hidden -/
theorem Rl.afterO {K : PySem.W.Frag} {J : Hp} {p : Mt} {g : G} {σ : St} {H J2 : Hp} {c : C3} {q : Addr} {o : O} (R : Rl K J p g σ H) (a : Af K p (p.add q) H J2 c) (hn : H q = none) (ow : OwnAt K (del (p.add q) J2) J2 q o) :
    Rl K J (p.add q) ⟨g.s, c⟩ σ J2 ∧ Ad g σ p H ⟨g.s, c⟩ (p.add q) J2 ∧ NoSl ⟨g.s, c⟩ σ q := by
  have up : Le (del (p.add q) J2) (del p J2) := .of fun b u e => by
    rw [del_at fun z : Hid p b => del_no e (z.imp id (List.mem_cons_of_mem _))]
    exact del_of e
  obtain ⟨R1, ad⟩ := R.after ⟨a.old, fun b e => (a.di b e).le up rfl, a.fz⟩
  have nq := R.ne hn
  have le : Le (del p H) (del (p.add q) J2) := .of fun b u e => by
    have n := del_no e
    have nb : b ≠ q := ne_of_none (del_of e) hn
    rw [del_at fun z : Hid (p.add q) b => n (Or.imp id (fun y => (List.mem_cons.mp y).resolve_left nb) z)]
    exact a.old b u (fun z => n (.inl z)) (del_of e)
  have kp : ∀ b ∈ p.o, J2 b = H b := fun b m => by
    cases e : H b with
    | none => exact absurd e (mut_ne (R.lv b m))
    | some o => exact a.old b o (fun z => R.dno b z m) e
  have ns : NoSl ⟨g.s, c⟩ σ q := fun i o e z => by
    obtain ⟨x, h1, h2, _⟩ := R.so i o e
    rw [h1] at z
    cases z
    exact nq (.inr h2)
  refine ⟨⟨R.len, R1.old, a.di, fun b e m => ?_, fun b m => ?_, R1.fz, fun i d e => ?_, fun i o e => ?_, R.sd, R.inj⟩, ⟨rfl, le, fun b m _ => ⟨List.mem_cons_of_mem _ m, kp b m⟩, fun _ h => h, ad.th⟩, ns⟩
  · rcases List.mem_cons.mp m with z | m
    · exact nq (.inl (by rw [← z]; exact e))
    · exact R.dno b e m
  · rcases List.mem_cons.mp m with z | m
    · rw [z]
      exact ow.mut
    · exact R1.lv b m
  · obtain ⟨v, h1, h2⟩ := R.sv i d e
    exact ⟨v, h1, h2.le le⟩
  · obtain ⟨y, h1, h2, h3, h4⟩ := R.so i o e
    exact ⟨y, h1, List.mem_cons_of_mem _ h2, h3, h4.le le (kp y h2)⟩
def liftC {α : Type} (o : C3 → Option (α × C3)) : M α := fun g => match o g.c with
  | some (d, c) => some (.ok d ⟨g.s, c⟩)
  | none => none
def mFn (F : FD) (ms : M (List D)) : M D := ms.bind fun ds => liftC (F ds)
def mFnO (F : FO) (ms : M (List D)) : M O := ms.bind fun ds => liftC (F ds)
/-- the dice in slot i -/
def isDi (i : Nat) {α : Type} (m : M α) : M α := fun g => match g.s[i]? with
  | some .di => m g
  | _ => none
theorem liftC_some {α : Type} {o : C3 → Option (α × C3)} {g : G} {r : R α} (h : liftC o g = some r) : ∃ d c, o g.c = some (d, c) ∧ r = .ok d ⟨g.s, c⟩ := by
  unfold liftC at h
  cases e : o g.c with
  | none =>
    rw [e] at h
    cases h
  | some z =>
    rw [e] at h
    exact ⟨z.1, z.2, rfl, (Option.some.inj h).symm⟩
theorem isDi_some {α : Type} {i : Nat} {m : M α} {g : G} {r : R α} (h : isDi i m g = some r) : g.s[i]? = some .di ∧ m g = some r := by
  unfold isDi at h
  split at h
  · rename_i e
    exact ⟨e, h⟩
  · cases h
/-- f(e, ..) -/
theorem e_fn {F : FD} {ms : M (List D)} (hF : FnG X.prog X.w X.K X.mg X.base CX0 k f fd qs (spM X.K false F)) (hr : Room k X.A) (hgd : X.A.guards = some []) (hm : X.mg x = some (.ref f)) (hk : PySem.W.keepIn X.K (.ref f) = true) (hb : Binds X.K fd qs [])
    (ha : EA X W (e :: es) ms) (hg : Gl X x := by rfl) (hdb : (x == ("__debug__" : Str)) = false := by decide) (he : starEach (e :: es) X.env = (false, eval e X.env) :: starEach es X.env := by rfl) (hpl : (backTo pos (starEach es X.env)).any (·.1) = false := by rfl) :
    EF X W (.Call (.Name x ps) (e :: es) [] pos) (mFn F ms) := fun J p g σ H R0 r hm' Q hp =>
  of_pe (callG hF hr hgd hg hm hk hb pass0 semA hdb he hpl) (ha.then R0 hm' hp fun ds g1 p1 H1 vs ad1 R1 rs hm1 hp1 => by
    rw [List.append_nil]
    obtain ⟨d, c, e1, rfl⟩ := liftC_some hm1
    refine ⟨p1, g1.c, ds, vs, d, c, rfl, R1.hd, rs, e1, fun v J2 a rv => ?_⟩
    obtain ⟨R2, ad2⟩ := R1.after a
    exact hp1 p1 J2 ad2 R2 v rv)
theorem eo_fn {F : FO} {ms : M (List D)} (hF : FnG X.prog X.w X.K X.mg X.base CX0 k f fd qs (spO X.K false F)) (hr : Room k X.A) (hgd : X.A.guards = some []) (hm : X.mg x = some (.ref f)) (hk : PySem.W.keepIn X.K (.ref f) = true) (hb : Binds X.K fd qs [])
    (ha : EA X W (e :: es) ms) (hg : Gl X x := by rfl) (hdb : (x == ("__debug__" : Str)) = false := by decide) (he : starEach (e :: es) X.env = (false, eval e X.env) :: starEach es X.env := by rfl) (hpl : (backTo pos (starEach es X.env)).any (·.1) = false := by rfl) :
    EO X W (.Call (.Name x ps) (e :: es) [] pos) (mFnO F ms) := fun J p g σ H R0 r hm' Q hp =>
  of_pe (callG hF hr hgd hg hm hk hb pass0 semA hdb he hpl) (ha.then R0 hm' hp fun ds g1 p1 H1 vs ad1 R1 rs hm1 hp1 => by
    rw [List.append_nil]
    obtain ⟨d, c, e1, rfl⟩ := liftC_some hm1
    refine ⟨p1, g1.c, ds, vs, d, c, rfl, R1.hd, rs, e1, fun q J2 a hn ow => ?_⟩
    obtain ⟨R2, ad2, ns⟩ := R1.afterO a hn ow
    exact hp1 _ J2 ad2 R2 q List.mem_cons_self (ad1.gone hn) ns ow)
/-- f(dice, e, ..) -/
theorem e_fd {F : FD} {ms : M (List D)} {y : Str} {py : Pos} (i : Nat) (hF : FnG X.prog X.w X.K X.mg X.base CX0 k f fd qs (spM X.K true F)) (hr : Room k X.A) (hgd : X.A.guards = some []) (hm : X.mg x = some (.ref f)) (hk : PySem.W.keepIn X.K (.ref f) = true) (hb : Binds X.K fd qs [])
    (ha : EA X W es ms) (hg : Gl X x := by rfl) (hN : X.N[i]? = some y := by rfl) (hv : Vis X.env.scope y := by first | exact Or.inl rfl | exact Or.inr (Or.inl rfl) | exact Or.inr (Or.inr rfl)) (hd : (y == ("__debug__" : Str)) = false := by decide) (hcd : (y == ("__classdict__" : Str)) = false := by decide)
    (hdb : (x == ("__debug__" : Str)) = false := by decide) (he : starEach (.Name y py :: es) X.env = (false, eval (.Name y py) X.env) :: starEach es X.env := by rfl) (hpl : (backTo pos (starEach es X.env)).any (·.1) = false := by rfl) :
    EF X W (.Call (.Name x ps) (.Name y py :: es) [] pos) (isDi i (mFn F ms)) := fun J p g σ H R0 r hm' Q hp => by
  obtain ⟨h1, h2⟩ := isDi_some hm'
  obtain ⟨a, h3, h4⟩ := R0.sd i h1
  exact of_pe (callG hF hr hgd hg hm hk hb pass0 (pa_cons (pv i hN hv hd hcd) semA he) hdb he hpl) ⟨_, h3, ha.then R0 h2 hp fun ds g1 p1 H1 vs ad1 R1 rs hm1 hp1 => by
    dsimp only
    rw [List.append_nil]
    obtain ⟨d, c, e1, rfl⟩ := liftC_some hm1
    refine ⟨p1, g1.c, ds, vs, d, c, ⟨a, by rw [ad1.dd]; exact h4, rfl⟩, R1.hd, rs, e1, fun v J2 a rv => ?_⟩
    obtain ⟨R2, ad2⟩ := R1.after a
    exact hp1 p1 J2 ad2 R2 v rv⟩
end
end Mo
set_option Elab.async false
set_option linter.all false
set_option maxRecDepth 100000
set_option maxHeartbeats 4000000
/-! Mo, part seven: built-ins by values; subscripts; slices. -/
namespace Mo
open PySem PySem.Spec L2
section
variable {K : PySem.W.Frag}
/-- one argument, its value told -/
theorem reps1 {J : Hp} {vs : List V} {d : D} (h : Reps K J vs [d]) : ∃ v, vs = [v] ∧ Rep K J v d := by
  cases h with
  | cons a b =>
    cases b
    exact ⟨_, rfl, a⟩
theorem reps2 {J : Hp} {vs : List V} {d e : D} (h : Reps K J vs [d, e]) : ∃ v w, vs = [v, w] ∧ Rep K J v d ∧ Rep K J w e := by
  cases h with
  | cons a b =>
    cases b with
    | cons b c =>
      cases c
      exact ⟨_, _, rfl, a, b⟩
/-! ### len -/
def fLen : List D → Option D
  | [.str x] => if x.length ≤ sizeLine then some (.int x.length) else none
  | [.lst xs] => some (.int xs.length)
  | [.tup xs] => some (.int xs.length)
  | _ => none
theorem cs_len : CS K (fun xs H Q => ∃ x n, xs = [x] ∧ LenV K x H n ∧ Q (.int n) H) fLen := fun J p g σ H vs ds z Q R rs e q => by
  unfold fLen at e
  split at e
  · rename_i x
    split at e
    · rename_i h
      cases e
      obtain ⟨v, rfl, rv⟩ := reps1 rs
      cases rep_str rv
      exact ⟨_, x.length, rfl, ⟨h, rfl⟩, q p H .refl R _ (.int _)⟩
    · cases e
  · rename_i xs
    cases e
    obtain ⟨v, rfl, rv⟩ := reps1 rs
    obtain ⟨a, ws, rfl, s, r⟩ := rep_lst rv
    exact ⟨_, xs.length, rfl, .inl ⟨ws, sl_of s, r.len.symm⟩, q p H .refl R _ (.int _)⟩
  · rename_i xs
    cases e
    obtain ⟨v, rfl, rv⟩ := reps1 rs
    obtain ⟨a, ws, rfl, s, r⟩ := rep_tup rv
    exact ⟨_, xs.length, rfl, .inr ⟨ws, st_del s, r.len.symm⟩, q p H .refl R _ (.int _)⟩
  · cases e
/-! ### ints -/
def fInt1 : List D → Option D
  | [.int i] => some (.int i)
  | [.bl b] => some (.int (if b then 1 else 0))
  | _ => none
theorem cs_int : CS K (fun xs H Q => (∃ i, xs = [.int i] ∧ Q (.int i) H) ∨ ∃ k, xs = [.bl k] ∧ Q (.int (if k then 1 else 0)) H) fInt1 := fun J p g σ H vs ds z Q R rs e q => by
  unfold fInt1 at e
  split at e
  · cases e
    obtain ⟨v, rfl, rv⟩ := reps1 rs
    cases rep_int rv
    exact .inl ⟨_, rfl, q p H .refl R _ (.int _)⟩
  · cases e
    obtain ⟨v, rfl, rv⟩ := reps1 rs
    cases rep_bl rv
    exact .inr ⟨_, rfl, q p H .refl R _ (.int _)⟩
  · cases e
def fAbs : List D → Option D
  | [.int i] => some (.int (if i < 0 then -i else i))
  | _ => none
theorem cs_abs : CS K (fun xs H Q => ∃ i, xs = [.int i] ∧ Q (.int (if i < 0 then -i else i)) H) fAbs := fun J p g σ H vs ds z Q R rs e q => by
  unfold fAbs at e
  split at e
  · cases e
    obtain ⟨v, rfl, rv⟩ := reps1 rs
    cases rep_int rv
    exact ⟨_, rfl, q p H .refl R _ (.int _)⟩
  · cases e
def fMax2 : List D → Option D
  | [.int i, .int j] => some (.int (if j > i then j else i))
  | _ => none
def fMin2 : List D → Option D
  | [.int i, .int j] => some (.int (if j < i then j else i))
  | _ => none
theorem cs_max2 : CS K (fun xs H Q => ∃ i j, xs = [.int i, .int j] ∧ Q (.int (if j > i then j else i)) H) fMax2 := fun J p g σ H vs ds z Q R rs e q => by
  unfold fMax2 at e
  split at e
  · cases e
    obtain ⟨v, w, rfl, rv, rw'⟩ := reps2 rs
    cases rep_int rv
    cases rep_int rw'
    exact ⟨_, _, rfl, q p H .refl R _ (.int _)⟩
  · cases e
theorem cs_min2 : CS K (fun xs H Q => ∃ i j, xs = [.int i, .int j] ∧ Q (.int (if j < i then j else i)) H) fMin2 := fun J p g σ H vs ds z Q R rs e q => by
  unfold fMin2 at e
  split at e
  · cases e
    obtain ⟨v, w, rfl, rv, rw'⟩ := reps2 rs
    cases rep_int rv
    cases rep_int rw'
    exact ⟨_, _, rfl, q p H .refl R _ (.int _)⟩
  · cases e
/-! ### lists of ints, of bools -/
def asInts : List D → Option (List Int)
  | [] => some []
  | .int i :: ds => (asInts ds).map (i :: ·)
  | _ => none
theorem reps_ints {J : Hp} : ∀ {ds : List D} {vs : List V} {ns : List Int}, Reps K J vs ds → asInts ds = some ns → vs = ns.map V.int
  | [], _, _, h, e => by
    cases h
    cases e
    rfl
  | d :: ds, _, ns, h, e => by
    cases h with
    | cons a b =>
      cases d <;> first | (cases e; done) | skip
      rename_i i
      have e' : (asInts ds).map (i :: ·) = some ns := e
      cases q : asInts ds with
      | none => rw [q] at e'; cases e'
      | some r =>
        rw [q] at e'
        cases e'
        cases rep_int a
        rw [reps_ints b q]
        rfl
def asBls : List D → Option (List Bool)
  | [] => some []
  | .bl i :: ds => (asBls ds).map (i :: ·)
  | _ => none
theorem reps_bls {J : Hp} : ∀ {ds : List D} {vs : List V} {ns : List Bool}, Reps K J vs ds → asBls ds = some ns → vs = ns.map V.bl
  | [], _, _, h, e => by
    cases h
    cases e
    rfl
  | d :: ds, _, ns, h, e => by
    cases h with
    | cons a b =>
      cases d <;> first | (cases e; done) | skip
      rename_i i
      have e' : (asBls ds).map (i :: ·) = some ns := e
      cases q : asBls ds with
      | none => rw [q] at e'; cases e'
      | some r =>
        rw [q] at e'
        cases e'
        cases rep_bl a
        rw [reps_bls b q]
        rfl
def asStrs : List D → Option (List Str)
  | [] => some []
  | .str i :: ds => (asStrs ds).map (i :: ·)
  | _ => none
theorem reps_strs {J : Hp} : ∀ {ds : List D} {vs : List V} {ns : List Str}, Reps K J vs ds → asStrs ds = some ns → vs = ns.map V.str
  | [], _, _, h, e => by
    cases h
    cases e
    rfl
  | d :: ds, _, ns, h, e => by
    cases h with
    | cons a b =>
      cases d <;> first | (cases e; done) | skip
      rename_i i
      have e' : (asStrs ds).map (i :: ·) = some ns := e
      cases q : asStrs ds with
      | none => rw [q] at e'; cases e'
      | some r =>
        rw [q] at e'
        cases e'
        cases rep_str a
        rw [reps_strs b q]
        rfl
theorem asStrs_map : ∀ ns : List Str, asStrs (ns.map D.str) = some ns
  | [] => rfl
  | n :: r => by
    show (asStrs (r.map D.str)).map (n :: ·) = some (n :: r)
    rw [asStrs_map r]
    rfl
def fAll : List D → Option D
  | [.lst ds] => (asBls ds).map fun ns => .bl (ns.all id)
  | _ => none
theorem cs_all : CS K (rAll K) fAll := fun J p g σ H vs ds z Q R rs e q => by
  unfold fAll at e
  split at e
  · rename_i ds
    cases q1 : asBls ds with
    | none => rw [q1] at e; cases e
    | some ns =>
      rw [q1] at e
      cases e
      obtain ⟨v, rfl, rv⟩ := reps1 rs
      obtain ⟨a, ws, rfl, s, r⟩ := rep_lst rv
      have ew := reps_bls r q1
      subst ew
      exact ⟨a, ns, rfl, sl_of s, q p H .refl R _ (.bl _)⟩
  · cases e
def minI : Int → List Int → Int
  | m, [] => m
  | m, x :: xs => minI (if x < m then x else m) xs
theorem minI_spec : ∀ (xs : List Int) (m : Int), (∀ x ∈ xs, minI m xs ≤ x) ∧ minI m xs ≤ m ∧ (minI m xs = m ∨ minI m xs ∈ xs)
  | [], m => ⟨fun _ h => (nomatch h), Int.le_refl m, .inl rfl⟩
  | x :: xs, m => by
    obtain ⟨h1, h2, h3⟩ := minI_spec xs (if x < m then x else m)
    have e : minI m (x :: xs) = minI (if x < m then x else m) xs := rfl
    rw [e]
    have hm : (if x < m then x else m) ≤ m := by split <;> omega
    have hx : (if x < m then x else m) ≤ x := by split <;> omega
    refine ⟨fun y hy => ?_, Int.le_trans h2 hm, ?_⟩
    · rcases List.mem_cons.mp hy with rfl | hy
      · exact Int.le_trans h2 hx
      · exact h1 y hy
    · rcases h3 with h3 | h3
      · rw [h3]
        split
        · exact .inr List.mem_cons_self
        · exact .inl rfl
      · exact .inr (List.mem_cons_of_mem _ h3)
def fMinL : List D → Option D
  | [.lst (.int i :: ds)] => (asInts ds).map fun ns => .int (minI i ns)
  | _ => none
theorem ints_cons {J : Hp} {i : Int} {ds : List D} {ws : List V} {ns : List Int} (r : Reps K J ws (.int i :: ds)) (q : asInts ds = some ns) : ws = (i :: ns).map V.int :=
  reps_ints r (by
    show (asInts ds).map (i :: ·) = _
    rw [q]
    rfl)
theorem cs_minL : CS K (rMin K) fMinL := fun J p g σ H vs ds z Q R rs e q => by
  unfold fMinL at e
  split at e
  · rename_i i ds
    cases q1 : asInts ds with
    | none => rw [q1] at e; cases e
    | some ns =>
      rw [q1] at e
      cases e
      obtain ⟨v, rfl, rv⟩ := reps1 rs
      obtain ⟨a, ws, rfl, s, r⟩ := rep_lst rv
      have ew := ints_cons r q1
      subst ew
      refine ⟨a, i :: ns, rfl, sl_of s, Nat.succ_pos _, fun m hm hall => ?_⟩
      obtain ⟨h1, h2, h3⟩ := minI_spec ns i
      have : m = minI i ns := by
        have u : minI i ns ≤ m := (List.mem_cons.mp hm).elim (fun e => e ▸ h2) (h1 m)
        have l : m ≤ minI i ns := h3.elim (fun e => by rw [e]; exact hall i List.mem_cons_self) fun e => hall _ (List.mem_cons_of_mem _ e)
        omega
      rw [this]
      exact q p H .refl R _ (.int _)
  · cases e
/-! ### tuple(..), list(..) -/
def fTuple : List D → Option D
  | [.lst ds] => some (.tup ds)
  | [.tup ds] => some (.tup ds)
  | _ => none
theorem cs_tuple : CS K (fun xs H Q => ∃ p ys, xs = [.ref p] ∧ ((SqL K H p ys ∧ ∀ l, H l = none → Q (.ref l) (upd H l (.tup ys))) ∨ (SqT K H p ys ∧ Q (.ref p) H))) fTuple := fun J p g σ H vs ds z Q R rs e q => by
  unfold fTuple at e
  split at e
  · cases e
    obtain ⟨v, rfl, rv⟩ := reps1 rs
    obtain ⟨a, ws, rfl, s, r⟩ := rep_lst rv
    refine ⟨a, ws, rfl, .inl ⟨sl_of s, fun l hl => ?_⟩⟩
    obtain ⟨R1, ad, e1⟩ := R.new (o := .tup ws) hl
    exact q p _ ad R1 _ (.tup e1 (r.le ad.le))
  · cases e
    obtain ⟨v, rfl, rv⟩ := reps1 rs
    obtain ⟨a, ws, rfl, s, r⟩ := rep_tup rv
    exact ⟨a, ws, rfl, .inr ⟨st_del s, q p H .refl R _ rv⟩⟩
  · cases e
end
end Mo
set_option Elab.async false
set_option linter.all false
set_option maxRecDepth 100000
set_option maxHeartbeats 4000000
/-! Mo, part eight: subscripts, slices, texts, own lists and dicts that change. -/
/-! ### extend, the other list read as any list -/
namespace L2
open PySem PySem.Spec PyProof.Rows PySem.AutoSeq1
theorem list_add_any (l : Addr) (items : Array Value) (n : Nat) (b : Addr) (items2 : Array Value) (n2 : Nat) (sl sl2 : Array (Option Value)) (hc0 : items.size + items2.size ≤ sizeLine) :
    Meets (Builtin.«list.__add__» ⟨[.ref l, .ref b], []⟩) (fun _ R s => s.heap.get? l = some { cls := .type "list", dict := none, data := .seq items n, slots := sl } ∧ s.heap.get? b = some { cls := .type "list", dict := none, data := .seq items2 n2, slots := sl2 } ∧ R (.ok (.ret (Value.ref s.heap.objs.size))) { s with heap := s.heap.push { cls := Value.type "list", data := Data.seq (items ++ items2) }, toks := s.toks }) :=
  .of_wp fun prog w A R s h => by obtain ⟨hp, g, d, tk, os⟩ := s; obtain ⟨hl, hb, h⟩ := h; have f1 := idx_int; have f2 := AutoSeq1.sub_tuple_tuple; have f3 := AutoSeq1.sub_list_list; have f4 := AutoSeq1.sub_tuple_list; have f5 := AutoSeq1.sub_list_tuple; wp_walk using wpAny_loadPart' hl, wpAny_loadPart' hb; exact ⟨_, rfl, h⟩
def rCatS (K : PySem.W.Frag) : R2 := fun x y H Q => ∃ l b xs zs, x = .ref l ∧ y = .ref b ∧ SqL K H l xs ∧ SqL K H b zs ∧ xs.length + zs.length ≤ sizeLine ∧ ∀ p, H p = none → Q (.ref p) (upd H p (.lst (xs ++ zs)))
theorem op_catS {X : Cx} : OpR X (binaryOp .Add) (rCatS X.K) := by
  intro pins s σ H x y v u Q I rx ry h
  obtain ⟨l, b, xs, zs, rfl, rfl, hH, hB, hz, q⟩ := h
  cases rx
  cases ry
  obtain ⟨its, r, ⟨o1, n1, e1, c1, d1, s1⟩, hz1⟩ := I.list hH
  obtain ⟨its2, r2, ⟨o2, n2, e2, c2, d2, s2⟩, hz2⟩ := I.list hB
  have hl := r.length
  have hl2 := r2.length
  obtain ⟨oc1, od1, oda1, osl1⟩ := o1
  dsimp only at c1 d1 s1
  subst c1 d1 s1
  obtain ⟨oc, od, oda, osl⟩ := o2
  dsimp only at c2 d2 s2
  subst c2 d2 s2
  refine PySem.concat_meets ⟨_, e1, rfl⟩ ⟨_, e2, rfl⟩ noFill_list_add seq_list_add F.slot_list_add F.entry_list_add (F.args_list_add_2 _ _) (list_add_any l its.toArray n1 b its2.toArray n2 osl1 osl (by rw [List.size_toArray, List.size_toArray]; omega)) ⟨e1, e2, ?_⟩
  have ea : its.toArray ++ its2.toArray = (its ++ its2).toArray := by simp
  rw [ea]
  exact ⟨.ref _, _, I.lnew (t' := s.toks) (r.append r2) (by rw [List.length_append]; omega), rfl, q _ I.fresh⟩
end L2
namespace Mo
open PySem PySem.Spec L2
section
variable {X : Cx} {W : WW} {e a b c o : Expr} {es : List Expr} {pos ps : Pos}
/-! ### subscripts by values -/
theorem atI_map {α β : Type} {xs : List α} {ys : List β} {i : Int} {y : β} (hl : xs.length = ys.length) (h : atI ys i = some y) : ∃ (k : Nat) (x : α), ys[k]? = some y ∧ xs[k]? = some x ∧ atI xs i = some x := by
  unfold atI at h
  cases e : ixN ys.length i with
  | none =>
    rw [e] at h
    cases h
  | some k =>
    rw [e] at h
    have h' : ys[k]? = some y := h
    have hk : k < ys.length := (List.getElem?_eq_some_iff.mp h').1
    have hx : xs[k]? = some (xs[k]'(by omega)) := List.getElem?_eq_getElem (by omega)
    refine ⟨k, _, h', hx, ?_⟩
    have e2 : ixN xs.length i = some k := (congrArg (fun n => ixN n i) hl).trans e
    unfold atI
    rw [e2]
    exact hx
def fIx : D → D → Option D
  | .lst ds, .int i => atI ds i
  | .tup ds, .int i => atI ds i
  | .str x, .int i => if x.length ≤ sizeLine then (atI x.cps.toList i).map fun c => .str ⟨#[c]⟩ else none
  | _, _ => none
theorem os_ix {K : PySem.W.Frag} : OpS K (rIx K) fIx := fun J p g σ H v w x y z Q R rv rw' h q => by
  unfold fIx at h
  split at h
  · rename_i ds i
    obtain ⟨a, vs, rfl, s, r⟩ := rep_lst rv
    cases rep_int rw'
    obtain ⟨k, u, h1, h2, h3⟩ := atI_map r.len h
    obtain ⟨d, e1, e2⟩ := r.get h2
    rw [h1] at e1
    cases e1
    exact .inl ⟨a, vs, i, u, rfl, rfl, sl_of s, h3, q p H .refl R _ e2⟩
  · rename_i ds i
    obtain ⟨a, vs, rfl, s, r⟩ := rep_tup rv
    cases rep_int rw'
    obtain ⟨k, u, h1, h2, h3⟩ := atI_map r.len h
    obtain ⟨d, e1, e2⟩ := r.get h2
    rw [h1] at e1
    cases e1
    exact .inr (.inl ⟨a, vs, i, u, rfl, rfl, st_del s, h3, q p H .refl R _ e2⟩)
  · rename_i x i
    split at h
    · rename_i hz
      cases rep_str rv
      cases rep_int rw'
      cases e1 : atI x.cps.toList i with
      | none =>
        rw [e1] at h
        cases h
      | some c =>
        rw [e1] at h
        cases h
        exact .inr (.inr ⟨x, i, c, rfl, rfl, hz, e1, q p H .refl R _ (.str _)⟩)
    · cases h
  · cases h
theorem e_ix {ma mb : M D} (ha : EF X W a ma) (hb : EF X W b mb) (hs : PlainIx b := by exact fun _ _ => rfl) : EF X W (.Subscript a b pos) (mBin fIx ma mb) := fun J p g σ H R0 r hm Q hp =>
  of_pe (pe_ix ix_seq semE semE hs) (ha.then R0 hm hp fun x g1 p1 H1 v ad1 R1 rv hm1 hp1 => hb.then R1 hm1 hp1 fun y g2 p2 H2 w ad2 R2 rw' hm2 hp2 => by
    obtain ⟨z, hz, hq⟩ := post_lift hm2 hp2 R2
    exact os_ix J p2 g2 σ H2 v w x y z Q R2 (rv.le ad2.le) rw' hz hq)
/-! ### slices -/
def cutD (xs : List D) (lo hi : Option Int) : List D := (xs.drop (HT.sIx xs.length 0 lo)).take (HT.sIx xs.length xs.length hi - HT.sIx xs.length 0 lo)
theorem Reps.take {K : PySem.W.Frag} {H : Hp} {vs : List V} {ds : List D} (h : Reps K H vs ds) : ∀ n, Reps K H (vs.take n) (ds.take n) := by
  induction vs generalizing ds with
  | nil =>
    cases h
    exact fun n => by rw [List.take_nil, List.take_nil]; exact .nil
  | cons v r ih =>
    cases h with
    | cons a b =>
      intro n
      cases n with
      | zero => exact .nil
      | succ n => exact .cons a (ih b n)
theorem Reps.drop {K : PySem.W.Frag} {H : Hp} {vs : List V} {ds : List D} (h : Reps K H vs ds) : ∀ n, Reps K H (vs.drop n) (ds.drop n) := by
  induction vs generalizing ds with
  | nil =>
    cases h
    exact fun n => by rw [List.drop_nil, List.drop_nil]; exact .nil
  | cons v r ih =>
    cases h with
    | cons a b =>
      intro n
      cases n with
      | zero => exact .cons a b
      | succ n => exact ih b n
structure SemP (X : Cx) (e : Option Expr) (σ : St) (H : Hp) (Q : Option Int → Hp → Prop) : Prop where
  run : ∀ (pins : List (Addr × Obj)) (s : Shared), Inv X pins σ H s → wpAny (model X.prog X.w) X.A (evalPart e X.env) (fun u s' => ∃ o H', Inv X pins σ H' s' ∧ IsPart u o ∧ Q o H') X.xe s
def EP' (X : Cx) (W : WW) (e : Option Expr) (m : M (Option Int)) : Prop := ∀ J p g σ H, Rl X.K J p g σ H → ∀ r, m g = some r → ∀ Q : Option Int → Hp → Prop, Post X.K W J p g σ H r (fun o _ _ H' => Q o H') → SemP X e σ H Q
def asI : D → Option (Option Int)
  | .int i => some (some i)
  | _ => none
def mPart (m : M D) : M (Option Int) := m.bind fun d => lift (asI d)
theorem EP'.then {β : Type} {lo : Option Expr} {J : Hp} {p : Mt} {g : G} {σ : St} {H : Hp} {q : β → G → Mt → Hp → Prop} {r : R β} {m : M (Option Int)} {k : Option Int → M β} (h : EP' X W lo m) (R0 : Rl X.K J p g σ H) (hm : m.bind k g = some r) (hp : Post X.K W J p g σ H r q) {Q : Option Int → Hp → Prop}
    (hk : ∀ b g1 p1 H1, Ad g σ p H g1 p1 H1 → Rl X.K J p1 g1 σ H1 → k b g1 = some r → Post X.K W J p1 g1 σ H1 r q → Q b H1) : SemP X lo σ H Q := by
  unfold M.bind at hm
  cases e1 : m g with
  | none => rw [e1] at hm; cases hm
  | some r1 =>
    cases r1 with
    | ok d g1 =>
      rw [e1] at hm
      exact h J p g σ H R0 _ e1 Q fun p1 H1 ad R1 => hk d g1 p1 H1 ad R1 hm (hp.adv ad)
    | ex E g1 =>
      rw [e1] at hm
      cases hm
      exact h J p g σ H R0 _ e1 Q hp
def mSl {α : Type} (f : D → Option Int → Option Int → Option α) (ma : M D) (ml mh : M (Option Int)) : M α := ma.bind fun x => ml.bind fun l => mh.bind fun u => lift (f x l u)
def fSlS : D → Option Int → Option Int → Option D
  | .str x, l, u => if x.length ≤ sizeLine then some (.str (cutS x l u)) else none
  | .tup ds, l, u => if HT.sIx ds.length 0 l = 0 ∧ HT.sIx ds.length ds.length u = ds.length then none else some (.tup (cutD ds l u))
  | _, _, _ => none
def fSlL : D → Option Int → Option Int → Option O
  | .lst ds, l, u => some (.l (cutD ds l u))
  | _, _, _ => none
/-! ### own lists that change -/
/-- the own thing of slot i is another one from now on -/
theorem Rl.put {K : PySem.W.Frag} {J : Hp} {p : Mt} {g : G} {σ : St} {H : Hp} {i : Nat} {o o' : O} {u : HO} {q : Addr} (R : Rl K J p g σ H) (h : g.s[i]? = some (.o o)) (hq : σ[i]? = some (some (.ref q))) (ow : OwnAt K (del p H) (upd H q u) q o') :
    Rl K J p (g.set i (.o o')) σ (upd H q u) ∧ Ad g σ p H (g.set i (.o o')) p (upd H q u) := by
  obtain ⟨q', h1, h2, h3, h4⟩ := R.so i o h
  rw [hq] at h1
  cases h1
  have nd : p.d ≠ some q := fun z => R.dno q z h2
  have hid : Hid p q := .inr h2
  have le : Le (del p H) (del p (upd H q u)) := .of fun a x e => by
    have n := del_no e
    have na : a ≠ q := fun z => n (z ▸ hid)
    rw [del_at n, upd_ne na]
    exact del_of e
  refine ⟨⟨(List.length_set ..).trans R.len, fun a x n e => ?_, fun a e => ?_, R.dno, fun a m => ?_, fun a x f e => ?_, fun j d e => ?_, fun j d e => ?_, fun j e => ?_, fun j k o1 o2 x e1 e2 e3 e4 => ?_⟩, ⟨rfl, le, fun a m n => ⟨m, upd_ne fun z => n i o h (by rw [z]; exact hq)⟩, fun a n j d e => ?_, upd_th⟩⟩
  · rw [upd_ne (ne_of_none e h3)]
    exact R.old a x n e
  · have na : a ≠ q := fun z => nd (z ▸ e)
    exact (R.dice a e).le le (upd_ne na)
  · by_cases z : a = q
    · rw [z]
      exact ow.mut
    · rw [upd_ne z]
      exact R.lv a m
  · by_cases z : a = q
    · have mu := ow.mut
      rw [upd_same] at mu
      rw [z, upd_same] at e
      cases e
      exact absurd f (mut_nf mu)
    · rw [upd_ne z] at e
      exact R.fz a x f e
  · rcases getE_set e with ⟨_, z, _⟩ | ⟨_, e⟩
    · cases z
    · obtain ⟨v, x1, x2⟩ := R.sv j d e
      exact ⟨v, x1, x2.le le⟩
  · rcases getE_set e with ⟨e1, z, _⟩ | ⟨ne, e⟩
    · cases z
      rw [e1]
      exact ⟨q, hq, h2, h3, ow.le le rfl⟩
    · obtain ⟨x, x1, x2, x3, x4⟩ := R.so j d e
      have nx : x ≠ q := fun z => ne (R.inj j i d o x e h x1 (by rw [hq, z]))
      exact ⟨x, x1, x2, x3, x4.le le (upd_ne nx)⟩
  · rcases getE_set e with ⟨_, z, _⟩ | ⟨_, e⟩
    · cases z
    · exact R.sd j e
  · have o1' : ∃ o, g.s[j]? = some (.o o) := (getE_set e1).elim (fun z => ⟨o, by rw [z.1]; exact h⟩) fun z => ⟨o1, z.2⟩
    have o2' : ∃ o, g.s[k]? = some (.o o) := (getE_set e2).elim (fun z => ⟨o, by rw [z.1]; exact h⟩) fun z => ⟨o2, z.2⟩
    obtain ⟨_, e1'⟩ := o1'
    obtain ⟨_, e2'⟩ := o2'
    exact R.inj j k _ _ x e1' e2' e3 e4
  · rcases getE_set e with ⟨e1, _, _⟩ | ⟨_, e⟩
    · rw [e1]
      exact n i o h
    · exact n j d e
def onL {α : Type} (i : Nat) (k : List D → M α) : M α := fun g => match g.s[i]? with
  | some (.o (.l xs)) => k xs g
  | _ => none
theorem onL_some {α : Type} {i : Nat} {k : List D → M α} {g : G} {r : R α} (h : onL i k g = some r) : ∃ xs, g.s[i]? = some (.o (.l xs)) ∧ k xs g = some r := by
  unfold onL at h
  split at h
  · rename_i xs e
    exact ⟨xs, e, h⟩
  · cases h
/-- e as a statement -/
def mExpr (m : M D) : M Oc := m.bind fun _ => ret .nx
theorem s_expr {m : M D} (h : EF X W e m) (hs : swapsWith e none pos.line X.env = pure false := by rfl) : SS X W (.Expr e pos) (mExpr m) := fun J p g σ H R0 r hm Dd hp => by
  obtain ⟨r1, e1, hq⟩ := post_s R0 hm hp
  refine of_ps (ps_expr semE hs) (h J p g σ H R0 r1 e1 _ (hq _ fun d g1 p1 H1 er ad R1 hk hp1 v rv => ?_))
  cases hk
  exact hp1 σ p1 H1 .refl R1
/-- what a list's method does to an own list -/
def LS1 (K : PySem.W.Frag) (rr : V → List V → Hp → VK → Prop) (f : List D → D → Option (List D × D)) : Prop := ∀ J p g σ H i q xs v d ys z (Q : VK), Rl K J p g σ H → g.s[i]? = some (.o (.l xs)) → σ[i]? = some (some (.ref q)) → Rep K (del p H) v d → f xs d = some (ys, z) →
  (∀ p' H', Ad g σ p H (g.set i (.o (.l ys))) p' H' → Rl K J p' (g.set i (.o (.l ys))) σ H' → ∀ u, Rep K (del p' H') u z → Q u H') → rr (.ref q) [v] H Q
def toL (i : Nat) (o : Option (List D × D)) : M D := fun g => match o with
  | some (ys, z) => some (.ok z (g.set i (.o (.l ys))))
  | none => none
def mLm1 (i : Nat) (f : List D → D → Option (List D × D)) (m : M D) : M D := onL i fun _ => m.bind fun d => onL i fun xs => toL i (f xs d)
def mLm0 (i : Nat) (f : List D → Option (List D × D)) : M D := onL i fun xs => toL i (f xs)
theorem toL_some {i : Nat} {o : Option (List D × D)} {g : G} {r : R D} (h : toL i o g = some r) : ∃ ys z, o = some (ys, z) ∧ r = .ok z (g.set i (.o (.l ys))) := by
  unfold toL at h
  split at h
  · rename_i ys z
    exact ⟨ys, z, rfl, (Option.some.inj h).symm⟩
  · cases h
section
variable {x name : Str} {px pa : Pos} {id : String} {rr : V → List V → Hp → VK → Prop}
theorem e_lm1 {m : M D} {f : List D → D → Option (List D × D)} (i : Nat) (slot : Slot "list" name id) (hty : typeOf (.builtin id) = pure (.type "method_descriptor")) (hr : MtR X id rr) (hs : LS1 X.K rr f) (h : EF X W e m) (hN : X.N[i]? = some x := by rfl) (hv : Vis X.env.scope x := by first | exact Or.inl rfl | exact Or.inr (Or.inl rfl) | exact Or.inr (Or.inr rfl)) (hd : (x == ("__debug__" : Str)) = false := by decide) (hcd : (x == ("__classdict__" : Str)) = false := by decide)
    (hba : attributeBase (.Name x px) name X.env (eval (.Name x px) X.env) = eval (.Name x px) X.env := by rfl) (hl : (pa.endLine == ps.line) = true := by rfl)
    (hfew : ((backTo ps (starEach [e] X.env)).all (fun x => !x.1) && (backToKw ps (keywordEach [] X.env)).all (fun x => x.1.isSome) && decide ([e].length + ([] : List Keyword).length + (if ([] : List Keyword).isEmpty then 0 else 1) < 30)) = true := by rfl)
    (he : starEach [e] X.env = (false, eval e X.env) :: starEach [] X.env := by rfl) (hpl : (backTo ps (starEach [] X.env)).any (·.1) = false := by rfl) :
    EF X W (.Call (.Attribute (.Name x px) name pa) [e] [] ps) (mLm1 i f m) := fun J p g σ H R0 r hm Q hp => by
  obtain ⟨xs0, h0, hm⟩ := onL_some hm
  obtain ⟨q, h1, _, _, h4⟩ := R0.so i _ h0
  obtain ⟨vs0, h5, _⟩ := h4
  refine of_pe (pe_bm PySem.F.plainAttrs_list slot hty hr (pv i hN hv hd hcd) (pa_cons semE pa_nil he) hba hfew hl he hpl) ⟨_, h1, .inl ⟨rfl, _, .inl (.inl h5)⟩, h.then R0 hm hp fun d g1 p1 H1 v ad1 R1 rv hm1 hp1 => ?_⟩
  obtain ⟨xs, e1, hm1⟩ := onL_some hm1
  obtain ⟨ys, z, e2, rfl⟩ := toL_some hm1
  exact hs J p1 g1 σ H1 i q xs v d ys z Q R1 e1 h1 rv e2 fun p' H' ad R' u ru => hp1 p' H' ad R' u ru
end
section
variable {K : PySem.W.Frag}
def fApp (xs : List D) (d : D) : Option (List D × D) := if xs.length < sizeLine then some (xs ++ [d], .non) else none
theorem ls_app : LS1 K rAppend fApp := fun J p g σ H i q xs v d ys z Q R h0 h1 rv e k => by
  unfold fApp at e
  split at e
  · rename_i hz
    cases e
    obtain ⟨q', h2, h3, h4, vs, h5, h6⟩ := R.so i _ h0
    rw [h1] at h2
    cases h2
    obtain ⟨R1, ad⟩ := R.put (u := .lst (vs ++ [v])) h0 h1 (o' := .l (xs ++ [d])) ⟨_, upd_same, h6.app (.cons rv .nil)⟩
    exact ⟨q, vs, v, rfl, rfl, h5, by rw [h6.len]; exact hz, k p _ ad R1 _ .non⟩
  · cases e
theorem Reps.erase {H : Hp} {vs : List V} {ds : List D} (h : Reps K H vs ds) : ∀ n, Reps K H (vs.eraseIdx n) (ds.eraseIdx n) := by
  induction vs generalizing ds with
  | nil =>
    cases h
    exact fun n => by rw [List.eraseIdx_nil, List.eraseIdx_nil]; exact .nil
  | cons v r ih =>
    cases h with
    | cons a b =>
      intro n
      cases n with
      | zero => exact b
      | succ n => exact .cons a (ih b n)
end
end
end Mo
set_option Elab.async false
set_option linter.all false
set_option maxRecDepth 100000
set_option maxHeartbeats 4000000
/-! Mo, part nine: dicts, in, sums of lists, isinstance, methods of texts. -/
namespace Mo
open PySem PySem.Spec L2
section
variable {X : Cx} {W : WW} {e a b c o : Expr} {es : List Expr} {pos ps : Pos}
section
variable {K : PySem.W.Frag}
/-! ### keys -/
def asKey : D → Option Key
  | .int i => some (.inl i)
  | .str x => some (.inr x)
  | _ => none
def asKeys : List D → Option (List Key)
  | [] => some []
  | d :: ds => match asKey d, asKeys ds with
    | some k, some r => some (k :: r)
    | _, _ => none
def kD : Key → D
  | .inl i => .int i
  | .inr x => .str x
theorem rep_key {H : Hp} {v : V} {d : D} {k : Key} (h : Rep K H v d) (e : asKey d = some k) : v = kV k := by
  cases d <;> first | (cases e; done) | skip
  · cases e
    exact rep_int h
  · cases e
    exact rep_str h
theorem reps_keys {H : Hp} : ∀ {ds : List D} {vs : List V} {ks : List Key}, Reps K H vs ds → asKeys ds = some ks → vs = ks.map kV
  | [], _, _, h, e => by
    cases h
    cases e
    rfl
  | d :: ds, _, ks, h, e => by
    cases h with
    | cons a b =>
      simp only [asKeys] at e
      cases e1 : asKey d with
      | none => rw [e1] at e; cases e
      | some k =>
        cases e2 : asKeys ds with
        | none => rw [e1, e2] at e; cases e
        | some r =>
          rw [e1, e2] at e
          cases e
          rw [rep_key a e1, reps_keys b e2]
          rfl
theorem key_rep {H : Hp} : ∀ k : Key, Rep K H (kV k) (kD k)
  | .inl i => .int i
  | .inr x => .str x
theorem keys_reps {H : Hp} : ∀ ks : List Key, Reps K H (ks.map kV) (ks.map kD)
  | [] => .nil
  | k :: r => .cons (key_rep k) (keys_reps r)
/-! ### what a dict holds -/
def valD {κ : Type} [DecidableEq κ] (kvs : List (κ × D)) (k : κ) : Option D := (kvs.find? fun kv => decide (kv.1 = k)).map (·.2)
def putD {κ : Type} [DecidableEq κ] (kvs : List (κ × D)) (k : κ) (v : D) : List (κ × D) :=
  if (kvs.any fun kv => decide (kv.1 = k)) = true then kvs.map (fun kv => if kv.1 = k then (kv.1, v) else kv) else kvs ++ [(k, v)]
theorem repK_val {H : Hp} {k : Key} : ∀ {vs : List (Key × V)} {ds : List (Key × D)}, RepK K H vs ds → (∀ d, valD ds k = some d → ∃ v, valV vs k = some v ∧ Rep K H v d) ∧ (valD ds k = none → valV vs k = none)
  | _, _, .nil => ⟨fun d e => (nomatch e), fun _ => rfl⟩
  | _, _, .cons (k := k') (v := v') (d := d') (kvs := vs) (es := ds) h r => by
    obtain ⟨h1, h2⟩ := repK_val (k := k) r
    by_cases e : k' = k
    · refine ⟨fun d q => ?_, fun q => ?_⟩
      · have q' : valD ((k', d') :: ds) k = some d' := by simp [valD, List.find?_cons, e]
        rw [q'] at q
        cases q
        exact ⟨v', valV_pos e, h⟩
      · have q' : valD ((k', d') :: ds) k = some d' := by simp [valD, List.find?_cons, e]
        rw [q'] at q
        cases q
    · have q' : valD ((k', d') :: ds) k = valD ds k := by simp [valD, List.find?_cons, e]
      rw [q', valV_neg e]
      exact ⟨h1, h2⟩
theorem repT_val {H : Hp} {k : List Key} : ∀ {vs : List (List Key × V)} {ds : List (List Key × D)}, RepT K H vs ds → (∀ d, valD ds k = some d → ∃ v, valV vs k = some v ∧ Rep K H v d) ∧ (valD ds k = none → valV vs k = none)
  | _, _, .nil => ⟨fun d e => (nomatch e), fun _ => rfl⟩
  | _, _, .cons (k := k') (v := v') (d := d') (kvs := vs) (es := ds) h r => by
    obtain ⟨h1, h2⟩ := repT_val (k := k) r
    by_cases e : k' = k
    · refine ⟨fun d q => ?_, fun q => ?_⟩
      · have q' : valD ((k', d') :: ds) k = some d' := by simp [valD, List.find?_cons, e]
        rw [q'] at q
        cases q
        exact ⟨v', valV_pos e, h⟩
      · have q' : valD ((k', d') :: ds) k = some d' := by simp [valD, List.find?_cons, e]
        rw [q'] at q
        cases q
    · have q' : valD ((k', d') :: ds) k = valD ds k := by simp [valD, List.find?_cons, e]
      rw [q', valV_neg e]
      exact ⟨h1, h2⟩
theorem repK_any {H : Hp} {k : Key} : ∀ {vs : List (Key × V)} {ds : List (Key × D)}, RepK K H vs ds → (vs.any fun kv => decide (kv.1 = k)) = (ds.any fun kv => decide (kv.1 = k))
  | _, _, .nil => rfl
  | _, _, .cons h r => by
    rw [List.any_cons, List.any_cons, repK_any r]
theorem repK_len {H : Hp} : ∀ {vs : List (Key × V)} {ds : List (Key × D)}, RepK K H vs ds → vs.length = ds.length
  | _, _, .nil => rfl
  | _, _, .cons h r => congrArg (· + 1) (repK_len r)
theorem repT_len {H : Hp} : ∀ {vs : List (List Key × V)} {ds : List (List Key × D)}, RepT K H vs ds → vs.length = ds.length
  | _, _, .nil => rfl
  | _, _, .cons h r => congrArg (· + 1) (repT_len r)
theorem repK_app {H : Hp} {k : Key} {v : V} {d : D} (h : Rep K H v d) : ∀ {vs : List (Key × V)} {ds : List (Key × D)}, RepK K H vs ds → RepK K H (vs ++ [(k, v)]) (ds ++ [(k, d)])
  | _, _, .nil => .cons h .nil
  | _, _, .cons h' r => .cons h' (repK_app h r)
theorem repK_map {H : Hp} {k : Key} {v : V} {d : D} (h : Rep K H v d) : ∀ {vs : List (Key × V)} {ds : List (Key × D)}, RepK K H vs ds → RepK K H (vs.map fun kv => if kv.1 = k then (kv.1, v) else kv) (ds.map fun kv => if kv.1 = k then (kv.1, d) else kv)
  | _, _, .nil => .nil
  | _, _, .cons (k := k') h' r => by
    rw [List.map_cons, List.map_cons]
    by_cases e : k' = k
    · rw [if_pos e, if_pos e]
      exact .cons h (repK_map h r)
    · rw [if_neg e, if_neg e]
      exact .cons h' (repK_map h r)
theorem repK_put {H : Hp} {k : Key} {v : V} {d : D} {vs : List (Key × V)} {ds : List (Key × D)} (r : RepK K H vs ds) (h : Rep K H v d) : RepK K H (putK vs k v) (putD ds k d) := by
  unfold putK putD
  rw [repK_any r]
  split
  · exact repK_map h r
  · exact repK_app h r
/-! ### d[k], k in d, d.get(k, x), by frozen data -/
def getD (d k : D) : Option (Option D) := match d, k with
  | .dk kvs, k => (asKey k).map fun k => valD kvs k
  | .dt kvs, .tup ks => (asKeys ks).map fun k => valD kvs k
  | _, _ => none
theorem dget_of {p : Mt} {H : Hp} {v w : V} {d k : D} {r : Option D} (rv : Rep K (del p H) v d) (rw' : Rep K (del p H) w k) (e : getD d k = some r) :
    ∃ a u, v = .ref a ∧ DGet H a w u ∧ (∀ x, r = some x → ∃ y, u = some y ∧ Rep K (del p H) y x) ∧ (r = none → u = none) := by
  unfold getD at e
  split at e
  · rename_i kvs
    cases q : asKey k with
    | none => rw [q] at e; cases e
    | some kk =>
      rw [q] at e
      cases e
      cases rv with
      | dk s rr =>
        obtain ⟨h1, h2⟩ := repK_val (k := kk) rr
        refine ⟨_, valV _ kk, rfl, .inl ⟨_, kk, (vw_of s).rd, rep_key rw' q, rfl⟩, fun x ex => ?_, h2⟩
        obtain ⟨y, e1, e2⟩ := h1 x ex
        exact ⟨y, e1, e2⟩
  · rename_i kvs ks
    cases q : asKeys ks with
    | none => rw [q] at e; cases e
    | some kk =>
      rw [q] at e
      cases e
      cases rv with
      | dt s rr =>
        obtain ⟨b, ws, rfl, sb, rb⟩ := rep_tup rw'
        have ew := reps_keys rb q
        subst ew
        obtain ⟨h1, h2⟩ := repT_val (k := kk) rr
        refine ⟨_, valV _ kk, rfl, .inr ⟨_, kk, b, (vw_of s).rd, rfl, del_of sb, rfl⟩, fun x ex => ?_, h2⟩
        obtain ⟨y, e1, e2⟩ := h1 x ex
        exact ⟨y, e1, e2⟩
  · cases e
end
def fDGet (d k : D) : Option D := (getD d k).bind id
theorem e_dget {ma mb : M D} (hu : X.A.units + 1 < cLine) (ha : EF X W a ma) (hb : EF X W b mb) (hs : L2.NoSl b := by exact fun _ _ => rfl) : EF X W (.Subscript a b pos) (mBin fDGet ma mb) := fun J p g σ H R0 r hm Q hp =>
  of_pe (pe_dget hu semE semE hs) (ha.then R0 hm hp fun x g1 p1 H1 v ad1 R1 rv hm1 hp1 => hb.then R1 hm1 hp1 fun y g2 p2 H2 w ad2 R2 rw' hm2 hp2 => by
    obtain ⟨z, hz, hq⟩ := post_lift hm2 hp2 R2
    unfold fDGet at hz
    cases e : getD x y with
    | none => rw [e] at hz; cases hz
    | some u =>
      rw [e] at hz
      have hz' : u = some z := hz
      obtain ⟨A, u', ev, g1, g2, _⟩ := dget_of (rv.le ad2.le) rw' e
      obtain ⟨y', e1, e2⟩ := g2 z hz'
      subst e1
      exact ⟨A, y', ev, g1, hq p2 H2 .refl R2 _ e2⟩)
def fDIn (neg : Bool) (k d : D) : Option D := (getD d k).map fun u => .bl (if neg then !u.isSome else u.isSome)
theorem dget_some {K : PySem.W.Frag} {p : Mt} {H : Hp} {r : Option D} {u : Option V} (g2 : ∀ x, r = some x → ∃ y, u = some y ∧ Rep K (del p H) y x) (g3 : r = none → u = none) : u.isSome = r.isSome := by
  cases r with
  | none => rw [g3 rfl]; rfl
  | some x =>
    obtain ⟨y, e, _⟩ := g2 x rfl
    rw [e]
    rfl
theorem e_din {ma mb : M D} (hu : X.A.units + 1 < cLine) (ha : EF X W a ma) (hb : EF X W b mb) (hm : behindInMarks .In b = false := by rfl) : EF X W (.Compare a [.In] [b] pos) (mBin (fDIn false) ma mb) := fun J p g σ H R0 r hm' Q hp =>
  of_pe (pe_cmp (pc_din hu semE semE) hm) (ha.then R0 hm' hp fun x g1 p1 H1 v ad1 R1 rv hm1 hp1 => hb.then R1 hm1 hp1 fun y g2 p2 H2 w ad2 R2 rw' hm2 hp2 => by
    obtain ⟨z, hz, hq⟩ := post_lift hm2 hp2 R2
    unfold fDIn at hz
    cases e : getD y x with
    | none => rw [e] at hz; cases hz
    | some u =>
      rw [e] at hz
      cases hz
      obtain ⟨A, u', ev, g1, g2, g3⟩ := dget_of rw' (rv.le ad2.le) e
      refine ⟨A, u', ev, g1, ?_⟩
      rw [dget_some g2 g3]
      exact hq p2 H2 .refl R2 _ (.bl _))
/-! ### in a list, a tuple, a text -/
def flatD : D → Bool
  | .non => true
  | .bl _ => true
  | .int _ => true
  | .str _ => true
  | _ => false
def flV : D → V
  | .non => .non
  | .bl b => .bl b
  | .int i => .int i
  | .str x => .str x
  | _ => .non
theorem rep_flat {K : PySem.W.Frag} {H : Hp} {v : V} {d : D} (h : Rep K H v d) (f : flatD d = true) : v = flV d ∧ flatV v = true := by
  cases h <;> first | exact ⟨rfl, rfl⟩ | (cases f; done)
theorem reps_flat {K : PySem.W.Frag} {H : Hp} : ∀ {ds : List D} {vs : List V}, Reps K H vs ds → ds.all flatD = true → vs = ds.map flV ∧ vs.all flatV = true
  | [], _, h, _ => by cases h; exact ⟨rfl, rfl⟩
  | d :: ds, _, h, f => by
    cases h with
    | cons a b =>
      rw [List.all_cons, Bool.and_eq_true] at f
      obtain ⟨e1, e2⟩ := rep_flat a f.1
      obtain ⟨e3, e4⟩ := reps_flat b f.2
      refine ⟨by rw [e1, e3]; rfl, ?_⟩
      rw [List.all_cons, e2, e4]
      rfl
def inD (x : D) (ds : List D) : Bool := (ds.map flV).any fun y => eqV y (flV x)
def seqD : D → Option (List D)
  | .lst ds => some ds
  | .tup ds => some ds
  | _ => none
def fIn (neg : Bool) (x y : D) : Option D := match seqD y with
  | some ds => if flatD x && ds.all flatD then some (.bl (if neg then !inD x ds else inD x ds)) else none
  | none => none
theorem os_in {K : PySem.W.Frag} (neg : Bool) : OpS K (rIn K neg) (fIn neg) := fun J p g σ H v w x y z Q R rv rw' e q => by
  unfold fIn at e
  cases h : seqD y with
  | none => rw [h] at e; cases e
  | some ds =>
    rw [h] at e
    dsimp only at e
    split at e
    · rename_i hf
      rw [Bool.and_eq_true] at hf
      cases e
      obtain ⟨e1, e2⟩ := rep_flat rv hf.1
      have key : ∃ A ws, w = .ref A ∧ (SqL K H A ws ∨ SqT K H A ws) ∧ Reps K (del p H) ws ds := by
        cases y <;> first | (cases h; done) | skip
        · cases h
          obtain ⟨A, ws, rfl, s, r⟩ := rep_lst rw'
          exact ⟨A, ws, rfl, .inl (sl_of s), r⟩
        · cases h
          obtain ⟨A, ws, rfl, s, r⟩ := rep_tup rw'
          exact ⟨A, ws, rfl, .inr (st_del s), r⟩
      obtain ⟨A, ws, rfl, s, r⟩ := key
      obtain ⟨e3, e4⟩ := reps_flat r hf.2
      refine ⟨A, ws, rfl, s, e2, e4, ?_⟩
      have e5 : inV v ws = inD x ds := by
        unfold inV inD
        rw [e3, e1]
      rw [e5]
      exact q p H .refl R _ (.bl _)
    · cases e
def fInS (neg : Bool) : D → D → Option D
  | .str i, .str j => some (.bl (if neg then !(!(Builtin.Str.occurrences j i 0 j.length 1).isEmpty) else !(Builtin.Str.occurrences j i 0 j.length 1).isEmpty))
  | _, _ => none
theorem os_inS {K : PySem.W.Frag} : OpS K (fun x y H Q => ∃ i j, x = .str i ∧ y = .str j ∧ Q (.bl (!(Builtin.Str.occurrences j i 0 j.length 1).isEmpty)) H) (fInS false) := fun J p g σ H v w x y z Q R rv rw' e q => by
  unfold fInS at e
  split at e
  · cases e
    cases rep_str rv
    cases rep_str rw'
    exact ⟨_, _, rfl, rfl, q p H .refl R _ (.bl _)⟩
  · cases e
/-! ### + of lists, * of lists -/
def fCatL : D → D → Option O
  | .lst xs, .lst ys => if xs.length + ys.length ≤ sizeLine then some (.l (xs ++ ys)) else none
  | _, _ => none
def mBinO (f : D → D → Option O) (ma mb : M D) : M O := ma.bind fun x => mb.bind fun y => lift (f x y)
theorem eo_cat {ma mb : M D} (ha : EF X W a ma) (hb : EF X W b mb) : EO X W (.BinOp a .Add b pos) (mBinO fCatL ma mb) := fun J p g σ H R0 r hm Q hp =>
  of_pe (pe_op op_catS semE semE) (ha.then R0 hm hp fun x g1 p1 H1 v ad1 R1 rv hm1 hp1 => hb.then R1 hm1 hp1 fun y g2 p2 H2 w ad2 R2 rw' hm2 hp2 => by
    obtain ⟨z, hz, hq⟩ := post_liftO hm2 hp2 (ad1.trans ad2)
    unfold fCatL at hz
    split at hz
    · split at hz
      · rename_i hl
        cases hz
        obtain ⟨A, vs, rfl, s, r⟩ := rep_lst (rv.le ad2.le)
        obtain ⟨B, ws, rfl, s2, r2⟩ := rep_lst rw'
        refine ⟨A, B, vs, ws, rfl, rfl, sl_of s, sl_of s2, by rw [r.len, r2.len]; exact hl, fun q hq' => ?_⟩
        obtain ⟨R3, ad3, m3, j3, n3, le3⟩ := R2.hide (o := .lst (vs ++ ws)) hq'
        exact hq _ _ ad3 R3 q m3 hq' n3 ⟨_, upd_same, (r.app r2).le le3⟩
      · cases hz
    · cases hz)
/-! ### own dicts -/
def putO (o : O) (k v : D) : Option O := match o, k with
  | .k kvs, k => match asKey k with
    | some k => if kvs.length < sizeLine then some (.k (putD kvs k v)) else none
    | none => none
  | .t kvs, .tup ks => match asKeys ks with
    | some k => if kvs.length < sizeLine then some (.t (putD kvs k v)) else none
    | none => none
  | _, _ => none
def onO {α : Type} (i : Nat) (k : O → M α) : M α := fun g => match g.s[i]? with
  | some (.o o) => k o g
  | _ => none
theorem onO_some {α : Type} {i : Nat} {k : O → M α} {g : G} {r : R α} (h : onO i k g = some r) : ∃ o, g.s[i]? = some (.o o) ∧ k o g = some r := by
  unfold onO at h
  split at h
  · rename_i o e
    exact ⟨o, e, h⟩
  · cases h
/-- d[k] = v -/
def mDPut (i : Nat) (mk mv : M D) : M Oc := mv.bind fun v => onO i fun _ => mk.bind fun k => onO i fun o g => match putO o k v with
  | some o' => some (.ok .nx (g.set i (.o o')))
  | none => none
end
end Mo
set_option Elab.async false
set_option linter.all false
set_option maxRecDepth 100000
set_option maxHeartbeats 4000000
/-! Mo, part ten: own things read in their place; d.get; methods of texts; isinstance. -/
namespace Mo
open PySem PySem.Spec L2
section
variable {X : Cx} {W : WW} {e a b c o : Expr} {es : List Expr} {pos ps : Pos}
section
variable {x : Str} {px : Pos}
/-- d[k], d the def's own -/
def mDGetQ (i : Nat) (mk : M D) : M D := onO i fun _ => mk.bind fun k => onO i fun o => lift (fDGet o.d k)
def mDInQ (neg : Bool) (i : Nat) (mk : M D) : M D := mk.bind fun k => onO i fun o => lift (fDIn neg k o.d)
/-- xs[k], xs the def's own -/
def mIxQ (i : Nat) (mk : M D) : M D := onL i fun _ => mk.bind fun k => onL i fun xs => lift (fIx (.lst xs) k)
/-- len(xs), xs the def's own -/
def mLenQ (i : Nat) : M D := onL i fun xs => ret (.int xs.length)
end
/-! ### d.get(k, x) -/
def fDGet2 (d k x : D) : Option D := (getD d k).map fun u => u.getD x
def isDic : D → Bool
  | .dk _ => true
  | .dt _ => true
  | _ => false
def mGet2 (md mk mx : M D) : M D := md.bind fun d => (if isDic d = true then mk.bind fun k => mx.bind fun x => lift (fDGet2 d k x) else bad)
def mGet2Q (i : Nat) (mk mx : M D) : M D := onO i fun o0 => (if isDic o0.d = true then mk.bind fun k => mx.bind fun x => onO i fun o => lift (fDGet2 o.d k x) else bad)
/-! ### methods of texts -/
def fStrip : D → D → Option D
  | .str x, .str y => if x.length ≤ sizeLine then some (.str (Txt.stripChars x y)) else none
  | _, _ => none
/-- s.m(e), s a text -/
def mMs1 {α : Type} (f : D → D → Option α) (ma mb : M D) : M α := ma.bind fun x => (match x with | .str _ => mb.bind fun y => lift (f x y) | _ => bad)
theorem e_strip {pa : Pos} {ma mb : M D} (ha : EF X W a ma) (hb : EF X W b mb) (hba : attributeBase a "strip" X.env (eval a X.env) = eval a X.env := by rfl) (hl : (pa.endLine == pos.line) = true := by rfl) (hfew : ((backTo pos (starEach [b] X.env)).all (fun x => !x.1) && (backToKw pos (keywordEach [] X.env)).all (fun x => x.1.isSome) && decide ([b].length + ([] : List Keyword).length + (if ([] : List Keyword).isEmpty then 0 else 1) < 30)) = true := by rfl)
    (he : starEach [b] X.env = (false, eval b X.env) :: starEach [] X.env := by rfl) (hpl : (backTo pos (starEach [] X.env)).any (·.1) = false := by rfl) : EF X W (.Call (.Attribute a "strip" pa) [b] [] pos) (mMs1 fStrip ma mb) := fun J p g σ H R0 r hm Q hp =>
  of_pe (pe_bm PySem.F.plainAttrs_str PySem.F.slot_str_strip PySem.F.type_str_strip mt_stripChars semE (pa_cons semE pa_nil he) hba hfew hl he hpl) (ha.then R0 hm hp fun x g1 p1 H1 v ad1 R1 rv hm1 hp1 => by
    cases x <;> first | (cases hm1; done) | skip
    cases rep_str rv
    refine ⟨rfl, hb.then R1 hm1 hp1 fun y g2 p2 H2 w ad2 R2 rw' hm2 hp2 => ?_⟩
    obtain ⟨z, hz, hq⟩ := post_lift hm2 hp2 R2
    cases y <;> first | (cases hz; done) | skip
    cases rep_str rw'
    simp only [fStrip] at hz
    split at hz
    · rename_i hs
      cases hz
      exact ⟨_, _, rfl, rfl, hs, hq p2 H2 .refl R2 _ (.str _)⟩
    · cases hz)
def fJoin : D → D → Option D
  | .str x, y => match (seqD y).bind asStrs with
    | some ys => if (ys.map (·.length)).sum + ys.length * x.length ≤ 16777216 then some (.str (Txt.join x ys)) else none
    | none => none
  | _, _ => none
theorem e_join {pa : Pos} {ma mb : M D} (ha : EF X W a ma) (hb : EF X W b mb) (hs : starEach [b] X.env = [(false, eval b X.env)] := by rfl) (hbase : attributeBase a "join" X.env (eval a X.env) = eval a X.env := by rfl) (hline : (pa.endLine == pos.line) = true := by rfl) :
    EF X W (.Call (.Attribute a "join" pa) [b] [] pos) (mMs1 fJoin ma mb) := fun J p g σ H R0 r hm Q hp =>
  of_pe (pe_join semE semE hs hbase hline) (ha.then R0 hm hp fun x g1 p1 H1 v ad1 R1 rv hm1 hp1 => by
    cases x <;> first | (cases hm1; done) | skip
    cases rep_str rv
    refine ⟨⟨_, rfl⟩, hb.then R1 hm1 hp1 fun y g2 p2 H2 w ad2 R2 rw' hm2 hp2 => ?_⟩
    obtain ⟨z, hz, hq⟩ := post_lift hm2 hp2 R2
    simp only [fJoin] at hz
    split at hz
    · rename_i ys e1
      split at hz
      · rename_i hc
        cases hz
        have key : ∃ A, w = .ref A ∧ (SqL X.K H2 A (ys.map V.str) ∨ SqT X.K H2 A (ys.map V.str)) := by
          cases y <;> first | (cases e1; done) | skip
          · obtain ⟨A, ws, rfl, s, r⟩ := rep_lst rw'
            have ew := reps_strs r e1
            subst ew
            exact ⟨A, rfl, .inl (sl_of s)⟩
          · obtain ⟨A, ws, rfl, s, r⟩ := rep_tup rw'
            have ew := reps_strs r e1
            subst ew
            exact ⟨A, rfl, .inr (st_del s)⟩
        obtain ⟨A, rfl, hA⟩ := key
        exact ⟨_, A, ys, rfl, rfl, hA, hc, hq p2 H2 .refl R2 _ (.str _)⟩
      · cases hz
    · cases hz)
/-! ### isinstance(e, T), T a built-in class -/
def tyN : D → Option String
  | .non => some "NoneType"
  | .bl _ => some "bool"
  | .int _ => some "int"
  | .str _ => some "str"
  | .lst _ => some "list"
  | .tup _ => some "tuple"
  | .dk _ => some "dict"
  | .dt _ => some "dict"
  | _ => none
theorem rep_ty {K : PySem.W.Frag} {p : Mt} {J : Hp} {v : V} {d : D} {n : String} (h : Rep K (del p J) v d) (e : tyN d = some n) : TyX K J v (.type n) ∨ ∃ a, v = .ref a ∧ (((∃ kvs, Rd J a (.dT kvs)) ∧ n = "dict") ∨ ((∃ xs, Rd J a (.lst xs)) ∧ n = "list")) := by
  cases h <;> simp only [tyN] at e <;> first | (cases e; done) | skip
  · cases e; exact .inl (.base .non)
  · cases e; exact .inl (.base (.bl _))
  · cases e; exact .inl (.base (.int _))
  · cases e; exact .inl (.base (.str _))
  · rename_i s r
    cases e
    rcases sl_of s with z | ⟨o, its, k, z1, z2, _⟩
    · exact .inr ⟨_, rfl, .inr ⟨⟨_, z⟩, rfl⟩⟩
    · exact .inl (.kList z1 z2)
  · rename_i s r
    cases e; exact .inl (.base (.tup (del_of s)))
  · rename_i s r
    cases e
    rcases vw_of s with z | ⟨_, o, z⟩
    · exact .inl (.base (.dK z))
    · exact .inl (.fDict z)
  · rename_i s r
    cases e
    exact .inr ⟨_, rfl, .inl ⟨⟨_, (vw_of s).rd⟩, rfl⟩⟩
def fIsi (cls : String) (d : D) : Option D := ((tyN d).bind fun n => kitB n cls).map .bl
def mIsi (cls : String) (m : M D) : M D := m.bind fun d => lift (fIsi cls d)
/-- what isinstance is told of a value -/
def rIsD (K : PySem.W.Frag) : List V → Hp → VK → Prop := fun xs H Q => ∃ (a : Addr) (n cls : String) (b : Bool), xs = [.ref a, .ty cls] ∧ (((∃ kvs : List (List Key × V), Rd H a (.dT kvs)) ∧ n = "dict") ∨ ((∃ ys : List V, Rd H a (.lst ys)) ∧ n = "list")) ∧ PySem.W.kitOne K (.type n) (.type cls) = some b ∧ Q (.bl b) H
theorem call_isD : CallR X (.builtin "isinstance") (rIsD X.K) := by
  intro pins s σ H xs us Q I r h
  obtain ⟨a, n, cls, b, rfl, hr, e, q⟩ := h
  obtain ⟨u1, u2, rfl, r1, r2⟩ := vals2 r
  cases (show u1 = Value.ref a from r1)
  cases (show u2 = Value.type cls from r2)
  rcases hr with ⟨⟨kvs, hr⟩, rfl⟩ | ⟨⟨ys, hr⟩, rfl⟩
  · obtain ⟨_, _, xs, _, o, es, ep, h1, h2, _⟩ := dt_rd I.hok hr
    exact PySem.W.kia_one PySem.W.kitx_dict I.kIn ⟨o, h1, h2.1⟩ e (fun z => nomatch z) fun tk => ⟨.bl b, H, I.kept (t' := tk) fun _ _ z => z, rfl, q⟩
  · obtain ⟨z, its, n, r, e2⟩ := hr.ok I.hok
    exact PySem.W.kia_one PySem.W.kitx_list I.kIn ⟨_, e2, rfl⟩ e (fun z => nomatch z) fun tk => ⟨.bl b, H, I.kept (t' := tk) fun _ _ z => z, rfl, q⟩
theorem e_isi {x : Str} {cls : String} {px pc : Pos} {m : M D} (hm0 : X.mg "isinstance" = none) (hmc : X.mg x = none) (hvc : bootBuiltins x = some (.type cls)) (ha : EF X W a m) (hg : Gl X "isinstance" := by rfl) (hgc : Gl X x := by rfl)
    (hn : x ≠ "__name__" := by decide) (hd : (x == ("__debug__" : Str)) = false := by decide) (he : starEach [a, .Name x pc] X.env = (false, eval a X.env) :: starEach [.Name x pc] X.env := by rfl) (he2 : starEach [.Name x pc] X.env = (false, eval (.Name x pc) X.env) :: starEach [] X.env := by rfl) (hpl : (backTo pos (starEach [.Name x pc] X.env)).any (·.1) = false := by rfl) :
    EF X W (.Call (.Name "isinstance" px) [a, .Name x pc] [] pos) (mIsi cls m) := fun J p g σ H R0 r hm Q hp =>
  of_pe (pe_callB (call_isi.or call_isD) hg hm0 (by decide +kernel) (pa_cons semE (pa_cons (pe_bltn (v := .ty cls) hgc hmc hvc rfl hn hd) pa_nil he2) he) (by decide) (by decide) he hpl) (ha.then R0 hm hp fun d g1 p1 H1 v ad1 R1 rv hm1 hp1 => by
    obtain ⟨z, hz, hq⟩ := post_lift hm1 hp1 R1
    unfold fIsi at hz
    cases e1 : tyN d with
    | none => rw [e1] at hz; cases hz
    | some n =>
      rw [e1] at hz
      have hz' : (kitB n cls).map D.bl = some z := hz
      cases e2 : kitB n cls with
      | none => rw [e2] at hz'; cases hz'
      | some r1 =>
        rw [e2] at hz'
        cases hz'
        rcases rep_ty rv e1 with ty | ⟨A, rfl, hr⟩
        · exact .inl ⟨v, .ty cls, _, _, r1, rfl, .ty cls, ty, kit_ty e2, hq p1 H1 .refl R1 _ (.bl r1)⟩
        · exact .inr ⟨A, n, cls, r1, rfl, hr, kit_ty e2, hq p1 H1 .refl R1 _ (.bl r1)⟩)
end
end Mo
set_option Elab.async false
set_option linter.all false
set_option maxRecDepth 100000
set_option maxHeartbeats 4000000
/-! Mo, part ten: what is walked; a dict is locked meanwhile; for. -/
namespace Mo
open PySem PySem.Spec L2
/-! ### a dict that is locked -/
inductive Lk (X : Cx) (p : Mt) (J H : Hp) : Hp → Hp → Prop
  | no : Lk X p J H J H
  | on {d : Addr} {od : Obj} {u : HO} : isD u = true → H d = some u → p.d ≠ some d → d ∉ p.o → (∀ o' u', X.H_0 d ≠ some (.frz o' u')) → Lk X p J H (upd J d (.frz od u)) (upd H d (.frz od u))
section
variable {X : Cx} {J J' H H' : Hp} {p p1 : Mt} {g g1 : G} {σ σ1 : St} {d : Addr} {od : Obj} {u : HO}
theorem vw_frz {o : HO} {x : Obj} (h : Vw H d u) (hd : H d = some (.frz x o)) (f : isFD u = false) (io : isD o = true) : u = o := by
  rcases h with z | ⟨i, y, z⟩
  · rw [hd] at z
    cases z
    have f : isD o = false := f
    rw [io] at f
    cases f
  · rw [hd] at z
    cases z
    rfl
theorem le_lock (h : H d = some u) (i : isD u = true) : Le (del p H) (del p (upd H d (.frz od u))) := fun a x f r => by
  have n := vw_no r
  have r := vw_of r
  refine vw_at n ?_
  by_cases e : a = d
  · subst e
    rcases r with z | ⟨i2, y, z⟩
    · rw [h] at z
      cases z
      exact .inr ⟨i, od, upd_same⟩
    · rw [h] at z
      cases z
      cases i
  · rcases r with z | ⟨i2, y, z⟩
    · exact .inl (by rw [upd_ne e]; exact z)
    · exact .inr ⟨i2, y, by rw [upd_ne e]; exact z⟩
theorem le_unlock (h : H d = some (.frz od u)) (i : isD u = true) : Le (del p H) (del p (upd H d u)) := fun a x f r => by
  have n := vw_no r
  have r := vw_of r
  refine vw_at n ?_
  by_cases e : a = d
  · subst e
    rw [vw_frz r h f i]
    exact .inl upd_same
  · rcases r with z | ⟨i2, y, z⟩
    · exact .inl (by rw [upd_ne e]; exact z)
    · exact .inr ⟨i2, y, by rw [upd_ne e]; exact z⟩
theorem Rl.moved {K : PySem.W.Frag} (R : Rl K J p g σ H) (hd : p.d ≠ some d) (ho : d ∉ p.o) {w w' : HO} (le : Le (del p H) (del p (upd H d w))) (old : ∀ a o, p.d ≠ some a → J' a = some o → upd H d w a = some o) (jn : ∀ a, a ≠ d → J a = none → J' a = none) (fz : ∀ a o, isFD o = true → upd H d w a = some o → J' a = some o) : Rl K J' p g σ (upd H d w) := by
  refine ⟨R.len, old, fun a e => (R.dice a e).le le (upd_ne fun z => hd (by rw [← z]; exact e)), R.dno, fun a m => ?_, fz, fun i x e => ?_, fun i x e => ?_, R.sd, R.inj⟩
  · rw [upd_ne fun z => ho (by rw [← z]; exact m)]
    exact R.lv a m
  · obtain ⟨v, h1, h2⟩ := R.sv i x e
    exact ⟨v, h1, h2.le le⟩
  · obtain ⟨q, h1, h2, h3, h4⟩ := R.so i x e
    have nq : q ≠ d := fun z => ho (by rw [← z]; exact h2)
    exact ⟨q, h1, h2, jn q nq h3, h4.le le (upd_ne nq)⟩
theorem Lk.rl (l : Lk X p J H J' H') (R : Rl X.K J p g σ H) : Rl X.K J' p g σ H' ∧ Ad g σ p H g p H' := by
  cases l with
  | no => exact ⟨R, .refl⟩
  | on i hu hd ho hn =>
    rename_i d od u
    refine ⟨R.moved (w' := u) hd ho (le_lock hu i) (fun a o n e => ?_) (fun a n e => by rw [upd_ne n]; exact e) (fun a o f e => ?_), ⟨rfl, le_lock hu i, fun a m _ => ⟨m, upd_ne fun z => ho (by rw [← z]; exact m)⟩, fun _ h => h, upd_th⟩⟩
    by_cases z : a = d
    · subst z
      rw [upd_same] at e ⊢
      exact e
    · rw [upd_ne z] at e ⊢
      exact R.old a o n e
    · by_cases z : a = d
      · subst z
        rw [upd_same] at e ⊢
        exact e
      · rw [upd_ne z] at e ⊢
        exact R.fz a o f e
/-- behind the walk, the lock let go -/
theorem Lk.off {H5 : Hp} {p5 : Mt} {g5 : G} {σ5 : St} (l : Lk X p1 J H J' H') (R1 : Rl X.K J p1 g1 σ1 H) (dd : p5.d = p1.d) (R : Rl X.K J' p5 g5 σ5 H5) : ∃ H6, (H6 = H5 ∨ ∃ d od u, H5 d = some (.frz od u) ∧ (∀ o' u', X.H_0 d ≠ some (.frz o' u')) ∧ H6 = upd H5 d u) ∧
    Rl X.K J p5 g5 σ5 H6 ∧ Le (del p5 H5) (del p5 H6) ∧ (∀ a, H5 a ≠ none → H6 a ≠ none) ∧ (∀ a ∈ p5.o, H6 a = H5 a) ∧ (∀ a, J a ≠ none → J' a ≠ none) := by
  cases l with
  | no => exact ⟨H5, .inl rfl, R, .refl _, fun _ h => h, fun _ _ => rfl, fun _ h => h⟩
  | on i hu hd ho hn =>
    rename_i d od u
    have h5 : H5 d = some (.frz od u) := R.old d _ (by rw [dd]; exact hd) upd_same
    have hd5 : p5.d ≠ some d := by rw [dd]; exact hd
    have ho5 : d ∉ p5.o := fun m => mut_frz (R.lv d m) h5
    refine ⟨upd H5 d u, .inr ⟨d, od, u, h5, hn, rfl⟩, R.moved (w' := u) hd5 ho5 (le_unlock h5 i) (fun a o n e => ?_) (fun a n e => by rw [upd_ne n] at e; exact e) (fun a o f e => ?_), le_unlock h5 i, upd_th, fun a m => upd_ne fun z => ho5 (by rw [← z]; exact m), fun a n => ?_⟩
    · by_cases z : a = d
      · subst z
        rw [upd_same]
        have := R1.old a o hd e
        rw [hu] at this
        exact this
      · rw [upd_ne z]
        exact R.old a o n (by rw [upd_ne z]; exact e)
    · by_cases z : a = d
      · subst z
        rw [upd_same] at e
        cases e
        cases u <;> first | (cases f; done) | (cases i; done)
      · rw [upd_ne z] at e
        have := R.fz a o f e
        rw [upd_ne z] at this
        exact this
    · by_cases z : a = d
      · rw [z, upd_same]
        exact Option.some_ne_none _
      · rw [upd_ne z]
        exact n
/-! ### .. let go at an end -/
def unlP (X : Cx) (P : St → Hp → Prop) : St → Hp → Prop := fun σ H => P σ H ∨ ∃ d od u, H d = some (.frz od u) ∧ (∀ o' u', X.H_0 d ≠ some (.frz o' u')) ∧ P σ (upd H d u)
def unlV (X : Cx) (P : VK) : VK := fun v H => P v H ∨ ∃ d od u, H d = some (.frz od u) ∧ (∀ o' u', X.H_0 d ≠ some (.frz o' u')) ∧ P v (upd H d u)
def unlD (X : Cx) (Dd : Ends) : Ends := ⟨unlP X Dd.nx, unlV X Dd.rt, unlP X Dd.bk, unlP X Dd.ct⟩
theorem unl_of {P : St → Hp → Prop} {H6 : Hp} (h : H6 = H ∨ ∃ d od u, H d = some (.frz od u) ∧ (∀ o' u', X.H_0 d ≠ some (.frz o' u')) ∧ H6 = upd H d u) (q : P σ H6) : unlP X P σ H := h.elim (fun z => .inl (z ▸ q)) fun ⟨d, od, u, h1, h2, h3⟩ => .inr ⟨d, od, u, h1, h2, h3 ▸ q⟩
theorem unlV_of {P : VK} {H6 : Hp} {v : V} (h : H6 = H ∨ ∃ d od u, H d = some (.frz od u) ∧ (∀ o' u', X.H_0 d ≠ some (.frz o' u')) ∧ H6 = upd H d u) (q : P v H6) : unlV X P v H := h.elim (fun z => .inl (z ▸ q)) fun ⟨d, od, u, h1, h2, h3⟩ => .inr ⟨d, od, u, h1, h2, h3 ▸ q⟩
theorem unlP_ok {P : St → Hp → Prop} {pins : List (Addr × Obj)} {s : Shared} (I : Inv X pins σ H s) (h : unlP X P σ H) : ∃ H6, Inv X pins σ H6 s ∧ P σ H6 := h.elim (fun z => ⟨H, I, z⟩) fun ⟨d, od, u, h1, h2, h3⟩ => ⟨_, I.unlock h1 h2, h3⟩
theorem unlV_ok {P : VK} {v : V} {pins : List (Addr × Obj)} {s : Shared} (I : Inv X pins σ H s) (h : unlV X P v H) : ∃ H6, Inv X pins σ H6 s ∧ P v H6 := h.elim (fun z => ⟨H, I, z⟩) fun ⟨d, od, u, h1, h2, h3⟩ => ⟨_, I.unlock h1 h2, h3⟩
theorem semS_unl {st : Stmt} {Dd : Ends} (h : SemS X st (unlD X Dd) σ H) : SemS X st Dd σ H := ⟨fun pins s I => thn (h.run pins s I) fun f s1 q => by
  cases f with
  | next =>
    obtain ⟨σ', H', I1, q⟩ := q
    obtain ⟨H6, I2, q⟩ := unlP_ok I1 q
    exact ⟨σ', H6, I2, q⟩
  | brk =>
    obtain ⟨σ', H', I1, q⟩ := q
    obtain ⟨H6, I2, q⟩ := unlP_ok I1 q
    exact ⟨σ', H6, I2, q⟩
  | cont =>
    obtain ⟨σ', H', I1, q⟩ := q
    obtain ⟨H6, I2, q⟩ := unlP_ok I1 q
    exact ⟨σ', H6, I2, q⟩
  | ret u =>
    obtain ⟨v, σ', H', I1, r, q⟩ := q
    obtain ⟨H6, I2, q⟩ := unlV_ok I1 q
    exact ⟨v, σ', H6, I2, r, q⟩⟩
theorem semE_unl {e : Expr} {Q : VK} (h : SemE X e σ H (unlV X Q)) : SemE X e σ H Q := ⟨fun pins s I => thn (h.run pins s I) fun v s1 ⟨x, H1, I1, r, q⟩ => by
  obtain ⟨H6, I2, q⟩ := unlV_ok I1 q
  exact ⟨x, H6, I2, r, q⟩⟩
/-- an expression whose dict is locked behind it -/
def tLockA (X : Cx) (td : TE) : TE := fun σ H Q => td σ H fun x H1 => Q x H1 ∨ ∃ d u, H1 d = some u ∧ Mut (some u) ∧ ∀ od, (∀ o' u', X.H_0 d ≠ some (.frz o' u')) → Q x (upd H1 d (.frz od u))
theorem pe_lockA {e : Expr} {td : TE} (he : PE X e td) : PE X e (tLockA X td) := ⟨fun pins s σ H Q I h => thn (he.run pins s σ H _ I h) fun v s1 ⟨x, H1, I1, r1, q⟩ => by
  rcases q with q | ⟨d, u, h1, h2, q⟩
  · exact ⟨x, H1, I1, r1, q⟩
  · obtain ⟨od, I2⟩ := I1.lock h1 h2
    exact ⟨x, _, I2, r1, q od (I1.nofrz h1 h2)⟩⟩
end
/-! ### a walk over data -/
structure Wk (K : PySem.W.Frag) (J : Hp) (p1 : Mt) (H1 : Hp) (Jt : It) (ds : List D) : Prop where
  ex : ∃ (Gg : Hp → Prop) (Y : Nat → Hp → V → Hp → Prop), Walk Jt ds.length Gg Y ∧ (∀ p g σ H, Rl K J p g σ H → p.d = p1.d → Le (del p1 H1) (del p H) → Gg H) ∧
    ∀ p g σ H i x H', Rl K J p g σ H → p.d = p1.d → Le (del p1 H1) (del p H) → i < ds.length → Y i H x H' → ∃ d, ds[i]? = some d ∧ Rl K J p g σ H' ∧ Ad g σ p H g p H' ∧ Rep K (del p H') x d
def EI (X : Cx) (W : WW) (tg it : Expr) (m : M (List D)) : Prop := ∀ J p g σ H, Rl X.K J p g σ H → ∀ r, m g = some r → ∀ Q : It → Hp → Prop, Post X.K W J p g σ H r (fun ds _ p' H1 => ∀ Jt J' H', Lk X p' J H1 J' H' → Wk X.K J' p' H' Jt ds → Q Jt H') → SemI X tg it σ H Q
section
variable {X : Cx} {W : WW} {e a b c : Expr} {es : List Expr} {st : Stmt} {sts th el body : List Stmt} {pos ps : Pos}
theorem s_for {tg it : Expr} {is : List Nat} {mi : M (List D)} {f : D → G → Option G} {mb : M Oc} (hc : X.calm = true) (hpa : PassesOwn (model X.prog X.w) X.A X.env X.xe) (hi : EI X WN tg it mi) (hg : ES X is tg f) (hb : SB X WN body mb) (hfs : ∀ y, foldedSetIterable it X.env y = pure y := by intro _; rfl) :
    SS X WN (.For tg it body [] pos) (mFor f mi mb) := fun J p g σ H R0 r hm Dd hp => semS_unl (by
  obtain ⟨r1, e1, hq⟩ := post_s R0 hm hp
  refine of_ps (ps_for hpa hc semI semG semSs hfs) (hi J p g σ H R0 r1 e1 _ (hq _ fun ds g1 p1 H1 er ad R1 hk hp1 Jt J' H1' lk wk => ?_))
  obtain ⟨R1', ad1⟩ := lk.rl R1
  obtain ⟨Gg, Y, w, hG, hY⟩ := wk.ex
  have fin : ∀ {σ5 : St} {p5 : Mt} {H5 : Hp} {g5 : G}, As J' p1 H1' p5 H5 → Rl X.K J' p5 g5 σ5 H5 → ∃ H6, (H6 = H5 ∨ ∃ d od u, H5 d = some (.frz od u) ∧ (∀ o' u', X.H_0 d ≠ some (.frz o' u')) ∧ H6 = upd H5 d u) ∧
      As J p1 H1 p5 H6 ∧ Rl X.K J p5 g5 σ5 H6 ∧ Le (del p5 H5) (del p5 H6) ∧ (∀ a ∈ p5.o, H6 a = H5 a) ∧ ∀ a, J a ≠ none → J' a ≠ none := fun {σ5 p5 H5 g5} a5 R5 => by
    obtain ⟨H6, h1, h2, h3, h4, h5, h6⟩ := lk.off R1 a5.dd R5
    exact ⟨H6, h1, ⟨a5.dd, ad1.le.trans (a5.le.trans h3), fun x m n => a5.ex x m (h6 x n), fun x n => h4 x (a5.th x (ad1.th x n))⟩, h2, h3, h5, h6⟩
  refine for_it w (fun k σ' H' => ∃ g' p', As J' p1 H1' p' H' ∧ Rl X.K J' p' g' σ' H' ∧ mLoop f mb (ds.drop k) g' = some r) ⟨g1, p1, .refl, R1', hk⟩ (fun k σ' H' _ ⟨g', p', a', R', _⟩ => hG p' g' σ' H' R' a'.dd a'.le) (fun k x σ' H' H2 hlt ⟨g', p', a', R', e'⟩ y => ?_) (fun σ' H' ⟨g', p', a', R', e'⟩ => ?_)
  · obtain ⟨d, ed, R2, ad2, rx⟩ := hY p' g' σ' H' k x H2 R' a'.dd a'.le hlt y
    have a2 : As J' p1 H1' p' H2 := a'.trans (ad2.as R')
    have e2 : ds.drop k = d :: ds.drop (k + 1) := by
      rw [List.drop_eq_getElem_cons hlt]
      rw [List.getElem?_eq_getElem hlt] at ed
      cases ed
      rfl
    rw [e2] at e'
    simp only [mLoop] at e'
    cases q1 : f d g' with
    | none =>
      rw [q1] at e'
      cases e'
    | some g3 =>
      rw [q1] at e'
      simp only at e'
      refine hg J' p' g' σ' H2 x d g3 R2 rx q1 _ fun σ3 sm R3 => ?_
      cases q2 : mb g3 with
      | none =>
        rw [q2] at e'
        cases e'
      | some r2 =>
        rw [q2] at e'
        refine hb J' p' g3 σ3 H2 R3 r2 q2 _ ?_
        cases r2 with
        | ex E g4 =>
          cases e'
          intro σ5 p5 H5 a5 R5
          obtain ⟨H6, h1, h2, h3, _⟩ := fin (a2.trans a5) R5
          exact hp1 σ5 p5 H6 h2 h3
        | ok o g4 =>
          cases o with
          | nx => exact fun σ5 p5 H5 a5 R5 => ⟨g4, p5, a2.trans a5, R5, e'⟩
          | ct => exact fun σ5 p5 H5 a5 R5 => ⟨g4, p5, a2.trans a5, R5, e'⟩
          | bk =>
            cases e'
            intro σ5 p5 H5 a5 R5
            obtain ⟨H6, h1, h2, h3, _⟩ := fin (a2.trans a5) R5
            exact unl_of h1 (hp1 σ5 p5 H6 h2 h3)
          | rt d2 =>
            cases e'
            intro σ5 p5 H5 v a5 R5 rv
            obtain ⟨H6, h1, h2, h3, h4, _⟩ := fin (a2.trans a5) R5
            exact unlV_of h1 (hp1 σ5 p5 H6 v h2 h3 (rv.le h4))
          | rto d2 =>
            cases e'
            intro σ5 p5 H5 q a5 R5 m1 m2 m3 m4
            obtain ⟨H6, h1, h2, h3, h4, h5, h6⟩ := fin (a2.trans a5) R5
            refine unlV_of h1 (hp1 σ5 p5 H6 q h2 h3 m1 ?_ m3 (m4.le h4 (h5 q m1)))
            cases e : J q with
            | none => rfl
            | some o => exact absurd m2 (h6 q (by rw [e]; exact Option.some_ne_none _))
  · rw [List.drop_length] at e'
    cases e'
    obtain ⟨H6, h1, h2, h3, _⟩ := fin a' R'
    exact unl_of h1 (hp1 σ' p' H6 h2 h3))
end
end Mo
set_option Elab.async false
set_option linter.all false
set_option maxRecDepth 100000
set_option maxHeartbeats 4000000
/-! Mo, between: zip and enumerate over lists and tuples, whichever stands where. -/
namespace Mo
open PySem PySem.Spec L2
open PyProof.Rows hiding St
/-- a list | a tuple -/
inductive Kd where
  | l | t
def Sk (K : PySem.W.Frag) : Kd → Hp → Addr → List V → Prop
  | .l => SqL K
  | .t => SqT K
def Ik : Kd → Heap → Addr → Addr → Nat → Prop
  | .l => Heap.IsListIter
  | .t => Heap.IsTupleIter
def Ak : Kd → Heap → Addr → Array Value → Prop
  | .l => Heap.IsList
  | .t => Heap.IsTuple
def itO : Kd → Addr → Obj
  | .l, a => { cls := .type "list_iterator", data := .fields #[.ref a, .int 0 0] }
  | .t, a => { cls := .type "tuple_iterator", data := .fields #[.ref a, .int 0 0] }
theorem begins_k (k : Kd) (a : Addr) (items : Array Value) : Begins (.ref a) (itO k a) fun h => Ak k h a items := by
  cases k
  · exact begins_list a items
  · exact begins_tuple a items
theorem draws_k {prog : Program} {w : World} {A : Around} (hh : A.handled = none) (k : Kd) (it a : Addr) (hne : a ≠ it) (items : Array Value) :
    Draws prog w A it [it, a] items.size (fun i v => items[i]? = some v) (fun i h => Ik k h it a i ∧ Ak k h a items) := by
  cases k
  · exact Draws.list hh it a hne items
  · exact Draws.tuple hh it a hne items
theorem itO_at {k : Kd} {h : Heap} {it a : Addr} (e : h.get? it = some (itO k a)) : Ik k h it a 0 := by
  cases k
  · exact ⟨_, e, rfl, rfl⟩
  · exact ⟨_, e, rfl, rfl⟩
theorem ik_keep {k : Kd} {h h' : Heap} {it a : Addr} {i : Nat} (x : Ik k h it a i) (kp : ∀ o, h.get? it = some o → h'.get? it = some o) : Ik k h' it a i := by
  cases k
  · exact x.at fun o e => kp o e
  · exact x.at fun o e => kp o e
theorem ik_obj {k : Kd} {h : Heap} {it a : Addr} {i : Nat} (x : Ik k h it a i) : ∃ o, h.get? it = some o ∧ ∀ v, o.data ≠ .cell v := by
  cases k
  · obtain ⟨o, e, _, d⟩ := x
    exact ⟨o, e, fun v q => by rw [d] at q; cases q⟩
  · obtain ⟨o, e, _, d⟩ := x
    exact ⟨o, e, fun v q => by rw [d] at q; cases q⟩
section
variable {X : Cx} {pins : List (Addr × Obj)} {σ : St} {H : Hp} {s : Shared} {k : Kd} {a : Addr} {xs ys : List V}
theorem inv_sk (I : Inv X pins σ H s) (h : Sk X.K k H a xs) : ∃ its : List Value, Vals xs its ∧ Ak k s.heap a its.toArray ∧ a < s.heap.objs.size := by
  cases k
  · obtain ⟨its, rv, p, _⟩ := I.list h
    exact ⟨its, rv, p.isList, p.lt⟩
  · obtain ⟨its, rv, p, _⟩ := I.tuple h
    obtain ⟨o, ho, _⟩ := id p
    exact ⟨its, rv, p, Heap.lt_size ho⟩
theorem inv_sk_inj (I : Inv X pins σ H s) (h : Sk X.K k H a xs) (h' : Sk X.K k H a ys) : xs = ys := by
  cases k
  · exact I.list_inj h h'
  · exact I.tuple_inj h h'
end
/-! ### enumerate(e) -/
set_option maxHeartbeats 1000000 in
theorem enum1_meets {v : Value} {o : Obj} {P : Heap → Prop} (B : Begins v o P) :
    Meets (Builtin.«enumerate.__new__» ⟨[.type "enumerate", v], []⟩) (fun _ R s => P s.heap ∧
      R (.ok (.ret (.ref (s.heap.push o).objs.size))) { s with heap := (s.heap.push o).push { cls := .type "enumerate", data := .fields #[.none, .bool false, .ref s.heap.objs.size, rawInt 0, .none, .none] } }) :=
  .of_wp fun prog w A R s h => by
    obtain ⟨hp, g, d, tk, os⟩ := s
    obtain ⟨h1, h⟩ := h
    have hsub := sub_enumerate
    have go : ∀ {A' : Around} {E : Value → Shared → Prop} {Q : Value → Shared → Prop}, Q (.ref hp.objs.size) ⟨hp.push o, g, d, tk, os⟩ → wpAny (model prog w) A' (pyIter v) Q E ⟨hp, g, d, tk, os⟩ :=
      fun q => B.iter prog w _ _ ⟨hp, g, d, tk, os⟩ _ h1 q
    wp_walk using go
    refine wpAny_stack_any fun st => wpAny_pure ?_
    split
    · rename_i c _ _ _ _ _
      cases (c == Value.type "enumerate") <;> (wp_walk using go; exact ⟨_, rfl, h⟩)
    · wp_walk using go
      exact ⟨_, rfl, h⟩
theorem enum1_call {prog : Program} {w : World} {A : Around} {E : Value → Shared → Prop} {s : Shared} {v : Value} {o : Obj} {P : Heap → Prop} {Q : Value → Shared → Prop} (B : Begins v o P) (h1 : P s.heap)
    (h : ∀ h', IsEnum h' (s.heap.objs.size + 1) s.heap.objs.size 0 .none → h'.get? s.heap.objs.size = some o → (∀ b u, s.heap.get? b = some u → h'.get? b = some u) → Q (.ref (s.heap.objs.size + 1)) { s with heap := h' }) :
    wpAny (model prog w) A (call (.type "enumerate") [v]) Q E s := by
  refine callType_new F.called_enumerate (by decide) (F.typeCall_enumerate_1 _) (F.newCall_enumerate_1 _) (fun obj => F.args_object_init_2 obj _) F.entry_enumerate_new (enum1_meets B) ⟨h1, ?_⟩
  have hz : (s.heap.push o).objs.size = s.heap.objs.size + 1 := Heap.size_push ..
  show _ ∧ _
  rw [hz]
  have he := Heap.get?_push_size (s.heap.push o) (o := { cls := .type "enumerate", data := .fields #[.none, .bool false, .ref s.heap.objs.size, rawInt 0, .none, .none] }) rfl
  rw [hz] at he
  exact ⟨⟨_, he, rfl⟩, h _ he (Heap.get?_push_of_some _ (Heap.get?_push_size _ B.free)) fun b u x => Heap.get?_push_of_some _ (Heap.get?_push_of_some _ x)⟩
/-- the turns -/
def ItK (K : PySem.W.Frag) (k : Kd) (a : Addr) : It :=
  ⟨fun i H => ∃ (xs : List V) (x : V), Sk K k H a xs ∧ xs[i]? = some x, fun i H v H' => ∃ T x, v = .ref T ∧ H T = none ∧ H' = upd H T (.tup [.int (i : Nat), x]) ∧ ∀ xs, Sk K k H a xs → xs[i]? = some x, fun i H => ∃ xs : List V, Sk K k H a xs ∧ i = xs.length⟩
theorem turn_enumK {P : Program} {w : World} {K : PySem.W.Frag} {elts : List Expr} {kk : Nat} {tpos : Pos} (k : Kd) (a e it : Addr) (ne : e ≠ it) (na : a ≠ it) (nea : e ≠ a) :
    Turn P w K (.Tuple elts kk tpos) (ItK K k a) [e, it] e (fun i h => (∃ old, IsEnum h e it ((i : Nat) : Int) old) ∧ Ik k h it a i) where
  mem := by simp
  obj := fun i h ⟨⟨old, he⟩, hi⟩ b hb => by
    rcases (show b = e ∨ b = it by simpa using hb) with z | z
    · rw [z]
      exact ⟨_, he, fun v q => nomatch q⟩
    · rw [z]
      exact ik_obj hi
  keep := fun i h h' ⟨⟨old, he⟩, hi⟩ kp => ⟨⟨old, kp e (by simp) _ he⟩, ik_keep hi fun o q => kp it (by simp) o q⟩
  item := by
    intro X hP hw hK hc i pins s σ H E I hf ⟨⟨old, he⟩, hit⟩ ⟨xs, x, hq, hx⟩
    subst hP hw hK
    obtain ⟨its, rv, p, _⟩ := inv_sk I hq
    obtain ⟨u, hu, ru⟩ := rv.get hx
    have hel : e < s.heap.objs.size := Heap.lt_size he
    have hil : it < s.heap.objs.size := by
      obtain ⟨o, q, _⟩ := ik_obj hit
      exact Heap.lt_size q
    have hlt : i < its.toArray.size := by
      have := List.getElem?_eq_some_iff.mp hu
      obtain ⟨z, _⟩ := this
      simpa using z
    refine wpAny_pyNext_enum_itemD (draws_k (A := X.A.in1) (show X.A.in1.handled = none from I.ok.hd hc) k it a na its.toArray) he ⟨hit, p⟩ hlt ne (by simp [ne, nea]) fun u' h' tk hP ho ⟨hit', _⟩ hT hsz hk => ?_
    have eu : u' = u := by
      have : its[i]? = some u' := by simpa using hP
      rw [hu] at this
      exact (Option.some.inj this).symm
    subst eu
    refine ⟨_, rfl, wpAny_letOwnedTupleGo_enum (s := { s with heap := h', toks := tk + 1 }) ho fun h'' he' sb => ?_⟩
    have hT2 : h''.get? s.heap.objs.size = some { cls := .type "tuple", data := .seq #[.int i tk, u'] } := (sb.2 _ (Nat.ne_of_gt hel)).trans hT
    have new : ObjOk X.prog X.w (upd H s.heap.objs.size (.tup [.int (i : Nat), x])) h'' s.heap.objs.size (.tup [.int (i : Nat), x]) :=
      ⟨by show 2 ≤ sizeLine; decide, [.int i tk, u'], .cons ⟨_, rfl⟩ (.cons ru .nil), ⟨_, hT2, rfl, _, rfl⟩⟩
    have I1 : Inv X pins σ (upd H s.heap.objs.size (.tup [.int (i : Nat), x])) { s with heap := h'', toks := tk + 1 } :=
      I.turnedNew (ch := [e, it]) (fun b ob hb q => (sb.2 b (fun z => hb (by simp [z]))).trans (hk b ob (fun z => hb (by simp [z])) (fun z => hb (by simp [z])) q)) hf (Nat.le_refl _) new
    refine ⟨.ref s.heap.objs.size, _, I1, rfl, ⟨_, x, rfl, I.hok.fresh (Nat.le_refl _), rfl, fun ys hy => by rw [inv_sk_inj I hy hq]; exact hx⟩, ⟨⟨u', by simpa using he'⟩, ik_keep hit' fun o q => (sb.2 it (Ne.symm ne)).trans q⟩, fun b hb => ?_⟩
    have hb' : b < s.heap.objs.size := by
      rcases (show b = e ∨ b = it by simpa using hb) with z | z
      · rw [z]
        exact hel
      · rw [z]
        exact hil
    rw [upd_ne (Nat.ne_of_lt hb')]
    exact (hf b hb).1
  done := by
    intro X hP hw hK hc i pins s σ H E I hf ⟨⟨old, he⟩, hit⟩ ⟨xs, hq, hx⟩
    subst hP hw hK
    obtain ⟨its, rv, p, _⟩ := inv_sk I hq
    obtain ⟨f0, f1, f2, f3, f4, f5⟩ := hf it (by simp)
    have hl : i = its.toArray.size := by rw [hx, rv.length]; simp
    refine wpAny_pyNext_enum_endD (draws_k (A := X.A.in1) (show X.A.in1.handled = none from I.ok.hd hc) k it a na its.toArray) he ⟨by rw [← hl]; exact hit, p⟩ fun h' eb => ⟨rfl, I.turned (t' := s.toks) (fun b o hb q => eb b o hb q) f0 f1 f3 f4 f5⟩
  self := fun A i s Q E ⟨⟨_, he⟩, _⟩ h => wpAny_pyIter_enum he h
def iEnumK (K : PySem.W.Frag) (ta : TA) : TI := fun σ H R => ta σ H fun vs H1 => ∃ k a xs, vs = [.ref a] ∧ Sk K k H1 a xs ∧ R (ItK K k a) H1
theorem pi_enumK {X : Cx} {e : Expr} {ta : TA} {p pos tpos : Pos} {elts : List Expr} {kk : Nat} (hg : Gl X "enumerate") (hm : X.mg "enumerate" = none) (ha : PA X [e] ta) (hs : starEach [e] X.env = [(false, eval e X.env)] := by rfl) :
    PI X (.Tuple elts kk tpos) (.Call (.Name "enumerate" p) [e] [] pos) (iEnumK X.K ta) := by
  refine ⟨fun pins s σ H R I h => ?_⟩
  refine Call_ (ld_blt I hg hm boot_enumerate (PyProof.Rows.callWith_type1 (thn (ha.run pos pins s σ H _ I h) fun us s1 ⟨vs, H1, I1, r1, k, a, xs, ex, hq, q⟩ => ?_) hs rfl))
  subst ex
  cases r1 with
  | cons r rr =>
    cases rr
    cases r
    obtain ⟨its, rv, p', hlt⟩ := inv_sk I1 hq
    refine enum1_call (begins_k k a its.toArray) p' fun h' he hit hk => wpAny_pyIter_enum he ?_
    have I2 : Inv X pins σ H1 { s1 with heap := h' } := I1.kept (t' := s1.toks) hk
    refine ⟨s1.heap.objs.size + 1, [s1.heap.objs.size + 1, s1.heap.objs.size], _, _, H1, rfl, I2, turn_enumK k a (s1.heap.objs.size + 1) s1.heap.objs.size (Nat.succ_ne_self _) (Nat.ne_of_lt hlt) (Nat.ne_of_gt (Nat.lt_succ_of_lt hlt)), ⟨⟨.none, he⟩, itO_at hit⟩, fun b hb => ?_, q⟩
    have hle : s1.heap.objs.size ≤ b := by
      rcases (show b = s1.heap.objs.size + 1 ∨ b = s1.heap.objs.size by simpa using hb) with z | z
      · rw [z]
        exact Nat.le_succ _
      · rw [z]
        exact Nat.le_refl _
    exact I1.fpOk hle (I1.hok.fresh hle)
theorem walk_enumK {K : PySem.W.Frag} {k : Kd} {a : Addr} {xs : List V} : Walk (ItK K k a) xs.length (fun H => Sk K k H a xs) (YPair (fun i => some (.int (i : Nat))) (fun i => xs[i]?)) := by
  refine ⟨fun i _ hi q => ⟨xs, xs[i], q, by simp [hi]⟩, fun _ q => ⟨xs, q, rfl⟩, fun i H v H' _ q ⟨T, x, h1, h2, h3, h4⟩ => ?_⟩
  exact ⟨T, .int (i : Nat), x, h1, h2, h3, rfl, h4 xs q⟩
/-! ### zip(e, e2) -/
def ItZ (K : PySem.W.Frag) (k k2 : Kd) (a b : Addr) : It :=
  ⟨fun i H => ∃ (xs ys : List V) (x y : V), Sk K k H a xs ∧ Sk K k2 H b ys ∧ xs[i]? = some x ∧ ys[i]? = some y,
    fun i H v H' => ∃ T x y, v = .ref T ∧ H T = none ∧ H' = upd H T (.tup [x, y]) ∧ (∀ xs, Sk K k H a xs → xs[i]? = some x) ∧ ∀ ys, Sk K k2 H b ys → ys[i]? = some y,
    fun i H => ∃ xs ys : List V, Sk K k H a xs ∧ Sk K k2 H b ys ∧ i ≤ xs.length ∧ i ≤ ys.length ∧ (i = xs.length ∨ i = ys.length)⟩
theorem pair5 {z TI TO i1 i2 c : Addr} (h : c ∈ [z, TI, TO, i1, i2]) : c = z ∨ c = TI ∨ c = TO ∨ c = i1 ∨ c = i2 := by simpa using h
theorem turn_zipK {P : Program} {w : World} {K : PySem.W.Frag} {elts : List Expr} {kk : Nat} {tpos : Pos} (k k2 : Kd) {a b z TI TO i1 i2 : Addr} (S : ZipSep2 z TI TO i1 i2 [i1, a] [i2, b]) (na : a ≠ i1) (nb : b ≠ i2) :
    Turn P w K (.Tuple elts kk tpos) (ItZ K k k2 a b) [z, TI, TO, i1, i2] z (fun i h => IsZip h z TI TO .none ∧ IsTupOf2 h TI (.ref i1) (.ref i2) ∧ (∃ x y, IsTupOf2 h TO x y) ∧ Ik k h i1 a i ∧ Ik k2 h i2 b i) where
  mem := by simp
  obj := fun i h ⟨hz, hTI, ⟨x, y, hTO⟩, h1, h2⟩ c hc => by
    rcases pair5 hc with q | q | q | q | q <;> rw [q]
    · exact ⟨_, hz, fun v q => nomatch q⟩
    · exact ⟨_, hTI, fun v q => nomatch q⟩
    · exact ⟨_, hTO, fun v q => nomatch q⟩
    · exact ik_obj h1
    · exact ik_obj h2
  keep := fun i h h' ⟨hz, hTI, ⟨x, y, hTO⟩, h1, h2⟩ kp => ⟨kp z (by simp) _ hz, kp TI (by simp) _ hTI, ⟨x, y, kp TO (by simp) _ hTO⟩, ik_keep h1 fun o q => kp i1 (by simp) o q, ik_keep h2 fun o q => kp i2 (by simp) o q⟩
  item := by
    intro X hP hw hK hc i pins s σ H E I hf ⟨hz, hTI, ⟨x0, y0, hTO⟩, h1, h2⟩ ⟨xs, ys, x, y, hqx, hqy, hx, hy⟩
    subst hP hw hK
    obtain ⟨its, rv, p, _⟩ := inv_sk I hqx
    obtain ⟨its2, rv2, p2, _⟩ := inv_sk I hqy
    obtain ⟨u, hu, ru⟩ := rv.get hx
    obtain ⟨u2, hu2, ru2⟩ := rv2.get hy
    have hzl : z < s.heap.objs.size := Heap.lt_size hz
    have l1 : i < its.toArray.size := by
      obtain ⟨z, _⟩ := List.getElem?_eq_some_iff.mp hu
      simpa using z
    have l2 : i < its2.toArray.size := by
      obtain ⟨z, _⟩ := List.getElem?_eq_some_iff.mp hu2
      simpa using z
    have hd : X.A.in1.handled = none := I.ok.hd hc
    refine wpAny_pyNext_zipD2_item S (draws_k hd k i1 a na its.toArray) (draws_k hd k2 i2 b nb its2.toArray) hz hTI hTO ⟨h1, p⟩ ⟨h2, p2⟩ l1 l2 fun w1 w2 h' tk e1 e2 z' TO' ⟨h1', _⟩ ⟨h2', _⟩ hT hsz hk => ?_
    have q1 : w1 = u := by
      have : its[i]? = some w1 := by simpa using e1
      rw [hu] at this
      exact (Option.some.inj this).symm
    have q2 : w2 = u2 := by
      have : its2[i]? = some w2 := by simpa using e2
      rw [hu2] at this
      exact (Option.some.inj this).symm
    subst q1 q2
    refine ⟨_, rfl, wpAny_letOwnedTupleGo_zip (s := { s with heap := h', toks := tk }) z' fun h'' z'' sb => ?_⟩
    have hT2 : h''.get? s.heap.objs.size = some { cls := .type "tuple", data := .seq #[w1, w2] } := (sb.2 _ (Nat.ne_of_gt hzl)).trans hT
    have new : ObjOk X.prog X.w (upd H s.heap.objs.size (.tup [x, y])) h'' s.heap.objs.size (.tup [x, y]) :=
      ⟨by show 2 ≤ sizeLine; decide, [w1, w2], .cons ru (.cons ru2 .nil), ⟨_, hT2, rfl, _, rfl⟩⟩
    have I1 : Inv X pins σ (upd H s.heap.objs.size (.tup [x, y])) { s with heap := h'', toks := tk } :=
      I.turnedNew (ch := [z, TI, TO, i1, i2]) (fun c o hb q => (sb.2 c (fun q' => hb (by simp [q']))).trans (hk c o (fun q' => hb (by simp [q'])) (fun q' => hb (by simp [q'])) (fun q' => hb (by simp [q'])) (fun q' => hb (by simp [q'])) q)) hf (Nat.le_refl _) new
    refine ⟨.ref s.heap.objs.size, _, I1, rfl, ⟨_, x, y, rfl, I.hok.fresh (Nat.le_refl _), rfl, fun l hl => by rw [inv_sk_inj I hl hqx]; exact hx, fun l hl => by rw [inv_sk_inj I hl hqy]; exact hy⟩, ⟨z'', ?_, ⟨w1, w2, ?_⟩, ?_, ?_⟩, fun c hcm => ?_⟩
    · exact (sb.2 _ S.TIz).trans (hk _ _ S.TIz S.TITO S.TIi1 S.TIi2 hTI)
    · exact (sb.2 _ S.TOz).trans TO'
    · exact ik_keep h1' fun o q => (sb.2 _ (Ne.symm S.zi1)).trans q
    · exact ik_keep h2' fun o q => (sb.2 _ (Ne.symm S.zi2)).trans q
    · have hlt : c < s.heap.objs.size := by
        rcases pair5 hcm with q | q | q | q | q <;> rw [q]
        · exact hzl
        · exact Heap.lt_size hTI
        · exact Heap.lt_size hTO
        · obtain ⟨_, e, _⟩ := ik_obj h1
          exact Heap.lt_size e
        · obtain ⟨_, e, _⟩ := ik_obj h2
          exact Heap.lt_size e
      rw [upd_ne (Nat.ne_of_lt hlt)]
      exact (hf c hcm).1
  done := by
    intro X hP hw hK hc i pins s σ H E I hf ⟨hz, hTI, ⟨x0, y0, hTO⟩, h1, h2⟩ ⟨xs, ys, hqx, hqy, le1, le2, hend⟩
    subst hP hw hK
    obtain ⟨its, rv, p, _⟩ := inv_sk I hqx
    obtain ⟨its2, rv2, p2, _⟩ := inv_sk I hqy
    have l1 : xs.length = its.toArray.size := by rw [rv.length]; simp
    have l2 : ys.length = its2.toArray.size := by rw [rv2.length]; simp
    have hd : X.A.in1.handled = none := I.ok.hd hc
    exact wpAny_pyNext_zipD2_end S (draws_k hd k i1 a na its.toArray) (draws_k hd k2 i2 b nb its2.toArray) hz hTI hTO ⟨h1, p⟩ ⟨h2, p2⟩ (by omega) (by omega) (by omega) fun h' tk hk => ⟨rfl, I.turnedL (t' := tk) (ch := [z, TI, TO, i1, i2]) (fun c o hb q =>
      hk c o (fun q' => hb (by simp [q'])) (fun q' => hb (by simp [q'])) (fun q' => hb (by simp [q'])) (fun q' => hb (by simp [q'])) q) hf⟩
  self := fun A i s Q E st h => wpAny_pyIter_zip st.1 h
def iZipK (K : PySem.W.Frag) (ta : TA) : TI := fun σ H R => ta σ H fun vs H1 => ∃ k k2 a b xs ys, vs = [.ref a, .ref b] ∧ Sk K k H1 a xs ∧ Sk K k2 H1 b ys ∧ R (ItZ K k k2 a b) H1
theorem pi_zipK {X : Cx} {e e2 : Expr} {ta : TA} {p pos tpos : Pos} {elts : List Expr} {kk : Nat} (hg : Gl X "zip") (hm : X.mg "zip" = none) (ha : PA X [e, e2] ta)
    (hs : starEach [e, e2] X.env = (false, eval e X.env) :: starEach [e2] X.env := by rfl) (hpl : (backTo pos (starEach [e2] X.env)).any (·.1) = false := by rfl) :
    PI X (.Tuple elts kk tpos) (.Call (.Name "zip" p) [e, e2] [] pos) (iZipK X.K ta) := by
  refine ⟨fun pins s σ H R I h => ?_⟩
  refine Call_ (ld_blt I hg hm PyProof.Rows.boot_zip (PyProof.Rows.callWith_type1 (thn (ha.run pos pins s σ H _ I h) fun us s1 ⟨vs, H1, I1, r1, k, k2, a, b, xs, ys, ex, hqx, hqy, q⟩ => ?_) hs hpl))
  subst ex
  cases r1 with
  | cons r rr =>
    cases rr with
    | cons r' rr =>
      cases rr
      cases r
      cases r'
      obtain ⟨its, rv, p1, lt1⟩ := inv_sk I1 hqx
      obtain ⟨its2, rv2, p2, lt2⟩ := inv_sk I1 hqy
      have fresh : ∀ c, c ∈ [s1.heap.objs.size + 4, s1.heap.objs.size + 2, s1.heap.objs.size + 3, s1.heap.objs.size, s1.heap.objs.size + 1] → FpOk X pins H1 c := fun c hcm => by
        have hle : s1.heap.objs.size ≤ c := by
          rcases pair5 hcm with z | z | z | z | z <;> rw [z]
          · exact Nat.le_add_right _ _
          · exact Nat.le_add_right _ _
          · exact Nat.le_add_right _ _
          · exact Nat.le_refl _
          · exact Nat.le_add_right _ _
        exact I1.fpOk hle (I1.hok.fresh hle)
      refine zip_begins2 (begins_k k a its.toArray) (begins_k k2 b its2.toArray) p1 p2 fun h' hz hTI hTO h1 h2 hsz hk => wpAny_pyIter_zip hz ?_
      have I2 : Inv X pins σ H1 { s1 with heap := h' } := I1.kept (t' := s1.toks) hk
      have ap : ∀ (I a b : Nat), a < I → b < I → ZipSep2 (I + 4) (I + 2) (I + 3) I (I + 1) [I, a] [I + 1, b] := fun I a b x y => by
        have no : ∀ {c p q : Nat}, c ≠ p → c ≠ q → c ∉ [p, q] := fun h1 h2 m => by
          rcases List.mem_cons.mp m with e | m
          · exact h1 e
          · exact h2 (List.mem_singleton.mp m)
        have ne : ∀ {p q : Nat}, p < q → q ≠ p := fun h => Nat.ne_of_gt h
        exact ⟨Nat.ne_of_lt (by omega), Nat.ne_of_lt (by omega), Nat.ne_of_lt (by omega), ne (by omega), List.mem_cons_self, no (ne (by omega)) (ne (by omega)), no (ne (by omega)) (ne (by omega)), ne (by omega), List.mem_cons_self, no (ne (by omega)) (ne (by omega)), no (ne (by omega)) (ne (by omega)), no (Nat.ne_of_lt (by omega)) (ne (by omega)), no (ne (by omega)) (ne (by omega))⟩
      exact ⟨s1.heap.objs.size + 4, [s1.heap.objs.size + 4, s1.heap.objs.size + 2, s1.heap.objs.size + 3, s1.heap.objs.size, s1.heap.objs.size + 1], _, _, H1, rfl, I2, turn_zipK k k2 (ap _ _ _ lt1 lt2) (Nat.ne_of_lt lt1) (Nat.ne_of_lt (Nat.lt_succ_of_lt lt2)), ⟨hz, hTI, ⟨_, _, hTO⟩, itO_at h1, itO_at h2⟩, fresh, q⟩
theorem walk_zipK {K : PySem.W.Frag} {k k2 : Kd} {a b : Addr} {xs ys : List V} {n : Nat} (hn : n = min xs.length ys.length) : Walk (ItZ K k k2 a b) n (fun H => Sk K k H a xs ∧ Sk K k2 H b ys) (YPair (fun i => xs[i]?) (fun i => ys[i]?)) := by
  refine ⟨fun i H hi q => ?_, fun H q => ⟨xs, ys, q.1, q.2, by omega, by omega, by omega⟩, fun i H v H' hi q ⟨T, x, z, y1, y2, y3, y4, y5⟩ => ⟨T, x, z, y1, y2, y3, y4 xs q.1, y5 ys q.2⟩⟩
  have i1 : i < xs.length := by omega
  have i2 : i < ys.length := by omega
  exact ⟨xs, ys, _, _, q.1, q.2, List.getElem?_eq_getElem i1, List.getElem?_eq_getElem i2⟩
end Mo
set_option Elab.async false
set_option linter.all false
set_option maxRecDepth 100000
set_option maxHeartbeats 4000000
/-! Mo, part eleven: walks over data. -/
namespace Mo
open PySem PySem.Spec L2
def chars (x : Str) : List D := x.cps.toList.map fun c => .str ⟨#[c]⟩
/-- what a for goes through -/
def iterD : D → Option (List D)
  | .lst ds => some ds
  | .tup ds => some ds
  | .str x => some (chars x)
  | .dk kvs => some (kvs.map fun kv => kD kv.1)
  | .dt kvs => some (kvs.map fun kv => .tup (kv.1.map kD))
  | _ => none
def mIter (m : M D) : M (List D) := m.bind fun d => lift (iterD d)
section
variable {K : PySem.W.Frag} {J : Hp} {p1 : Mt} {H1 : Hp} {a b : Addr} {vs ws : List V} {ds es : List D}
theorem wk_list (ha : SqL K (del p1 H1) a vs) (ra : Reps K (del p1 H1) vs ds) : Wk K J p1 H1 (Itl K a) ds :=
  ⟨fun H => SqL K H a vs, YAt vs, by rw [← ra.len]; exact walk_list, fun p g σ H R dd le => sl_of (sl_le le ha), fun p g σ H i x H' R dd le hi ⟨e1, e2⟩ => by
    subst e1
    obtain ⟨d, h1, h2⟩ := (ra.le le).get e2
    exact ⟨d, h1, R, .refl, h2⟩⟩
theorem wk_tup (ha : del p1 H1 a = some (.tup vs)) (ra : Reps K (del p1 H1) vs ds) : Wk K J p1 H1 (Itt K a) ds :=
  ⟨fun H => SqT K H a vs, YAt vs, by rw [← ra.len]; exact walk_tup, fun p g σ H R dd le => st_del (le.ex ha rfl), fun p g σ H i x H' R dd le hi ⟨e1, e2⟩ => by
    subst e1
    obtain ⟨d, h1, h2⟩ := (ra.le le).get e2
    exact ⟨d, h1, R, .refl, h2⟩⟩
theorem chars_len (x : Str) : (chars x).length = x.cps.size := by
  unfold chars
  rw [List.length_map, Array.length_toList]
theorem wk_str (x : Str) : Wk K J p1 H1 (Its x) (chars x) :=
  ⟨fun _ => True, _, by rw [chars_len]; exact walk_str, fun _ _ _ _ _ _ _ => trivial, fun p g σ H i v H' R dd le hi y => by
    obtain ⟨e1, c, e2, e3⟩ := y
    subst e1
    subst e3
    refine ⟨.str ⟨#[c]⟩, ?_, R, .refl, .str _⟩
    unfold chars
    rw [List.getElem?_map, Array.getElem?_toList, e2]
    rfl⟩
theorem repK_get {H : Hp} : ∀ {vs : List (Key × V)} {es : List (Key × D)}, RepK K H vs es → ∀ {i : Nat} {k : Key} {v : V}, vs[i]? = some (k, v) → ∃ d, es[i]? = some (k, d) ∧ Rep K H v d
  | _, _, .nil, _, _, _, e => by cases e
  | _, _, .cons h r, 0, _, _, e => by
    cases e
    exact ⟨_, rfl, h⟩
  | _, _, .cons h r, i + 1, _, _, e => repK_get r (i := i) e
theorem repT_get {H : Hp} : ∀ {vs : List (List Key × V)} {es : List (List Key × D)}, RepT K H vs es → ∀ {i : Nat} {k : List Key} {v : V}, vs[i]? = some (k, v) → ∃ d, es[i]? = some (k, d) ∧ Rep K H v d
  | _, _, .nil, _, _, _, e => by cases e
  | _, _, .cons h r, 0, _, _, e => by
    cases e
    exact ⟨_, rfl, h⟩
  | _, _, .cons h r, i + 1, _, _, e => repT_get r (i := i) e
theorem wk_keys {o : Obj} {kvs : List (Key × V)} {eks : List (Key × D)} (hd : p1.d ≠ some a) (hJ : J a = some (.frz o (.dK kvs))) (r : RepK K (del p1 H1) kvs eks) : Wk K J p1 H1 (Itk a o kvs) (eks.map fun kv => kD kv.1) :=
  ⟨_, _, by rw [List.length_map, ← repK_len r]; exact walk_keys, fun p g σ H R dd le => R.old a _ (by rw [dd]; exact hd) hJ, fun p g σ H i x H' R dd le hi y => by
    obtain ⟨e1, k, v, e2, e3⟩ := y
    subst e1
    subst e3
    obtain ⟨d, h1, h2⟩ := repK_get r e2
    refine ⟨kD k, ?_, R, .refl, key_rep k⟩
    rw [List.getElem?_map, h1]
    rfl⟩
theorem Rl.vis_tup {g : G} {σ : St} {p : Mt} {H : Hp} {q : Addr} {xs : List V} (R : Rl K J p g σ H) (h : H q = some (.tup xs)) : del p H q = some (.tup xs) := by
  rw [del_at, h]
  rintro (z | z)
  · exact mut_tup (R.dice q z).mut h
  · exact mut_tup (R.lv q z) h
theorem wk_keysT {o : Obj} {kvs : List (List Key × V)} {eks : List (List Key × D)} (hd : p1.d ≠ some a) (hJ : J a = some (.frz o (.dT kvs))) (r : RepT K (del p1 H1) kvs eks) : Wk K J p1 H1 (Itkt a o kvs) (eks.map fun kv => .tup (kv.1.map kD)) :=
  ⟨_, _, by rw [List.length_map, ← repT_len r]; exact walk_keysT, fun p g σ H R dd le => R.old a _ (by rw [dd]; exact hd) hJ, fun p g σ H i x H' R dd le hi y => by
    obtain ⟨e1, k, v, q, e2, e3, e4⟩ := y
    subst e1
    subst e3
    obtain ⟨d, h1, h2⟩ := repT_get r e2
    refine ⟨.tup (k.map kD), ?_, R, .refl, .tup (R.vis_tup e4) (keys_reps k)⟩
    rw [List.getElem?_map, h1]
    rfl⟩
/-- the pairs of two walks -/
def pairs (xs ys : List D) : List D := (xs.zip ys).map fun z => .tup [z.1, z.2]
theorem wk_pair {n : Nat} {Jt : It} {Gg : Hp → Prop} {fx fy : Nat → Option V} (w : Walk Jt n Gg (YPair fx fy)) (hn : n = min ds.length es.length) (hG : ∀ p g σ H, Rl K J p g σ H → p.d = p1.d → Le (del p1 H1) (del p H) → Gg H)
    (hx : ∀ p H i x, Le (del p1 H1) (del p H) → fx i = some x → ∃ d, ds[i]? = some d ∧ Rep K (del p H) x d) (hy : ∀ p H i x, Le (del p1 H1) (del p H) → fy i = some x → ∃ d, es[i]? = some d ∧ Rep K (del p H) x d) : Wk K J p1 H1 Jt (pairs ds es) := by
  have hl : (pairs ds es).length = n := by
    unfold pairs
    rw [List.length_map, List.length_zip, hn]
  refine ⟨Gg, _, by rw [hl]; exact w, hG, fun p g σ H i v H' R dd le hi z => ?_⟩
  obtain ⟨T, x, y, e1, e2, e3, e4, e5⟩ := z
  subst e1
  subst e3
  obtain ⟨R1, ad, e6⟩ := R.new (o := .tup [x, y]) e2
  obtain ⟨dx, h1, h2⟩ := hx p _ i x (le.trans ad.le) e4
  obtain ⟨dy, h3, h4⟩ := hy p _ i y (le.trans ad.le) e5
  refine ⟨.tup [dx, dy], ?_, R1, ad, .tup e6 (.cons h2 (.cons h4 .nil))⟩
  unfold pairs
  have e7 : (ds.zip es)[i]? = some (dx, dy) := List.getElem?_zip_eq_some.mpr ⟨h1, h3⟩
  rw [List.getElem?_map, e7]
  rfl
end
section
variable {X : Cx} {W : WW} {e a b c it tg : Expr} {es : List Expr} {pos ps : Pos}
theorem ei_any {m : M D} (h : EF X W it m) : EI X W tg it (mIter m) := fun J p g σ H R0 r hm Q hp => by
  unfold mIter M.bind at hm
  cases e1 : m g with
  | none =>
    rw [e1] at hm
    cases hm
  | some r1 =>
    rw [e1] at hm
    cases r1 with
    | ex E g1 =>
      cases hm
      exact of_pi (pi_list semE) (h J p g σ H R0 _ e1 _ hp)
    | ok d g1 =>
      cases d with
      | lst ds =>
        cases hm
        refine of_pi (pi_list semE) (h J p g σ H R0 _ e1 _ fun p1 H1 ad R1 v rv => ?_)
        obtain ⟨a, vs, rfl, ha, ra⟩ := rep_lst rv
        exact ⟨a, rfl, ⟨vs, sl_of ha⟩, hp p1 H1 ad R1 _ J H1 .no (wk_list ha ra)⟩
      | tup ds =>
        cases hm
        refine of_pi (pi_tup semE) (h J p g σ H R0 _ e1 _ fun p1 H1 ad R1 v rv => ?_)
        obtain ⟨a, vs, rfl, ha, ra⟩ := rep_tup rv
        exact ⟨a, rfl, ⟨vs, st_del ha⟩, hp p1 H1 ad R1 _ J H1 .no (wk_tup ha ra)⟩
      | str x =>
        cases hm
        refine of_pi (pi_str semE) (h J p g σ H R0 _ e1 _ fun p1 H1 ad R1 v rv => ?_)
        have := rep_str rv
        subst this
        exact ⟨x, rfl, hp p1 H1 ad R1 _ J H1 .no (wk_str x)⟩
      | dk kvs =>
        cases hm
        refine of_pi (pi_keys (pe_lockA semE)) (h J p g σ H R0 _ e1 _ fun p1 H1 ad R1 v rv => ?_)
        cases rv with
        | dk hv rk =>
          rename_i a vs
          have nh := vw_no hv
          have nd : p1.d ≠ some a := fun z => nh (.inl z)
          rcases vw_of hv with h1 | ⟨_, o, h1⟩
          · refine .inr ⟨a, .dK vs, h1, trivial, fun od hn => ⟨a, od, rfl, .inl ⟨vs, upd_same, hp p1 H1 ad R1 _ _ _ (.on rfl h1 nd (fun z => nh (.inr z)) hn) ?_⟩⟩⟩
            exact wk_keys nd upd_same (rk.le (le_lock h1 rfl))
          · refine .inl ⟨a, o, rfl, .inl ⟨vs, h1, hp p1 H1 ad R1 _ J H1 .no (wk_keys nd (R1.fz a _ rfl h1) rk)⟩⟩
      | dt kvs =>
        cases hm
        refine of_pi (pi_keys (pe_lockA semE)) (h J p g σ H R0 _ e1 _ fun p1 H1 ad R1 v rv => ?_)
        cases rv with
        | dt hv rk =>
          rename_i a vs
          have nh := vw_no hv
          have nd : p1.d ≠ some a := fun z => nh (.inl z)
          rcases vw_of hv with h1 | ⟨_, o, h1⟩
          · refine .inr ⟨a, .dT vs, h1, trivial, fun od hn => ⟨a, od, rfl, .inr ⟨vs, upd_same, hp p1 H1 ad R1 _ _ _ (.on rfl h1 nd (fun z => nh (.inr z)) hn) ?_⟩⟩⟩
            exact wk_keysT nd upd_same (rk.le (le_lock h1 rfl))
          · refine .inl ⟨a, o, rfl, .inr ⟨vs, h1, hp p1 H1 ad R1 _ J H1 .no (wk_keysT nd (R1.fz a _ rfl h1) rk)⟩⟩
      | non => cases hm
      | bl b => cases hm
      | int i => cases hm
      | ins C fs => cases hm
      | sx w xs => cases hm
      | cl C => cases hm
      | vd w m => cases hm
      | any => cases hm
      | exv C fs => cases hm
/-! ### range, zip, enumerate -/
def rngD (lo : Int) (n : Nat) : List D := (List.range n).map fun i => .int (lo + (i : Nat))
def fRng1 : List D → Option (List D)
  | [.int j] => if -(2 ^ 62) ≤ j ∧ j < 2 ^ 62 then some (rngD 0 j.toNat) else none
  | _ => none
def mWk (f : List D → Option (List D)) (ms : M (List D)) : M (List D) := ms.bind fun ds => lift (f ds)
theorem wk_rng {K : PySem.W.Frag} {J : Hp} {p1 : Mt} {H1 : Hp} (lo : Int) (n : Nat) : Wk K J p1 H1 (Itr lo n) (rngD lo n) := by
  have hl : (rngD lo n).length = n := by
    unfold rngD
    rw [List.length_map, List.length_range]
  refine ⟨fun _ => True, _, by rw [hl]; exact walk_range, fun _ _ _ _ _ _ _ => trivial, fun p g σ H i v H' R dd le hi y => ?_⟩
  obtain ⟨e1, e2⟩ := y
  subst e1
  subst e2
  refine ⟨.int (lo + (i : Nat)), ?_, R, .refl, .int _⟩
  rw [hl] at hi
  unfold rngD
  rw [List.getElem?_map, List.getElem?_range hi]
  rfl
/-- the end of a walk's making -/
theorem post_liftI {J : Hp} {p : Mt} {g : G} {σ : St} {H : Hp} {o : Option (List D)} {r : R (List D)} (hm : lift o g = some r) {q : List D → G → Mt → Hp → Prop} (hp : Post X.K W J p g σ H r q) (R0 : Rl X.K J p g σ H) : ∃ ds, o = some ds ∧ q ds g p H := by
  cases o with
  | none => cases hm
  | some ds =>
    cases hm
    exact ⟨ds, rfl, hp p H .refl R0⟩
theorem ei_rng1 {ms : M (List D)} (hn : X.mg "range" = none) (h : EA X W [a] ms) (hg : Gl X "range" := by rfl) (hs : starEach [a] X.env = [(false, eval a X.env)] := by rfl) : EI X W tg (.Call (.Name "range" ps) [a] [] pos) (mWk fRng1 ms) := fun J p g σ H R0 r hm Q hp =>
  of_pi (pi_range1 hg hn semA hs) (h.then R0 hm hp fun ds g1 p1 H1 vs ad R1 rs hk hq => by
    obtain ⟨es, h1, h2⟩ := post_liftI hk hq R1
    unfold fRng1 at h1
    split at h1
    · rename_i j
      split at h1
      · rename_i z
        cases h1
        obtain ⟨v, e, rv⟩ := reps1 rs
        rw [e, rep_int rv]
        exact ⟨j, rfl, z.1, z.2, h2 _ J H1 .no (wk_rng 0 j.toNat)⟩
      · cases h1
    · cases h1)
theorem rep_sk {K : PySem.W.Frag} {p1 : Mt} {H1 : Hp} {v : V} {d : D} {ds : List D} (h : Rep K (del p1 H1) v d) (e : seqD d = some ds) : ∃ k a vs, v = .ref a ∧ (∀ p H, Le (del p1 H1) (del p H) → Sk K k H a vs) ∧ Reps K (del p1 H1) vs ds := by
  cases d <;> first | (cases e; done) | skip
  · cases e
    obtain ⟨a, us, rfl, ha, ra⟩ := rep_lst h
    exact ⟨.l, a, us, rfl, fun p H le => sl_of (sl_le le ha), ra⟩
  · cases e
    obtain ⟨a, us, rfl, ha, ra⟩ := rep_tup h
    exact ⟨.t, a, us, rfl, fun p H le => st_del (le.ex ha rfl), ra⟩
/-- zip of lists and tuples -/
def fZip : List D → Option (List D)
  | [x, y] => match seqD x, seqD y with
    | some xs, some ys => some (pairs xs ys)
    | _, _ => none
  | _ => none
theorem ei_zip {elts : List Expr} {kk : Nat} {tpos : Pos} {ms : M (List D)} (hn : X.mg "zip" = none) (h : EA X W [a, b] ms) (hg : Gl X "zip" := by rfl) (hs : starEach [a, b] X.env = (false, eval a X.env) :: starEach [b] X.env := by rfl) (hpl : (backTo pos (starEach [b] X.env)).any (·.1) = false := by rfl) :
    EI X W (.Tuple elts kk tpos) (.Call (.Name "zip" ps) [a, b] [] pos) (mWk fZip ms) := fun J p g σ H R0 r hm Q hp =>
  of_pi (pi_zipK hg hn semA hs hpl) (h.then R0 hm hp fun ds g1 p1 H1 vs ad R1 rs hk hq => by
    obtain ⟨es, h1, h2⟩ := post_liftI hk hq R1
    unfold fZip at h1
    split at h1
    · rename_i x y
      split at h1
      · rename_i xs ys ex ey
        cases h1
        obtain ⟨v, w, e, rv, rw'⟩ := reps2 rs
        obtain ⟨k1, a1, us, rfl, ha, ra⟩ := rep_sk rv ex
        obtain ⟨k2, b1, ws, rfl, hb, rb⟩ := rep_sk rw' ey
        exact ⟨k1, k2, a1, b1, us, ws, e, ha p1 H1 (.refl _), hb p1 H1 (.refl _), h2 _ J H1 .no (wk_pair (walk_zipK rfl) (by rw [ra.len, rb.len]) (fun p g σ H R dd le => ⟨ha p H le, hb p H le⟩) (fun p H i x le q => (ra.le le).get q) fun p H i x le q => (rb.le le).get q)⟩
      · cases h1
    · cases h1)
/-- enumerate of a list, of a tuple -/
def fEnum : List D → Option (List D)
  | [x] => (seqD x).map fun xs => pairs (rngD 0 xs.length) xs
  | _ => none
theorem ei_enum {elts : List Expr} {kk : Nat} {tpos : Pos} {ms : M (List D)} (hn : X.mg "enumerate" = none) (h : EA X W [a] ms) (hg : Gl X "enumerate" := by rfl) (hs : starEach [a] X.env = [(false, eval a X.env)] := by rfl) :
    EI X W (.Tuple elts kk tpos) (.Call (.Name "enumerate" ps) [a] [] pos) (mWk fEnum ms) := fun J p g σ H R0 r hm Q hp =>
  of_pi (pi_enumK hg hn semA hs) (h.then R0 hm hp fun ds g1 p1 H1 vs ad R1 rs hk hq => by
    obtain ⟨es, h1, h2⟩ := post_liftI hk hq R1
    unfold fEnum at h1
    split at h1
    · rename_i x0
      cases ex : seqD x0 with
      | none => rw [ex] at h1; cases h1
      | some xs =>
        rw [ex] at h1
        cases h1
        obtain ⟨v, e, rv⟩ := reps1 rs
        obtain ⟨k1, a1, us, rfl, ha, ra⟩ := rep_sk rv ex
        have hl : (rngD 0 xs.length).length = xs.length := by
          unfold rngD
          rw [List.length_map, List.length_range]
        have hnl : us.length = min (rngD 0 xs.length).length xs.length := by rw [hl, ra.len, Nat.min_self]
        refine ⟨k1, a1, us, e, ha p1 H1 (.refl _), h2 _ J H1 .no (wk_pair (walk_enumK.mono (fun _ h => h) fun i H x H' hi _ y => ?_) hnl (fun p g σ H R dd le => ha p H le) (fx := fun i => if i < xs.length then some (.int (i : Nat)) else none) (fun p H i x le q => ?_) fun p H i x le q => (ra.le le).get q)⟩
        · obtain ⟨T, u, w, y1, y2, y3, y4, y5⟩ := y
          refine ⟨T, u, w, y1, y2, y3, ?_, y5⟩
          show (if i < xs.length then some (V.int (i : Nat)) else none) = some u
          rw [if_pos (by rw [← ra.len]; exact hi)]
          exact y4
        · split at q
          · rename_i hi
            cases q
            refine ⟨.int (i : Nat), ?_, .int _⟩
            unfold rngD
            rw [List.getElem?_map, List.getElem?_range hi]
            simp
          · cases q
    · cases h1)
end
end Mo
set_option Elab.async false
set_option linter.all false
set_option maxRecDepth 100000
set_option maxHeartbeats 4000000
/-! Mo, part twelve: list comprehensions. -/
namespace Mo
open PySem PySem.Spec L2
/-! ### slots forgotten and given back -/
def wipeG (g : G) : List Nat → G
  | [] => g
  | v :: vs => (wipeG g vs).set v .un
def backG (g0 g : G) : List Nat → G
  | [] => g
  | v :: vs => match g0.s[v]? with
    | some x => (backG g0 g vs).set v x
    | none => backG g0 g vs
def plainSl : Option Sl → Bool
  | some .un => true
  | some (.v _) => true
  | _ => false
def noOwn (vs : List Nat) (g : G) : Bool := vs.all fun i => plainSl g.s[i]?
section
variable {K : PySem.W.Frag} {J : Hp} {p p1 p2 : Mt} {g g1 g2 : G} {σ : St} {H H1 H2 : Hp} {i : Nat} {vs : List Nat}
theorem wipeG_c (vs : List Nat) : (wipeG g vs).c = g.c := by
  induction vs with
  | nil => rfl
  | cons v vs ih => exact ih
theorem wipeG_len (vs : List Nat) : (wipeG g vs).s.length = g.s.length := by
  induction vs with
  | nil => rfl
  | cons v vs ih => exact (List.length_set ..).trans ih
theorem wipeG_in : ∀ {vs : List Nat} {i : Nat} {x : Sl}, i ∈ vs → (wipeG g vs).s[i]? = some x → x = .un
  | v :: vs, i, x, m, e => by
    rcases getE_set e with ⟨_, e2, _⟩ | ⟨n, e⟩
    · exact e2
    · exact wipeG_in ((List.mem_cons.mp m).resolve_left n) e
theorem wipeG_out : ∀ {vs : List Nat} {i : Nat}, i ∉ vs → (wipeG g vs).s[i]? = g.s[i]?
  | [], _, _ => rfl
  | v :: vs, i, n => by
    have n1 : v ≠ i := fun z => n (by rw [z]; exact List.mem_cons_self)
    show ((wipeG g vs).s.set v .un)[i]? = _
    rw [List.getElem?_set_ne n1]
    exact wipeG_out fun z => n (List.mem_cons_of_mem _ z)
theorem wipe_out' : ∀ {vs : List Nat} {i : Nat}, i ∉ vs → (L2.wipe σ vs)[i]? = σ[i]?
  | [], _, _ => rfl
  | v :: vs, i, n => by
    have n1 : v ≠ i := fun z => n (by rw [z]; exact List.mem_cons_self)
    show ((L2.wipe σ vs).set v none)[i]? = _
    rw [List.getElem?_set_ne n1]
    exact wipe_out' fun z => n (List.mem_cons_of_mem _ z)
theorem wipe_in : ∀ {vs : List Nat} {i : Nat}, i ∈ vs → (L2.wipe σ vs)[i]? = if i < σ.length then some none else none
  | v :: vs, i, m => by
    show ((L2.wipe σ vs).set v none)[i]? = _
    rw [getV_set, wipe_length]
    by_cases e : i = v
    · subst e
      by_cases l : i < σ.length
      · rw [if_pos ⟨rfl, l⟩, if_pos l]
      · rw [if_neg fun z => l z.2, if_neg l, List.getElem?_eq_none (by rw [wipe_length]; omega)]
    · rw [if_neg fun z => e z.1]
      exact wipe_in ((List.mem_cons.mp m).resolve_left e)
theorem wipe_same {σ2 : St} (s : Same vs g (L2.wipe σ vs) g1 σ2) : L2.wipe σ2 vs = L2.wipe σ vs := by
  have hl : σ2.length = σ.length := s.len.trans (wipe_length σ vs)
  refine List.ext_getElem? fun i => ?_
  by_cases m : i ∈ vs
  · rw [wipe_in m, wipe_in m, hl]
  · rw [wipe_out' m, s.at_ i m]
theorem NoSl.wipe {a : Addr} (n : NoSl g σ a) (vs : List Nat) : NoSl (wipeG g vs) (L2.wipe σ vs) a := fun i o e z => by
  by_cases m : i ∈ vs
  · cases wipeG_in m e
  · rw [wipeG_out m] at e
    rw [wipe_out' m] at z
    exact n i o e z
theorem Rl.wipe (R : Rl K J p g σ H) (vs : List Nat) : Rl K J p (wipeG g vs) (L2.wipe σ vs) H := by
  have out : ∀ {i : Nat} {x : Sl}, x ≠ .un → (wipeG g vs).s[i]? = some x → g.s[i]? = some x ∧ (L2.wipe σ vs)[i]? = σ[i]? := fun {i x} nx e => by
    by_cases m : i ∈ vs
    · exact absurd (wipeG_in m e) nx
    · rw [wipeG_out m] at e
      exact ⟨e, wipe_out' m⟩
  refine ⟨(wipeG_len vs).trans (R.len.trans (wipe_length σ vs).symm), R.old, fun a e => by rw [wipeG_c]; exact R.dice a e, R.dno, R.lv, R.fz, fun i d e => ?_, fun i o e => ?_, fun i e => ?_, fun i j o o' q e1 e2 e3 e4 => ?_⟩
  · obtain ⟨e1, e2⟩ := out (x := .v d) (fun z => nomatch z) e
    rw [e2]
    exact R.sv i d e1
  · obtain ⟨e1, e2⟩ := out (x := .o o) (fun z => nomatch z) e
    rw [e2]
    exact R.so i o e1
  · obtain ⟨e1, e2⟩ := out (x := .di) (fun z => nomatch z) e
    rw [e2]
    exact R.sd i e1
  · obtain ⟨h1, h2⟩ := out (x := .o o) (fun z => nomatch z) e1
    obtain ⟨h3, h4⟩ := out (x := .o o') (fun z => nomatch z) e2
    rw [h2] at e3
    rw [h4] at e4
    exact R.inj i j o o' q h1 h3 e3 e4
theorem backG_c : ∀ vs : List Nat, (backG g1 g vs).c = g.c
  | [] => rfl
  | v :: vs => by
    unfold backG
    split
    · exact backG_c vs
    · exact backG_c vs
theorem backG_len : ∀ vs : List Nat, (backG g1 g vs).s.length = g.s.length
  | [] => rfl
  | v :: vs => by
    unfold backG
    split
    · exact (List.length_set ..).trans (backG_len vs)
    · exact backG_len vs
theorem backG_out : ∀ {vs : List Nat} {i : Nat}, i ∉ vs → (backG g1 g vs).s[i]? = g.s[i]?
  | [], _, _ => rfl
  | v :: vs, i, n => by
    have n1 : v ≠ i := fun z => n (by rw [z]; exact List.mem_cons_self)
    have n2 : i ∉ vs := fun z => n (List.mem_cons_of_mem _ z)
    unfold backG
    split
    · show ((backG g1 g vs).s.set v _)[i]? = _
      rw [List.getElem?_set_ne n1]
      exact backG_out n2
    · exact backG_out n2
theorem backG_in (hl : g1.s.length = g.s.length) : ∀ {vs : List Nat} {i : Nat}, i ∈ vs → (backG g1 g vs).s[i]? = g1.s[i]?
  | v :: vs, i, m => by
    unfold backG
    by_cases e : i = v
    · subst e
      cases q : g1.s[i]? with
      | none =>
        dsimp only
        rw [List.getElem?_eq_none_iff] at q ⊢
        rw [backG_len, ← hl]
        exact q
      | some x =>
        show ((backG g1 g vs).s.set i x)[i]? = some x
        rw [List.getElem?_set_self]
        rw [backG_len, ← hl]
        exact (List.getElem?_eq_some_iff.mp q).1
    · have m' := (List.mem_cons.mp m).resolve_left e
      split
      · show ((backG g1 g vs).s.set v _)[i]? = _
        rw [List.getElem?_set_ne (Ne.symm e)]
        exact backG_in hl m'
      · exact backG_in hl m'
theorem noOwn_at (h : noOwn vs g = true) {i : Nat} (m : i ∈ vs) : plainSl g.s[i]? = true := List.all_eq_true.mp h i m
theorem NoSl.back {a : Addr} (h : noOwn vs g1 = true) (hl : g1.s.length = g2.s.length) (n : NoSl g2 (L2.wipe σ vs) a) : NoSl (backG g1 g2 vs) σ a := fun i o e z => by
  by_cases m : i ∈ vs
  · rw [backG_in hl m] at e
    have := noOwn_at h m
    rw [e] at this
    cases this
  · rw [backG_out m] at e
    exact n i o e (by rw [wipe_out' m]; exact z)
theorem Rl.back (R1 : Rl K J p1 g1 σ H1) (h : noOwn vs g1 = true) (R2 : Rl K J p2 g2 (L2.wipe σ vs) H2) (le : Le (del p1 H1) (del p2 H2)) : Rl K J p2 (backG g1 g2 vs) σ H2 := by
  have hl : g1.s.length = g2.s.length := R1.len.trans ((wipe_length σ vs).symm.trans R2.len.symm)
  have own : ∀ {i : Nat} {x : Sl}, plainSl (some x) ≠ true → (backG g1 g2 vs).s[i]? = some x → g2.s[i]? = some x ∧ (L2.wipe σ vs)[i]? = σ[i]? := fun {i x} nx e => by
    by_cases m : i ∈ vs
    · rw [backG_in hl m] at e
      have := noOwn_at h m
      rw [e] at this
      exact absurd this nx
    · rw [backG_out m] at e
      exact ⟨e, wipe_out' m⟩
  refine ⟨(backG_len vs).trans (hl.symm.trans R1.len), R2.old, fun a e => by rw [backG_c]; exact R2.dice a e, R2.dno, R2.lv, R2.fz, fun i d e => ?_, fun i o e => ?_, fun i e => ?_, fun i j o o' q e1 e2 e3 e4 => ?_⟩
  · by_cases m : i ∈ vs
    · rw [backG_in hl m] at e
      obtain ⟨v, x1, x2⟩ := R1.sv i d e
      exact ⟨v, x1, x2.le le⟩
    · rw [backG_out m] at e
      have := R2.sv i d e
      rw [wipe_out' m] at this
      exact this
  · obtain ⟨x1, x2⟩ := own (x := .o o) (fun z => nomatch z) e
    rw [← x2]
    exact R2.so i o x1
  · obtain ⟨x1, x2⟩ := own (x := .di) (fun z => nomatch z) e
    rw [← x2]
    exact R2.sd i x1
  · obtain ⟨x1, x2⟩ := own (x := .o o) (fun z => nomatch z) e1
    obtain ⟨x3, x4⟩ := own (x := .o o') (fun z => nomatch z) e2
    rw [← x2] at e3
    rw [← x4] at e4
    exact R2.inj i j o o' q x1 x3 e3 e4
/-- what is hidden and no slot's is changed -/
theorem Rl.putH {q : Addr} {u : HO} (R : Rl K J p g σ H) (m : q ∈ p.o) (jn : J q = none) (n : NoSl g σ q) (mu : Mut (some u)) : Rl K J p g σ (upd H q u) ∧ Le (del p H) (del p (upd H q u)) := by
  have nd : p.d ≠ some q := fun z => R.dno q z m
  have hid : Hid p q := .inr m
  have le : Le (del p H) (del p (upd H q u)) := .of fun a x e => by
    have na : a ≠ q := fun z => del_no e (z ▸ hid)
    rw [del_at (del_no e), upd_ne na]
    exact del_of e
  refine ⟨⟨R.len, fun a x nx e => ?_, fun a e => ?_, R.dno, fun a ma => ?_, fun a o f e => ?_, fun i d e => ?_, fun i o e => ?_, R.sd, R.inj⟩, le⟩
  · rw [upd_ne (ne_of_none e jn)]
    exact R.old a x nx e
  · exact (R.dice a e).le le (upd_ne fun z => nd (by rw [← z]; exact e))
  · by_cases z : a = q
    · rw [z, upd_same]
      exact mu
    · rw [upd_ne z]
      exact R.lv a ma
  · by_cases z : a = q
    · rw [z, upd_same] at e
      cases e
      exact absurd f (mut_nf mu)
    · rw [upd_ne z] at e
      exact R.fz a o f e
  · obtain ⟨v, x1, x2⟩ := R.sv i d e
    exact ⟨v, x1, x2.le le⟩
  · obtain ⟨y, x1, x2, x3, x4⟩ := R.so i o e
    have ny : y ≠ q := fun z => n i o e (by rw [x1, z])
    exact ⟨y, x1, x2, x3, x4.le le (upd_ne ny)⟩
end
/-! ### tests -/
structure SemTs (X : Cx) (ifs : List Expr) (σ : St) (H : Hp) (Q : Bool → Hp → Prop) : Prop where
  run : ∀ (pins : List (Addr × Obj)) (s : Shared), Inv X pins σ H s →
    wpAny (model X.prog X.w) X.A (forIn ifs true fun c r => if r = true then do let ok ← isTrue c X.env (eval c X.env); pure (ForInStep.yield ok) else pure (ForInStep.yield r)) (TP X pins σ Q) X.xe s
theorem of_pts {X : Cx} {ifs : List Expr} {t : TT} {σ : St} {H : Hp} {Q : Bool → Hp → Prop} (h : PTs X ifs t) (q : t σ H Q) : SemTs X ifs σ H Q := ⟨fun pins s I => h.run pins s σ H Q I q⟩
def ETs (X : Cx) (W : WW) (ifs : List Expr) (m : M Bool) : Prop := ∀ J p g σ H, Rl X.K J p g σ H → ∀ r, m g = some r → ∀ Q : Bool → Hp → Prop, Post X.K W J p g σ H r (qT Q) → SemTs X ifs σ H Q
section
variable {X : Cx} {W : WW} {e a b c it tg : Expr} {es : List Expr} {pos ps : Pos}
theorem ts_nil : ETs X W [] (ret true) := fun J p g σ H R0 r hm Q hp => by
  cases hm
  exact of_pts pts_nil (hp p H .refl R0)
/-! ### [elt for tg in it if ..] -/
def lcGo (vs : List Nat) (f : D → G → Option G) (mt : M Bool) (me : M D) : List D → List D → M (List D)
  | [], acc => ret acc
  | d :: ds, acc => fun g => match f d g with
    | none => none
    | some g1 => match mt g1 with
      | some (.ok true g2) => match me g2 with
        | some (.ok y g3) => if acc.length < sizeLine then lcGo vs f mt me ds (acc ++ [y]) (wipeG g3 vs) else none
        | _ => none
      | some (.ok false g2) => lcGo vs f mt me ds acc (wipeG g2 vs)
      | _ => none
def lcEnd {α β : Type} (vs : List Nat) (g1 : G) (k : α → β) : Option (R α) → Option (R β)
  | some (.ok a g2) => some (.ok (k a) (backG g1 g2 vs))
  | _ => none
def mLc (vs : List Nat) (mi : M (List D)) (f : D → G → Option G) (mt : M Bool) (me : M D) : M O := mi.bind fun ds g1 => if noOwn vs g1 = true then lcEnd vs g1 .l (lcGo vs f mt me ds [] (wipeG g1 vs)) else none
/-- from turn to turn -/
theorem Ad.turn {gw gk g3 g5 : G} {wσ σ2 : St} {p1 pk p5 : Mt} {H1 Hk H' H5 H6 : Hp} {vs : List Nat} {q : Addr} (R1 : ∀ a ∈ p1.o, H1 a ≠ none) (ad : Ad gw wσ p1 H1 gk pk Hk) (ad2 : Ad gk wσ pk Hk gk pk H') (sm : Same vs gk wσ g3 σ2) (ad5 : Ad g3 σ2 pk H' g5 p5 H5)
    (hw : L2.wipe σ2 vs = wσ) (hq : H1 q = none) (le : Le (del p5 H5) (del p5 H6)) (ne : ∀ a, a ≠ q → H6 a = H5 a) (th : H6 q ≠ none) : Ad gw wσ p1 H1 (wipeG g5 vs) p5 H6 :=
  ⟨ad5.dd.trans (ad2.dd.trans ad.dd), ad.le.trans (ad2.le.trans (ad5.le.trans le)), fun a m n => by
    obtain ⟨x1, x2⟩ := ad.ex a m n
    have n1 := ad.sl a n
    obtain ⟨x3, x4⟩ := ad2.ex a x1 n1
    obtain ⟨x5, x6⟩ := ad5.ex a x3 (sm.sl a n1)
    have na : a ≠ q := fun z => R1 a m (z ▸ hq)
    exact ⟨x5, by rw [ne a na, x6, x4, x2]⟩, fun a n => by
    have := (ad5.sl a (sm.sl a (ad.sl a n))).wipe vs
    rw [hw] at this
    exact this, fun a n => by
    by_cases z : a = q
    · rw [z]
      exact th
    · rw [ne a z]
      exact ad5.th a (ad2.th a (ad.th a n))⟩
/-- a block's readings, whatever block -/
abbrev Blk (X : Cx) (scope : Scope) (s : Shared) (H : Hp) (C : Addr) (cl : List (Str × Addr)) (fp : List Addr) : Cx := X.blk s H scope (compEnvC scope cl C X.env) fp
def bG (X : Cx) (scope : Scope) (tg : Expr) : TG := fun v σ H Q => ∀ s H0 C cl fp, SemG (Blk X scope s H0 C cl fp) tg v σ H Q
def bT (X : Cx) (scope : Scope) (ifs : List Expr) : TT := fun σ H Q => ∀ s H0 C cl fp, SemTs (Blk X scope s H0 C cl fp) ifs σ H Q
def bE (X : Cx) (scope : Scope) (e : Expr) : TE := fun σ H Q => ∀ s H0 C cl fp, SemE (Blk X scope s H0 C cl fp) e σ H Q
theorem eo_lc {elt : Expr} {ifs : List Expr} {scope : Scope} {own : List (Str × Nat)} {is : List Nat} {mi : M (List D)} {f : D → G → Option G} {mt : M Bool} {me : M D} (hc : X.calm = true) (hN : X.N.Nodup) (hi : EI X WN tg it mi) (ok : BlkOk X.N X.env.scope scope own)
    (hg : ∀ s H C cl fp, ES (Blk X scope s H C cl fp) is tg f) (ht : ∀ s H C cl fp, ETs (Blk X scope s H C cl fp) WN ifs mt) (he : ∀ s H C cl fp, EF (Blk X scope s H C cl fp) WN elt me) (hin : ∀ i ∈ is, i ∈ own.map (·.2) := by decide)
    (hs : ∀ x, foldedSetIterable it X.env x = pure x := by intro _; rfl) : EO X WN (.ListComp elt [⟨tg, it, ifs, 0⟩] scope pos) (mLc (own.map (·.2)) mi f mt me) := fun J p g σ H R0 r hm Q hp => by
  generalize hvs : own.map (·.2) = vs at hm hin
  refine semE_unl (of_pe (pe_lc (g := bG X scope tg) (tt := bT X scope ifs) (te := bE X scope elt) hc hN semI ok (fun s H0 C cl fp => ⟨fun pins s' σ' H' v u Q' I r' h => (h s H0 C cl fp).run pins s' u I r'⟩) (fun s H0 C cl fp => ⟨fun pins s' σ' H' Q' I h => (h s H0 C cl fp).run pins s' I⟩) (fun s H0 C cl fp => ⟨fun pins s' σ' H' Q' I h => (h s H0 C cl fp).run pins s' I⟩) hs) ?_)
  rw [hvs]
  unfold mLc M.bind at hm
  cases e1 : mi g with
  | none =>
    rw [e1] at hm
    cases hm
  | some r1 =>
    rw [e1] at hm
    cases r1 with
    | ex E g1 =>
      cases hm
      exact hi J p g σ H R0 _ e1 _ hp
    | ok ds g1 =>
      dsimp only at hm
      split at hm
      · rename_i no
        refine hi J p g σ H R0 _ e1 _ fun p1 H1 ad R1 Jt J' H1' lk wk => ?_
        obtain ⟨R1', ad1⟩ := lk.rl R1
        obtain ⟨Gg, Y, w, hG, hY⟩ := wk.ex
        intro q hq
        obtain ⟨R2, ad2, m2, jq, n2, _⟩ := (R1'.wipe vs).hide (o := .lst []) hq
        refine lc_it w (fun k Hk => ∃ gk pk acc, Rl X.K J' pk gk (L2.wipe σ vs) Hk ∧ Ad (wipeG g1 vs) (L2.wipe σ vs) p1 H1' gk pk Hk ∧ q ∈ pk.o ∧ NoSl gk (L2.wipe σ vs) q ∧ OwnAt X.K (del pk Hk) Hk q (.l acc) ∧ lcEnd vs g1 .l (lcGo vs f mt me (ds.drop k) acc gk) = some r)
          ⟨_, _, [], R2, ad2, m2, n2, ⟨[], upd_same, .nil⟩, hm⟩ (fun k Hk _ ⟨gk, pk, acc, Rk, adk, _⟩ => hG pk gk _ Hk Rk adk.dd adk.le) (fun k x Hk H' hlt ⟨gk, pk, acc, Rk, adk, mk, nk, ow, e'⟩ y => ?_) (fun Hk ⟨gk, pk, acc, Rk, adk, mk, nk, ow, e'⟩ => ?_)
        · obtain ⟨d, ed, R3, ad3, rx⟩ := hY pk gk _ Hk k x H' Rk adk.dd adk.le hlt y
          have e2 : ds.drop k = d :: ds.drop (k + 1) := by
            rw [List.drop_eq_getElem_cons hlt]
            rw [List.getElem?_eq_getElem hlt] at ed
            cases ed
            rfl
          rw [e2] at e'
          simp only [lcGo] at e'
          cases q1 : f d gk with
          | none =>
            rw [q1] at e'
            cases e'
          | some g3 =>
            simp only [q1] at e'
            intro s H0 C cl fp
            refine hg s H0 C cl fp J' pk gk _ H' x d g3 R3 rx q1 _ fun σ2 sm0 R4 => ?_
            have sm := sm0.mono hin
            have hw := wipe_same sm
            refine ⟨hw, fun s H0 C cl fp => ?_⟩
            cases q2 : mt g3 with
            | none =>
              rw [q2] at e'
              cases e'
            | some r2 =>
              rw [q2] at e'
              cases r2 with
              | ex E g4 => cases e'
              | ok b g4 =>
                refine ht s H0 C cl fp J' pk g3 σ2 H' R4 _ q2 _ fun p4 H4 ad4 R5 => ?_
                unfold qT
                cases b with
                | false =>
                  refine iteF ?_
                  obtain ⟨x1, x2⟩ := ad4.ex q mk (sm.sl q nk)
                  obtain ⟨x3, x4⟩ := ad3.ex q mk nk
                  have R6 := R5.wipe vs
                  rw [hw] at R6
                  have n6 := (ad4.sl q (sm.sl q nk)).wipe vs
                  rw [hw] at n6
                  exact ⟨_, p4, acc, R6, adk.turn (fun a m => mut_ne (R1'.lv a m)) ad3 sm ad4 hw hq (.refl _) (fun _ _ => rfl) (mut_ne (R5.lv q x1)), x1, n6, ow.le (ad3.le.trans ad4.le) (x2.trans x4), e'⟩
                | true =>
                  refine iteT fun s H0 C cl fp => ?_
                  cases q3 : me g4 with
                  | none =>
                    simp only [q3] at e'
                    cases e'
                  | some r3 =>
                    simp only [q3] at e'
                    cases r3 with
                    | ex E g5 => cases e'
                    | ok y2 g5 =>
                      dsimp only at e'
                      split at e'
                      · rename_i hz
                        refine he s H0 C cl fp J' p4 g4 σ2 H4 R5 _ q3 _ fun p5 H5 ad5 R6 v rv => ?_
                        have ad6 := ad4.trans ad5
                        obtain ⟨x1, x2⟩ := ad6.ex q mk (sm.sl q nk)
                        obtain ⟨x3, x4⟩ := ad3.ex q mk nk
                        have n5 := ad6.sl q (sm.sl q nk)
                        obtain ⟨us, u1, u2⟩ := ow
                        obtain ⟨R7, le7⟩ := R6.putH (u := .lst (us ++ [v])) x1 jq n5 trivial
                        have R8 := R7.wipe vs
                        rw [hw] at R8
                        have n6 := n5.wipe vs
                        rw [hw] at n6
                        refine ⟨us, by rw [x2, x4, u1], by rw [u2.len]; exact hz, _, p5, acc ++ [y2], R8, adk.turn (fun a m => mut_ne (R1'.lv a m)) ad3 sm ad6 hw hq le7 (fun a na => upd_ne na) (by rw [upd_same]; exact Option.some_ne_none _), x1, n6, ⟨us ++ [v], upd_same, ?_⟩, e'⟩
                        exact (u2.le (ad3.le.trans (ad6.le.trans le7))).app (.cons (rv.le le7) .nil)
                      · cases e'
        · rw [List.drop_length] at e'
          cases e'
          have R3 := R1'.back no Rk adk.le
          have hl : g1.s.length = gk.s.length := R1'.len.trans ((wipe_length σ vs).symm.trans Rk.len.symm)
          obtain ⟨H6, h1, h2, h3, h4, h5, h6⟩ := lk.off R1 adk.dd R3
          refine unlV_of h1 (hp pk H6 ⟨adk.dd.trans ad.dd, ad.le.trans (ad1.le.trans (adk.le.trans h3)), fun a m n => ?_, fun a n => ?_, fun a n => h4 a (adk.th a (ad1.th a (ad.th a n)))⟩ h2 q mk (ad.gone (ad1.gone hq)) (nk.back no hl) (ow.le h3 (h5 q mk)))
          · obtain ⟨x1, x2⟩ := ad.ex a m n
            have n1 := ad.sl a n
            obtain ⟨x3, x4⟩ := ad1.ex a x1 n1
            obtain ⟨x5, x6⟩ := adk.ex a x3 (n1.wipe vs)
            exact ⟨x5, by rw [h5 a x5, x6, x4, x2]⟩
          · exact (adk.sl a ((ad.sl a n).wipe vs)).back no hl
      · cases hm
end
end Mo
set_option Elab.async false
set_option linter.all false
set_option maxRecDepth 100000
set_option maxHeartbeats 4000000
/-! Mo, part thirteen: objects. -/
namespace Mo
open PySem PySem.Spec L2
open Lp (FnG okN callG)
/-! ### fields -/
def getF (f : Str) : List (Str × D) → Option D
  | [] => none
  | (g, d) :: r => if f = g then some d else getF f r
def setF (f : Str) (v : D) : List (Str × D) → List (Str × D)
  | [] => [(f, v)]
  | (g, d) :: r => if g = f then (g, v) :: r else (g, d) :: setF f v r
section
variable {K : PySem.W.Frag} {F H J : Hp}
theorem repF_get {f : Str} : ∀ {vs : List (Str × V)} {es : List (Str × D)}, RepF K F vs es → (∀ d, getF f es = some d → ∃ v, vs.lookup f = some v ∧ Rep K F v d) ∧ (getF f es = none → vs.lookup f = none)
  | _, _, .nil => ⟨(fun d e => by cases e), fun _ => rfl⟩
  | _, _, .cons (k := g) (v := v) (d := d) (kvs := kvs) (es := es) h r => by
    obtain ⟨i1, i2⟩ := repF_get (f := f) r
    by_cases e : f = g
    · have hb : (f == g) = true := beq_iff_eq.mpr e
      refine ⟨fun d' q => ?_, fun q => ?_⟩
      · unfold getF at q
        rw [if_pos e] at q
        cases q
        exact ⟨v, by simp only [List.lookup, hb], h⟩
      · unfold getF at q
        rw [if_pos e] at q
        cases q
    · have hb : (f == g) = false := beq_eq_false_iff_ne.mpr e
      refine ⟨fun d' q => ?_, fun q => ?_⟩
      · unfold getF at q
        rw [if_neg e] at q
        obtain ⟨w, w1, w2⟩ := i1 d' q
        exact ⟨w, by simp only [List.lookup, hb]; exact w1, w2⟩
      · unfold getF at q
        rw [if_neg e] at q
        simp only [List.lookup, hb]
        exact i2 q
theorem repF_set {f : Str} {v : V} {d : D} (h : Rep K F v d) : ∀ {vs : List (Str × V)} {es : List (Str × D)}, RepF K F vs es → RepF K F (putF f v vs) (setF f d es)
  | _, _, .nil => .cons h .nil
  | _, _, .cons (k := g) h1 r => by
    unfold putF setF
    by_cases e : g = f
    · rw [if_pos e, if_pos e]
      exact .cons h r
    · rw [if_neg e, if_neg e]
      exact .cons h1 (repF_set h r)
theorem repF_len : ∀ {vs : List (Str × V)} {es : List (Str × D)}, RepF K F vs es → vs.length = es.length
  | _, _, .nil => rfl
  | _, _, .cons _ r => congrArg (· + 1) (repF_len r)
end
section
variable {X : Cx} {W : WW} {e a b o : Expr} {es : List Expr} {pos ps apos : Pos} {C : Addr} {f : Str}
def fldD (C : Addr) (f : Str) : D → Option D
  | .ins C' fs => if C' = C then getF f fs else none
  | _ => none
def mFld (C : Addr) (f : Str) (m : M D) : M D := m.bind fun d => lift (fldD C f d)
theorem rep_ins {K : PySem.W.Frag} {J : Hp} {v : V} {fs : List (Str × D)} (h : Rep K J v (.ins C fs)) : ∃ a dx vs, v = .ref a ∧ J a = some (.ins C dx vs) ∧ RepF K J vs fs := by
  cases h with
  | ins h r => exact ⟨_, _, _, rfl, h, r⟩
/-- e.f -/
theorem e_fld {m : M D} (c : Cls X.K C) (n : NoAttr X.K C f) (h : EF X W e m) (hb : attributeBase e f X.env (eval e X.env) = eval e X.env := by rfl) : EF X W (.Attribute e f pos) (mFld C f m) := fun J p g σ H R0 r hm Q hp =>
  of_pe (pe_fld semE hb) (h.then R0 hm hp fun d g1 p1 H1 v ad R1 rv hk hq => by
    obtain ⟨z, e1, q⟩ := post_lift hk hq R1
    unfold fldD at e1
    cases d <;> first | (cases e1; done) | skip
    rename_i C' fs
    dsimp only at e1
    split at e1
    · rename_i hC
      subst hC
      obtain ⟨a, dx, vs, rfl, h1, h2⟩ := rep_ins rv
      obtain ⟨u, u1, u2⟩ := (repF_get h2).1 z e1
      exact ⟨a, _, dx, vs, u, rfl, del_of h1, c, n, u1, q p1 H1 .refl R1 u u2⟩
    · cases e1)
end
/-! ### own methods -/
section
variable {X : Cx} {W : WW} {e o : Expr} {es : List Expr} {pos ps apos : Pos} {C ff : Addr} {m f : Str} {k : Nat} {fd : FuncData} {qs : List Str} {sp : Sp} {Z : XK}
/-- the callee runs where no repr is under way -/
theorem runG {pins : List (Addr × Obj)} {σ : St} {H : Hp} {s : Shared} {Q : VK} {us : List Value} {vs : List V} (F : FnG X.prog X.w X.K X.mg X.base CX0 k ff fd qs sp) (hr : Room k X.A) (hgd : X.A.guards = some []) (hb : Binds X.K fd qs []) (I : Inv X pins σ H s) (rv : Vals vs us)
    (h : sp vs H Q fun _ _ _ => False) : wpAny (model X.prog X.w) X.A (call (.ref ff) us) (EP X pins σ Q) X.xe s := by
  have bt := hb s us I.kIn (by rw [List.append_nil, ← rv.length]; exact F.len _ _ _ _ h)
  rw [List.append_nil] at bt
  refine wpAny_call (codeAny_mono (F.go X.A X.stack s H ⟨us, []⟩ us vs Q _ hr hgd I.env0 bt rv h) fun w s2 hw => ?_)
  match w, hw with
  | .error e, hw => exact pass0 pins σ H s e s2 I hw
  | .ok (.ret u), hw => exact I.after hw
def mMeth (C : Addr) (m : Str) (F : FD) (mo : M D) (ms : M (List D)) : M D := mo.bind fun d => match d with
  | .ins C' fs => if C' = C ∧ getF m fs = none then ms.bind fun ds => liftC (F (.ins C' fs :: ds)) else bad
  | _ => bad
theorem call_methG0 {pl : Sem Bool} {ta : TE} (he : PE X o ta) (c : Cls X.K C) (hm : Meth X.K C m ff) (F : FnG X.prog X.w X.K X.mg X.base CX0 k ff fd qs sp) (hr : Room k X.A) (hgd : X.A.guards = some []) (hb : Binds X.K fd qs [])
    (ht : eval (.Call (.Attribute o m apos) [] [] pos) X.env = (do
      let ov ← eval o X.env
      standAt apos.atName
      let (f, first) ← holding [ov] (getMethod ov m pl)
      callWith pos f first (backTo pos (starEach [] X.env)) (backToKw pos (keywordEach [] X.env)))) :
    PE X (.Call (.Attribute o m apos) [] [] pos) (tMeth C m sp [] (fun _ _ _ => False) ta tNil) := by
  constructor
  intro pins s σ H Q I h
  refine PySem.W.methodCall_KW (pl := pl) (thn (he.run pins s σ H _ I h) fun u s1 z => ?_) ht
  obtain ⟨x, H1, I1, rx, a, dx, fs, rfl, ea, l, q⟩ := z
  have ru : u = Value.ref a := rx
  subst ru
  exact getmeth_ok I1 ea c hm l (PySem.W.callWith_K0 (first := [.ref a]) I1.kIn hm.kp (runG (us := [.ref a]) (vs := [.ref a]) F hr hgd hb I1 (.cons rfl .nil) q))
/-- o.m() -/
theorem e_meth0 {pl : Sem Bool} {F : FD} {mo : M D} (c : Cls X.K C) (hm : Meth X.K C m ff) (hF : FnG X.prog X.w X.K X.mg X.base CX0 k ff fd qs (spM X.K false F)) (hr : Room k X.A) (hgd : X.A.guards = some []) (hb : Binds X.K fd qs []) (ho : EF X W o mo)
    (ht : eval (.Call (.Attribute o m apos) [] [] pos) X.env = (do
      let ov ← eval o X.env
      standAt apos.atName
      let (f, first) ← holding [ov] (getMethod ov m pl)
      callWith pos f first (backTo pos (starEach [] X.env)) (backToKw pos (keywordEach [] X.env))) := by rfl) : EF X W (.Call (.Attribute o m apos) [] [] pos) (mMeth C m F mo (ret [])) := fun J p g σ H R0 r hmm Q hp =>
  of_pe (call_methG0 semE c hm hF hr hgd hb ht) (ho.then R0 hmm hp fun d g1 p1 H1 v ad R1 rv hk hq => by
    cases d <;> first | (cases hk; done) | skip
    rename_i C' fs
    dsimp only at hk
    split at hk
    · rename_i hC
      obtain ⟨rfl, hn⟩ := hC
      obtain ⟨a, dx, vs, rfl, h1, h2⟩ := rep_ins rv
      obtain ⟨d, c', e1, rfl⟩ := liftC_some (show liftC (F [_]) g1 = some r from hk)
      refine ⟨a, dx, vs, rfl, del_of h1, (repF_get h2).2 hn, p1, g1.c, _, _, d, c', rfl, R1.hd, .cons rv .nil, e1, fun v J2 af rv2 => ?_⟩
      obtain ⟨R3, ad3⟩ := R1.after af
      exact hq p1 J2 ad3 R3 v rv2
    · cases hk)
/-! ### properties -/
def mProp (C : Addr) (F : FD) (mo : M D) : M D := mo.bind fun d => match d with
  | .ins C' fs => if C' = C then liftC (F [.ins C' fs]) else bad
  | _ => bad
theorem getpropG {a dx p0 : Addr} {fs : List (Str × V)} {pins : List (Addr × Obj)} {σ : St} {H : Hp} {s : Shared} {Q : VK} {b : Bool} {E' : Value → Shared → Prop} (I : Inv X pins σ H s) (ea : H a = some (.ins C dx fs)) (c : Cls X.K C) (hp : PropOf X.K C f p0 ff)
    (F : FnG X.prog X.w X.K X.mg X.base CX0 k ff fd qs sp) (hr : Room (k + 1) X.A) (hgd : X.A.guards = some []) (hb : Binds X.K fd qs []) (h : sp [.ref a] H Q fun _ _ _ => False) : wpAny (model X.prog X.w) X.A (getAttr (.ref a) f b) (EP X pins σ Q) E' s := by
  obtain ⟨mA, O, _, _, _, _⟩ := ins_get I.hok ea
  obtain ⟨od, Jo, _⟩ := O.look
  obtain ⟨rest, hrec⟩ := hp.rec_
  have I1 := I.tok (s.toks + 1)
  have bt := hb _ [.ref a] I1.kIn (by rw [← F.len _ _ _ _ h]; rfl)
  rw [List.append_nil] at bt
  have hc : (PySem.W.clsIn X.K C).isSome = true := by
    obtain ⟨cd, hc, _⟩ := PySem.W.any_some c.hd
    rw [hc]
    rfl
  refine PySem.W.get_bind I.kIn Jo (PySem.W.plainGet_of (c.get f)).1 (PySem.W.findObj_data hc hp.at_ hp.get hp.tak) (PySem.W.plainGet_of (c.get f)).2 (wpAny_call (PySem.W.prop_get (s := { s with toks := s.toks + 1 }) I.kIn hrec ?_))
  refine codeAny_mono (F.go X.A.in1 X.stack { s with toks := s.toks + 1 } H ⟨[.ref a], []⟩ [.ref a] [.ref a] Q _ hr.in1 hgd I1.env0.in1 bt (.cons rfl .nil) h) fun w s' hq => ?_
  match w, hq with
  | .error er, hq => exact False.elim (pass0 (X := X.nox) pins σ H { s with toks := s.toks + 1 } er s' (I1.wish _) hq)
  | .ok (.ret u), hq =>
    obtain ⟨v, H', I3, rv, q3⟩ := I1.after hq
    show wpAny _ _ (handedOut u) _ _ _
    rw [PySem.W.handedOut_of (handed_of rv)]
    exact wpAny_pure ⟨v, H', I3, rv, q3⟩
theorem e_prop {p0 : Addr} {F : FD} {mo : M D} (c : Cls X.K C) (hpr : PropOf X.K C f p0 ff) (hF : FnG X.prog X.w X.K X.mg X.base CX0 k ff fd qs (spM X.K false F)) (hr : Room (k + 1) X.A) (hgd : X.A.guards = some []) (hb : Binds X.K fd qs []) (ho : EF X W o mo)
    (hab : attributeBase o f X.env (eval o X.env) = eval o X.env := by rfl) : EF X W (.Attribute o f pos) (mProp C F mo) := fun J p g σ H R0 r hmm Q hp => by
  have pe : PE X (.Attribute o f pos) (tProp C (spM X.K false F) [] (fun _ _ _ => False) (SemE X o)) := ⟨fun pins s σ H Q I h => attr_of hab (thn (h.run pins s I) fun u s1 z => by
    obtain ⟨x, H1, I1, rx, a, dx, fs, rfl, ea, q⟩ := z
    have ru : u = Value.ref a := rx
    subst ru
    exact getpropG I1 ea c hpr hF hr hgd hb q)⟩
  refine of_pe pe (ho.then R0 hmm hp fun d g1 p1 H1 v ad R1 rv hk hq => ?_)
  cases d <;> first | (cases hk; done) | skip
  rename_i C' fs
  dsimp only at hk
  split at hk
  · rename_i hC
    subst hC
    obtain ⟨a, dx, vs, rfl, h1, h2⟩ := rep_ins rv
    obtain ⟨d, c', e1, rfl⟩ := liftC_some hk
    refine ⟨a, dx, vs, rfl, del_of h1, p1, g1.c, _, _, d, c', rfl, R1.hd, .cons rv .nil, e1, fun v J2 af rv2 => ?_⟩
    obtain ⟨R3, ad3⟩ := R1.after af
    exact hq p1 J2 ad3 R3 v rv2
  · cases hk
end
end Mo
set_option Elab.async false
set_option linter.all false
set_option maxRecDepth 100000
set_option maxHeartbeats 4000000
/-! Mo, part fourteen: what a callee may change: own things handed in, objects made. -/
namespace Mo
open PySem PySem.Spec L2
open Lp (FnG okN callG)
theorem guards_make {A : Around} {C : Addr} {us : List Value} {kw : List (Str × Value)} (h : A.guards = some []) : (A.under (.builtin "type.__call__" ⟨.ref C :: us, kw⟩)).guards = some [] := by
  first | exact h | simp [Around.under, Code.isGuard, guardIds, h]
section
variable {X : Cx} {W : WW} {e : Expr} {es : List Expr} {pos ps : Pos} {C ff : Addr} {k : Nat} {fd : FuncData} {qs : List Str} {sp : Sp} {x : Str} {t : TA}
/-- C(e, ..), its __init__ run where no repr is under way -/
theorem call_makeG (Mk' : Mk X.K C ff) (F : FnG X.prog X.w X.K X.mg X.base CX0 k ff fd qs sp) (hr : Room (k + 1) X.A) (hgd : X.A.guards = some []) (hb : Binds X.K fd qs []) (hm : X.mg x = some (.ref C)) (ha : PA X (e :: es) t) (hg : Gl X x) (hdb : (x == ("__debug__" : Str)) = false)
    (he : starEach (e :: es) X.env = (false, eval e X.env) :: starEach es X.env) (hpl : (backTo pos (starEach es X.env)).any (·.1) = false) : PE X (.Call (.Name x ps) (e :: es) [] pos) (tMake C sp [] (fun _ _ _ => False) t) := by
  constructor
  intro pins s σ H Q I h
  refine wpAny_Call_Name_kw (ld_glob I hg hm (PySem.W.callWith_K (h₀ := X.base) I.ok.mod.kin Mk'.kp (thn (ha.run pos pins s σ H _ I h) fun us s1 z => ?_) he hpl) hdb)
  obtain ⟨vs, H1, I1, rv, q⟩ := z
  refine ⟨I1.kIn, ?_⟩
  have ne : s1.heap.objs.size ≠ s1.heap.objs.size + 1 := Nat.ne_of_lt (Nat.lt_succ_self _)
  have q1 := q (s1.heap.objs.size + 1) s1.heap.objs.size (I1.hok.fresh (Nat.le_succ _)) (I1.hok.fresh (Nat.le_refl _)) ne
  rw [List.append_nil] at q1
  have I2 := Inv.made (C := C) I1
  have rv2 : Vals (V.ref (s1.heap.objs.size + 1) :: vs) (Value.ref (s1.heap.objs.size + 1) :: us) := .cons rfl rv
  have bt := hb _ (Value.ref (s1.heap.objs.size + 1) :: us) I2.kIn (by rw [List.append_nil, ← rv2.length]; exact F.len _ _ _ _ q1)
  rw [List.append_nil] at bt
  refine wpAny_call (make_map (f := ff) I1.kIn Mk'.makes Mk'.init (beq_iff_eq.mp Mk'.fn) (codeAny_mono (F.go _ X.stack _ _ ⟨Value.ref (s1.heap.objs.size + 1) :: us, []⟩ _ _ _ _ (hr.make C us []) (guards_make hgd) (I2.env0.make C us []) bt rv2 q1) fun w s2 hw => ?_))
  match w, hw with
  | .error e, hw => exact pass0 pins σ _ _ e s2 I2 hw
  | .ok (.ret u), hw =>
    obtain ⟨v, H', I3, ru, ev, q3⟩ := I2.after hw
    subst ev
    exact ⟨ru, ⟨V.ref (s1.heap.objs.size + 1), H', I3, rfl, q3⟩⟩
end
/-! ### an own thing handed in as what may be changed -/
def mtQ (p : Mt) (q : Addr) : Mt := ⟨some q, p.d.toList ++ p.o.filter fun a => decide (a ≠ q)⟩
section
variable {K : PySem.W.Frag} {J : Hp} {p : Mt} {g : G} {σ : St} {H J2 : Hp} {q b : Addr} {i : Nat} {o c : O}
theorem hid_mtQ : Hid (mtQ p q) b ↔ b = q ∨ Hid p b := by
  constructor
  · rintro (z | z)
    · exact .inl (Option.some.inj z).symm
    · rcases List.mem_append.mp z with z | z
      · exact .inr (.inl (Option.mem_toList.mp z))
      · exact .inr (.inr (List.mem_filter.mp z).1)
  · intro z
    by_cases e : b = q
    · exact .inl (congrArg some e.symm)
    · rcases z with z | z | z
      · exact absurd z e
      · exact .inr (List.mem_append_left _ (Option.mem_toList.mpr z))
      · exact .inr (List.mem_append_right _ (List.mem_filter.mpr ⟨z, decide_eq_true e⟩))
theorem del_mtQ (hq : Hid p q) : del (mtQ p q) H = del p H := funext fun b => by
  by_cases h : Hid p b
  · rw [del_hid h, del_hid (hid_mtQ.mpr (.inr h))]
  · rw [del_at h, del_at fun z => (hid_mtQ.mp z).elim (fun e => h (by rw [e]; exact hq)) h]
theorem del_mtQ_add : del (mtQ p q) H = del (p.add q) H := funext fun b => by
  have e : Hid (p.add q) b ↔ b = q ∨ Hid p b := by
    constructor
    · rintro (z | z)
      · exact .inr (.inl z)
      · rcases List.mem_cons.mp z with z | z
        · exact .inl z
        · exact .inr (.inr z)
    · rintro (z | z | z)
      · exact .inr (by rw [z]; exact List.mem_cons_self)
      · exact .inl z
      · exact .inr (List.mem_cons_of_mem _ z)
  by_cases h : Hid (p.add q) b
  · rw [del_hid h, del_hid (hid_mtQ.mpr (e.mp h))]
  · rw [del_at h, del_at fun z => h (e.mpr (hid_mtQ.mp z))]
theorem Rl.hdQ (R : Rl K J p g σ H) (hq : p.d ≠ some q) (ow : OwnAt K (del (mtQ p q) H) H q o) : Hd K (mtQ p q) H o := by
  refine ⟨fun a e => ?_, fun a e m => ?_, fun a m => ?_⟩
  · cases e
    exact ow
  · cases e
    rcases List.mem_append.mp m with z | z
    · exact hq (Option.mem_toList.mp z)
    · exact absurd rfl (of_decide_eq_true (List.mem_filter.mp z).2)
  · rcases List.mem_append.mp m with z | z
    · exact (R.dice a (Option.mem_toList.mp z)).mut
    · exact R.lv a (List.mem_filter.mp z).1
/-- behind the call: the slot's thing is as told -/
theorem Rl.afterQ (R : Rl K J p g σ H) (h : g.s[i]? = some (.o o)) (hq : σ[i]? = some (some (.ref q))) (a : Af K (mtQ p q) (mtQ p q) H J2 c) : Rl K J p (g.set i (.o c)) σ J2 ∧ Ad g σ p H (g.set i (.o c)) p J2 := by
  obtain ⟨q', h1, h2, h3, h4⟩ := R.so i o h
  rw [hq] at h1
  cases h1
  have nd : p.d ≠ some q := fun z => R.dno q z h2
  have hid : Hid p q := .inr h2
  have kp : ∀ b u, b ≠ q → H b = some u → J2 b = some u := fun b u n e => a.old b u (fun z => n (Option.some.inj z).symm) e
  have same : ∀ b, b ≠ q → H b ≠ none → J2 b = H b := fun b n x => by
    cases e : H b with
    | none => exact absurd e x
    | some u => exact kp b u n e
  have le : Le (del p H) (del p J2) := .of fun b u e => by
    have n := del_no e
    rw [del_at n]
    exact kp b u (fun z => n (z ▸ hid)) (del_of e)
  have new : OwnAt K (del p J2) J2 q c := by
    have := a.di q rfl
    rw [del_mtQ hid] at this
    exact this
  refine ⟨⟨(List.length_set ..).trans R.len, fun b u n e => kp b u (fun z => by rw [z, h3] at e; cases e) (R.old b u n e), fun b e => ?_, R.dno, fun b m => ?_, fun b u f e => R.fz b u f (a.fz b u f e), fun j d e => ?_, fun j d e => ?_, fun j e => ?_, fun j l o1 o2 x e1 e2 e3 e4 => ?_⟩,
    ⟨rfl, le, fun b m n => ⟨m, same b (fun z => n i o h (by rw [z]; exact hq)) (mut_ne (R.lv b m))⟩, fun b n j d e => ?_, fun b n => ?_⟩⟩
  · have nb : b ≠ q := fun z => nd (z ▸ e)
    exact (R.dice b e).le le (same b nb (mut_ne (R.dice b e).mut))
  · by_cases z : b = q
    · rw [z]
      exact new.mut
    · rw [same b z (mut_ne (R.lv b m))]
      exact R.lv b m
  · rcases getE_set e with ⟨_, z, _⟩ | ⟨_, e⟩
    · cases z
    · obtain ⟨v, x1, x2⟩ := R.sv j d e
      exact ⟨v, x1, x2.le le⟩
  · rcases getE_set e with ⟨e1, z, _⟩ | ⟨ne, e⟩
    · cases z
      rw [e1]
      exact ⟨q, hq, h2, h3, new⟩
    · obtain ⟨x, x1, x2, x3, x4⟩ := R.so j d e
      have nx : x ≠ q := fun z => ne (R.inj j i d o x e h x1 (by rw [hq, z]))
      exact ⟨x, x1, x2, x3, x4.le le (same x nx (mut_ne (R.lv x x2)))⟩
  · rcases getE_set e with ⟨_, z, _⟩ | ⟨_, e⟩
    · cases z
    · exact R.sd j e
  · have p1 : ∃ o, g.s[j]? = some (.o o) := (getE_set e1).elim (fun z => ⟨o, by rw [z.1]; exact h⟩) fun z => ⟨o1, z.2⟩
    have p2 : ∃ o, g.s[l]? = some (.o o) := (getE_set e2).elim (fun z => ⟨o, by rw [z.1]; exact h⟩) fun z => ⟨o2, z.2⟩
    obtain ⟨_, p1⟩ := p1
    obtain ⟨_, p2⟩ := p2
    exact R.inj j l _ _ x p1 p2 e3 e4
  · rcases getE_set e with ⟨e1, _, _⟩ | ⟨_, e⟩
    · rw [e1]
      exact n i o h
    · exact n j d e
  · by_cases z : b = q
    · rw [z]
      exact mut_ne new.mut
    · rw [same b z n]
      exact n
/-- what the changing parameter holds is changed here -/
theorem Rl.putD {u : HO} (R : Rl K J p g σ H) (hq : p.d = some q) (jn : True) (ow : OwnAt K (del p H) (upd H q u) q c) : Rl K J p ⟨g.s, c⟩ σ (upd H q u) ∧ As J p H p (upd H q u) := by
  have hid : Hid p q := .inl hq
  have no : q ∉ p.o := R.dno q hq
  have le : Le (del p H) (del p (upd H q u)) := .of fun b x e => by
    have nb : b ≠ q := fun z => del_no e (z ▸ hid)
    rw [del_at (del_no e), upd_ne nb]
    exact del_of e
  have mu := ow.mut
  refine ⟨⟨R.len, fun b x n e => ?_, fun b e => ?_, R.dno, fun b m => ?_, fun b x f e => ?_, fun j d e => ?_, fun j d e => ?_, R.sd, R.inj⟩, ⟨rfl, le, fun b m _ => m, upd_th⟩⟩
  · rw [upd_ne fun z => n (by rw [z]; exact hq)]
    exact R.old b x n e
  · rw [hq] at e
    cases e
    exact ow.le le rfl
  · rw [upd_ne fun z => no (by rw [← z]; exact m)]
    exact R.lv b m
  · by_cases z : b = q
    · rw [upd_same] at mu
      rw [z, upd_same] at e
      cases e
      exact absurd f (mut_nf mu)
    · rw [upd_ne z] at e
      exact R.fz b x f e
  · obtain ⟨v, x1, x2⟩ := R.sv j d e
    exact ⟨v, x1, x2.le le⟩
  · obtain ⟨y, x1, x2, x3, x4⟩ := R.so j d e
    exact ⟨y, x1, x2, x3, x4.le le (upd_ne fun z => no (by rw [← z]; exact x2))⟩
end
section
variable {X : Cx} {W : WW} {e a b : Expr} {es : List Expr} {pos ps : Pos} {C ff : Addr} {k : Nat} {fd : FuncData} {qs : List Str} {x f : Str}
/-! ### C(e, ..) -/
def mMake (C : Addr) (F : FD) (ms : M (List D)) : M O := ms.bind fun ds g => match F ds (.n C []) with
  | some (.non, .n C' fs) => if C' = C then some (.ok (.n C' fs) g) else none
  | _ => none
theorem eo_make {F : FD} {ms : M (List D)} (Mk' : Mk X.K C ff) (hF : FnG X.prog X.w X.K X.mg X.base CX0 k ff fd qs (spM X.K true F)) (hr : Room (k + 1) X.A) (hgd : X.A.guards = some []) (hb : Binds X.K fd qs []) (hm : X.mg x = some (.ref C)) (ha : EA X W (e :: es) ms) (hg : Gl X x := by rfl) (hdb : (x == ("__debug__" : Str)) = false := by decide)
    (he : starEach (e :: es) X.env = (false, eval e X.env) :: starEach es X.env := by rfl) (hpl : (backTo pos (starEach es X.env)).any (·.1) = false := by rfl) : EO X W (.Call (.Name x ps) (e :: es) [] pos) (mMake C F ms) := fun J p g σ H R0 r hm' Q hp =>
  of_pe (call_makeG Mk' hF hr hgd hb hm semA hg hdb he hpl) (ha.then R0 hm' hp fun ds g1 p1 H1 vs ad1 R1 rs hk hq => by
    intro q dx hq0 hd0 hne
    split at hk
    · rename_i C' fs e1
      split at hk
      · rename_i hC
        subst hC
        cases hk
        obtain ⟨R2, ad2, _⟩ := R1.new (o := .own q) hd0
        have hq2 : upd H1 dx (.own q) q = none := by rw [upd_ne (Ne.symm hne)]; exact hq0
        obtain ⟨R3, ad3, m3, _, n3, le3⟩ := R2.hide (o := .ins C' dx []) hq2
        have nh := R2.ne hq2
        have ndq : p1.d ≠ some q := fun z => nh (.inl z)
        have ad13 := ad2.trans ad3
        rw [List.append_nil]
        refine ⟨mtQ p1 q, .n C' [], ds, vs, .non, .n C' fs, ⟨q, rfl, rfl⟩, ?_, ?_, e1, fun v J2 af rv => ?_⟩
        · refine ⟨fun a e => ?_, fun a e m => ?_, fun a m => ?_⟩
          · cases e
            exact ⟨dx, [], upd_same, .nil⟩
          · cases e
            rcases List.mem_append.mp m with z | z
            · exact ndq (Option.mem_toList.mp z)
            · exact absurd rfl (of_decide_eq_true (List.mem_filter.mp z).2)
          · rcases List.mem_append.mp m with z | z
            · exact (R3.dice a (Option.mem_toList.mp z)).mut
            · exact R3.lv a (List.mem_cons_of_mem _ (List.mem_filter.mp z).1)
        · rw [del_mtQ_add]
          exact rs.le (ad2.le.trans le3)
        · cases rv
          refine ⟨rfl, ?_⟩
          have new : OwnAt X.K (del (p1.add q) J2) J2 q (.n C' fs) := by
            have := af.di q rfl
            rw [del_mtQ_add] at this
            exact this
          have kp : ∀ b u, H1 b = some u → J2 b = some u := fun b u e => by
            have b1 : b ≠ q := fun z => by rw [z, hq0] at e; cases e
            have b2 : b ≠ dx := fun z => by rw [z, hd0] at e; cases e
            exact af.old b u (fun z => b1 (Option.some.inj z).symm) (by rw [upd_ne b1, upd_ne b2]; exact e)
          have up : Le (del (p1.add q) J2) (del p1 J2) := .of fun b u e => by
            rw [del_at fun z : Hid p1 b => del_no e (z.imp id (List.mem_cons_of_mem _))]
            exact del_of e
          have al : Af X.K p1 (p1.add q) H1 J2 g1.c := by
            refine ⟨fun b u _ e => kp b u e, fun b e => ?_, fun b u f e => ?_⟩
            · have h0 := mut_ne (R1.dice b e).mut
              have hs : J2 b = H1 b := by
                cases e2 : H1 b with
                | none => exact absurd e2 h0
                | some u => exact kp b u e2
              have le : Le (del p1 H1) (del (p1.add q) J2) := .of fun y u e3 => by
                have ny : y ≠ q := fun z => by rw [z, del_at (fun z2 => nh z2), hq0] at e3; cases e3
                rw [del_at fun z : Hid (p1.add q) y => del_no e3 (Or.imp id (fun w => (List.mem_cons.mp w).resolve_left ny) z)]
                exact kp y u (del_of e3)
              exact (R1.dice b e).le le hs
            · have e2 := af.fz b u f e
              by_cases b1 : b = q
              · rw [b1, upd_same] at e2
                cases e2
                cases f
              · rw [upd_ne b1] at e2
                by_cases b2 : b = dx
                · rw [b2, upd_same] at e2
                  cases e2
                  cases f
                · rw [upd_ne b2] at e2
                  exact e2
          obtain ⟨R4, ad4, n4⟩ := R1.afterO al hq0 new
          exact hq _ J2 ad4 R4 q List.mem_cons_self (ad1.gone hq0) n4 new
      · cases hk
    · cases hk)
end
end Mo
set_option Elab.async false
set_option linter.all false
set_option maxRecDepth 100000
set_option maxHeartbeats 4000000
/-! Mo, part fifteen: reads and stores in what may be changed; own things handed in by name and by expression. -/
namespace Mo
open PySem PySem.Spec L2
open Lp (FnG okN callG)
section
variable {K : PySem.W.Frag} {H : Hp}
theorem Reps.put {v : V} {d : D} (h : Rep K H v d) : ∀ {vs : List V} {ds : List D}, Reps K H vs ds → ∀ j, Reps K H (vs.set j v) (ds.set j d)
  | _, _, .nil, _ => .nil
  | _, _, .cons h1 r, 0 => .cons h r
  | _, _, .cons h1 r, j + 1 => .cons h1 (Reps.put h r j)
end
section
variable {X : Cx} {W : WW} {e a b : Expr} {es : List Expr} {pos ps pk : Pos} {C ff : Addr} {k : Nat} {fd : FuncData} {qs : List Str} {x f y : Str} {py p' : Pos}
/-- the parameter in slot i, a list -/
def onDL {α : Type} (i : Nat) (k : List D → M α) : M α := isDi i fun g => match g.c with
  | .l xs => k xs g
  | _ => none
theorem onDL_some {α : Type} {i : Nat} {k : List D → M α} {g : G} {r : R α} (h : onDL i k g = some r) : g.s[i]? = some .di ∧ ∃ xs, g.c = .l xs ∧ k xs g = some r := by
  obtain ⟨h1, h2⟩ := isDi_some h
  refine ⟨h1, ?_⟩
  split at h2
  · rename_i xs e
    exact ⟨xs, e, h2⟩
  · cases h2
/-- d[k] -/
def mIxD (i : Nat) (mk : M D) : M D := isDi i (mk.bind fun k => onDL i fun xs => lift (fIx (.lst xs) k))
theorem e_ixD {mk : M D} (i : Nat) (hk : EF X W b mk) (hN : X.N[i]? = some y := by rfl) (hvis : Vis X.env.scope y := by first | exact Or.inl rfl | exact Or.inr (Or.inl rfl) | exact Or.inr (Or.inr rfl)) (hd : (y == ("__debug__" : Str)) = false := by decide) (hcd : (y == ("__classdict__" : Str)) = false := by decide)
    (hs : PlainIx b := by exact fun _ _ => rfl) : EF X W (.Subscript (.Name y py) b pos) (mIxD i mk) := fun J p g σ H R0 r hm Q hp => by
  obtain ⟨h0, hm⟩ := isDi_some hm
  obtain ⟨q, h1, hq0⟩ := R0.sd i h0
  refine of_pe (pe_ix ix_list (pv i hN hvis hd hcd) semE hs) ⟨_, h1, hk.then R0 hm hp fun k g1 p1 H1 w ad1 R1 rw' hm1 hp1 => ?_⟩
  obtain ⟨h2, xs, h3, hm2⟩ := onDL_some hm1
  have hq1 : p1.d = some q := ad1.dd.trans hq0
  have ow := R1.dice q hq1
  rw [h3] at ow
  obtain ⟨vs, h6, h7⟩ := ow
  obtain ⟨z, hz, hq⟩ := post_lift hm2 hp1 R1
  cases k <;> first | (cases hz; done) | skip
  rename_i n
  have hz' : atI xs n = some z := hz
  cases rep_int rw'
  obtain ⟨k', u, e1, e2, e3⟩ := atI_map h7.len hz'
  obtain ⟨d, e4, e5⟩ := h7.get e2
  rw [e1] at e4
  cases e4
  exact ⟨q, vs, n, u, rfl, rfl, .inl (.inl h6), e3, hq p1 H1 .refl R1 _ e5⟩
/-- d[k] = e, k a written number -/
def mIxPutD (i : Nat) (n : Int) (mv : M D) : M Oc := mv.bind fun v => onDL i fun xs g => match ixN xs.length n with
  | some j => some (.ok .nx ⟨g.s, .l (xs.set j v)⟩)
  | none => none
theorem s_ixD {mv : M D} {kk : Nat} {n : Int} (i : Nat) (hv : EF X W e mv) (hN : X.N[i]? = some y := by rfl) (hvis : Vis X.env.scope y := by first | exact Or.inl rfl | exact Or.inr (Or.inl rfl) | exact Or.inr (Or.inr rfl)) (hd : (y == ("__debug__" : Str)) = false := by decide) (hcd : (y == ("__classdict__" : Str)) = false := by decide)
    (h1 : swapsWithSole [.Subscript (.Name y py) (.Constant (.int n) kk pk) ps] e pos.line X.env = pure false := by rfl) (h2 : swappedStores [.Subscript (.Name y py) (.Constant (.int n) kk pk) ps] e X.env = pure none := by rfl)
    (h3 : (assignEach [.Subscript (.Name y py) (.Constant (.int n) kk pk) ps] X.env).map (·.2) = [assign (.Subscript (.Name y py) (.Constant (.int n) kk pk) ps) X.env] := by rfl) :
    SS X W (.Assign [.Subscript (.Name y py) (.Constant (.int n) kk pk) ps] e pos) (mIxPutD i n mv) := fun J p g σ H R0 r hm Dd hp => by
  obtain ⟨r1, e1, hq⟩ := post_s R0 hm hp
  refine of_ps (ps_asg semE (pg_sub (pv i hN hvis hd hcd) pe_int set_list) h1 h2 h3) (hv J p g σ H R0 r1 e1 _ (hq _ fun d g1 p1 H1 er ad R1 hk hp1 v rv => ?_))
  obtain ⟨x1, xs, x2, x3⟩ := onDL_some hk
  obtain ⟨q, h4, hq1⟩ := R1.sd i x1
  have ow := R1.dice q hq1
  rw [x2] at ow
  obtain ⟨vs, h6, h7⟩ := ow
  split at x3
  · rename_i j hj
    cases x3
    obtain ⟨R2, as2⟩ := R1.putD (c := .l (xs.set j d)) (u := .lst (vs.set j v)) hq1 trivial ⟨_, upd_same, Reps.put rv h7 j⟩
    exact ⟨_, h4, q, vs, n, j, rfl, rfl, h6, by rw [h7.len]; exact hj, hp1 σ p1 _ as2 R2⟩
  · cases x3
/-! ### self, whose fields may be changed -/
def onDN {α : Type} (i : Nat) (C : Addr) (k : List (Str × D) → M α) : M α := isDi i fun g => match g.c with
  | .n C' fs => if C' = C then k fs g else none
  | _ => none
theorem onDN_some {α : Type} {i : Nat} {k : List (Str × D) → M α} {g : G} {r : R α} (h : onDN i C k g = some r) : g.s[i]? = some .di ∧ ∃ fs, g.c = .n C fs ∧ k fs g = some r := by
  obtain ⟨h1, h2⟩ := isDi_some h
  refine ⟨h1, ?_⟩
  split at h2
  · split at h2
    · rename_i e hC
      subst hC
      exact ⟨_, e, h2⟩
    · cases h2
  · cases h2
def mFldD (i : Nat) (C : Addr) (f : Str) : M D := onDN i C fun fs => lift (getF f fs)
def mFldPutD (i : Nat) (C : Addr) (f : Str) (mv : M D) : M Oc := mv.bind fun d => onDN i C fun fs g => if fs.length < 1000 then some (.ok .nx ⟨g.s, .n C (setF f d fs)⟩) else none
theorem s_fldD {mv : M D} (i : Nat) (c : Cls X.K C) (n : NoAttr X.K C f) (hv : EF X W e mv) (hN : X.N[i]? = some x := by rfl) (hvis : Vis X.env.scope x := by first | exact Or.inl rfl | exact Or.inr (Or.inl rfl) | exact Or.inr (Or.inr rfl)) (hd : (x == ("__debug__" : Str)) = false := by decide) (hcd : (x == ("__classdict__" : Str)) = false := by decide)
    (hs : swapsWith e (some (.Attribute (.Name x py) f p')) pos.line X.env = pure false := by rfl) : SS X W (.Assign [.Attribute (.Name x py) f p'] e pos) (mFldPutD i C f mv) := fun J p g σ H R0 r hm Dd hp => by
  obtain ⟨r1, e1, hq⟩ := post_s R0 hm hp
  refine of_ps (ps_fld (pv i hN hvis hd hcd) semE hs) (hv J p g σ H R0 r1 e1 _ (hq _ fun d g1 p1 H1 er ad R1 hk hp1 v rv => ?_))
  obtain ⟨h1, fs, h2, h3⟩ := onDN_some hk
  obtain ⟨q, h4, h5⟩ := R1.sd i h1
  have ow := R1.dice q h5
  rw [h2] at ow
  obtain ⟨dx, vs, h6, h7⟩ := ow
  split at h3
  · rename_i hl
    cases h3
    obtain ⟨R2, as2⟩ := R1.putD (c := .n C (setF f d fs)) (u := .ins C dx (putF f v vs)) h5 trivial ⟨dx, _, upd_same, repF_set rv h7⟩
    exact ⟨_, h4, q, C, dx, vs, rfl, h6, c, n, by rw [repF_len h7]; exact hl, hp1 σ p1 _ as2 R2⟩
  · cases h3
/-! ### f(x, e, ..), x an own thing that f may change -/
def mFnQ (i : Nat) (F : FD) (ms : M (List D)) : M D := onO i fun _ => ms.bind fun ds => onO i fun o g => match F ds o with
  | some (d, o') => some (.ok d (g.set i (.o o')))
  | none => none
theorem e_fq {F : FD} {ms : M (List D)} (i : Nat) (hF : FnG X.prog X.w X.K X.mg X.base CX0 k ff fd qs (spM X.K true F)) (hr : Room k X.A) (hgd : X.A.guards = some []) (hm : X.mg x = some (.ref ff)) (hk : PySem.W.keepIn X.K (.ref ff) = true) (hb : Binds X.K fd qs [])
    (ha : EA X W es ms) (hg : Gl X x := by rfl) (hN : X.N[i]? = some y := by rfl) (hv : Vis X.env.scope y := by first | exact Or.inl rfl | exact Or.inr (Or.inl rfl) | exact Or.inr (Or.inr rfl)) (hd : (y == ("__debug__" : Str)) = false := by decide) (hcd : (y == ("__classdict__" : Str)) = false := by decide)
    (hdb : (x == ("__debug__" : Str)) = false := by decide) (he : starEach (.Name y py :: es) X.env = (false, eval (.Name y py) X.env) :: starEach es X.env := by rfl) (hpl : (backTo pos (starEach es X.env)).any (·.1) = false := by rfl) :
    EF X W (.Call (.Name x ps) (.Name y py :: es) [] pos) (mFnQ i F ms) := fun J p g σ H R0 r hm' Q hp => by
  obtain ⟨o0, h0, hm1⟩ := onO_some hm'
  obtain ⟨q, h1, _⟩ := R0.so i _ h0
  refine of_pe (callG hF hr hgd hg hm hk hb pass0 (pa_cons (pv i hN hv hd hcd) semA he) hdb he hpl) ⟨_, h1, ha.then R0 hm1 hp fun ds g1 p1 H1 vs ad1 R1 rs hm2 hp1 => ?_⟩
  show spM X.K true F ((V.ref q :: vs) ++ []) H1 Q E0
  rw [List.append_nil]
  obtain ⟨o, h2, h3⟩ := onO_some hm2
  obtain ⟨q', h4, h5, h6, h7⟩ := R1.so i _ h2
  rw [h1] at h4
  cases h4
  have hid : Hid p1 q := .inr h5
  have nd : p1.d ≠ some q := fun z => R1.dno q z h5
  split at h3
  · rename_i d o' e1
    cases h3
    refine ⟨mtQ p1 q, o, ds, vs, d, o', ⟨q, rfl, rfl⟩, R1.hdQ nd (by rw [del_mtQ hid]; exact h7), by rw [del_mtQ hid]; exact rs, e1, fun v J2 af rv => ?_⟩
    obtain ⟨R2, ad2⟩ := R1.afterQ h2 h1 af
    rw [del_mtQ hid] at rv
    exact hp1 p1 J2 ad2 R2 v rv
  · cases h3
/-! ### f(g(..), e, ..), the first argument new -/
def mFnE (F : FD) (mo : M O) (ms : M (List D)) : M D := mo.bind fun o => ms.bind fun ds => lift ((F ds o).map (·.1))
end
end Mo
set_option Elab.async false
set_option linter.all false
set_option maxRecDepth 100000
set_option maxHeartbeats 4000000
set_option exponentiation.threshold 9000
/-! Mo, part sixteen: one rule for each sign of the language, whatever the data. -/
namespace Mo
open PySem PySem.Spec L2
section
variable {X : Cx} {W : WW} {e a b c : Expr} {es : List Expr} {pos ps : Pos}
theorem EF.or {m m' m2 : M D} (h : EF X W e m) (h' : EF X W e m') (hp : ∀ g r, m2 g = some r → m g = some r ∨ m' g = some r) : EF X W e m2 := fun J p g σ H R0 r hm Q q => (hp g r hm).elim (fun z => h J p g σ H R0 r z Q q) fun z => h' J p g σ H R0 r z Q q
theorem ET.or {m m' m2 : M Bool} (h : ET X W e m) (h' : ET X W e m') (hp : ∀ g r, m2 g = some r → m g = some r ∨ m' g = some r) : ET X W e m2 := fun J p g σ H R0 r hm Q q => (hp g r hm).elim (fun z => h J p g σ H R0 r z Q q) fun z => h' J p g σ H R0 r z Q q
def orF {α : Type} (f f' : D → D → Option α) : D → D → Option α := fun x y => (f x y).or (f' x y)
theorem bin_or {α : Type} {f f' : D → D → Option α} {ma mb : M D} {g : G} {r : R α} (h : (ma.bind fun x => mb.bind fun y => lift (orF f f' x y)) g = some r) :
    (ma.bind fun x => mb.bind fun y => lift (f x y)) g = some r ∨ (ma.bind fun x => mb.bind fun y => lift (f' x y)) g = some r := by
  unfold M.bind at h ⊢
  cases e1 : ma g with
  | none =>
    rw [e1] at h
    cases h
  | some r1 =>
    rw [e1] at h
    cases r1 with
    | ex E g1 => exact .inl h
    | ok x g1 =>
      dsimp only at h ⊢
      cases e2 : mb g1 with
      | none =>
        rw [e2] at h
        cases h
      | some r2 =>
        rw [e2] at h
        cases r2 with
        | ex E g2 => exact .inl h
        | ok y g2 =>
          dsimp only at h ⊢
          unfold orF at h
          cases e3 : f x y with
          | none =>
            rw [e3] at h
            exact .inr h
          | some z =>
            rw [e3] at h
            exact .inl h
theorem e_orB {f f' : D → D → Option D} {ma mb : M D} (h : EF X W e (mBin f ma mb)) (h' : EF X W e (mBin f' ma mb)) : EF X W e (mBin (orF f f') ma mb) := h.or h' fun _ _ z => bin_or z
/-- a test of two -/
def mT2 (f : D → D → Option D) (ma mb : M D) : M Bool := ma.bind fun x => mb.bind fun y => lift ((f x y).bind asB)
theorem t_or {f f' : D → D → Option D} {ma mb : M D} (h : ET X W e (mT2 f ma mb)) (h' : ET X W e (mT2 f' ma mb)) : ET X W e (mT2 (orF f f') ma mb) := h.or h' fun g r z => by
  unfold mT2 M.bind at z ⊢
  cases e1 : ma g with
  | none =>
    rw [e1] at z
    cases z
  | some r1 =>
    rw [e1] at z
    cases r1 with
    | ex E g1 => exact .inl z
    | ok x g1 =>
      dsimp only at z ⊢
      cases e2 : mb g1 with
      | none =>
        rw [e2] at z
        cases z
      | some r2 =>
        rw [e2] at z
        cases r2 with
        | ex E g2 => exact .inl z
        | ok y g2 =>
          dsimp only at z ⊢
          unfold orF at z
          cases e3 : f x y with
          | none =>
            rw [e3] at z
            exact .inr z
          | some u =>
            rw [e3] at z
            exact .inl z
/-! ### signs between numbers, texts, tuples -/
/-- () + u is u itself -/
def rCatT0 (K : PySem.W.Frag) : R2 := fun x y H Q => ∃ a b ys, x = .ref a ∧ y = .ref b ∧ SqT K H a [] ∧ SqT K H b ys ∧ ys.length ≤ sizeLine ∧ Q (.ref b) H
theorem op_catT0 {X : Cx} : OpR X (binaryOp .Add) (rCatT0 X.K) := by
  intro pins s σ H x y v u Q I rx ry h
  obtain ⟨a, b, ys, rfl, rfl, ha, hb, hz, q⟩ := h
  cases rx
  cases ry
  obtain ⟨its, r1, p1, _⟩ := I.tuple ha
  obtain ⟨its2, r2, p2, _⟩ := I.tuple hb
  cases r1
  obtain ⟨⟨c1, d1, da1, sl1⟩, ho1, hc1, n1, hd1⟩ := id p1
  obtain ⟨⟨c2, d2, da2, sl2⟩, ho2, hc2, n2, hd2⟩ := id p2
  simp only at hc1 hd1 hc2 hd2
  subst hc1 hd1 hc2 hd2
  exact PySem.concat_meets ⟨_, ho1, rfl⟩ ⟨_, ho2, rfl⟩ PySem.noFill_tuple_add PySem.seq_tuple_add PySem.F.slot_tuple_add PySem.F.entry_tuple_add (PySem.F.args_tuple_add_2 _ _)
    (PyProof.Rows.tuple_addW0 a b #[] its2.toArray n1 n2 d1 d2 sl1 sl2 (by simp)) ⟨ho1, ho2, .ref b, H, I, rfl, q⟩
def fCatT0 : D → D → Option D
  | .tup [], .tup ys => if ys.length ≤ sizeLine then some (.tup ys) else none
  | _, _ => none
theorem os_catT0 {K : PySem.W.Frag} : OpS K (rCatT0 K) fCatT0 := fun J p g σ H v w x y z Q R0 rv rw' e q => by
  unfold fCatT0 at e
  split at e
  · split at e
    · rename_i hz
      cases e
      obtain ⟨a, vs, rfl, sa, ra⟩ := rep_tup rv
      obtain ⟨b, ws, rfl, sb, rb⟩ := rep_tup rw'
      cases ra
      exact ⟨a, b, ws, rfl, rfl, st_del sa, st_del sb, by rw [rb.len]; exact hz, q p H .refl R0 _ rw'⟩
    · cases e
  · cases e
def uAdd : D → D → Option D := orF (fI0 fun i j => .int (i + j)) (orF fCat (orF fCatT fCatT0))
theorem e_add {ma mb : M D} (ha : EF X W a ma) (hb : EF X W b mb) : EF X W (.BinOp a .Add b pos) (mBin uAdd ma mb) := e_orB (e_bin op_add os_I0 ha hb) (e_orB (e_bin op_add_str os_cat ha hb) (e_orB (e_bin op_catT os_catT ha hb) (e_bin op_catT0 os_catT0 ha hb)))
def uSub : D → D → Option D := fI0 fun i j => .int (i - j)
theorem e_sub {ma mb : M D} (ha : EF X W a ma) (hb : EF X W b mb) : EF X W (.BinOp a .Sub b pos) (mBin uSub ma mb) := e_bin op_sub os_I0 ha hb
def cMul (i j : Int) : Bool := decide (i.natAbs.log2 + j.natAbs.log2 < 1000000)
def uMul : D → D → Option D := fI cMul fun i j => .int (i * j)
theorem e_mul {ma mb : M D} (ha : EF X W a ma) (hb : EF X W b mb) : EF X W (.BinOp a .Mult b pos) (mBin uMul ma mb) := e_bin op_mulW (os_I fun i j h => show i.natAbs.log2 + j.natAbs.log2 < 1000000 from of_decide_eq_true h) ha hb
def cDiv (_ j : Int) : Bool := decide (0 < j ∧ j.natAbs.log2 < 9000)
def uDiv : D → D → Option D := fI cDiv fun i j => .int (i / j)
theorem e_div {ma mb : M D} (ha : EF X W a ma) (hb : EF X W b mb) : EF X W (.BinOp a .FloorDiv b pos) (mBin uDiv ma mb) := e_bin op_fdivW (os_I fun _ j h => show 0 < j ∧ j.natAbs.log2 < 9000 from of_decide_eq_true h) ha hb
def cMod (_ j : Int) : Bool := decide (0 < j)
def uMod : D → D → Option D := fI cMod fun i j => .int (i % j)
theorem e_mod {ma mb : M D} (ha : EF X W a ma) (hb : EF X W b mb) : EF X W (.BinOp a .Mod b pos) (mBin uMod ma mb) := e_bin op_mod (os_I fun _ _ h => of_decide_eq_true h) ha hb
def cPow (i j : Int) : Bool := decide (0 ≤ j ∧ j ≤ 1000000 ∧ i.natAbs < 2 ^ 64)
def uPow : D → D → Option D := fI cPow fun i j => .int (i ^ j.toNat)
theorem e_pow {ma mb : M D} (ha : EF X W a ma) (hb : EF X W b mb) : EF X W (.BinOp a .Pow b pos) (mBin uPow ma mb) := e_bin op_pow (os_I fun i j h => show 0 ≤ j ∧ j ≤ 1000000 ∧ i.natAbs < 2 ^ 64 from of_decide_eq_true h) ha hb
/-! ### comparisons -/
def fLtS : D → D → Option D
  | .str i, .str j => some (.bl (decide (i.cps.toList < j.cps.toList)))
  | _, _ => none
theorem os_ltS {K : PySem.W.Frag} : OpS K (fun x y H Q => ∃ i j, x = .str i ∧ y = .str j ∧ Q (.bl (decide (i.cps.toList < j.cps.toList))) H) fLtS := fun J p g σ H v w x y z Q R rv rw' e q => by
  cases x <;> first | (cases e; done) | skip
  cases y <;> first | (cases e; done) | skip
  cases rep_str rv
  cases rep_str rw'
  cases e
  exact ⟨_, _, rfl, rfl, q p H .refl R _ (.bl _)⟩
def iLt : D → D → Option D := fI0 fun i j => .bl (decide (i < j))
def iLe : D → D → Option D := fI0 fun i j => .bl (decide (i ≤ j))
def iGt : D → D → Option D := fI0 fun i j => .bl (decide (j < i))
def iGe : D → D → Option D := fI0 fun i j => .bl (decide (j ≤ i))
def uLt : D → D → Option D := orF iLt fLtS
section
variable {ma mb : M D}
theorem e_lt (ha : EF X W a ma) (hb : EF X W b mb) : EF X W (.Compare a [.Lt] [b] pos) (mBin uLt ma mb) := e_orB (e_cmp op_lt os_IB ha hb) (e_cmp op_lt_str os_ltS ha hb)
theorem e_eq (hu : X.A.units + 64 < cLine) (ha : EF X W a ma) (hb : EF X W b mb) (hm : behindInMarks .Eq b = false := by first | exact nomark _ | rfl) : EF X W (.Compare a [.Eq] [b] pos) (mBin (fEq false) ma mb) := e_cmp (op_eqD hu) os_eq ha hb hm
theorem t_lt (ha : EF X W a ma) (hb : EF X W b mb) : ET X W (.Compare a [.Lt] [b] pos) (mT2 uLt ma mb) := t_or (t_cmp op_lt os_IB ha hb) (t_cmp op_lt_str os_ltS ha hb)
theorem t_gt (ha : EF X W a ma) (hb : EF X W b mb) : ET X W (.Compare a [.Gt] [b] pos) (mT2 iGt ma mb) := t_cmp op_gt os_IB ha hb
theorem t_eq (hu : X.A.units + 64 < cLine) (ha : EF X W a ma) (hb : EF X W b mb) (hm : behindInMarks .Eq b = false := by first | exact nomark _ | rfl) : ET X W (.Compare a [.Eq] [b] pos) (mT2 (fEq false) ma mb) := t_cmp (op_eqD hu) os_eq ha hb hm
theorem t_ne (hu : X.A.units + 64 < cLine) (ha : EF X W a ma) (hb : EF X W b mb) (hm : behindInMarks .NotEq b = false := by first | exact nomark _ | rfl) : ET X W (.Compare a [.NotEq] [b] pos) (mT2 (fEq true) ma mb) := t_cmp (op_neD hu) os_ne ha hb hm
/-! ### in, subscripts: dicts, lists, tuples, texts -/
def uIn (neg : Bool) : D → D → Option D := orF (fDIn neg) (orF (fIn neg) (fInS neg))
theorem e_in (hu : X.A.units + 1 < cLine) (ha : EF X W a ma) (hb : EF X W b mb) (hm : behindInMarks .In b = false := by rfl) : EF X W (.Compare a [.In] [b] pos) (mBin (uIn false) ma mb) := e_orB (e_din hu ha hb hm) (e_orB (e_cmp op_in_seq (os_in false) ha hb hm) (e_cmp op_in_str os_inS ha hb hm))
def uIx : D → D → Option D := orF fDGet fIx
theorem e_sbs (hu : X.A.units + 1 < cLine) (ha : EF X W a ma) (hb : EF X W b mb) (hs : L2.NoSl b := by exact fun _ _ => rfl) (hs2 : PlainIx b := by exact fun _ _ => rfl) : EF X W (.Subscript a b pos) (mBin uIx ma mb) := e_orB (e_dget hu ha hb hs) (e_ix ha hb hs2)
end
/-- a test by the value of an expression that is a truth -/
theorem t_e {m : M D} (h : EF X W e m) (he : ∀ whole, isTrue e X.env whole = (do let v ← whole; standAt e.pos; holding [v] (truthy v)) := by intro _; rfl) : ET X W e (mTru m) := t_truth h he
end
end Mo
set_option Elab.async false
set_option linter.all false
set_option maxRecDepth 100000
set_option maxHeartbeats 4000000
/-! Mo, part seventeen: what the printer of derivations names. -/
namespace Mo
open PySem PySem.Spec L2
def frz (m : M O) : M D := m.bind fun o => ret o.d
section
variable {X : Cx} {W : WW} {e a b c : Expr} {es : List Expr} {pos ps : Pos} {ma mb mc : M D}
theorem e_bad : EF X W e bad := fun J p g σ H R0 r hm Q hp => by cases hm
/-- + of numbers, texts, tuples, lists -/
def uPlus : D → D → Option D := orF uAdd fun x y => (fCatL x y).map O.d
theorem catL_frz {g : G} {r : R D} (h : (ma.bind fun x => mb.bind fun y => lift ((fCatL x y).map O.d)) g = some r) : frz (mBinO fCatL ma mb) g = some r := by
  unfold frz mBinO M.bind at *
  cases e1 : ma g with
  | none =>
    rw [e1] at h
    cases h
  | some r1 =>
    rw [e1] at h
    cases r1 with
    | ex E g1 => exact h
    | ok x g1 =>
      dsimp only at h ⊢
      cases e2 : mb g1 with
      | none =>
        rw [e2] at h
        cases h
      | some r2 =>
        rw [e2] at h
        cases r2 with
        | ex E g2 => exact h
        | ok y g2 =>
          dsimp only at h ⊢
          cases e3 : fCatL x y with
          | none =>
            rw [e3] at h
            cases h
          | some z =>
            rw [e3] at h
            exact h
theorem e_plus (ha : EF X W a ma) (hb : EF X W b mb) : EF X W (.BinOp a .Add b pos) (mBin uPlus ma mb) := (e_add ha hb).or (eo_cat ha hb).f fun g r z => (bin_or z).imp id catL_frz
/-- xs[a:b] of texts, tuples, lists -/
def mSlU (ma : M D) (ml mh : M (Option Int)) : M D := mSl (fun x l u => (fSlS x l u).or ((fSlL x l u).map O.d)) ma ml mh
/-- a op b op' c -/
def mChain (f f' : D → D → Option D) (ma mb mc : M D) : M D := ma.bind fun x => mb.bind fun y => match f x y with
  | some (.bl true) => mc.bind fun z => lift (f' y z)
  | some (.bl false) => ret (.bl false)
  | _ => bad
theorem e_chain {op op' : CmpOp} {r2 r3 : R2} {f f' : D → D → Option D} (ho : OpR X (compareOp op) r2) (ho' : OpR X (compareOp op') r3) (hs : OpS X.K r2 f) (hs' : OpS X.K r3 f') (ha : EF X W a ma) (hb : EF X W b mb) (hc : EF X W c mc)
    (hm0 : lastMarks [op, op'] [b, c] = false := by with_unfolding_all rfl) : EF X W (.Compare a [op, op'] [b, c] pos) (mChain f f' ma mb mc) := fun J p g σ H R0 r hm Q hp =>
  of_pe (pe_chain ho ho' semE semE semE hm0) (ha.then R0 hm hp fun x g1 p1 H1 v ad1 R1 rv hm1 hp1 => hb.then R1 hm1 hp1 fun y g2 p2 H2 w ad2 R2 rw' hm2 hp2 => by
    cases e : f x y with
    | none =>
      rw [e] at hm2
      cases hm2
    | some z =>
      rw [e] at hm2
      cases z <;> first | (cases hm2; done) | skip
      rename_i b0
      refine hs J p2 g2 σ H2 v w x y _ _ R2 (rv.le ad2.le) rw' e fun p' H' ad R3 u ru => ⟨b0, rep_bl ru, ?_⟩
      cases b0 with
      | false =>
        cases hm2
        exact iteF (hp2 p' H' ad R3 _ (.bl false))
      | true =>
        refine iteT (hc.then R3 hm2 (hp2.adv ad) fun z g4 p4 H4 w4 ad4 R4 rw4 hm4 hp4 => ?_)
        obtain ⟨u, hu, hq⟩ := post_lift hm4 hp4 R4
        exact hs' J p4 g4 σ H4 w w4 y z u Q R4 ((rw'.le ad.le).le ad4.le) rw4 hu hq)
/-- `in` as a test -/
theorem t_din (hu : X.A.units + 1 < cLine) (ha : EF X W a ma) (hb : EF X W b mb) (hm0 : behindInMarks .In b = false := by rfl) : ET X W (.Compare a [.In] [b] pos) (mT2 (fDIn false) ma mb) := fun J p g σ H R0 r hm Q hp =>
  of_pt (pt_cmp (pc_din hu semE semE) hm0) (ha.then R0 hm hp fun x g1 p1 H1 v ad1 R1 rv hm1 hp1 => hb.then R1 hm1 hp1 fun y g2 p2 H2 w ad2 R2 rw' hm2 hp2 => by
    cases e : getD y x with
    | none =>
      simp only [fDIn, e] at hm2
      cases hm2
    | some u =>
      simp only [fDIn, e] at hm2
      cases hm2
      obtain ⟨A, u', ev, g1', g2', g3'⟩ := dget_of rw' (rv.le ad2.le) e
      refine ⟨A, u', ev, g1', ?_⟩
      rw [dget_some g2' g3']
      exact ⟨_, rfl, hp2 p2 H2 .refl R2⟩)
theorem t_in (hu : X.A.units + 1 < cLine) (ha : EF X W a ma) (hb : EF X W b mb) (hm : behindInMarks .In b = false := by rfl) : ET X W (.Compare a [.In] [b] pos) (mT2 (uIn false) ma mb) := t_or (t_din hu ha hb hm) (t_or (t_cmp op_in_seq (os_in false) ha hb hm) (t_cmp op_in_str os_inS ha hb hm))
end
end Mo
set_option Elab.async false
set_option linter.all false
set_option maxRecDepth 100000
set_option maxHeartbeats 4000000
/-! Mo, part eighteen: several names at once. -/
namespace Mo
open PySem PySem.Spec L2
/-- a value, shown or still the def's own -/
inductive Vx where
  | d (x : D) | o (x : O)
def Vx.sl : Vx → Sl
  | .d x => .v x
  | .o x => .o x
/-- what v stands for, seen from the heap H0 of before -/
def VxAt (K : PySem.W.Frag) (H0 : Hp) (σ : St) (g : G) (p : Mt) (H : Hp) (v : V) : Vx → Prop
  | .d x => Rep K (del p H) v x
  | .o x => ∃ q, v = .ref q ∧ q ∈ p.o ∧ H0 q = none ∧ H q ≠ none ∧ NoSl g σ q ∧ OwnAt K (del p H) H q x
def qX (K : PySem.W.Frag) (H : Hp) (σ : St) (Q : VK) : Vx → G → Mt → Hp → Prop := fun x g' p' H' => ∀ v, VxAt K H σ g' p' H' v x → Q v H'
def EX (X : Cx) (W : WW) (e : Expr) (m : M Vx) : Prop := ∀ J p g σ H, Rl X.K J p g σ H → ∀ r, m g = some r → ∀ Q : VK, Post X.K W J p g σ H r (qX X.K H σ Q) → SemE X e σ H Q
def mXd (m : M D) : M Vx := m.bind fun d => ret (.d d)
def mXo (m : M O) : M Vx := m.bind fun d => ret (.o d)
section
variable {X : Cx} {W : WW} {e a b c : Expr} {es : List Expr} {pos ps : Pos}
theorem x_d {m : M D} (h : EF X W e m) : EX X W e (mXd m) := fun J p g σ H R0 r hm Q hp =>
  h.then R0 hm hp fun d g1 p1 H1 v ad R1 rv hk hq => by
    cases hk
    exact hq p1 H1 .refl R1 v rv
theorem EX.then {β : Type} {J : Hp} {p : Mt} {g : G} {σ : St} {H : Hp} {q : β → G → Mt → Hp → Prop} {r : R β} {m : M Vx} {k : Vx → M β} (h : EX X W e m) (R0 : Rl X.K J p g σ H) (hm : m.bind k g = some r) (hp : Post X.K W J p g σ H r q) {Q : VK}
    (hk : ∀ d g1 p1 H1 v, Ad g σ p H g1 p1 H1 → Rl X.K J p1 g1 σ H1 → VxAt X.K H σ g1 p1 H1 v d → k d g1 = some r → Post X.K W J p1 g1 σ H1 r q → Q v H1) : SemE X e σ H Q := by
  unfold M.bind at hm
  cases e1 : m g with
  | none => rw [e1] at hm; cases hm
  | some r1 =>
    cases r1 with
    | ok d g1 =>
      rw [e1] at hm
      exact h J p g σ H R0 _ e1 Q fun p1 H1 ad R1 v rv => hk d g1 p1 H1 v ad R1 rv hm (hp.adv ad)
    | ex E g1 =>
      rw [e1] at hm
      cases hm
      exact h J p g σ H R0 _ e1 Q hp
/-- kept while something else is computed -/
theorem VxAt.ad {K : PySem.W.Frag} {H0 : Hp} {σ : St} {g g' : G} {p p' : Mt} {H H' : Hp} {v : V} {x : Vx} (h : VxAt K H0 σ g p H v x) (a : Ad g σ p H g' p' H') : VxAt K H0 σ g' p' H' v x := by
  cases x with
  | d x => exact Rep.le a.le h
  | o x =>
    obtain ⟨q, h1, h2, h3, h4, h5, h6⟩ := h
    obtain ⟨x1, x2⟩ := a.ex q h2 h5
    exact ⟨q, h1, x1, h3, by rw [x2]; exact h4, a.sl q h5, h6.le a.le x2⟩
/-- two values that came one behind the other -/
def Apart : V → Vx → V → Vx → Prop
  | v, .o _, w, .o _ => v ≠ w
  | _, _, _, _ => True
theorem apart_of {K : PySem.W.Frag} {H0 : Hp} {σ σ' : St} {g g' : G} {p p' : Mt} {H H' : Hp} {v w : V} {x y : Vx} (h : VxAt K H0 σ g p H v x) (h' : VxAt K H σ' g' p' H' w y) : Apart v x w y := by
  cases x with
  | d x => exact True.intro
  | o x =>
    cases y with
    | d y => exact True.intro
    | o y =>
      obtain ⟨q, h1, h2, h3, h4, h5, h6⟩ := h
      obtain ⟨q', h1', h2', h3', _⟩ := h'
      subst h1 h1'
      exact fun z => by
        cases z
        exact h4 h3'
theorem noSl_set {g : G} {σ : St} {q : Addr} {i : Nat} {v : V} {x : Vx} (h : NoSl g σ q) (hl : g.s.length = σ.length) (hv : (∃ d, x = .d d) ∨ v ≠ .ref q) : NoSl (g.set i x.sl) (σ.set i (some v)) q := fun j o e1 e2 => by
  rcases getE_set e1 with ⟨i1, z, l1⟩ | ⟨n1, e1⟩
  · rw [getV_set, if_pos ⟨i1, hl ▸ l1⟩] at e2
    cases e2
    rcases hv with ⟨d, rfl⟩ | hv
    · cases z
    · exact hv rfl
  · rw [getV_set, if_neg fun z => n1 z.1] at e2
    exact h j o e1 e2
theorem Rl.setX {K : PySem.W.Frag} {J H0 : Hp} {p : Mt} {g : G} {σ : St} {H : Hp} {i : Nat} {v : V} {x : Vx} (R : Rl K J p g σ H) (jn : ∀ q, H0 q = none → J q = none) (h : VxAt K H0 σ g p H v x) : Rl K J p (g.set i x.sl) (σ.set i (some v)) H := by
  cases x with
  | d x => exact R.setV h
  | o x =>
    obtain ⟨q, rfl, h2, h3, h4, h5, h6⟩ := h
    exact R.setO h2 (jn q h3) h5 h6
/-- the second of two that are stored -/
theorem VxAt.set {K : PySem.W.Frag} {H0 : Hp} {σ : St} {g : G} {p : Mt} {H : Hp} {i : Nat} {v w : V} {x y : Vx} (h : VxAt K H0 σ g p H w y) (hl : g.s.length = σ.length) (ap : Apart v x w y) : VxAt K H0 (σ.set i (some v)) (g.set i x.sl) p H w y := by
  cases y with
  | d y => exact h
  | o y =>
    obtain ⟨q, rfl, h2, h3, h4, h5, h6⟩ := h
    refine ⟨q, rfl, h2, h3, h4, noSl_set h5 hl ?_, h6⟩
    cases x with
    | d x => exact .inl ⟨x, rfl⟩
    | o x => exact .inr ap
/-- x, y = e, f -/
def mPar (i j : Nat) (ma mb : M Vx) : M Oc := ma.bind fun x => mb.bind fun y g => some (.ok .nx ((g.set i x.sl).set j y.sl))
theorem s_par {x y : Str} {px py pt pt2 : Pos} {kt k2 : Nat} {ma mb : M Vx} (i j : Nat) (hc : X.calm = true) (nd : X.N.Nodup) (ha : EX X W a ma) (hb : EX X W b mb) (hij : i ≠ j := by decide) (hi : X.N[i]? = some x := by rfl) (hj : X.N[j]? = some y := by rfl)
    (hx : X.env.scope.names.lookup x = some .local := by rfl) (hy : X.env.scope.names.lookup y = some .local := by rfl)
    (hw : swappedStores [.Tuple [.Name x px, .Name y py] kt pt] (.Tuple [a, b] k2 pt2) X.env = pure (some [x, y]) := by rfl) (hs : swapsWithSole [.Tuple [.Name x px, .Name y py] kt pt] (.Tuple [a, b] k2 pt2) pos.line X.env = pure false := by rfl)
    (he : starEach [a, b] X.env = (false, eval a X.env) :: starEach [b] X.env := by rfl) (he2 : starEach [b] X.env = (false, eval b X.env) :: starEach [] X.env := by rfl) :
    SS X W (.Assign [.Tuple [.Name x px, .Name y py] kt pt] (.Tuple [a, b] k2 pt2) pos) (mPar i j ma mb) := fun J p g σ H R0 r hm Dd hp => by
  obtain ⟨r1, e1, hq⟩ := post_s R0 hm hp
  refine of_ps (ps_par (i := i) (j := j) hc nd hi hj hij hx hy (pa_cons semE (pa_cons semE pa_nil he2) he) hw hs) (ha J p g σ H R0 r1 e1 _ (hq _ fun u g1 p1 H1 er ad R1 hk hp1 v hv => ?_))
  obtain ⟨r2, e2, hq2⟩ := post_s R1 hk hp1
  refine hb J p1 g1 σ H1 R1 r2 e2 _ (hq2 _ fun u2 g2 p2 H2 er2 ad2 R2 hk2 hp2 w hw' => ?_)
  cases hk2
  have ap := apart_of hv hw'
  have hv2 := hv.ad ad2
  exact ⟨v, w, rfl, hp2 _ p2 H2 .refl ((R2.setX (fun q e => R0.jn e) hv2).setX (fun q e => R1.jn e) (hw'.set R2.len ap))⟩
/-- x, y, z = e, f, h -/
def mPar3 (i j k : Nat) (ma mb mc : M Vx) : M Oc := ma.bind fun x => mb.bind fun y => mc.bind fun z g => some (.ok .nx (((g.set i x.sl).set j y.sl).set k z.sl))
/-- target = e, the value taken apart -/
def mAsg (f : D → G → Option G) (m : M D) : M Oc := m.bind fun d g => (f d g).map fun g' => .ok .nx g'
theorem s_asg {tg : Expr} {vs : List Nat} {f : D → G → Option G} {m : M D} (h : EF X W e m) (ht : ES X vs tg f) (hs : swapsWithSole [tg] e pos.line X.env = pure false := by rfl) (hw : swappedStores [tg] e X.env = pure none := by rfl)
    (h1 : (assignEach [tg] X.env).map (·.2) = [assign tg X.env] := by rfl) : SS X W (.Assign [tg] e pos) (mAsg f m) := fun J p g σ H R0 r hm Dd hp => by
  obtain ⟨r1, e1, hq⟩ := post_s R0 hm hp
  refine of_ps (ps_asg semE semG hs hw h1) (h J p g σ H R0 r1 e1 _ (hq _ fun d g1 p1 H1 er ad R1 hk hp1 v rv => ?_))
  cases e2 : f d g1 with
  | none =>
    rw [e2] at hk
    cases hk
  | some g2 =>
    rw [e2] at hk
    cases hk
    exact ht J p1 g1 σ H1 v d g2 R1 rv e2 _ fun σ' sm R2 => hp1 σ' p1 H1 .refl R2
end
end Mo
set_option Elab.async false
set_option linter.all false
set_option maxRecDepth 100000
set_option maxHeartbeats 4000000
/-! Mo, part nineteen: displays of dicts, stars in displays. -/
namespace Mo
open PySem PySem.Spec L2
theorem Ad.putQ {g g2 : G} {σ : St} {p p2 : Mt} {H H2 : Hp} {q : Addr} {u : HO} (a : Ad g σ p H g2 p2 H2) (hq : H q = none) (lv : ∀ a ∈ p.o, H a ≠ none) (le : Le (del p2 H2) (del p2 (upd H2 q u))) : Ad g σ p H g2 p2 (upd H2 q u) :=
  ⟨a.dd, a.le.trans le, fun b m n => by
    obtain ⟨h1, h2⟩ := a.ex b m n
    have nb : b ≠ q := fun z => lv b m (by rw [z]; exact hq)
    exact ⟨h1, by rw [upd_ne nb]; exact h2⟩, a.sl, fun b n => upd_th b (a.th b n)⟩
section
variable {X : Cx} {W : WW} {e a b c : Expr} {es : List Expr} {pos ps : Pos}
/-! ### {k: v, ..}, keys numbers or texts -/
def EPs (X : Cx) (W : WW) (pos : Pos) (ks : List (Option Expr)) (vs : List Expr) (trs : List (TE × TE)) (m : M (List (Key × D))) : Prop :=
  PPs X pos ks vs trs ∧ ∀ J p g σ H, Rl X.K J p g σ H → ∀ r, m g = some r → ∀ Q : List (V × V) → Hp → Prop, Post X.K W J p g σ H r (fun es _ p' H' => ∀ ws : List (Key × V), RepK X.K (del p' H') ws es → Q (ws.map fun kv => (kV kv.1, kv.2)) H') → tPairs trs σ H Q
def mPairs (mk mv : M D) (ms : M (List (Key × D))) : M (List (Key × D)) := mk.bind fun k => mv.bind fun v => ms.bind fun r => lift ((asKey k).map fun kk => (kk, v) :: r)
theorem pp_nil : EPs X W pos [] [] [] (ret []) := ⟨pps_nil, fun J p g σ H R0 r hm Q hp => by
  cases hm
  exact hp p H .refl R0 [] .nil⟩
theorem pp_cons {k v : Expr} {ks : List (Option Expr)} {vs : List Expr} {trs : List (TE × TE)} {mk mv : M D} {ms : M (List (Key × D))} (hk : EF X W k mk) (hv : EF X W v mv) (hr : EPs X W pos ks vs trs ms) :
    EPs X W pos (some k :: ks) (v :: vs) ((SemE X k, SemE X v) :: trs) (mPairs mk mv ms) := ⟨pps_cons semE semE hr.1, fun J p g σ H R0 r hm Q hp => by
  show SemE X k σ H _
  refine hk.then R0 hm hp fun x g1 p1 H1 u ad1 R1 ru hm1 hp1 => ?_
  show SemE X v σ H1 _
  refine hv.then R1 hm1 hp1 fun y g2 p2 H2 w ad2 R2 rw' hm2 hp2 => ?_
  unfold M.bind at hm2
  cases e1 : ms g2 with
  | none => rw [e1] at hm2; cases hm2
  | some r1 =>
    rw [e1] at hm2
    cases r1 with
    | ex E g3 =>
      cases hm2
      exact hr.2 J p2 g2 σ H2 R2 _ e1 _ hp2
    | ok es g3 =>
      refine hr.2 J p2 g2 σ H2 R2 _ e1 _ fun p3 H3 ad3 R3 ws rws => ?_
      dsimp only at hm2
      cases e2 : asKey x with
      | none =>
        rw [e2] at hm2
        cases hm2
      | some kk =>
        rw [e2] at hm2
        cases hm2
        have eu : u = kV kk := rep_key ru e2
        subst eu
        exact hp2 p3 H3 ad3 R3 ((kk, w) :: ws) (.cons (rw'.le ad3.le) rws)⟩
def mergeD (acc : List (Key × D)) (more : List (Key × D)) : List (Key × D) := more.foldl (fun acc kv => putD acc kv.1 kv.2) acc
theorem repK_merge {K : PySem.W.Frag} {F : Hp} : ∀ {more : List (Key × V)} {es : List (Key × D)} {acc : List (Key × V)} {ds : List (Key × D)}, RepK K F more es → RepK K F acc ds → RepK K F (mergeK acc more) (mergeD ds es)
  | _, _, _, _, .nil, h => h
  | _, _, _, _, .cons (k := k) (v := v) (d := d) h1 r, h => repK_merge (acc := putK _ k v) (ds := putD _ k d) r (repK_put h h1)
def mDisp (ms : M (List (Key × D))) : M O := ms.bind fun es => if es.length ≤ 15 then ret (.k (mergeD [] es)) else bad
theorem eo_disp {keys : List (Option Expr)} {values : List Expr} {trs : List (TE × TE)} {ms : M (List (Key × D))} (h : EPs X W pos keys values trs ms) (hall : keys.all (·.isSome) = true := by rfl) (hl : keys.length = values.length := by rfl) (h0 : keys ≠ [] := by exact fun z => nomatch z) (h15 : keys.length ≤ 15 := by decide) :
    EO X W (.Dict keys values pos) (mDisp ms) := fun J p g σ H R0 r hm Q hp =>
  of_pe (pe_disp h.1 hall hl h0 h15) fun q hq => by
    obtain ⟨R1, ad1, m1, j1, n1, le1⟩ := R0.hide (o := .dK []) hq
    unfold mDisp M.bind at hm
    cases e1 : ms g with
    | none => rw [e1] at hm; cases hm
    | some r1 =>
      rw [e1] at hm
      cases r1 with
      | ex E g2 =>
        cases hm
        exact h.2 J _ g σ _ R1 _ e1 _ (hp.adv ad1)
      | ok es g2 =>
        refine h.2 J _ g σ _ R1 _ e1 _ fun p2 H2 ad2 R2 ws rws => ?_
        obtain ⟨m2, e2⟩ := ad2.ex q m1 n1
        have n2 := ad2.sl q n1
        rw [upd_same] at e2
        dsimp only at hm
        split at hm
        · rename_i hz
          cases hm
          refine ⟨e2, ws, rfl, by rw [repK_len rws]; exact hz, ?_⟩
          obtain ⟨R3, le3⟩ := R2.putH (u := .dK (mergeK [] ws)) m2 j1 n2 trivial
          exact hp p2 _ ((ad1.trans ad2).putQ hq (fun a m => mut_ne (R0.lv a m)) le3) R3 q m2 hq n2 ⟨_, upd_same, RepK.le le3 (repK_merge rws .nil)⟩
        · cases hm
/-! ### *e in a display -/
def mStar (m : M D) (ms : M (List D)) : M (List D) := m.bind fun d => match seqD d with
  | some xs => ms.bind fun ds => ret (xs ++ ds)
  | none => bad
/-! ### f'..' -/
def fFmt : D → Option D
  | .str y => if y.length ≤ sizeLine then some (.str y) else none
  | .int i => if i.natAbs.log2 < 1920 then some (.str (toString i)) else none
  | _ => none
def mFmt (m : M D) : M D := m.bind fun d => lift (fFmt d)
def mJs : List (M D) → Str → M D
  | [], acc => ret (.str acc)
  | m :: ms, acc => m.bind fun d => match d with
    | .str y => if (acc ++ y).length ≤ sizeLine then mJs ms (acc ++ y) else bad
    | _ => bad
theorem e_joined1 {m : M D} (h : EF X W e m) : EF X W (.JoinedStr [e] pos) m := fun J p g σ H R0 r hm Q hp => of_pe (pe_joined1 semE) (h J p g σ H R0 r hm Q hp)
end
end Mo
set_option Elab.async false
set_option linter.all false
set_option maxRecDepth 100000
set_option maxHeartbeats 1000000
/-! Lp, part nine: more of texts, lists that are filled, more comprehensions. -/
namespace Lp
open PySem PySem.Spec L2
/-! ### texts -/
theorem str_ext {x y : Str} (h : x.cps.toList = y.cps.toList) : x = y := by
  obtain ⟨⟨a⟩⟩ := x
  obtain ⟨⟨b⟩⟩ := y
  have e : a = b := h
  rw [e]
section
variable {X : Cx} {p : OA} {σ : St} {H H' : Hp} {e a b c : Expr} {es : List Expr} {pos ps : Pos} {α β γ : Type} [Enc α] [Enc β] [Enc γ] {D : Ends}
/-- x, y = e1, e2 (two names) -/
theorem s_par {A : α → Prop} {B : β → Prop} {x y : Str} {px py pt : Pos} {kt k2 pt2} (i j : Nat) (dk : DOk p H) (hc : X.calm = true) (nd : X.N.Nodup) (ha : JE X p a σ H A) (hb : JE X p b σ H B)
    (k : ∀ v1 v2 H1 u1 u2, Go p H H1 → A u1 → B u2 → Rep X.K (del p H1) v1 (enc u1) → Rep X.K (del p H1) v2 (enc u2) → D.nx ((σ.set i (some v1)).set j (some v2)) H1) (hij : i ≠ j) (hi : X.N[i]? = some x := by rfl) (hj : X.N[j]? = some y := by rfl)
    (hx : X.env.scope.names.lookup x = some .local := by rfl) (hy : X.env.scope.names.lookup y = some .local := by rfl) (hw : swappedStores [.Tuple [.Name x px, .Name y py] kt pt] (.Tuple [a, b] k2 pt2) X.env = pure (some [x, y]) := by rfl)
    (hs : swapsWithSole [.Tuple [.Name x px, .Name y py] kt pt] (.Tuple [a, b] k2 pt2) pos.line X.env = pure false := by rfl) (he : starEach [a, b] X.env = (false, eval a X.env) :: starEach [b] X.env := by rfl) (he2 : starEach [b] X.env = (false, eval b X.env) :: starEach [] X.env := by rfl) :
    SemS X (.Assign [.Tuple [.Name x px, .Name y py] kt pt] (.Tuple [a, b] k2 pt2) pos) D σ H :=
  of_ps (ps_par hc nd hi hj hij hx hy (pa_cons semE (pa_cons semE pa_nil he2) he) hw hs) (ha H (.refl dk) _ fun v H1 u g1 pu r1 => hb H1 g1 _ fun v2 H2 u2 g2 pu2 r2 => ⟨v, v2, rfl, k v v2 H2 u u2 (g1.trans g2) pu pu2 (r1.go g2) r2⟩)
/-! ### a list that is filled -/
/-- the list at l is being filled: it holds ds -/
def Fill (X : Cx) (p : OA) (l : Addr) (J : Hp) (ds : List PyData) : Prop := ∃ xs, J l = some (.lst xs) ∧ Reps X.K (del (p.add l) J) xs ds
theorem Fill.go {l : Addr} {J J1 : Hp} {ds : List PyData} (f : Fill X p l J ds) (n : p.d ≠ some l) (g : Go (p.add l) J J1) : Fill X p l J1 ds := by
  obtain ⟨xs, e, r⟩ := f
  exact ⟨xs, g.ex l _ n e, r.go g⟩
theorem Fill.rep {l : Addr} {J : Hp} {ds : List PyData} (f : Fill X p l J ds) (n : ¬ Hid p l) : Rep X.K (del p J) (.ref l) (.list ds) := by
  obtain ⟨xs, e, r⟩ := f
  exact .lst (by rw [del_at n]; exact e) r.sub
end
/-! ### comprehensions without a test -/
end Lp
set_option Elab.async false
set_option linter.all false
set_option maxRecDepth 100000
set_option maxHeartbeats 4000000
/-! Mo, part twenty: sorted. -/
namespace Mo
open PySem PySem.Spec L2 PyProof.Rows PyProof.Rows.G
/-! ### order of keys -/
end Mo
set_option Elab.async false
set_option linter.all false
set_option maxRecDepth 100000
set_option maxHeartbeats 4000000
/-! Mo, part twenty-one: sorted, on data. -/
namespace Mo
open PySem PySem.Spec L2 PyProof.Rows PyProof.Rows.G
/-! ### texts in order -/
def leS (x y : Str) : Bool := !decide (y.cps.toList < x.cps.toList)
theorem leS_total (x y : Str) : (leS x y || leS y x) = true := by
  unfold leS
  by_cases h : y.cps.toList < x.cps.toList
  · have := strKind.irrefl y.cps.toList
    by_cases h2 : x.cps.toList < y.cps.toList
    · exact absurd (List.lt_trans h h2) (List.lt_irrefl _)
    · simp [h2]
  · simp [h]
theorem leS_trans (x y z : Str) (h1 : leS x y = true) (h2 : leS y z = true) : leS x z = true := by
  unfold leS at *
  simp only [Bool.not_eq_true', decide_eq_false_iff_not] at *
  intro h
  rcases strKind.negTrans z.cps.toList y.cps.toList x.cps.toList (decide_eq_true h) with q | q
  · exact h2 (of_decide_eq_true q)
  · exact h1 (of_decide_eq_true q)
theorem str_ext {x y : Str} (h : x.cps.toList = y.cps.toList) : x = y := by
  cases x; cases y
  exact congrArg Str.mk (Array.ext' h)
def sortS (xs : List Str) : List Str := xs.mergeSort leS
def nub : List Str → List Str
  | [] => []
  | x :: r => if x ∈ nub r then nub r else x :: nub r
theorem mem_nub {x : Str} : ∀ {xs : List Str}, x ∈ nub xs ↔ x ∈ xs
  | [] => Iff.rfl
  | y :: r => by
    unfold nub
    split
    · rename_i h
      rw [mem_nub, List.mem_cons]
      refine ⟨.inr, fun z => z.elim (fun e => ?_) id⟩
      rw [e]
      exact mem_nub.mp h
    · rw [List.mem_cons, List.mem_cons, mem_nub]
theorem nodup_nub : ∀ (xs : List Str), (nub xs).Nodup
  | [] => List.nodup_nil
  | y :: r => by
    unfold nub
    split
    · exact nodup_nub r
    · rename_i h
      exact List.nodup_cons.mpr ⟨h, nodup_nub r⟩
def sortU (xs : List Str) : List Str := sortS (nub xs)
/-! ### numbers in order -/
theorem CO.or {K : PySem.W.Frag} {r r' : List V → Hp → VK → Prop} {f f' : List D → Option O} (h : CO K r f) (h' : CO K r' f') : CO K (fun xs H Q => r xs H Q ∨ r' xs H Q) (fun xs => (f xs).or (f' xs)) := fun J p g σ H vs ds z Q R0 rs e q => by
  dsimp only at e
  cases e1 : f ds with
  | some z' =>
    rw [e1] at e
    cases e
    exact .inl (h J p g σ H vs ds _ Q R0 rs e1 q)
  | none =>
    rw [e1] at e
    exact .inr (h' J p g σ H vs ds z Q R0 rs e q)
end Mo
set_option Elab.async false
set_option linter.all false
set_option maxRecDepth 100000
set_option maxHeartbeats 4000000
/-! Mo, part twenty-two: sets of texts. -/
namespace Mo
open PySem PySem.Spec PySem.Calls PyProof.Rows L2
open Lp (TxAt newSet tx_new tx_loop SetX setX_new rSetX cr_setX rSortX cr_sortX call_set_tx)
section
variable {X : Cx}
def signsS (x : Str) : List Str := x.cps.toList.map fun c => (⟨#[c]⟩ : Str)
def fSetS : D → Option (List Str)
  | .lst ds => (asStrs ds).bind fun xs => if xs.length ≤ 4000 then some xs else none
  | .str x => if x.length ≤ 4000 then some (signsS x) else none
  | _ => none
def fSortSet (d : D) : Option O := (fSetS d).map fun xs => .l ((sortU xs).map .str)
end
end Mo
set_option Elab.async false
set_option linter.all false
set_option maxRecDepth 100000
set_option maxHeartbeats 4000000
/-! Mo, part twenty-three: min and max with a default. -/
namespace Mo
open PySem PySem.Spec PySem.Calls PyProof.Rows L2
end Mo
set_option Elab.async false
set_option linter.all false
set_option maxRecDepth 100000
set_option maxHeartbeats 4000000
/-! Mo, part twenty-four: min and max with a default, on data. -/
namespace Mo
open PySem PySem.Spec PyProof.Rows L2
section
variable {X : Cx} {W : WW} {e b : Expr} {pos ps pk : Pos}
def fminD : D → D → Option D
  | .lst [], x => some x
  | .lst (.int i :: ds), _ => (asInts ds).map fun ns => .int (minI i ns)
  | _, _ => none
end
end Mo
set_option Elab.async false
set_option linter.all false
set_option maxRecDepth 100000
set_option maxHeartbeats 4000000
/-! Mo, part twenty-five: specials of own classes. -/
namespace Mo
open PySem PySem.Spec PySem.Calls L2
open Lp (FnG okN callG)
/-- an own def that is a special of the class -/
structure SpecM (K : PySem.W.Frag) (C : Addr) (m : Str) (f : Addr) : Prop where
  at_ : PySem.W.findIn K (.ref C) m = some (some (.ref f))
  fn : PySem.W.isFn K (.ref f) = true
section
variable {X : Cx} {W : WW} {e a b : Expr} {es : List Expr} {pos ps : Pos} {C ff : Addr} {k : Nat} {fd : FuncData} {qs : List Str} {sp : Sp} {m : Str}
/-- on data: len(o) by the def F -/
def mLenI (C : Addr) (F : FD) (mo : M D) : M D := mo.bind fun d => match d with
  | .ins C' fs => if C' = C then (liftC (F [.ins C' fs])).bind fun v => (match v with
    | .int n => if 0 ≤ n ∧ n < 2 ^ 63 then ret (.int n) else bad
    | _ => bad) else bad
  | _ => bad
/-! ### isinstance(e, C), C a class of one's own -/
/-- isinstance(e, C), e's class C itself -/
def fIsC (C : Addr) : D → Option D
  | .ins C' _ => if C' = C then some (.bl true) else none
  | _ => none
def mIsC (C : Addr) (m : M D) : M D := m.bind fun d => lift (fIsC C d)
end
end Mo
set_option Elab.async false
set_option linter.all false
set_option maxRecDepth 100000
set_option maxHeartbeats 4000000
/-! Mo, part twenty-six: dict comprehensions, whatever the keys. -/
namespace Mo
open PySem PySem.Spec L2 PyProof.Rows
end Mo
set_option Elab.async false
set_option linter.all false
set_option maxRecDepth 100000
set_option maxHeartbeats 4000000
/-! Mo, part twenty-seven: dict comprehensions, on data. -/
namespace Mo
open PySem PySem.Spec L2 PyProof.Rows
/-- the turns -/
def dcGo (vs : List Nat) (f : D → G → Option G) (mt : M Bool) (mk mv : M D) : List D → O → M O
  | [], acc => ret acc
  | d :: ds, acc => fun g => match f d g with
    | none => none
    | some g1 => match mt g1 with
      | some (.ok true g2) => match mk g2 with
        | some (.ok y g3) => match mv g3 with
          | some (.ok z g4) => match putO acc y z with
            | some acc' => dcGo vs f mt mk mv ds acc' (wipeG g4 vs)
            | none => none
          | _ => none
        | _ => none
      | some (.ok false g2) => dcGo vs f mt mk mv ds acc (wipeG g2 vs)
      | _ => none
def mDc (o0 : O) (vs : List Nat) (mi : M (List D)) (f : D → G → Option G) (mt : M Bool) (mk mv : M D) : M O := mi.bind fun ds g1 => if noOwn vs g1 = true then lcEnd vs g1 id (dcGo vs f mt mk mv ds o0 (wipeG g1 vs)) else none
end Mo
set_option Elab.async false
set_option linter.all false
set_option maxRecDepth 100000
set_option maxHeartbeats 4000000
/-! Mo, part twenty-eight: repr, dict of pairs, is of truths. -/
namespace Mo
open PySem PySem.Spec L2
end Mo
set_option Elab.async false
set_option linter.all false
set_option maxRecDepth 100000
set_option maxHeartbeats 4000000
/-! Mo, part twenty-nine: y = [..]; what the second printer names. -/
namespace Mo
open PySem PySem.Spec L2
theorem M.assoc {α β γ : Type} (m : M α) (f : α → M β) (k : β → M γ) : (m.bind f).bind k = m.bind fun a => (f a).bind k := by
  funext g
  unfold M.bind
  cases m g with
  | none => rfl
  | some r => cases r <;> rfl
noncomputable def mSortSet (m : M D) : M O := m.bind fun d => lift (fSortSet d)
section
variable {X : Cx} {W : WW} {e a b c it tg : Expr} {es : List Expr} {pos ps : Pos}
theorem lc_rd {elt : Expr} {ifs : List Expr} {scope : Scope} {own : List (Str × Nat)} {is : List Nat} {mi : M (List D)} {f : D → G → Option G} {mt : M Bool} {me : M D} (hi : EI X WN tg it mi)
    (hg : ∀ s H C cl fp, ES (Blk X scope s H C cl fp) is tg f) (ht : ∀ s H C cl fp, ETs (Blk X scope s H C cl fp) WN ifs mt) (he : ∀ s H C cl fp, EF (Blk X scope s H C cl fp) WN elt me) (hin : ∀ i ∈ is, i ∈ own.map (·.2))
    {J : Hp} {p : Mt} {g : G} {σ : St} {H : Hp} (R0 : Rl X.K J p g σ H) {r : R O} (hm : mLc (own.map (·.2)) mi f mt me g = some r) {Q : VK} (hp : Post X.K WN J p g σ H r (qO X.K H σ Q)) :
    tLc (SemI X tg it) (bG X scope tg) (bT X scope ifs) (bE X scope elt) (own.map (·.2)) σ H (unlV X Q) := by
  generalize hvs : own.map (·.2) = vs at hm hin
  clear hvs
  unfold mLc M.bind at hm
  cases e1 : mi g with
  | none =>
    rw [e1] at hm
    cases hm
  | some r1 =>
    rw [e1] at hm
    cases r1 with
    | ex E g1 =>
      cases hm
      exact hi J p g σ H R0 _ e1 _ hp
    | ok ds g1 =>
      dsimp only at hm
      split at hm
      · rename_i no
        refine hi J p g σ H R0 _ e1 _ fun p1 H1 ad R1 Jt J' H1' lk wk => ?_
        obtain ⟨R1', ad1⟩ := lk.rl R1
        obtain ⟨Gg, Y, w, hG, hY⟩ := wk.ex
        intro q hq
        obtain ⟨R2, ad2, m2, jq, n2, _⟩ := (R1'.wipe vs).hide (o := .lst []) hq
        refine lc_it w (fun k Hk => ∃ gk pk acc, Rl X.K J' pk gk (L2.wipe σ vs) Hk ∧ Ad (wipeG g1 vs) (L2.wipe σ vs) p1 H1' gk pk Hk ∧ q ∈ pk.o ∧ NoSl gk (L2.wipe σ vs) q ∧ OwnAt X.K (del pk Hk) Hk q (.l acc) ∧ lcEnd vs g1 .l (lcGo vs f mt me (ds.drop k) acc gk) = some r)
          ⟨_, _, [], R2, ad2, m2, n2, ⟨[], upd_same, .nil⟩, hm⟩ (fun k Hk _ ⟨gk, pk, acc, Rk, adk, _⟩ => hG pk gk _ Hk Rk adk.dd adk.le) (fun k x Hk H' hlt ⟨gk, pk, acc, Rk, adk, mk, nk, ow, e'⟩ y => ?_) (fun Hk ⟨gk, pk, acc, Rk, adk, mk, nk, ow, e'⟩ => ?_)
        · obtain ⟨d, ed, R3, ad3, rx⟩ := hY pk gk _ Hk k x H' Rk adk.dd adk.le hlt y
          have e2 : ds.drop k = d :: ds.drop (k + 1) := by
            rw [List.drop_eq_getElem_cons hlt]
            rw [List.getElem?_eq_getElem hlt] at ed
            cases ed
            rfl
          rw [e2] at e'
          simp only [lcGo] at e'
          cases q1 : f d gk with
          | none =>
            rw [q1] at e'
            cases e'
          | some g3 =>
            simp only [q1] at e'
            intro s H0 C cl fp
            refine hg s H0 C cl fp J' pk gk _ H' x d g3 R3 rx q1 _ fun σ2 sm0 R4 => ?_
            have sm := sm0.mono hin
            have hw := wipe_same sm
            refine ⟨hw, fun s H0 C cl fp => ?_⟩
            cases q2 : mt g3 with
            | none =>
              rw [q2] at e'
              cases e'
            | some r2 =>
              rw [q2] at e'
              cases r2 with
              | ex E g4 => cases e'
              | ok b g4 =>
                refine ht s H0 C cl fp J' pk g3 σ2 H' R4 _ q2 _ fun p4 H4 ad4 R5 => ?_
                unfold qT
                cases b with
                | false =>
                  refine iteF ?_
                  obtain ⟨x1, x2⟩ := ad4.ex q mk (sm.sl q nk)
                  obtain ⟨x3, x4⟩ := ad3.ex q mk nk
                  have R6 := R5.wipe vs
                  rw [hw] at R6
                  have n6 := (ad4.sl q (sm.sl q nk)).wipe vs
                  rw [hw] at n6
                  exact ⟨_, p4, acc, R6, adk.turn (fun a m => mut_ne (R1'.lv a m)) ad3 sm ad4 hw hq (.refl _) (fun _ _ => rfl) (mut_ne (R5.lv q x1)), x1, n6, ow.le (ad3.le.trans ad4.le) (x2.trans x4), e'⟩
                | true =>
                  refine iteT fun s H0 C cl fp => ?_
                  cases q3 : me g4 with
                  | none =>
                    simp only [q3] at e'
                    cases e'
                  | some r3 =>
                    simp only [q3] at e'
                    cases r3 with
                    | ex E g5 => cases e'
                    | ok y2 g5 =>
                      dsimp only at e'
                      split at e'
                      · rename_i hz
                        refine he s H0 C cl fp J' p4 g4 σ2 H4 R5 _ q3 _ fun p5 H5 ad5 R6 v rv => ?_
                        have ad6 := ad4.trans ad5
                        obtain ⟨x1, x2⟩ := ad6.ex q mk (sm.sl q nk)
                        obtain ⟨x3, x4⟩ := ad3.ex q mk nk
                        have n5 := ad6.sl q (sm.sl q nk)
                        obtain ⟨us, u1, u2⟩ := ow
                        obtain ⟨R7, le7⟩ := R6.putH (u := .lst (us ++ [v])) x1 jq n5 trivial
                        have R8 := R7.wipe vs
                        rw [hw] at R8
                        have n6 := n5.wipe vs
                        rw [hw] at n6
                        refine ⟨us, by rw [x2, x4, u1], by rw [u2.len]; exact hz, _, p5, acc ++ [y2], R8, adk.turn (fun a m => mut_ne (R1'.lv a m)) ad3 sm ad6 hw hq le7 (fun a na => upd_ne na) (by rw [upd_same]; exact Option.some_ne_none _), x1, n6, ⟨us ++ [v], upd_same, ?_⟩, e'⟩
                        exact (u2.le (ad3.le.trans (ad6.le.trans le7))).app (.cons (rv.le le7) .nil)
                      · cases e'
        · rw [List.drop_length] at e'
          cases e'
          have R3 := R1'.back no Rk adk.le
          have hl : g1.s.length = gk.s.length := R1'.len.trans ((wipe_length σ vs).symm.trans Rk.len.symm)
          obtain ⟨H6, h1, h2, h3, h4, h5, h6⟩ := lk.off R1 adk.dd R3
          refine unlV_of h1 (hp pk H6 ⟨adk.dd.trans ad.dd, ad.le.trans (ad1.le.trans (adk.le.trans h3)), fun a m n => ?_, fun a n => ?_, fun a n => h4 a (adk.th a (ad1.th a (ad.th a n)))⟩ h2 q mk (ad.gone (ad1.gone hq)) (nk.back no hl) (ow.le h3 (h5 q mk)))
          · obtain ⟨x1, x2⟩ := ad.ex a m n
            have n1 := ad.sl a n
            obtain ⟨x3, x4⟩ := ad1.ex a x1 n1
            obtain ⟨x5, x6⟩ := adk.ex a x3 (n1.wipe vs)
            exact ⟨x5, by rw [h5 a x5, x6, x4, x2]⟩
          · exact (adk.sl a ((ad.sl a n).wipe vs)).back no hl
      · cases hm
theorem post_setF {J : Hp} {p : Mt} {g : G} {σ : St} {H : Hp} {i : Nat} {m : M O} {r : R Oc} {Dd : Ends} (R0 : Rl X.K J p g σ H) (hm : mSet i (frz m) g = some r) (hp : PostS X.K WN J p H r Dd) : ∃ r1, m g = some r1 ∧ Post X.K WN J p g σ H r1 (qO X.K H σ fun x H1 => Dd.nx (σ.set i (some x)) H1) := by
  unfold mSet frz at hm
  rw [M.assoc] at hm
  obtain ⟨r1, e1, hq⟩ := post_s R0 hm hp
  refine ⟨r1, e1, hq _ fun d g1 p1 H1 er ad R1 hk hp1 q h1 h2 h3 h4 => ?_⟩
  cases hk
  obtain ⟨R2, e2⟩ := R1.show_ h3 h1
  exact hp1 _ (p1.rem q) H1 ⟨rfl, del_rem, fun a m n => List.mem_filter.mpr ⟨m, decide_eq_true fun z => n (by rw [z]; exact R0.jn h2)⟩, fun _ z => z⟩ (R2.setV ((h4.le del_rem rfl).rep e2))
/-- y = [..], y shown -/
theorem s_setLc {y : Str} {py spos : Pos} {elt : Expr} {ifs : List Expr} {scope : Scope} {own : List (Str × Nat)} {is : List Nat} {mi : M (List D)} {f : D → G → Option G} {mt : M Bool} {me : M D} (i : Nat) (hc : X.calm = true) (hN : X.N.Nodup) (hi : EI X WN tg it mi) (ok : BlkOk X.N X.env.scope scope own)
    (hg : ∀ s H C cl fp, ES (Blk X scope s H C cl fp) is tg f) (ht : ∀ s H C cl fp, ETs (Blk X scope s H C cl fp) WN ifs mt) (he : ∀ s H C cl fp, EF (Blk X scope s H C cl fp) WN elt me) (hin : ∀ i ∈ is, i ∈ own.map (·.2) := by decide)
    (hy : X.N[i]? = some y := by rfl) (hyl : X.env.scope.names.lookup y = some .local := by rfl) (hsw : swapsWith (.ListComp elt [⟨tg, it, ifs, 0⟩] scope pos) (some (.Name y py)) spos.line X.env = pure true := by exact sw_true rfl rfl rfl (by decide +kernel))
    (hs : ∀ x, foldedSetIterable it X.env x = pure x := by intro _; rfl) : SS X WN (.Assign [.Name y py] (.ListComp elt [⟨tg, it, ifs, 0⟩] scope pos) spos) (mSet i (frz (mLc (own.map (·.2)) mi f mt me))) := fun J p g σ H R0 r hm Dd hp => by
  obtain ⟨r1, e1, hq⟩ := post_setF R0 hm hp
  refine semS_unl (of_ps (ps_setLc (i := i) (g := bG X scope tg) (tt := bT X scope ifs) (te := bE X scope elt) hc hN hy hyl hsw semI ok (fun s H0 C cl fp => ⟨fun pins s' σ' H' v u Q' I r' h => (h s H0 C cl fp).run pins s' u I r'⟩) (fun s H0 C cl fp => ⟨fun pins s' σ' H' Q' I h => (h s H0 C cl fp).run pins s' I⟩) (fun s H0 C cl fp => ⟨fun pins s' σ' H' Q' I h => (h s H0 C cl fp).run pins s' I⟩) hs) ?_)
  exact lc_rd hi hg ht he hin R0 e1 hq
end
end Mo
set_option Elab.async false
set_option linter.all false
set_option maxRecDepth 100000
set_option maxHeartbeats 4000000
/-! Mo, part thirty: what a function of the state comes to. -/
namespace Mo
open PySem PySem.Spec L2
/-- m runs through from g, and Q holds of what comes of it -/
def Ev {α : Type} (m : M α) (g : G) (Q : α → G → Prop) : Prop := ∃ a g', m g = some (.ok a g') ∧ Q a g'
section
variable {α β γ : Type} {g : G} {i : Nat} {d : D} {o : O}
theorem Ev.mono {m : M α} {Q Q' : α → G → Prop} (h : Ev m g Q) (k : ∀ a g', Q a g' → Q' a g') : Ev m g Q' := let ⟨a, g', e, q⟩ := h; ⟨a, g', e, k a g' q⟩
@[simp] theorem ev_ret {a : α} {Q : α → G → Prop} : Ev (ret a) g Q ↔ Q a g := ⟨fun ⟨_, _, e, q⟩ => by cases e; exact q, fun q => ⟨a, g, rfl, q⟩⟩
@[simp] theorem ev_bad {Q : α → G → Prop} : Ev bad g Q ↔ False := ⟨fun ⟨_, _, e, q⟩ => by (cases e), False.elim⟩
@[simp] theorem ev_bind {m : M α} {k : α → M β} {Q : β → G → Prop} : Ev (m.bind k) g Q ↔ Ev m g fun a g' => Ev (k a) g' Q := by
  constructor
  · rintro ⟨b, g2, e, q⟩
    unfold M.bind at e
    split at e
    · exact ⟨_, _, by assumption, b, g2, e, q⟩
    · cases e
    · cases e
  · rintro ⟨a, g1, e1, b, g2, e2, q⟩
    refine ⟨b, g2, ?_, q⟩
    unfold M.bind
    rw [e1]
    exact e2
@[simp] theorem ev_lift_some {a : α} {Q : α → G → Prop} : Ev (lift (some a)) g Q ↔ Q a g := ⟨fun ⟨_, _, e, q⟩ => by cases e; exact q, fun q => ⟨a, g, rfl, q⟩⟩
@[simp] theorem ev_lift_none {Q : α → G → Prop} : Ev (lift (none : Option α)) g Q ↔ False := ⟨fun ⟨_, _, e, q⟩ => by (cases e), False.elim⟩
theorem ev_lift {a : α} {x : Option α} {Q : α → G → Prop} (h : x = some a) (q : Q a g) : Ev (lift x) g Q := by rw [h]; exact ev_lift_some.mpr q
@[simp] theorem ev_fun {a : α} {g1 : G → G} {Q : α → G → Prop} : Ev (fun g => some (.ok a (g1 g))) g Q ↔ Q a (g1 g) := ⟨fun ⟨_, _, e, q⟩ => by cases e; exact q, fun q => ⟨a, _, rfl, q⟩⟩
@[simp] theorem gset_mk {s : List Sl} {c : C3} {x : Sl} : G.set ⟨s, c⟩ i x = ⟨s.set i x, c⟩ := rfl
theorem ev_name_v {s : List Sl} {c : C3} {Q : D → G → Prop} (h : s[i]? = some (.v d)) : Ev (mName i) ⟨s, c⟩ Q ↔ Q d ⟨s, c⟩ := by
  constructor
  · rintro ⟨_, _, e, q⟩
    simp only [mName, h] at e
    cases e
    exact q
  · exact fun q => ⟨d, _, by simp only [mName, h], q⟩
theorem ev_name_o {s : List Sl} {c : C3} {Q : D → G → Prop} (h : s[i]? = some (.o o)) : Ev (mName i) ⟨s, c⟩ Q ↔ Q o.d ⟨s.set i (.v o.d), c⟩ := by
  constructor
  · rintro ⟨_, _, e, q⟩
    simp only [mName, h] at e
    cases e
    exact q
  · exact fun q => ⟨o.d, _, by simp only [mName, h, G.set], q⟩
@[simp] theorem ev_set {m : M D} {Q : Oc → G → Prop} : Ev (mSet i m) g Q ↔ Ev m g fun d g' => Q .nx (g'.set i (.v d)) := by
  unfold mSet
  rw [ev_bind]
  exact ⟨fun h => h.mono fun d g' ⟨_, _, e, q⟩ => (by cases e; exact q), fun h => h.mono fun d g' q => ⟨_, _, rfl, q⟩⟩
@[simp] theorem ev_setO {m : M O} {Q : Oc → G → Prop} : Ev (mSetO i m) g Q ↔ Ev m g fun d g' => Q .nx (g'.set i (.o d)) := by
  unfold mSetO
  rw [ev_bind]
  exact ⟨fun h => h.mono fun d g' ⟨_, _, e, q⟩ => (by cases e; exact q), fun h => h.mono fun d g' q => ⟨_, _, rfl, q⟩⟩
@[simp] theorem ev_mret {m : M D} {Q : Oc → G → Prop} : Ev (mRet m) g Q ↔ Ev m g fun d g' => Q (.rt d) g' := by
  unfold mRet
  simp
@[simp] theorem ev_mretO {m : M O} {Q : Oc → G → Prop} : Ev (mRetO m) g Q ↔ Ev m g fun d g' => Q (.rto d) g' := by
  unfold mRetO
  simp
/-- what stands behind a statement's end -/
def After (k : M Oc) (Q : Oc → G → Prop) : Oc → G → Prop
  | .nx, g => Ev k g Q
  | o, g => Q o g
@[simp] theorem after_nx {k : M Oc} {Q : Oc → G → Prop} : After k Q .nx g ↔ Ev k g Q := Iff.rfl
@[simp] theorem after_rt {k : M Oc} {Q : Oc → G → Prop} : After k Q (.rt d) g ↔ Q (.rt d) g := Iff.rfl
@[simp] theorem after_rto {k : M Oc} {Q : Oc → G → Prop} : After k Q (.rto o) g ↔ Q (.rto o) g := Iff.rfl
@[simp] theorem after_bk {k : M Oc} {Q : Oc → G → Prop} : After k Q .bk g ↔ Q .bk g := Iff.rfl
@[simp] theorem after_ct {k : M Oc} {Q : Oc → G → Prop} : After k Q .ct g ↔ Q .ct g := Iff.rfl
@[simp] theorem ev_seq {m k : M Oc} {Q : Oc → G → Prop} : Ev (seq m k) g Q ↔ Ev m g (After k Q) := by
  constructor
  · rintro ⟨a, g2, e, q⟩
    unfold seq at e
    split at e
    · exact ⟨.nx, _, by assumption, a, g2, e, q⟩
    · rename_i r h
      refine ⟨a, g2, e, ?_⟩
      cases a <;> first | exact q | (rw [e] at h; exact (h _ rfl).elim)
  · rintro ⟨a, g1, e1, q⟩
    cases a with
    | nx =>
      obtain ⟨b, g2, e2, q⟩ := q
      exact ⟨b, g2, by unfold seq; rw [e1]; exact e2, q⟩
    | _ => exact ⟨_, g1, by unfold seq; rw [e1], q⟩
@[simp] theorem ev_if {mc : M Bool} {ma mb : M γ} {Q : γ → G → Prop} : Ev (mIf mc ma mb) g Q ↔ Ev mc g fun b g' => if b = true then Ev ma g' Q else Ev mb g' Q := by
  unfold mIf
  rw [ev_bind]
  refine ⟨fun h => h.mono fun b g' q => ?_, fun h => h.mono fun b g' q => ?_⟩
  · cases b <;> simpa using q
  · cases b <;> simpa using q
@[simp] theorem ev_bin {f : D → D → Option D} {ma mb : M D} {Q : D → G → Prop} : Ev (mBin f ma mb) g Q ↔ Ev ma g fun x g' => Ev mb g' fun y g2 => Ev (lift (f x y)) g2 Q := by
  unfold mBin
  simp
@[simp] theorem ev_t2 {f : D → D → Option D} {ma mb : M D} {Q : Bool → G → Prop} : Ev (mT2 f ma mb) g Q ↔ Ev ma g fun x g' => Ev mb g' fun y g2 => Ev (lift ((f x y).bind asB)) g2 Q := by
  unfold mT2
  simp
@[simp] theorem ev_tru {m : M D} {Q : Bool → G → Prop} : Ev (mTru m) g Q ↔ Ev m g fun x g' => Ev (lift (truD x)) g' Q := by
  unfold mTru
  simp
@[simp] theorem ev_tst {m : M D} {Q : Bool → G → Prop} : Ev (mTst m) g Q ↔ Ev m g fun x g' => Ev (lift (asB x)) g' Q := by
  unfold mTst
  simp
@[simp] theorem ev_tnot {m : M Bool} {Q : Bool → G → Prop} : Ev (mtNot m) g Q ↔ Ev m g fun x g' => Q (!x) g' := by
  unfold mtNot
  simp
@[simp] theorem ev_tand {ma mb : M Bool} {Q : Bool → G → Prop} : Ev (mtAnd ma mb) g Q ↔ Ev ma g fun b g' => if b = true then Ev mb g' Q else Q false g' := by
  unfold mtAnd
  rw [ev_bind]
  refine ⟨fun h => h.mono fun b g' q => ?_, fun h => h.mono fun b g' q => ?_⟩
  · cases b <;> simpa using q
  · cases b <;> simpa using q
@[simp] theorem ev_tor {ma mb : M Bool} {Q : Bool → G → Prop} : Ev (mtOr ma mb) g Q ↔ Ev ma g fun b g' => if b = true then Q true g' else Ev mb g' Q := by
  unfold mtOr
  rw [ev_bind]
  refine ⟨fun h => h.mono fun b g' q => ?_, fun h => h.mono fun b g' q => ?_⟩
  · cases b <;> simpa using q
  · cases b <;> simpa using q
@[simp] theorem ev_cons {m : M D} {ms : M (List D)} {Q : List D → G → Prop} : Ev (mCons m ms) g Q ↔ Ev m g fun x g' => Ev ms g' fun r g2 => Q (x :: r) g2 := by
  unfold mCons
  simp
@[simp] theorem ev_call {f : List D → Option D} {ms : M (List D)} {Q : D → G → Prop} : Ev (mCall f ms) g Q ↔ Ev ms g fun r g2 => Ev (lift (f r)) g2 Q := by
  unfold mCall
  simp
@[simp] theorem ev_callO {f : List D → Option O} {ms : M (List D)} {Q : O → G → Prop} : Ev (mCallO f ms) g Q ↔ Ev ms g fun r g2 => Ev (lift (f r)) g2 Q := by
  unfold mCallO
  simp
@[simp] theorem ev_frz {m : M O} {Q : D → G → Prop} : Ev (frz m) g Q ↔ Ev m g fun x g2 => Q x.d g2 := by
  unfold frz
  simp
theorem ev_ite {p : Prop} [Decidable p] {a b : M α} {Q : α → G → Prop} : Ev (if p then a else b) g Q ↔ if p then Ev a g Q else Ev b g Q := by
  split <;> exact Iff.rfl
@[simp] theorem ev_tup {ms : M (List D)} {Q : D → G → Prop} : Ev (mTup ms) g Q ↔ Ev ms g fun r g2 => r.length ≤ sizeLine ∧ Q (.tup r) g2 := by
  unfold mTup
  rw [ev_bind]
  refine ⟨fun h => h.mono fun b g' q => ?_, fun h => h.mono fun b g' q => ?_⟩
  · rw [ev_ite] at q
    split at q
    · exact ⟨by assumption, ev_ret.mp q⟩
    · exact (ev_bad.mp q).elim
  · rw [ev_ite, if_pos q.1]
    exact ev_ret.mpr q.2
@[simp] theorem ev_lst {ms : M (List D)} {Q : O → G → Prop} : Ev (mLst ms) g Q ↔ Ev ms g fun r g2 => r.length ≤ sizeLine ∧ Q (.l r) g2 := by
  unfold mLst
  rw [ev_bind]
  refine ⟨fun h => h.mono fun b g' q => ?_, fun h => h.mono fun b g' q => ?_⟩
  · rw [ev_ite] at q
    split at q
    · exact ⟨by assumption, ev_ret.mp q⟩
    · exact (ev_bad.mp q).elim
  · rw [ev_ite, if_pos q.1]
    exact ev_ret.mpr q.2
@[simp] theorem ev_liftC {f : C3 → Option (α × C3)} {Q : α → G → Prop} : Ev (liftC f) g Q ↔ ∃ a c, f g.c = some (a, c) ∧ Q a ⟨g.s, c⟩ := by
  constructor
  · rintro ⟨a, g', e, q⟩
    obtain ⟨d, c, e1, e2⟩ := liftC_some e
    cases e2
    exact ⟨a, c, e1, q⟩
  · rintro ⟨a, c, e, q⟩
    exact ⟨a, _, by unfold liftC; rw [e], q⟩
@[simp] theorem ev_fn {F : FD} {ms : M (List D)} {Q : D → G → Prop} : Ev (mFn F ms) g Q ↔ Ev ms g fun ds g' => ∃ a c, F ds g'.c = some (a, c) ∧ Q a ⟨g'.s, c⟩ := by
  unfold mFn
  simp
@[simp] theorem ev_fnO {F : FO} {ms : M (List D)} {Q : O → G → Prop} : Ev (mFnO F ms) g Q ↔ Ev ms g fun ds g' => ∃ a c, F ds g'.c = some (a, c) ∧ Q a ⟨g'.s, c⟩ := by
  unfold mFnO
  simp
@[simp] theorem ev_isDi {m : M α} {Q : α → G → Prop} : Ev (isDi i m) g Q ↔ g.s[i]? = some .di ∧ Ev m g Q := by
  constructor
  · rintro ⟨a, g', e, q⟩
    obtain ⟨h1, h2⟩ := isDi_some e
    exact ⟨h1, a, g', h2, q⟩
  · rintro ⟨h, a, g', e, q⟩
    exact ⟨a, g', by unfold isDi; rw [h]; exact e, q⟩
@[simp] theorem ev_expr {m : M D} {Q : Oc → G → Prop} : Ev (mExpr m) g Q ↔ Ev m g fun _ g' => Q .nx g' := by
  unfold mExpr
  simp
@[simp] theorem ev_xd {m : M D} {Q : Vx → G → Prop} : Ev (mXd m) g Q ↔ Ev m g fun d g' => Q (.d d) g' := by
  unfold mXd
  simp
@[simp] theorem ev_xo {m : M O} {Q : Vx → G → Prop} : Ev (mXo m) g Q ↔ Ev m g fun d g' => Q (.o d) g' := by
  unfold mXo
  simp
@[simp] theorem ev_par {j : Nat} {ma mb : M Vx} {Q : Oc → G → Prop} : Ev (mPar i j ma mb) g Q ↔ Ev ma g fun x g' => Ev mb g' fun y g2 => Q .nx ((g2.set i x.sl).set j y.sl) := by
  unfold mPar
  simp only [ev_bind]
  exact ⟨fun h => h.mono fun x g' h => h.mono fun y g2 ⟨_, _, e, q⟩ => (by cases e; exact q), fun h => h.mono fun x g' h => h.mono fun y g2 q => ⟨_, _, rfl, q⟩⟩
@[simp] theorem ev_par3 {j k : Nat} {ma mb mc : M Vx} {Q : Oc → G → Prop} : Ev (mPar3 i j k ma mb mc) g Q ↔ Ev ma g fun x g' => Ev mb g' fun y g2 => Ev mc g2 fun z g3 => Q .nx (((g3.set i x.sl).set j y.sl).set k z.sl) := by
  unfold mPar3
  simp only [ev_bind]
  exact ⟨fun h => h.mono fun x g' h => h.mono fun y g2 h => h.mono fun z gg ⟨_, _, e, q⟩ => (by cases e; exact q), fun h => h.mono fun x g' h => h.mono fun y g2 h => h.mono fun z gg q => ⟨_, _, rfl, q⟩⟩
@[simp] theorem vxd_sl {x : D} : (Vx.d x).sl = .v x := rfl
@[simp] theorem vxo_sl {x : O} : (Vx.o x).sl = .o x := rfl
@[simp] theorem ev_asg {f : D → G → Option G} {m : M D} {Q : Oc → G → Prop} : Ev (mAsg f m) g Q ↔ Ev m g fun d g' => ∃ g2, f d g' = some g2 ∧ Q .nx g2 := by
  unfold mAsg
  rw [ev_bind]
  refine ⟨fun h => h.mono fun d g' ⟨a, g2, e, q⟩ => ?_, fun h => h.mono fun d g' ⟨g2, e, q⟩ => ⟨.nx, g2, by dsimp only; rw [e]; rfl, q⟩⟩
  dsimp only at e
  cases e2 : f d g' with
  | none => rw [e2] at e; cases e
  | some g3 => rw [e2] at e; cases e; exact ⟨g2, rfl, q⟩
end
/-! ### loops -/
section
variable {f : D → G → Option G} {mb : M Oc}
/-- how a turn ends -/
def Turn (I : G → Prop) (Q : Oc → G → Prop) : Oc → G → Prop
  | .nx, g => I g
  | .ct, g => I g
  | .bk, g => Q .nx g
  | .rt d, g => Q (.rt d) g
  | .rto o, g => Q (.rto o) g
theorem ev_loop {Q : Oc → G → Prop} (I : List D → G → Prop) (hs : ∀ d r g, I (d :: r) g → ∃ g1, f d g = some g1 ∧ Ev mb g1 (Turn (I r) Q)) (he : ∀ g, I [] g → Q .nx g) : ∀ (ds : List D) (g : G), I ds g → Ev (mLoop f mb ds) g Q
  | [], g, h => ev_ret.mpr (he g h)
  | d :: r, g, h => by
    obtain ⟨g1, e1, o, g2, e2, q⟩ := hs d r g h
    have key : ∀ x, mLoop f mb (d :: r) g = x → (∃ a g', x = some (.ok a g') ∧ Q a g') → Ev (mLoop f mb (d :: r)) g Q := fun x e ⟨a, g', e', q⟩ => ⟨a, g', e.trans e', q⟩
    refine key _ rfl ?_
    simp only [mLoop, e1, e2]
    cases o with
    | nx => exact ev_loop I hs he r g2 q
    | ct => exact ev_loop I hs he r g2 q
    | bk => exact ⟨_, _, rfl, q⟩
    | rt d => exact ⟨_, _, rfl, q⟩
    | rto d => exact ⟨_, _, rfl, q⟩
@[simp] theorem ev_for {mi : M (List D)} {g : G} {Q : Oc → G → Prop} : Ev (mFor f mi mb) g Q ↔ Ev mi g fun ds g' => Ev (mLoop f mb ds) g' Q := by
  unfold mFor
  simp
/-- a comprehension's turns -/
theorem ev_lcGo {vs : List Nat} {mt : M Bool} {me : M D} {Q : List D → G → Prop} (I : List D → List D → G → Prop)
    (hs : ∀ d r acc g, I (d :: r) acc g → ∃ g1, f d g = some g1 ∧ Ev mt g1 fun b g2 => if b = true then acc.length < sizeLine ∧ Ev me g2 fun y g3 => I r (acc ++ [y]) (wipeG g3 vs) else I r acc (wipeG g2 vs))
    (he : ∀ acc g, I [] acc g → Q acc g) : ∀ (ds acc : List D) (g : G), I ds acc g → Ev (lcGo vs f mt me ds acc) g Q
  | [], acc, g, h => ev_ret.mpr (he acc g h)
  | d :: r, acc, g, h => by
    obtain ⟨g1, e1, b, g2, e2, q⟩ := hs d r acc g h
    have key : ∀ x, lcGo vs f mt me (d :: r) acc g = x → (∃ a g', x = some (.ok a g') ∧ Q a g') → Ev (lcGo vs f mt me (d :: r) acc) g Q := fun x e ⟨a, g', e', q⟩ => ⟨a, g', e.trans e', q⟩
    refine key _ rfl ?_
    simp only [lcGo, e1, e2]
    cases b with
    | false => exact ev_lcGo I hs he r acc _ q
    | true =>
      obtain ⟨hl, y, g3, e3, q⟩ := q
      simp only [e3, if_pos hl]
      exact ev_lcGo I hs he r _ _ q
@[simp] theorem ev_lc {vs : List Nat} {mi : M (List D)} {mt : M Bool} {me : M D} {g : G} {Q : O → G → Prop} : Ev (mLc vs mi f mt me) g Q ↔ Ev mi g fun ds g1 => noOwn vs g1 = true ∧ Ev (lcGo vs f mt me ds []) (wipeG g1 vs) fun ys g2 => Q (.l ys) (backG g1 g2 vs) := by
  unfold mLc
  rw [ev_bind]
  refine ⟨fun h => h.mono fun ds g1 q => ?_, fun h => h.mono fun ds g1 ⟨h1, ys, g2, e, q⟩ => ?_⟩
  · obtain ⟨a, g', e, q⟩ := q
    dsimp only at e
    split at e
    · rename_i h1
      refine ⟨h1, ?_⟩
      cases e2 : lcGo vs f mt me ds [] (wipeG g1 vs) with
      | none => rw [e2] at e; cases e
      | some r =>
        cases r with
        | ex E g2 => rw [e2] at e; cases e
        | ok ys g2 =>
          rw [e2] at e
          cases e
          exact ⟨ys, g2, e2, q⟩
    · cases e
  · refine ⟨.l ys, backG g1 g2 vs, ?_, q⟩
    dsimp only
    rw [if_pos h1, e]
    rfl
end
/-! ### a def's function -/
def RetP (P : D → C3 → Prop) : Oc → G → Prop
  | .nx, g => P .non g.c
  | .rt d, g => P d g.c
  | .rto o, g => P o.d g.c
  | _, _ => False
@[simp] theorem retp_nx {P : D → C3 → Prop} {g : G} : RetP P .nx g ↔ P .non g.c := Iff.rfl
@[simp] theorem retp_rt {P : D → C3 → Prop} {g : G} {d : D} : RetP P (.rt d) g ↔ P d g.c := Iff.rfl
@[simp] theorem retp_rto {P : D → C3 → Prop} {g : G} {d : O} : RetP P (.rto d) g ↔ P d.d g.c := Iff.rfl
theorem run_ev {dice : Bool} {n k : Nat} {m : M Oc} {ds : List D} {c : C3} {P : D → C3 → Prop} (hl : ds.length + dice.toNat = k) (h : Ev m ⟨ini dice n ds, c⟩ (RetP P)) : ∃ d c', runM dice n k m ds c = some (d, c') ∧ P d c' := by
  obtain ⟨o, g, e, q⟩ := h
  unfold runM
  rw [if_pos hl, e]
  cases o with
  | nx => exact ⟨_, _, rfl, q⟩
  | rt d => exact ⟨_, _, rfl, q⟩
  | rto d => exact ⟨_, _, rfl, q⟩
  | bk => exact q.elim
  | ct => exact q.elim
def RetO (P : O → C3 → Prop) : Oc → G → Prop
  | .rto o, g => P o g.c
  | _, _ => False
@[simp] theorem reto_rto {P : O → C3 → Prop} {g : G} {d : O} : RetO P (.rto d) g ↔ P d g.c := Iff.rfl
theorem runO_ev {dice : Bool} {n k : Nat} {m : M Oc} {ds : List D} {c : C3} {P : O → C3 → Prop} (hl : ds.length + dice.toNat = k) (h : Ev m ⟨ini dice n ds, c⟩ (RetO P)) : ∃ d c', runO dice n k m ds c = some (d, c') ∧ P d c' := by
  obtain ⟨o, g, e, q⟩ := h
  unfold runO
  rw [if_pos hl, e]
  cases o with
  | rto d => exact ⟨_, _, rfl, q⟩
  | _ => exact q.elim
@[simp] theorem ini_t {n : Nat} {ds : List D} : ini true n ds = .di :: (ds.map .v ++ List.replicate (n - (ds.length + 1)) .un) := rfl
@[simp] theorem ini_f {n : Nat} {ds : List D} : ini false n ds = ds.map .v ++ List.replicate (n - ds.length) .un := rfl
/-! ### operators on known data -/
section
variable {i j : Int} {x y : Str} {b : Bool}
@[simp] theorem uPlus_int : uPlus (.int i) (.int j) = some (.int (i + j)) := rfl
@[simp] theorem uSub_int : uSub (.int i) (.int j) = some (.int (i - j)) := rfl
@[simp] theorem iGt_int : iGt (.int i) (.int j) = some (.bl (decide (j < i))) := rfl
@[simp] theorem iGe_int : iGe (.int i) (.int j) = some (.bl (decide (j ≤ i))) := rfl
@[simp] theorem iLe_int : iLe (.int i) (.int j) = some (.bl (decide (i ≤ j))) := rfl
@[simp] theorem iLt_int : iLt (.int i) (.int j) = some (.bl (decide (i < j))) := rfl
@[simp] theorem uLt_int : uLt (.int i) (.int j) = some (.bl (decide (i < j))) := rfl
@[simp] theorem asB_bl : asB (.bl b) = some b := rfl
@[simp] theorem fInt1_int : fInt1 [.int i] = some (.int i) := rfl
@[simp] theorem fLen_lst {xs : List D} : fLen [.lst xs] = some (.int xs.length) := rfl
@[simp] theorem fLen_tup {xs : List D} : fLen [.tup xs] = some (.int xs.length) := rfl
theorem uMul_int (h : i.natAbs.log2 + j.natAbs.log2 < 1000000) : uMul (.int i) (.int j) = some (.int (i * j)) := by
  show (if cMul i j = true then some (D.int (i * j)) else none) = _
  rw [if_pos (show cMul i j = true from decide_eq_true h)]
theorem uDiv_int (h : 0 < j ∧ j.natAbs.log2 < 9000) : uDiv (.int i) (.int j) = some (.int (i / j)) := by
  show (if cDiv i j = true then some (D.int (i / j)) else none) = _
  rw [if_pos (show cDiv i j = true from decide_eq_true h)]
theorem uMod_int (h : 0 < j) : uMod (.int i) (.int j) = some (.int (i % j)) := by
  show (if cMod i j = true then some (D.int (i % j)) else none) = _
  rw [if_pos (show cMod i j = true from decide_eq_true h)]
end
end Mo
set_option Elab.async false
set_option linter.all false
set_option maxRecDepth 100000
set_option maxHeartbeats 4000000
/-! Mo, part thirty-one: the same of the rest of the signs. -/
namespace Mo
open PySem PySem.Spec L2
section
variable {α β γ : Type} {g : G} {i : Nat} {d : D} {o : O} {C : Addr} {fl : Str}
theorem ev_onDL {k : List D → M α} {Q : α → G → Prop} : Ev (onDL i k) g Q ↔ g.s[i]? = some .di ∧ ∃ xs, g.c = .l xs ∧ Ev (k xs) g Q := by
  constructor
  · rintro ⟨a, g', e, q⟩
    obtain ⟨h1, xs, h2, h3⟩ := onDL_some e
    exact ⟨h1, xs, h2, a, g', h3, q⟩
  · rintro ⟨h1, xs, h2, a, g', h3, q⟩
    refine ⟨a, g', ?_, q⟩
    unfold onDL isDi
    rw [h1]
    dsimp only
    rw [h2]
    exact h3
theorem ev_onDN {k : List (Str × D) → M α} {Q : α → G → Prop} : Ev (onDN i C k) g Q ↔ g.s[i]? = some .di ∧ ∃ xs, g.c = .n C xs ∧ Ev (k xs) g Q := by
  constructor
  · rintro ⟨a, g', e, q⟩
    obtain ⟨h1, xs, h2, h3⟩ := onDN_some e
    exact ⟨h1, xs, h2, a, g', h3, q⟩
  · rintro ⟨h1, xs, h2, a, g', h3, q⟩
    refine ⟨a, g', ?_, q⟩
    unfold onDN isDi
    rw [h1]
    dsimp only
    rw [h2]
    dsimp only
    rw [if_pos rfl]
    exact h3
theorem ev_onO {k : O → M α} {Q : α → G → Prop} : Ev (onO i k) g Q ↔ ∃ o, g.s[i]? = some (.o o) ∧ Ev (k o) g Q := by
  constructor
  · rintro ⟨a, g', e, q⟩
    obtain ⟨xs, h2, h3⟩ := onO_some e
    exact ⟨xs, h2, a, g', h3, q⟩
  · rintro ⟨xs, h2, a, g', h3, q⟩
    refine ⟨a, g', ?_, q⟩
    unfold onO
    rw [h2]
    exact h3
theorem ev_onL {k : List D → M α} {Q : α → G → Prop} : Ev (onL i k) g Q ↔ ∃ xs, g.s[i]? = some (.o (.l xs)) ∧ Ev (k xs) g Q := by
  constructor
  · rintro ⟨a, g', e, q⟩
    obtain ⟨xs, h2, h3⟩ := onL_some e
    exact ⟨xs, h2, a, g', h3, q⟩
  · rintro ⟨xs, h2, a, g', h3, q⟩
    refine ⟨a, g', ?_, q⟩
    unfold onL
    rw [h2]
    exact h3
@[simp] theorem ev_ixD {mk : M D} {Q : D → G → Prop} : Ev (mIxD i mk) g Q ↔ g.s[i]? = some .di ∧ Ev mk g fun k g' => g'.s[i]? = some .di ∧ ∃ xs, g'.c = .l xs ∧ Ev (lift (fIx (.lst xs) k)) g' Q := by
  unfold mIxD
  simp only [ev_isDi, ev_bind, ev_onDL]
@[simp] theorem ev_ixPutD {n : Int} {mv : M D} {Q : Oc → G → Prop} : Ev (mIxPutD i n mv) g Q ↔ Ev mv g fun v g' => g'.s[i]? = some .di ∧ ∃ xs, g'.c = .l xs ∧ ∃ j, ixN xs.length n = some j ∧ Q .nx ⟨g'.s, .l (xs.set j v)⟩ := by
  unfold mIxPutD
  simp only [ev_bind, ev_onDL]
  refine ⟨fun h => h.mono fun v g' ⟨h1, xs, h2, a, g2, e, q⟩ => ?_, fun h => h.mono fun v g' ⟨h1, xs, h2, j, e, q⟩ => ⟨h1, xs, h2, .nx, _, by dsimp only; rw [e], q⟩⟩
  dsimp only at e
  split at e
  · rename_i j hj
    cases e
    exact ⟨h1, xs, h2, j, hj, q⟩
  · cases e
@[simp] theorem ev_fldD {Q : D → G → Prop} : Ev (mFldD i C fl) g Q ↔ g.s[i]? = some .di ∧ ∃ xs, g.c = .n C xs ∧ Ev (lift (getF fl xs)) g Q := by
  unfold mFldD
  rw [ev_onDN]
@[simp] theorem ev_fldPutD {mv : M D} {Q : Oc → G → Prop} : Ev (mFldPutD i C fl mv) g Q ↔ Ev mv g fun v g' => g'.s[i]? = some .di ∧ ∃ xs, g'.c = .n C xs ∧ xs.length < 1000 ∧ Q .nx ⟨g'.s, .n C (setF fl v xs)⟩ := by
  unfold mFldPutD
  simp only [ev_bind, ev_onDN]
  refine ⟨fun h => h.mono fun v g' ⟨h1, xs, h2, a, g2, e, q⟩ => ?_, fun h => h.mono fun v g' ⟨h1, xs, h2, j, q⟩ => ⟨h1, xs, h2, .nx, _, by dsimp only; rw [if_pos j], q⟩⟩
  dsimp only at e
  split at e
  · rename_i hj
    cases e
    exact ⟨h1, xs, h2, hj, q⟩
  · cases e
@[simp] theorem ev_dput {mk mv : M D} {Q : Oc → G → Prop} : Ev (mDPut i mk mv) g Q ↔ Ev mv g fun v g1 => (∃ o0, g1.s[i]? = some (.o o0)) ∧ Ev mk g1 fun k g2 => ∃ o, g2.s[i]? = some (.o o) ∧ ∃ o', putO o k v = some o' ∧ Q .nx (g2.set i (.o o')) := by
  unfold mDPut
  simp only [ev_bind, ev_onO]
  refine ⟨fun h => h.mono fun v g1 ⟨o0, h0, h⟩ => ⟨⟨o0, h0⟩, h.mono fun k g2 ⟨o, h1, a, g3, e, q⟩ => ?_⟩, fun h => h.mono fun v g1 ⟨⟨o0, h0⟩, h⟩ => ⟨o0, h0, h.mono fun k g2 ⟨o, h1, o', e, q⟩ => ⟨o, h1, .nx, _, by dsimp only; rw [e], q⟩⟩⟩
  dsimp only at e
  split at e
  · rename_i o' hj
    cases e
    exact ⟨o, h1, o', hj, q⟩
  · cases e
@[simp] theorem ev_get2Q {mk mx : M D} {Q : D → G → Prop} : Ev (mGet2Q i mk mx) g Q ↔ ∃ o0, g.s[i]? = some (.o o0) ∧ isDic o0.d = true ∧ Ev mk g fun k g1 => Ev mx g1 fun x g2 => ∃ o, g2.s[i]? = some (.o o) ∧ Ev (lift (fDGet2 o.d k x)) g2 Q := by
  unfold mGet2Q
  simp only [ev_onO]
  refine ⟨fun ⟨o, h, q⟩ => ⟨o, h, ?_⟩, fun ⟨o, h, hd, q⟩ => ⟨o, h, ?_⟩⟩
  · rw [ev_ite] at q
    split at q
    · refine ⟨by assumption, ?_⟩
      simpa only [ev_bind, ev_onO] using q
    · exact (ev_bad.mp q).elim
  · rw [ev_ite, if_pos hd]
    simpa only [ev_bind, ev_onO] using q
@[simp] theorem ev_get2 {md mk mx : M D} {Q : D → G → Prop} : Ev (mGet2 md mk mx) g Q ↔ Ev md g fun d g0 => isDic d = true ∧ Ev mk g0 fun k g1 => Ev mx g1 fun x g2 => Ev (lift (fDGet2 d k x)) g2 Q := by
  unfold mGet2
  rw [ev_bind]
  refine ⟨fun h => h.mono fun d g0 q => ?_, fun h => h.mono fun d g0 ⟨hd, q⟩ => ?_⟩
  · rw [ev_ite] at q
    split at q
    · refine ⟨by assumption, ?_⟩
      simpa only [ev_bind] using q
    · exact (ev_bad.mp q).elim
  · rw [ev_ite, if_pos hd]
    simpa only [ev_bind] using q
@[simp] theorem ev_dinQ {neg : Bool} {mk : M D} {Q : D → G → Prop} : Ev (mDInQ neg i mk) g Q ↔ Ev mk g fun k g1 => ∃ o, g1.s[i]? = some (.o o) ∧ Ev (lift (fDIn neg k o.d)) g1 Q := by
  unfold mDInQ
  simp only [ev_bind, ev_onO]
@[simp] theorem ev_ixQ {mk : M D} {Q : D → G → Prop} : Ev (mIxQ i mk) g Q ↔ (∃ xs, g.s[i]? = some (.o (.l xs))) ∧ Ev mk g fun k g1 => ∃ xs, g1.s[i]? = some (.o (.l xs)) ∧ Ev (lift (fIx (.lst xs) k)) g1 Q := by
  unfold mIxQ
  simp only [ev_bind, ev_onL]
  exact ⟨fun ⟨xs, h, q⟩ => ⟨⟨xs, h⟩, q⟩, fun ⟨⟨xs, h⟩, q⟩ => ⟨xs, h, q⟩⟩
@[simp] theorem ev_lenQ {Q : D → G → Prop} : Ev (mLenQ i) g Q ↔ ∃ xs, g.s[i]? = some (.o (.l xs)) ∧ Q (.int xs.length) g := by
  unfold mLenQ
  simp only [ev_onL, ev_ret]
theorem ev_toL {x : Option (List D × D)} {Q : D → G → Prop} : Ev (toL i x) g Q ↔ ∃ ys d, x = some (ys, d) ∧ Q d (g.set i (.o (.l ys))) := by
  constructor
  · rintro ⟨a, g', e, q⟩
    unfold toL at e
    split at e
    · cases e
      exact ⟨_, _, rfl, q⟩
    · cases e
  · rintro ⟨ys, d, rfl, q⟩
    exact ⟨_, _, rfl, q⟩
@[simp] theorem ev_lm1 {f : List D → D → Option (List D × D)} {m : M D} {Q : D → G → Prop} : Ev (mLm1 i f m) g Q ↔ (∃ xs, g.s[i]? = some (.o (.l xs))) ∧ Ev m g fun d g1 => ∃ xs, g1.s[i]? = some (.o (.l xs)) ∧ ∃ ys y, f xs d = some (ys, y) ∧ Q y (g1.set i (.o (.l ys))) := by
  unfold mLm1
  simp only [ev_bind, ev_onL, ev_toL]
  exact ⟨fun ⟨xs, h, q⟩ => ⟨⟨xs, h⟩, q⟩, fun ⟨⟨xs, h⟩, q⟩ => ⟨xs, h, q⟩⟩
@[simp] theorem ev_fnQ {F : FD} {ms : M (List D)} {Q : D → G → Prop} : Ev (mFnQ i F ms) g Q ↔ (∃ o, g.s[i]? = some (.o o)) ∧ Ev ms g fun ds g1 => ∃ o, g1.s[i]? = some (.o o) ∧ ∃ d o', F ds o = some (d, o') ∧ Q d (g1.set i (.o o')) := by
  unfold mFnQ
  simp only [ev_bind, ev_onO]
  refine ⟨fun ⟨o, h, q⟩ => ⟨⟨o, h⟩, q.mono fun ds g1 ⟨o, h1, a, g2, e, q⟩ => ⟨o, h1, ?_⟩⟩, fun ⟨⟨o, h⟩, q⟩ => ⟨o, h, q.mono fun ds g1 ⟨o, h1, d, o', e, q⟩ => ⟨o, h1, d, _, by dsimp only; rw [e], q⟩⟩⟩
  dsimp only at e
  split at e
  · rename_i d o' hj
    cases e
    exact ⟨_, _, hj, q⟩
  · cases e
@[simp] theorem ev_fnE {F : FD} {mo : M O} {ms : M (List D)} {Q : D → G → Prop} : Ev (mFnE F mo ms) g Q ↔ Ev mo g fun o g1 => Ev ms g1 fun ds g2 => ∃ d o', F ds o = some (d, o') ∧ Q d g2 := by
  unfold mFnE
  simp only [ev_bind]
  refine ⟨fun h => h.mono fun o g1 h => h.mono fun ds g2 q => ?_, fun h => h.mono fun o g1 h => h.mono fun ds g2 ⟨d, o', e, q⟩ => ?_⟩
  · cases e : F ds o with
    | none => rw [e] at q; exact (ev_lift_none.mp q).elim
    | some z => rw [e] at q; exact ⟨z.1, z.2, rfl, ev_lift_some.mp q⟩
  · rw [e]
    exact ev_lift_some.mpr q
@[simp] theorem ev_make {F : FD} {ms : M (List D)} {Q : O → G → Prop} : Ev (mMake C F ms) g Q ↔ Ev ms g fun ds g1 => ∃ fs, F ds (.n C []) = some (.non, .n C fs) ∧ Q (.n C fs) g1 := by
  unfold mMake
  simp only [ev_bind]
  refine ⟨fun h => h.mono fun ds g1 ⟨a, g2, e, q⟩ => ?_, fun h => h.mono fun ds g1 ⟨fs, e, q⟩ => ⟨_, _, by dsimp only; rw [e]; dsimp only; rw [if_pos rfl], q⟩⟩
  dsimp only at e
  split at e
  · rename_i C' fs hj
    split at e
    · rename_i hc
      subst hc
      cases e
      exact ⟨fs, hj, q⟩
    · cases e
  · cases e
@[simp] theorem ev_fld {m : M D} {Q : D → G → Prop} : Ev (mFld C fl m) g Q ↔ Ev m g fun d g1 => Ev (lift (fldD C fl d)) g1 Q := by
  unfold mFld
  simp only [ev_bind]
@[simp] theorem fldD_ins {fs : List (Str × D)} : fldD C fl (.ins C fs) = getF fl fs := if_pos rfl
@[simp] theorem ev_prop {F : FD} {mo : M D} {Q : D → G → Prop} : Ev (mProp C F mo) g Q ↔ Ev mo g fun d g1 => ∃ fs, d = .ins C fs ∧ ∃ x c', F [.ins C fs] g1.c = some (x, c') ∧ Q x ⟨g1.s, c'⟩ := by
  unfold mProp
  simp only [ev_bind]
  refine ⟨fun h => h.mono fun d g1 q => ?_, fun h => h.mono fun d g1 ⟨fs, e, q⟩ => ?_⟩
  · cases d <;> first | exact (ev_bad.mp q).elim | skip
    rename_i C' fs
    dsimp only at q
    rw [ev_ite] at q
    split at q
    · rename_i hc
      subst hc
      exact ⟨fs, rfl, ev_liftC.mp q⟩
    · exact (ev_bad.mp q).elim
  · subst e
    dsimp only
    rw [if_pos rfl]
    exact ev_liftC.mpr q
@[simp] theorem ev_meth {m : Str} {F : FD} {mo : M D} {ms : M (List D)} {Q : D → G → Prop} : Ev (mMeth C m F mo ms) g Q ↔ Ev mo g fun d g1 => ∃ fs, d = .ins C fs ∧ getF m fs = none ∧ Ev ms g1 fun ds g2 => ∃ x c', F (.ins C fs :: ds) g2.c = some (x, c') ∧ Q x ⟨g2.s, c'⟩ := by
  unfold mMeth
  simp only [ev_bind]
  refine ⟨fun h => h.mono fun d g1 q => ?_, fun h => h.mono fun d g1 ⟨fs, e, h1, q⟩ => ?_⟩
  · cases d <;> first | exact (ev_bad.mp q).elim | skip
    rename_i C' fs
    dsimp only at q
    rw [ev_ite] at q
    split at q
    · rename_i hc
      obtain ⟨rfl, hc⟩ := hc
      refine ⟨fs, rfl, hc, ?_⟩
      simpa only [ev_bind, ev_liftC] using q
    · exact (ev_bad.mp q).elim
  · subst e
    dsimp only
    rw [if_pos ⟨rfl, h1⟩]
    simpa only [ev_bind, ev_liftC] using q
@[simp] theorem ev_lenI {F : FD} {mo : M D} {Q : D → G → Prop} : Ev (mLenI C F mo) g Q ↔ Ev mo g fun d g1 => ∃ fs, d = .ins C fs ∧ ∃ n c', F [.ins C fs] g1.c = some (.int n, c') ∧ 0 ≤ n ∧ n < 2 ^ 63 ∧ Q (.int n) ⟨g1.s, c'⟩ := by
  unfold mLenI
  simp only [ev_bind]
  refine ⟨fun h => h.mono fun d g1 q => ?_, fun h => h.mono fun d g1 ⟨fs, e, n, c', h1, h2, h3, q⟩ => ?_⟩
  · cases d <;> first | exact (ev_bad.mp q).elim | skip
    rename_i C' fs
    dsimp only at q
    rw [ev_ite] at q
    split at q
    · rename_i hc
      subst hc
      rw [ev_bind, ev_liftC] at q
      obtain ⟨x, c', e, q⟩ := q
      cases x <;> first | exact (ev_bad.mp q).elim | skip
      rename_i n
      dsimp only at q
      rw [ev_ite] at q
      split at q
      · rename_i hn
        exact ⟨fs, rfl, n, c', e, hn.1, hn.2, ev_ret.mp q⟩
      · exact (ev_bad.mp q).elim
    · exact (ev_bad.mp q).elim
  · subst e
    dsimp only
    rw [if_pos rfl, ev_bind, ev_liftC]
    refine ⟨_, c', h1, ?_⟩
    dsimp only
    rw [if_pos ⟨h2, h3⟩]
    exact ev_ret.mpr q
@[simp] theorem ev_isC {m : M D} {Q : D → G → Prop} : Ev (mIsC C m) g Q ↔ Ev m g fun d g1 => Ev (lift (fIsC C d)) g1 Q := by
  unfold mIsC
  simp only [ev_bind]
@[simp] theorem fIsC_ins {fs : List (Str × D)} : fIsC C (.ins C fs) = some (.bl true) := if_pos rfl
@[simp] theorem ev_isi {cls : String} {m : M D} {Q : D → G → Prop} : Ev (mIsi cls m) g Q ↔ Ev m g fun d g1 => Ev (lift (fIsi cls d)) g1 Q := by
  unfold mIsi
  simp only [ev_bind]
@[simp] theorem ev_sortSet {m : M D} {Q : O → G → Prop} : Ev (mSortSet m) g Q ↔ Ev m g fun d g1 => Ev (lift (fSortSet d)) g1 Q := by
  unfold mSortSet
  simp only [ev_bind]
@[simp] theorem ev_pairs {mk mv : M D} {ms : M (List (Key × D))} {Q : List (Key × D) → G → Prop} : Ev (mPairs mk mv ms) g Q ↔ Ev mk g fun k g1 => Ev mv g1 fun v g2 => Ev ms g2 fun r g3 => Ev (lift ((asKey k).map fun kk => (kk, v) :: r)) g3 Q := by
  unfold mPairs
  simp only [ev_bind]
@[simp] theorem ev_disp {ms : M (List (Key × D))} {Q : O → G → Prop} : Ev (mDisp ms) g Q ↔ Ev ms g fun es g1 => es.length ≤ 15 ∧ Q (.k (mergeD [] es)) g1 := by
  unfold mDisp
  rw [ev_bind]
  refine ⟨fun h => h.mono fun es g1 q => ?_, fun h => h.mono fun es g1 q => ?_⟩
  · rw [ev_ite] at q
    split at q
    · exact ⟨by assumption, ev_ret.mp q⟩
    · exact (ev_bad.mp q).elim
  · rw [ev_ite, if_pos q.1]
    exact ev_ret.mpr q.2
@[simp] theorem ev_star {m : M D} {ms : M (List D)} {Q : List D → G → Prop} : Ev (mStar m ms) g Q ↔ Ev m g fun d g1 => ∃ xs, seqD d = some xs ∧ Ev ms g1 fun ds g2 => Q (xs ++ ds) g2 := by
  unfold mStar
  rw [ev_bind]
  refine ⟨fun h => h.mono fun d g1 q => ?_, fun h => h.mono fun d g1 ⟨xs, e, q⟩ => ?_⟩
  · cases e : seqD d with
    | none => rw [e] at q; exact (ev_bad.mp q).elim
    | some xs =>
      rw [e] at q
      refine ⟨xs, rfl, ?_⟩
      simpa using q
  · rw [e]
    simpa using q
@[simp] theorem seqD_lst {xs : List D} : seqD (.lst xs) = some xs := rfl
@[simp] theorem seqD_tup {xs : List D} : seqD (.tup xs) = some xs := rfl
@[simp] theorem ev_fmt {m : M D} {Q : D → G → Prop} : Ev (mFmt m) g Q ↔ Ev m g fun d g1 => Ev (lift (fFmt d)) g1 Q := by
  unfold mFmt
  simp only [ev_bind]
@[simp] theorem ev_js_nil {acc : Str} {Q : D → G → Prop} : Ev (mJs [] acc) g Q ↔ Q (.str acc) g := ev_ret
@[simp] theorem ev_js_cons {m : M D} {ms : List (M D)} {acc : Str} {Q : D → G → Prop} : Ev (mJs (m :: ms) acc) g Q ↔ Ev m g fun d g1 => ∃ y, d = .str y ∧ (acc ++ y).length ≤ sizeLine ∧ Ev (mJs ms (acc ++ y)) g1 Q := by
  show Ev (m.bind fun d => match d with
    | .str y => if (acc ++ y).length ≤ sizeLine then mJs ms (acc ++ y) else bad
    | _ => bad) g Q ↔ _
  rw [ev_bind]
  refine ⟨fun h => h.mono fun d g1 q => ?_, fun h => h.mono fun d g1 ⟨y, e, h1, q⟩ => ?_⟩
  · cases d <;> first | exact (ev_bad.mp q).elim | skip
    rename_i y
    dsimp only at q
    rw [ev_ite] at q
    split at q
    · exact ⟨y, rfl, by assumption, q⟩
    · exact (ev_bad.mp q).elim
  · subst e
    dsimp only
    rw [ev_ite, if_pos h1]
    exact q
@[simp] theorem ev_ms1 {f : D → D → Option α} {ma mb : M D} {Q : α → G → Prop} : Ev (mMs1 f ma mb) g Q ↔ Ev ma g fun x g1 => ∃ y, x = .str y ∧ Ev mb g1 fun z g2 => Ev (lift (f (.str y) z)) g2 Q := by
  unfold mMs1
  rw [ev_bind]
  refine ⟨fun h => h.mono fun d g1 q => ?_, fun h => h.mono fun d g1 ⟨y, e, q⟩ => ?_⟩
  · cases d <;> first | exact (ev_bad.mp q).elim | skip
    exact ⟨_, rfl, by simpa using q⟩
  · subst e
    simpa using q
@[simp] theorem ev_part {m : M D} {Q : Option Int → G → Prop} : Ev (mPart m) g Q ↔ Ev m g fun d g1 => Ev (lift (asI d)) g1 Q := by
  unfold mPart
  simp only [ev_bind]
@[simp] theorem ev_sl {f : D → Option Int → Option Int → Option α} {ma : M D} {ml mh : M (Option Int)} {Q : α → G → Prop} : Ev (mSl f ma ml mh) g Q ↔ Ev ma g fun x g1 => Ev ml g1 fun l g2 => Ev mh g2 fun h g3 => Ev (lift (f x l h)) g3 Q := by
  unfold mSl
  simp only [ev_bind]
@[simp] theorem ev_slU {ma : M D} {ml mh : M (Option Int)} {Q : D → G → Prop} : Ev (mSlU ma ml mh) g Q ↔ Ev ma g fun x g1 => Ev ml g1 fun l g2 => Ev mh g2 fun h g3 => Ev (lift ((fSlS x l h).or ((fSlL x l h).map O.d))) g3 Q := by
  unfold mSlU
  simp only [ev_sl]
@[simp] theorem ev_not {m : M D} {Q : D → G → Prop} : Ev (mNot m) g Q ↔ Ev m g fun x g1 => Ev (lift (fNot x)) g1 Q := by
  unfold mNot
  simp only [ev_bind]
@[simp] theorem fNot_bl {b : Bool} : fNot (.bl b) = some (.bl (!b)) := rfl
@[simp] theorem ev_neg {m : M D} {Q : D → G → Prop} : Ev (mNeg m) g Q ↔ Ev m g fun x g1 => Ev (lift (fNeg x)) g1 Q := by
  unfold mNeg
  simp only [ev_bind]
@[simp] theorem fNeg_int {n : Int} : fNeg (.int n) = some (.int (-n)) := rfl
@[simp] theorem ev_and {ma mb : M D} {Q : D → G → Prop} : Ev (mAnd ma mb) g Q ↔ Ev ma g fun x g1 => ∃ b, x = .bl b ∧ if b = true then Ev mb g1 Q else Q (.bl false) g1 := by
  unfold mAnd
  rw [ev_bind]
  refine ⟨fun h => h.mono fun d g1 q => ?_, fun h => h.mono fun d g1 ⟨y, e, q⟩ => ?_⟩
  · cases d <;> first | exact (ev_bad.mp q).elim | skip
    rename_i b
    refine ⟨b, rfl, ?_⟩
    cases b <;> simpa using q
  · subst e
    cases y <;> simpa using q
@[simp] theorem ev_or {ma mb : M D} {Q : D → G → Prop} : Ev (mOr ma mb) g Q ↔ Ev ma g fun x g1 => ∃ b, x = .bl b ∧ if b = true then Q (.bl true) g1 else Ev mb g1 Q := by
  unfold mOr
  rw [ev_bind]
  refine ⟨fun h => h.mono fun d g1 q => ?_, fun h => h.mono fun d g1 ⟨y, e, q⟩ => ?_⟩
  · cases d <;> first | exact (ev_bad.mp q).elim | skip
    rename_i b
    refine ⟨b, rfl, ?_⟩
    cases b <;> simpa using q
  · subst e
    cases y <;> simpa using q
@[simp] theorem ev_iter {m : M D} {Q : List D → G → Prop} : Ev (mIter m) g Q ↔ Ev m g fun d g1 => Ev (lift (iterD d)) g1 Q := by
  unfold mIter
  simp only [ev_bind]
@[simp] theorem ev_wk {f : List D → Option (List D)} {ms : M (List D)} {Q : List D → G → Prop} : Ev (mWk f ms) g Q ↔ Ev ms g fun d g1 => Ev (lift (f d)) g1 Q := by
  unfold mWk
  simp only [ev_bind]
@[simp] theorem ev_binO {f : D → D → Option O} {ma mb : M D} {Q : O → G → Prop} : Ev (mBinO f ma mb) g Q ↔ Ev ma g fun x g' => Ev mb g' fun y g2 => Ev (lift (f x y)) g2 Q := by
  unfold mBinO
  simp only [ev_bind]
@[simp] theorem iterD_lst {xs : List D} : iterD (.lst xs) = some xs := rfl
@[simp] theorem iterD_tup {xs : List D} : iterD (.tup xs) = some xs := rfl
@[simp] theorem iterD_dt {kvs : List (List Key × D)} : iterD (.dt kvs) = some (kvs.map fun kv => .tup (kv.1.map kD)) := rfl
@[simp] theorem iterD_dk {kvs : List (Key × D)} : iterD (.dk kvs) = some (kvs.map fun kv => kD kv.1) := rfl
@[simp] theorem iterD_str {x : Str} : iterD (.str x) = some (chars x) := rfl
/-- a dict comprehension's turns -/
theorem ev_dcGo {vs : List Nat} {f : D → G → Option G} {mt : M Bool} {mk mv : M D} {Q : O → G → Prop} (I : List D → O → G → Prop)
    (hs : ∀ d r acc g, I (d :: r) acc g → ∃ g1, f d g = some g1 ∧ Ev mt g1 fun b g2 => if b = true then Ev mk g2 fun y g3 => Ev mv g3 fun z g4 => ∃ acc', putO acc y z = some acc' ∧ I r acc' (wipeG g4 vs) else I r acc (wipeG g2 vs))
    (he : ∀ acc g, I [] acc g → Q acc g) : ∀ (ds : List D) (acc : O) (g : G), I ds acc g → Ev (dcGo vs f mt mk mv ds acc) g Q
  | [], acc, g, h => ev_ret.mpr (he acc g h)
  | d :: r, acc, g, h => by
    obtain ⟨g1, e1, b, g2, e2, q⟩ := hs d r acc g h
    have key : ∀ x, dcGo vs f mt mk mv (d :: r) acc g = x → (∃ a g', x = some (.ok a g') ∧ Q a g') → Ev (dcGo vs f mt mk mv (d :: r) acc) g Q := fun x e ⟨a, g', e', q⟩ => ⟨a, g', e.trans e', q⟩
    refine key _ rfl ?_
    simp only [dcGo, e1, e2]
    cases b with
    | false => exact ev_dcGo I hs he r acc _ q
    | true =>
      obtain ⟨y, g3, e3, z, g4, e4, acc', e5, q⟩ := q
      simp only [e3, e4, e5]
      exact ev_dcGo I hs he r _ _ q
@[simp] theorem ev_dc {o0 : O} {vs : List Nat} {mi : M (List D)} {f : D → G → Option G} {mt : M Bool} {mk mv : M D} {Q : O → G → Prop} : Ev (mDc o0 vs mi f mt mk mv) g Q ↔ Ev mi g fun ds g1 => noOwn vs g1 = true ∧ Ev (dcGo vs f mt mk mv ds o0) (wipeG g1 vs) fun ys g2 => Q ys (backG g1 g2 vs) := by
  unfold mDc
  rw [ev_bind]
  refine ⟨fun h => h.mono fun ds g1 q => ?_, fun h => h.mono fun ds g1 ⟨h1, ys, g2, e, q⟩ => ?_⟩
  · obtain ⟨a, g', e, q⟩ := q
    dsimp only at e
    split at e
    · rename_i h1
      refine ⟨h1, ?_⟩
      cases e2 : dcGo vs f mt mk mv ds o0 (wipeG g1 vs) with
      | none => rw [e2] at e; cases e
      | some r =>
        cases r with
        | ex E g2 => rw [e2] at e; cases e
        | ok ys g2 =>
          rw [e2] at e
          cases e
          exact ⟨ys, g2, e2, q⟩
    · cases e
  · refine ⟨ys, backG g1 g2 vs, ?_, q⟩
    dsimp only
    rw [if_pos h1, e]
    rfl
end
end Mo
set_option Elab.async false
set_option linter.all false
set_option maxRecDepth 100000
set_option maxHeartbeats 4000000
/-! Mo, part thirty-two: the law's own promise. -/
namespace Mo
open PySem PySem.Spec L2
open Lp (FnG)
def spLaw (K : PySem.W.Frag) : Sp := fun vs J Q _ => ∃ (a : Addr) (ns : List Int), vs = [.ref a] ∧ SqL K J a (ns.map V.int) ∧ ns.length ≤ 63 ∧ ∀ J', Q (.bl true) J'
theorem reps_ints' {K : PySem.W.Frag} {H : Hp} : ∀ ns : List Int, Reps K H (ns.map V.int) (ns.map D.int)
  | [] => .nil
  | n :: r => .cons (.int n) (reps_ints' r)
theorem kit_self {K : PySem.W.Frag} {C : Addr} : PySem.W.kitOne K (.ref C) (.ref C) = some true := if_pos (by simp)
theorem del_0 {H : Hp} : del ⟨none, []⟩ H = H := by
  funext b
  exact del_at fun z : Hid ⟨none, []⟩ b => z.elim (fun e => by cases e) fun m => nomatch m
theorem law_end {P : Program} {w : World} {K : PySem.W.Frag} {mg : Str → Option Value} {base : Heap} {k : Nat} {f : Addr} {fd : FuncData} {F : FD} (h : FnG P w K mg base CX0 k f fd ["_law_script"] (spM K false F))
    (hF : ∀ ns : List Int, ns.length ≤ 63 → ∃ c', F [.lst (ns.map .int)] (.l []) = some (.bl true, c')) : FnG P w K mg base CX0 k f fd ["_law_script"] (spLaw K) := by
  have key : ∀ {vs : List V} {J : Hp} {Q : VK} {E : XK}, spLaw K vs J Q E → spM K false F vs J Q E := fun {vs J Q E} ⟨a, ns, e, hS, hl, hq⟩ => by
    obtain ⟨c', e2⟩ := hF ns hl
    refine ⟨⟨none, []⟩, .l [], [.lst (ns.map .int)], vs, .bl true, c', rfl, ⟨fun a e => (by cases e), fun a e => (by cases e), fun a m => (nomatch m)⟩, ?_, e2, fun v J2 _ rv => ?_⟩
    · subst e
      rw [del_0]
      exact .cons (.lst hS (reps_ints' ns)) .nil
    · rw [rep_bl rv]
      exact hq J2
  exact ⟨fun vs H Q E hs => h.len vs H Q E (key hs), fun B fr st J ar ws xs R Z r hg e0 hb hv hs => h.go B fr st J ar ws xs R Z r hg e0 hb hv (key hs)⟩
end Mo
set_option Elab.async false
set_option linter.all false
set_option maxRecDepth 100000
set_option maxHeartbeats 4000000
/-! Mo, part thirty-three: k in an own dict as a test; calls without arguments. -/
namespace Mo
open PySem PySem.Spec L2
open Lp (FnG callG)
section
variable {X : Cx} {W : WW} {b : Expr} {x : Str} {px pos : Pos}
def mtInQ (neg : Bool) (i : Nat) (mk : M D) : M Bool := mk.bind fun k => onO i fun o => lift ((fDIn neg k o.d).bind asB)
@[simp] theorem ev_tinQ {neg : Bool} {i : Nat} {mk : M D} {g : G} {Q : Bool → G → Prop} : Ev (mtInQ neg i mk) g Q ↔ Ev mk g fun k g1 => ∃ o, g1.s[i]? = some (.o o) ∧ Ev (lift ((fDIn neg k o.d).bind asB)) g1 Q := by
  unfold mtInQ
  simp [ev_onO]
@[simp] theorem ev_dgetQ {i : Nat} {mk : M D} {g : G} {Q : D → G → Prop} : Ev (mDGetQ i mk) g Q ↔ (∃ o, g.s[i]? = some (.o o)) ∧ Ev mk g fun k g1 => ∃ o, g1.s[i]? = some (.o o) ∧ Ev (lift (fDGet o.d k)) g1 Q := by
  unfold mDGetQ
  simp [ev_onO]
end
end Mo
set_option Elab.async false
set_option linter.all false
set_option maxRecDepth 100000
set_option maxHeartbeats 4000000
/-! Mo, part thirty-four: a dict of a dict that a def fills: the plain parts of a machine, read from lines. -/
namespace Mo
open PySem PySem.Spec L2
open Lp (FnG)
structure PlS where
  F : D
  L : D
  A : List (List Key × D)
  x : Sl
  y : Sl
abbrev plG (ls : D) (c : C3) (s : PlS) : G := ⟨[.v ls, .un, s.x, s.y], c⟩
def NoO (x : Sl) : Prop := ∀ o, x ≠ .o o
theorem nosl_pl {ls : D} {c : C3} {s : PlS} {σ : St} (hx : NoO s.x) (hy : NoO s.y) (a : Addr) : NoSl (plG ls c s) σ a := fun i o e => by
  exfalso
  match i, e with
  | 0, e => cases e
  | 1, e => cases e
  | 2, e => exact hx o (Option.some.inj e)
  | 3, e => exact hy o (Option.some.inj e)
  | (i + 4), e => cases e
structure PlI (K : PySem.W.Frag) (J : Hp) (p0 : Mt) (H0 : Hp) (c : C3) (ls : D) (p : Mt) (σ : St) (H : Hp) (s : PlS) : Prop where
  R : Rl K J p (plG ls c s) σ H
  a : As J p0 H0 p H
  nx : NoO s.x
  ny : NoO s.y
  ex : ∃ q r u1 u2 es, σ[1]? = some (some (.ref q)) ∧ q ∈ p.o ∧ r ∈ p.o ∧ q ≠ r ∧ J q = none ∧ J r = none ∧ H q = some (.dK [(.inr "firsts", u1), (.inr "lasts", u2), (.inr "arcs", .ref r)]) ∧
    Rep K (del p H) u1 s.F ∧ Rep K (del p H) u2 s.L ∧ H r = some (.dT es) ∧ RepT K (del p H) es s.A
section
variable {K : PySem.W.Frag} {J : Hp} {p0 p p1 : Mt} {H0 H H1 : Hp} {c : C3} {ls : D} {σ : St} {s : PlS}
theorem PlI.ad (I : PlI K J p0 H0 c ls p σ H s) (ad : Ad (plG ls c s) σ p H (plG ls c s) p1 H1) (R1 : Rl K J p1 (plG ls c s) σ H1) : PlI K J p0 H0 c ls p1 σ H1 s := by
  obtain ⟨q, r, u1, u2, es, h1, h2, h3, h4, h5, h6, h7, h8, h9, h10, h11⟩ := I.ex
  obtain ⟨a1, b1⟩ := ad.ex q h2 (nosl_pl I.nx I.ny q)
  obtain ⟨a2, b2⟩ := ad.ex r h3 (nosl_pl I.nx I.ny r)
  exact ⟨R1, I.a.trans (ad.as I.R), I.nx, I.ny, q, r, u1, u2, es, h1, a1, a2, h4, h5, h6, by rw [b1, h7], h8.le ad.le, h9.le ad.le, by rw [b2, h10], RepT.le ad.le h11⟩
end
end Mo
set_option Elab.async false
set_option linter.all false
set_option maxRecDepth 100000
set_option maxHeartbeats 4000000
/-! Mo, part thirty-five: int of a text; the pieces of the def that reads lines. -/
namespace Mo
open PySem PySem.Spec L2
section
variable {X : Cx} {ew c1 c2 v1 v2 kk vv : Expr}
theorem ob {α β : Type} {o : Option α} {f : α → Option β} {b : β} (h : o.bind f = some b) : ∃ a, o = some a ∧ f a = some b := by
  cases o with
  | none => cases h
  | some a => exact ⟨a, rfl, h⟩
end
end Mo
set_option Elab.async false
set_option linter.all false
set_option maxRecDepth 100000
set_option maxHeartbeats 4000000
/-! Mo, part thirty-six: a dict whose keys are pairs of a text and of a tuple of numbers. -/
namespace Mo
open PySem PySem.Spec L2
def nk (l : Str) (row : List Int) : NestedKey := .tup [.text l, .tup (row.map .num)]
theorem nums_inj : ∀ {a b : List Int}, a.map NestedKey.num = b.map NestedKey.num → a = b
  | [], [], _ => rfl
  | [], _ :: _, h => by cases h
  | _ :: _, [], h => by cases h
  | x :: a, y :: b, h => by
    simp only [List.map_cons, List.cons.injEq] at h
    obtain ⟨h1, h2⟩ := h
    cases h1
    rw [nums_inj h2]
theorem nk_inj {l l' : Str} {r r' : List Int} : nk l r = nk l' r' ↔ l = l' ∧ r = r' := by
  constructor
  · intro h
    unfold nk at h
    injection h with h
    injection h with h1 h2
    injection h1 with h1
    injection h2 with h2 _
    injection h2 with h2
    exact ⟨h1, nums_inj h2⟩
  · rintro ⟨rfl, rfl⟩
    rfl
abbrev NE := NestedKey × Addr × Value
/-- the dict with these entries at q -/
def ND (P : Program) (w : World) (q : Addr) (xs : List NE) : HO := .ext fun h => (q == sysModules) = false ∧ xs.length ≤ sizeLine ∧
  ∃ o es ep, h.get? q = some o ∧ o.ExactDict ∧ o.data = .dict es ep ∧ es.toList = xs.map (entryOfKey (nestedKind P w)) ∧ (xs.map fun x => x.1).Nodup
/-- such a key at b -/
def KeyAt (H : Hp) (b : Addr) (l : Str) (row : List Int) : Prop := ∃ c, H b = some (.tup [.str l, .ref c]) ∧ H c = some (.tup (row.map V.int))
section
variable {X : Cx} {pins : List (Addr × Obj)} {σ : St} {H : Hp} {s : Shared} {q b : Addr} {l : Str} {row : List Int} {xs : List NE} {E' : Value → Shared → Prop}
/-- the entry of a key -/
def entry (xs : List NE) (l : Str) (row : List Int) : Option (Addr × Value) := atKey xs (nk l row)
end
end Mo
set_option Elab.async false
set_option linter.all false
set_option maxRecDepth 100000
set_option maxHeartbeats 4000000
/-! Mo, part thirty-seven: a walk along a text that keeps what it found in a dict. -/
namespace Mo
open PySem PySem.Spec L2
def nsD (ns : List Int) : List D := ns.map .int
def pD (x : List Int × Int) : D := .tup [.tup (nsD x.1), .int x.2]
abbrev StepF := Str → List Int → Option (List Int × Int)
/-- the entries are what the steps come to -/
def Ent (K : PySem.W.Frag) (F : Hp) (step : StepF) (xs : List NE) : Prop := ∀ x ∈ xs, ∃ l row out v, x.1 = nk l row ∧ KeyAt F x.2.1 l row ∧ step l row = some out ∧ RelV v x.2.2 ∧ Rep K F v (pD out)
section
variable {K : PySem.W.Frag} {F F' H : Hp} {step : StepF} {xs : List NE} {p : Mt}
theorem KeyAt.le {b : Addr} {l : Str} {row : List Int} (k : KeyAt F b l row) (e : Le F F') : KeyAt F' b l row := by
  obtain ⟨c, h1, h2⟩ := k
  exact ⟨c, e.ex h1 rfl, e.ex h2 rfl⟩
theorem Ent.le (e : Ent K F step xs) (l : Le F F') : Ent K F' step xs := fun x m => by
  obtain ⟨a, row, out, v, h1, h2, h3, h4, h5⟩ := e x m
  exact ⟨a, row, out, v, h1, h2.le l, h3, h4, h5.le l⟩
theorem Ent.get (e : Ent K F step xs) {l : Str} {row : List Int} {y : Addr × Value} (h : entry xs l row = some y) : ∃ out v, step l row = some out ∧ RelV v y.2 ∧ Rep K F v (pD out) := by
  unfold entry atKey at h
  obtain ⟨x, h1, h2⟩ := Option.map_eq_some_iff.mp h
  have m := List.mem_of_find?_eq_some h1
  have hk := List.find?_some h1
  obtain ⟨a, row', out, v, e1, e2, e3, e4, e5⟩ := e x m
  have hk' : x.1 = nk l row := by simpa using hk
  rw [e1] at hk'
  obtain ⟨rfl, rfl⟩ := nk_inj.mp hk'
  exact ⟨out, v, e3, by rw [← h2]; exact e4, e5⟩
end
section
variable {g : G} {σ : St} {q x : Addr} {i : Nat}
theorem nosl_setV {d : D} {v : Option V} (n : NoSl g σ q) : NoSl (g.set i (.v d)) (σ.set i v) q := fun j o e => by
  rcases getE_set e with ⟨_, z, _⟩ | ⟨ne, e⟩
  · cases z
  · rw [getV_set, if_neg fun z => ne z.1]
    exact n j o e
theorem nosl_setO {o' : O} (n : NoSl g σ q) (h : x ≠ q) (hl : g.s.length = σ.length) : NoSl (g.set i (.o o')) (σ.set i (some (.ref x))) q := fun j o e => by
  rcases getE_set e with ⟨rfl, z, l⟩ | ⟨ne, e⟩
  · rw [getV_set, if_pos ⟨rfl, hl ▸ l⟩]
    intro z
    cases z
    exact h rfl
  · rw [getV_set, if_neg fun z => ne z.1]
    exact n j o e
end
/-- the dict under way, beside the slots -/
structure RwI (X : Cx) (J : Hp) (p0 : Mt) (H0 : Hp) (step : StepF) (g : G) (p : Mt) (σ : St) (H : Hp) (xs : List NE) : Prop where
  R : Rl X.K J p g σ H
  a : As J p0 H0 p H
  ex : ∃ q, σ[3]? = some (some (.ref q)) ∧ q ∈ p.o ∧ J q = none ∧ NoSl g σ q ∧ H q = some (ND X.prog X.w q xs) ∧ Ent X.K (del p H) step xs
section
variable {X : Cx} {J : Hp} {p0 p p1 : Mt} {H0 H H1 : Hp} {step : StepF} {g g1 : G} {σ : St} {xs : List NE} {i : Nat}
theorem RwI.ad (I : RwI X J p0 H0 step g p σ H xs) (ad : Ad g σ p H g1 p1 H1) (R1 : Rl X.K J p1 g1 σ H1) : RwI X J p0 H0 step g1 p1 σ H1 xs := by
  obtain ⟨q, h1, h2, h3, h4, h5, h6⟩ := I.ex
  obtain ⟨a1, b1⟩ := ad.ex q h2 h4
  exact ⟨R1, I.a.trans (ad.as I.R), q, h1, a1, h3, ad.sl q h4, by rw [b1, h5], h6.le ad.le⟩
theorem RwI.setV {v : V} {d : D} (I : RwI X J p0 H0 step g p σ H xs) (rv : Rep X.K (del p H) v d) (n3 : i ≠ 3) : RwI X J p0 H0 step (g.set i (.v d)) p (σ.set i (some v)) H xs := by
  obtain ⟨q, h1, h2, h3, h4, h5, h6⟩ := I.ex
  exact ⟨I.R.setV rv, I.a, q, by rw [List.getElem?_set_ne n3]; exact h1, h2, h3, nosl_setV h4, h5, h6⟩
theorem RwI.setO {x : Addr} {o : O} (I : RwI X J p0 H0 step g p σ H xs) (m : x ∈ p.o) (jn : J x = none) (n : NoSl g σ x) (ow : OwnAt X.K (del p H) H x o) (n3 : i ≠ 3) : RwI X J p0 H0 step (g.set i (.o o)) p (σ.set i (some (.ref x))) H xs := by
  obtain ⟨q, h1, h2, h3, h4, h5, h6⟩ := I.ex
  refine ⟨I.R.setO m jn n ow, I.a, q, by rw [List.getElem?_set_ne n3]; exact h1, h2, h3, nosl_setO h4 (fun z => ?_) I.R.len, h5, h6⟩
  subst z
  cases o with
  | l _ => obtain ⟨_, z, _⟩ := ow; rw [h5] at z; cases z
  | k _ => obtain ⟨_, z, _⟩ := ow; rw [h5] at z; cases z
  | t _ => obtain ⟨_, z, _⟩ := ow; rw [h5] at z; cases z
  | n _ _ => obtain ⟨_, _, z, _⟩ := ow; rw [h5] at z; cases z
end
end Mo
set_option Elab.async false
set_option linter.all false
set_option maxRecDepth 100000
set_option maxHeartbeats 8000000
/-! Mo, part thirty-eight: the walk's body. -/
namespace Mo
open PySem PySem.Spec L2
def plc (l : Str) (r : List Int) : D := .tup [.str l, .tup (nsD r)]
end Mo
set_option Elab.async false
set_option linter.all false
set_option maxRecDepth 100000
set_option maxHeartbeats 8000000
/-! Mo, part thirty-nine: the walk's loops. -/
namespace Mo
open PySem PySem.Spec L2
end Mo
set_option Elab.async false
set_option linter.all false
set_option maxRecDepth 100000
set_option maxHeartbeats 8000000
/-! Mo, part forty: the walk, whole. -/
namespace Mo
open PySem PySem.Spec L2
section
variable {X : Cx} {J : Hp} {p0 p : Mt} {H0 H : Hp} {sf : D → StepF} {σ : St} {xs : List NE} {ep e2 er ea : Expr} {mp m2 : M D} {mr : M O} {ma : M D} {c : C3}
variable {a0 a1 a2 a3 a4 a5 a6 a7 a8 a9 b1 b2 b3 b4 b5 b6 b7 c1 c2 c3 d1 d2 d3 d4 d5 d6 d7 d8 d9 f1 f2 f3 f4 f5 : Pos}
theorem RwI.base {step : StepF} {g' : G} {p' : Mt} {σ' : St} {H' : Hp} (I : RwI X J p H step g' p' σ' H' xs) (a : As J p0 H0 p H) : RwI X J p0 H0 step g' p' σ' H' xs := ⟨I.R, a.trans I.a, I.ex⟩
end
end Mo
set_option Elab.async false
set_option linter.all false
set_option maxRecDepth 100000
set_option maxHeartbeats 4000000
/-! Mo, part forty-one: the walk's pieces. -/
namespace Mo
open PySem PySem.Spec L2
end Mo
set_option Elab.async false
set_option linter.all false
set_option maxRecDepth 100000
set_option maxHeartbeats 4000000
/-! Mo: an own thing that is called. -/
namespace Mo
open PySem PySem.Spec PySem.Calls L2 PyProof.Rows
open Lp (FnG okN callG)
section
variable {X : Cx} {W : WW} {fe : Expr} {es : List Expr} {pos : Pos} {C ff : Addr} {k : Nat} {fd : FuncData} {qs : List Str} {sp : Sp}
def mOCall (C : Addr) (F : FD) (mo : M D) (ms : M (List D)) : M D := mo.bind fun d => match d with
  | .ins C' fs => if C' = C then ms.bind fun ds => liftC (F (.ins C' fs :: ds)) else bad
  | _ => bad
@[simp] theorem ev_ocall {F : FD} {mo : M D} {ms : M (List D)} {g : G} {Q : D → G → Prop} : Ev (mOCall C F mo ms) g Q ↔ Ev mo g fun d g1 => ∃ fs, d = .ins C fs ∧ Ev ms g1 fun ds g2 => ∃ x c', F (.ins C fs :: ds) g2.c = some (x, c') ∧ Q x ⟨g2.s, c'⟩ := by
  unfold mOCall
  simp only [ev_bind]
  refine ⟨fun h => h.mono fun d g1 q => ?_, fun h => h.mono fun d g1 ⟨fs, e, q⟩ => ?_⟩
  · cases d <;> first | exact (ev_bad.mp q).elim | skip
    rename_i C' fs
    dsimp only at q
    rw [ev_ite] at q
    split at q
    · rename_i hc
      subst hc
      exact ⟨fs, rfl, (ev_bind.mp q).mono fun ds g2 z => ev_liftC.mp z⟩
    · exact (ev_bad.mp q).elim
  · subst e
    dsimp only
    rw [if_pos rfl]
    exact ev_bind.mpr (q.mono fun ds g2 z => ev_liftC.mpr z)
end
end Mo
set_option Elab.async false
set_option linter.all false
set_option maxRecDepth 100000
set_option maxHeartbeats 4000000
/-! Mo: == and != of a class with an own __eq__ (and no own __ne__). -/
namespace Mo
open PySem PySem.Spec PySem.Calls L2 PyProof.Rows
open Lp (FnG okN callG)
/-- what the text's class tells of == and != -/
structure EqC (K : PySem.W.Frag) (C f : Addr) : Prop where
  eq : SpecM K C "__eq__" f
  ne : PySem.W.findIn K (.ref C) "__ne__" = some (some (.builtin "object.__ne__"))
  ob : PySem.W.mroIn K C (.type "object") = some true
section
variable {prog : Program} {w : World} {B : Around} {Er : Value → Shared → Prop} {st : Shared} {K : PySem.W.Frag} {y C f : Addr} {oy : Obj} {dy : Option Obj} {b : Value}
theorem ne_bound {ar : List Value} {R : Option Value → Shared → Prop} (KX : K.In st.heap) (J : PySem.W.InstAt st.heap y oy C dy) (c : EqC K C f)
    (h : wpAny (model prog w) B (call (.builtin "object.__ne__") (.ref y :: ar)) (fun v => R (some v)) Er st) : wpAny (model prog w) B (callSpecialIfBound? (.ref y) "__ne__" ar) R Er st := by
  have last : wpAny (model prog w) B (call (.builtin "object.__ne__") ([.ref y] ++ ar) >>= fun v => pure (some v)) R Er st :=
    wpAny_bind (wpAny_mono h (fun _ _ z => wpAny_pure z) fun _ _ z => z)
  have lk := (PySem.W.looks_findIn (M := model prog w) KX c.ne)
  unfold callSpecialIfBound? bindSpecialIfBound? specialOf
  refine wpAny_holding ?_
  refine wpAny_bind (wpAny_bind (wpAny_bind (J.type.here (lk.here ?_))))
  refine wpAny_bind (wpAny_askSetting (wpAny_ite ?_))
  split
  · exact wpAny_bind (wpAny_of_eq (F.cmp_object.ne.bind _) (wpAny_pure (by exact last)))
  · exact wpAny_tryCatch (wpAny_bind (wpAny_of_eq (F.cmp_object.ne.bind _) (wpAny_pure (by exact last))))
theorem ne_entry {R : Fin → Shared → Prop} (hu : B.units < cLine) (KX : K.In st.heap) (J : PySem.W.InstAt st.heap y oy C dy) (c : EqC K C f)
    (h : wpAny (model prog w) B (call (.ref f) [.ref y, b]) (fun v s' => ∃ t, v = .bool t ∧ R (.done (.ret (.bool (!t)))) s') Er st) : wpAny (model prog w) B (Builtin.«object.__ne__» ⟨[.ref y, b], []⟩) R Er st := by
  have mid : wpAny (model prog w) B (callSpecialIfBound? (.ref y) "__eq__" [b]) (fun r s' => ∃ t, r = some (.bool t) ∧ R (.done (.ret (.bool (!t)))) s') Er st :=
    PySem.W.ifBound_K KX J c.eq.at_ c.eq.fn (wpAny_mono h (fun v s' ⟨t, e, z⟩ => ⟨t, by rw [e], z⟩) fun _ _ z => z)
  unfold Builtin.«object.__ne__»
  repeat (first
    | with_reducible refine wpAny_cRoomFor hu ?_
    | (refine wpAny_bind (m := callSpecialIfBound? (.ref y) (Str.ofString "__eq__") [b]) (wpAny_mono mid (fun r s' hr => by
        obtain ⟨t, rfl, hq⟩ := hr
        repeat (first | exact hq | exact wpAny_pure hq | exact wpAny_truthy_bool hq | (refine wpAny_bind (m := truthy (.bool _)) (wpAny_truthy_bool ?_)) | wp_step)) fun _ _ e => e))
    | wp_step)
theorem ne_rich {tb : Value} {R : Value → Shared → Prop} (hu : B.units + 1 < cLine) (KX : K.In st.heap) (J : PySem.W.InstAt st.heap y oy C dy) (ht : PySem.W.Looks (model prog w) st.heap (typeOf b) tb) (hn : PySem.W.notFirst K C tb = true) (c : EqC K C f)
    (h : wpAny (model prog w) B.in1 (call (.ref f) [.ref y, b]) (fun v s' => ∃ t, v = .bool t ∧ R (.bool (!t)) s') Er st) : wpAny (model prog w) B (richCompare .NotEq (.ref y) b) R Er st := by
  have one : wpAny (model prog w) B (tryCompare (.ref y) (cmpInfo .NotEq).2.1 b) (fun r s' => ∃ t, r = some (.bool t) ∧ R (.bool t) s') Er st := by
    unfold tryCompare
    refine wpAny_bind (ne_bound KX J c (wpAny_call (codeAny_call_builtin F.cmp_object.ne.plain F.cmpEntry_ne
      (PySem.W.check_slot F.cmpKind_ne F.cmpSplit_ne (J.type.andThen (PySem.W.looks_mroIn KX c.ob)) (F.cmpArgs_ne _ _) (ne_entry (B := B.in1) hu KX J c (wpAny_mono h (fun v s' hv => ?_) fun _ _ e => e))))))
    obtain ⟨t, rfl, hq⟩ := hv
    refine ⟨t, rfl, ?_⟩
    first | exact wpAny_pure ⟨_, rfl, hq⟩ | exact wpAny_pure (wpAny_pure ⟨_, rfl, hq⟩)
  unfold richCompare
  simp only [oneThing_ref]
  refine wpAny_holding ?_
  refine wpAny_bind (wpAny_cRoomFor (Nat.lt_of_succ_lt hu) ?_)
  refine wpAny_bind (J.type.here ?_)
  refine wpAny_bind (ht.here ?_)
  split
  · rename_i q
    have e : PySem.W.subIn K tb (.ref C) = some false := by
      rcases Bool.or_eq_true_iff.mp hn with e | e
      · rw [beq_iff_eq.mp e] at q; simp at q
      · exact beq_iff_eq.mp e
    refine wpAny_bind ((PySem.W.looks_subIn KX e).here ?_)
    simp only [Bool.false_eq_true, if_false]
    refine wpAny_bind (wpAny_mono one (fun r s' ⟨t, e, z⟩ => ?_) fun _ _ e => e)
    subst e
    exact wpAny_pure z
  · refine wpAny_bind (wpAny_pure ?_)
    simp only [Bool.false_eq_true, if_false]
    refine wpAny_bind (wpAny_mono one (fun r s' ⟨t, e, z⟩ => ?_) fun _ _ e => e)
    subst e
    exact wpAny_pure z
end
section
variable {X : Cx} {W : WW} {a b : Expr} {pos : Pos} {C ff : Addr} {k : Nat} {fd : FuncData} {qs : List Str} {sp : Sp}
/-- on data -/
def mEqI (neg : Bool) (C : Addr) (F : FD) (ma mb : M D) : M D := ma.bind fun x => mb.bind fun y => match x, y with
  | .ins C1 fs, .ins C2 gs => if C1 = C ∧ C2 = C then (liftC (F [.ins C fs, .ins C gs])).bind fun v => (match v with
    | .bl t => ret (.bl (bif neg then !t else t))
    | _ => bad) else bad
  | _, _ => bad
@[simp] theorem ev_eqI {neg : Bool} {F : FD} {ma mb : M D} {g : G} {Q : D → G → Prop} : Ev (mEqI neg C F ma mb) g Q ↔ Ev ma g fun x g1 => Ev mb g1 fun y g2 => ∃ fs gs, x = .ins C fs ∧ y = .ins C gs ∧ ∃ t c', F [.ins C fs, .ins C gs] g2.c = some (.bl t, c') ∧ Q (.bl (bif neg then !t else t)) ⟨g2.s, c'⟩ := by
  unfold mEqI
  simp only [ev_bind]
  refine ⟨fun h => h.mono fun x g1 q => q.mono fun y g2 z => ?_, fun h => h.mono fun x g1 q => q.mono fun y g2 ⟨fs, gs, e1, e2, t, c', e3, z⟩ => ?_⟩
  · cases x <;> first | exact (ev_bad.mp z).elim | skip
    cases y <;> first | exact (ev_bad.mp z).elim | skip
    rename_i C1 fs C2 gs
    dsimp only at z
    rw [ev_ite] at z
    split at z
    · rename_i hC
      obtain ⟨e1, e2⟩ := hC
      subst e1 e2
      refine ⟨fs, gs, rfl, rfl, ?_⟩
      obtain ⟨d, c', e, z⟩ := ev_liftC.mp (ev_bind.mp z)
      cases d <;> first | exact (ev_bad.mp z).elim | skip
      exact ⟨_, c', e, ev_ret.mp z⟩
    · exact (ev_bad.mp z).elim
  · subst e1 e2
    dsimp only
    rw [if_pos ⟨rfl, rfl⟩]
    exact ev_bind.mpr (ev_liftC.mpr ⟨_, _, e3, ev_ret.mpr z⟩)
end
end Mo
set_option Elab.async false
set_option linter.all false
set_option maxRecDepth 100000
set_option maxHeartbeats 4000000
/-! Mo: {(k, ..): v, ..}, a dict display whose keys are tuples. -/
namespace Mo
open PySem PySem.Spec PySem.Calls L2 PyProof.Rows
open Lp (FnG okN callG)
section
variable {X : Cx} {W : WW} {e a b c : Expr} {es : List Expr} {pos ps : Pos}
def asTK : D → Option (List Key)
  | .tup ds => asKeys ds
  | _ => none
def mPairsT (mk mv : M D) (ms : M (List (List Key × D))) : M (List (List Key × D)) := mk.bind fun k => mv.bind fun v => ms.bind fun r => lift ((asTK k).map fun kk => (kk, v) :: r)
def putsD (acc : List (List Key × D)) (more : List (List Key × D)) : List (List Key × D) := more.foldl (fun acc kv => putD acc kv.1 kv.2) acc
def mDispT (ms : M (List (List Key × D))) : M O := ms.bind fun es => if es.length ≤ 15 then ret (.t (putsD [] es)) else bad
@[simp] theorem ev_pairsT {mk mv : M D} {ms : M (List (List Key × D))} {g : G} {Q : List (List Key × D) → G → Prop} : Ev (mPairsT mk mv ms) g Q ↔ Ev mk g fun k g1 => Ev mv g1 fun v g2 => Ev ms g2 fun r g3 => ∃ kk, asTK k = some kk ∧ Q ((kk, v) :: r) g3 := by
  unfold mPairsT
  simp only [ev_bind]
  refine ⟨fun h => h.mono fun k g1 q => q.mono fun v g2 z => z.mono fun r g3 y => ?_, fun h => h.mono fun k g1 q => q.mono fun v g2 z => z.mono fun r g3 ⟨kk, e, y⟩ => ?_⟩
  · cases e : asTK k with
    | none =>
      rw [e] at y
      obtain ⟨_, _, z, _⟩ := y
      cases z
    | some kk =>
      rw [e] at y
      exact ⟨kk, rfl, ev_lift_some.mp y⟩
  · rw [e]
    exact ev_lift_some.mpr y
@[simp] theorem ev_dispT {ms : M (List (List Key × D))} {g : G} {Q : O → G → Prop} : Ev (mDispT ms) g Q ↔ Ev ms g fun es g1 => es.length ≤ 15 ∧ Q (.t (putsD [] es)) g1 := by
  unfold mDispT
  simp only [ev_bind]
  refine ⟨fun h => h.mono fun es g1 q => ?_, fun h => h.mono fun es g1 ⟨e, q⟩ => ?_⟩
  · rw [ev_ite] at q
    split at q
    · rename_i e
      exact ⟨e, ev_ret.mp q⟩
    · exact (ev_bad.mp q).elim
  · rw [if_pos e]
    exact ev_ret.mpr q
end
end Mo
set_option Elab.async false
set_option linter.all false
set_option maxRecDepth 100000
set_option maxHeartbeats 4000000
/-! Mo: y = {k: v for ..} on one line. -/
namespace Mo
open PySem PySem.Spec PySem.Calls L2 PyProof.Rows
end Mo
set_option Elab.async false
set_option linter.all false
set_option maxRecDepth 100000
set_option maxHeartbeats 4000000
/-! Mo: == of own classes as a test; list * int, text * int; xs[i] = v of an own list. -/
namespace L2
open PySem PySem.Spec PyProof.Rows
theorem list_times_any (l : Addr) (its : Array Value) (n : Nat) (sl : Array (Option Value)) (k : Int) (t : Tok) (h0 : ¬(!Builtin.List.listFitsIndex k) = true) (h1 : ¬its.size * k.toNat > (2 ^ 63 - 1) / 8) (h2 : ¬Builtin.List.listTooLong (its.size * k.toNat) = true) :
    Meets (Builtin.«list.__mul__» ⟨[.ref l, .int k t], []⟩) (fun _ R s => s.heap.get? l = some { cls := .type "list", dict := none, data := .seq its n, slots := sl } ∧ R (.ok (.ret (Value.ref s.heap.objs.size))) { s with heap := s.heap.push { cls := Value.type "list", data := Data.seq (List.foldl (fun a b => a ++ b) #[] (List.replicate (if its.isEmpty = true then 0 else k.toNat) its)) }, toks := s.toks }) :=
  .of_wp fun prog w A R s h => by
    obtain ⟨hp, g, d, tk, os⟩ := s
    obtain ⟨hl, h⟩ := h
    have hz := PySem.AutoListH.joined_fits h2
    wp_walk using wpAny_loadPart' hl
    refine wpAny_ite_false (decide_eq_false (Nat.not_lt.mpr hz)) ?_
    wp_walk using wpAny_loadPart' hl
    exact ⟨_, rfl, h⟩
theorem int_rtimes_any (i : Int) (t : Tok) (l : Addr) (its : Array Value) (n : Nat) (sl : Array (Option Value)) :
    Meets (Builtin.«int.__rmul__» ⟨[.int i t, .ref l], []⟩) (fun _ R s => s.heap.get? l = some { cls := .type "list", dict := none, data := .seq its n, slots := sl } ∧ R (.ok (.ret Value.notImplemented)) s) :=
  .of_wp fun prog w A R s h => by
    obtain ⟨hp, g, d, tk, os⟩ := s
    obtain ⟨hl, h⟩ := h
    wp_walk using wpAny_loadPart' hl
    exact ⟨_, rfl, h⟩
def rTimesS (K : PySem.W.Frag) : R2 := fun x y H Q => ∃ l k xs, x = .ref l ∧ y = .int k ∧ SqL K H l xs ∧ 0 ≤ k ∧ k < 2 ^ 40 ∧ xs.length * k.toNat ≤ sizeLine ∧ ∀ p, H p = none → Q (.ref p) (upd H p (.lst (List.replicate k.toNat xs).flatten))
theorem op_timesS {X : Cx} : OpR X (binaryOp .Mult) (rTimesS X.K) := by
  intro pins s σ H x y v u Q I rx ry h
  obtain ⟨l, k, xs, rfl, rfl, hH, h1, h2, hz, q⟩ := h
  cases rx
  obtain ⟨t, rfl⟩ := ry
  obtain ⟨its, r, ⟨o1, n1, e1, c1, d1, s1⟩, hz1⟩ := I.list hH
  have hl := r.length
  obtain ⟨oc, od, oda, osl⟩ := o1
  dsimp only at c1 d1 s1
  subst c1 d1 s1
  have hlen : its.toArray.size * k.toNat ≤ sizeLine := by rw [List.size_toArray, ← hl]; exact hz
  have hcap : ¬ its.toArray.size * k.toNat > (2 ^ 63 - 1) / 8 := by
    have : (sizeLine : Nat) ≤ (2 ^ 63 - 1) / 8 := by decide
    omega
  have hfit : ¬ (!Builtin.List.listFitsIndex k) = true := by
    rw [fitsIndex_both (by omega) (by omega)]
    exact Bool.false_ne_true
  have hlong : ¬ Builtin.List.listTooLong (its.toArray.size * k.toNat) = true := by
    rw [notLongL hlen]
    exact Bool.false_ne_true
  have f0 : ∀ m : Nat, List.foldl (fun a b => a ++ b) #[] (List.replicate m its.toArray) = (List.replicate m its).flatten.toArray := fun m => by
    have := foldl_rep its m []
    rwa [List.nil_append] at this
  have hnew : List.foldl (fun a b => a ++ b) #[] (List.replicate (if its.toArray.isEmpty = true then 0 else k.toNat) its.toArray) = (List.replicate k.toNat its).flatten.toArray := by
    rw [f0]
    cases its with
    | nil => simp
    | cons a r' => rw [if_neg (by simp)]
  have ob : s.TypeIs (.ref l) "list" := ⟨_, e1, rfl⟩
  refine wpAny_binaryOp_repeat_ref (T := "list") (U := "int") (by decide) ob (fun z => typeIs_int z k t) noFill_list_mul F.fills_int_mul F.slot_int_rmul repeat_list F.slot_int_index.lookup
    (call_meets F.slot_int_rmul (typeIs_int s k t) F.entry_int_rmul (F.args_int_rmul_2 _ _) (int_rtimes_any k t l its.toArray n1 osl)
      ⟨e1, rfl, ⟨_, e1, rfl⟩, call_meets F.slot_list_mul (show Shared.TypeIs _ (.ref l) "list" from ⟨_, e1, rfl⟩) F.entry_list_mul (F.args_list_mul_2 _ _) (list_times_any l its.toArray n1 osl k t hfit hcap hlong) ⟨e1, ?_⟩⟩)
  rw [hnew]
  exact ⟨.ref _, _, I.lnew (t' := s.toks) (r.rep k.toNat) (by rw [PyProof.Rows.lm_len_rep_flat, Nat.mul_comm]; exact hz), rfl, q _ I.fresh⟩
end L2
namespace Mo
open PySem PySem.Spec PySem.Calls L2 PyProof.Rows
open Lp (FnG)
section
variable {X : Cx} {W : WW} {a b e : Expr} {es : List Expr} {pos ps : Pos} {C ff : Addr} {k : Nat} {fd : FuncData} {qs : List Str} {sp : Sp}
/-! ### == of own classes, as a test -/
def mtEqI (neg : Bool) (C : Addr) (F : FD) (ma mb : M D) : M Bool := ma.bind fun x => mb.bind fun y => match x, y with
  | .ins C1 fs, .ins C2 gs => if C1 = C ∧ C2 = C then (liftC (F [.ins C fs, .ins C gs])).bind fun v => (match v with
    | .bl t => ret (bif neg then !t else t)
    | _ => bad) else bad
  | _, _ => bad
@[simp] theorem ev_teqI {neg : Bool} {F : FD} {ma mb : M D} {g : G} {Q : Bool → G → Prop} : Ev (mtEqI neg C F ma mb) g Q ↔ Ev ma g fun x g1 => Ev mb g1 fun y g2 => ∃ fs gs, x = .ins C fs ∧ y = .ins C gs ∧ ∃ t c', F [.ins C fs, .ins C gs] g2.c = some (.bl t, c') ∧ Q (bif neg then !t else t) ⟨g2.s, c'⟩ := by
  unfold mtEqI
  simp only [ev_bind]
  refine ⟨fun h => h.mono fun x g1 q => q.mono fun y g2 z => ?_, fun h => h.mono fun x g1 q => q.mono fun y g2 ⟨fs, gs, e1, e2, t, c', e3, z⟩ => ?_⟩
  · cases x <;> first | exact (ev_bad.mp z).elim | skip
    cases y <;> first | exact (ev_bad.mp z).elim | skip
    rename_i C1 fs C2 gs
    dsimp only at z
    rw [ev_ite] at z
    split at z
    · rename_i hC
      obtain ⟨e1, e2⟩ := hC
      subst e1 e2
      refine ⟨fs, gs, rfl, rfl, ?_⟩
      obtain ⟨d, c', e, z⟩ := ev_liftC.mp (ev_bind.mp z)
      cases d <;> first | exact (ev_bad.mp z).elim | skip
      exact ⟨_, c', e, ev_ret.mp z⟩
    · exact (ev_bad.mp z).elim
  · subst e1 e2
    dsimp only
    rw [if_pos ⟨rfl, rfl⟩]
    exact ev_bind.mpr (ev_liftC.mpr ⟨_, _, e3, ev_ret.mpr z⟩)
/-! ### list * number, text * number -/
def fTimesL : D → D → Option O
  | .lst xs, .int k => if 0 ≤ k ∧ k < 2 ^ 40 ∧ xs.length * k.toNat ≤ sizeLine then some (.l (List.replicate k.toNat xs).flatten) else none
  | _, _ => none
theorem reps_rep {K : PySem.W.Frag} {H : Hp} {vs : List V} {ds : List D} (h : Reps K H vs ds) : ∀ n : Nat, Reps K H (List.replicate n vs).flatten (List.replicate n ds).flatten
  | 0 => .nil
  | n + 1 => by
    rw [List.replicate_succ, List.replicate_succ, List.flatten_cons, List.flatten_cons]
    exact h.app (reps_rep h n)
theorem eo_timesL {ma mb : M D} (ha : EF X W a ma) (hb : EF X W b mb) : EO X W (.BinOp a .Mult b pos) (mBinO fTimesL ma mb) := fun J p g σ H R0 r hm Q hp =>
  of_pe (pe_op op_timesS semE semE) (ha.then R0 hm hp fun x g1 p1 H1 v ad1 R1 rv hm1 hp1 => hb.then R1 hm1 hp1 fun y g2 p2 H2 w ad2 R2 rw' hm2 hp2 => by
    obtain ⟨z, hz, hq⟩ := post_liftO hm2 hp2 (ad1.trans ad2)
    unfold fTimesL at hz
    split at hz
    · split at hz
      · rename_i xs k hl
        cases hz
        obtain ⟨A, vs, rfl, s, r⟩ := rep_lst (rv.le ad2.le)
        cases rep_int rw'
        refine ⟨A, k, vs, rfl, rfl, sl_of s, hl.1, hl.2.1, by rw [r.len]; exact hl.2.2, fun q hq' => ?_⟩
        obtain ⟨R3, ad3, m3, j3, n3, le3⟩ := R2.hide (o := .lst (List.replicate k.toNat vs).flatten) hq'
        exact hq _ _ ad3 R3 q m3 hq' n3 ⟨_, upd_same, (reps_rep r k.toNat).le le3⟩
      · cases hz
    · cases hz)
def uTimesT : D → D → Option D
  | .str z, .int k => if 0 ≤ k ∧ k < 2 ^ 40 ∧ z.length * k.toNat ≤ 1000000 then some (.str (Txt.mul z k)) else none
  | _, _ => none
end
/-! ### xs[i] = v, xs the def's own list -/
section
variable {X : Cx} {W : WW} {b e : Expr} {pos : Pos}
def mLPut (i : Nat) (mk mv : M D) : M Oc := mv.bind fun v => onO i fun _ => mk.bind fun k => onO i fun o g => match o, k with
  | .l xs, .int n => (match ixN xs.length n with
    | some j => some (.ok .nx (g.set i (.o (.l (xs.set j v)))))
    | none => none)
  | _, _ => none
theorem s_lput {y : Str} {py ps : Pos} {mk mv : M D} (i : Nat) (hk : EF X W b mk) (hv : EF X W e mv) (hN : X.N[i]? = some y := by rfl) (hvis : Vis X.env.scope y := by first | exact Or.inl rfl | exact Or.inr (Or.inl rfl) | exact Or.inr (Or.inr rfl)) (hd : (y == ("__debug__" : Str)) = false := by decide) (hcd : (y == ("__classdict__" : Str)) = false := by decide)
    (h1 : swapsWithSole [.Subscript (.Name y py) b ps] e pos.line X.env = pure false := by rfl) (h2 : swappedStores [.Subscript (.Name y py) b ps] e X.env = pure none := by rfl)
    (h3 : (assignEach [.Subscript (.Name y py) b ps] X.env).map (·.2) = [assign (.Subscript (.Name y py) b ps) X.env] := by rfl) (h4 : ∀ v, assign (.Subscript (.Name y py) b ps) X.env v = (do
      let ov ← holding [v] (eval (.Name y py) X.env)
      let iv ← holding [v, ov] (eval b X.env)
      standAt ps
      holding [v, ov, iv] (setItem ov iv v)
      release [v, ov, iv] []) := by intro _; rfl) :
    SS X W (.Assign [.Subscript (.Name y py) b ps] e pos) (mLPut i mk mv) := fun J p g σ H R0 r hm Dd hp => by
  obtain ⟨r1, e1, hq⟩ := post_s R0 hm hp
  refine of_ps (ps_asg semE (pg_sub (pv i hN hvis hd hcd) semE set_list h4) h1 h2 h3) (hv J p g σ H R0 r1 e1 _ (hq _ fun dv g1 p1 H1 er ad R1 hk1 hp1 v rv => ?_))
  obtain ⟨o0, h0, hk1⟩ := onO_some hk1
  obtain ⟨q, h1, _⟩ := R1.so i _ h0
  refine ⟨_, h1, ?_⟩
  obtain ⟨r2, e2, hq2⟩ := post_s R1 hk1 hp1
  refine hk J p1 g1 σ H1 R1 r2 e2 _ (hq2 _ fun kd g2 p2 H2 er2 ad2 R2 hk2 hp2 w rw' => ?_)
  obtain ⟨o, h2, hk2⟩ := onO_some hk2
  obtain ⟨q', h3, h4, h5, h6⟩ := R2.so i _ h2
  rw [h1] at h3
  cases h3
  have rv2 := rv.le ad2.le
  split at hk2
  · rename_i xs n hkk
    split at hk2
    · rename_i j hj
      cases hk2
      obtain ⟨vs, h7, h8⟩ := h6
      cases rep_int rw'
      obtain ⟨R3, ad3⟩ := R2.put (u := .lst (vs.set j v)) (o' := .l (xs.set j dv)) h2 h1 ⟨_, upd_same, Reps.put rv2 h8 j⟩
      exact ⟨q, vs, n, j, rfl, rfl, h7, by rw [h8.len]; exact hj, hp2 σ p2 _ (ad3.as R2) R3⟩
    · cases hk2
  · cases hk2
end
end Mo
set_option Elab.async false
set_option linter.all false
set_option maxRecDepth 100000
set_option maxHeartbeats 4000000
/-! Mo: == of two dicts whose keys are tuples and whose values are numbers. -/
namespace L2
open PySem PySem.Spec PyProof.Rows
end L2
namespace Mo
open PySem PySem.Spec PySem.Calls L2 PyProof.Rows
end Mo
set_option Elab.async false
set_option linter.all false
set_option maxRecDepth 100000
set_option maxHeartbeats 4000000
/-! Mo: zip(e, text), e a list or a tuple. -/
namespace Mo
open PySem PySem.Spec L2
open PyProof.Rows hiding St
section
variable {P : Program} {w : World} {K : PySem.W.Frag}
theorem si_keep {h h' : Heap} {it : Addr} {ty : String} {x : Str} {t : Tok} {i : Nat} (z : h.IsStrIter it ty x t i) (kp : ∀ o, h.get? it = some o → h'.get? it = some o) : h'.IsStrIter it ty x t i := by
  obtain ⟨o, e, r⟩ := z
  exact ⟨o, kp o e, r⟩
theorem si_obj {h : Heap} {it : Addr} {ty : String} {x : Str} {t : Tok} {i : Nat} (z : h.IsStrIter it ty x t i) : ∃ o, h.get? it = some o ∧ ∀ v, o.data ≠ .cell v := by
  obtain ⟨o, e, _, d⟩ := z
  exact ⟨o, e, fun v q => by rw [d] at q; cases q⟩
end
def chV (x : Str) : List V := x.cps.toList.map fun c => V.str ⟨#[c]⟩
theorem chV_at {x : Str} {i : Nat} {c : Nat} (h : x.cps[i]? = some c) : (chV x)[i]? = some (.str ⟨#[c]⟩) := by
  unfold chV
  rw [List.getElem?_map, Array.getElem?_toList, h]
  rfl
section
variable {X : Cx} {W : WW} {a b : Expr} {pos ps : Pos}
def chD (x : Str) : List D := x.cps.toList.map fun c => D.str ⟨#[c]⟩
theorem reps_ch {K : PySem.W.Frag} {H : Hp} (x : Str) : Reps K H (chV x) (chD x) := by
  unfold chV chD
  generalize x.cps.toList = l
  induction l with
  | nil => exact .nil
  | cons c r ih => exact .cons (.str _) ih
end
end Mo
set_option Elab.async false
set_option linter.all false
set_option maxRecDepth 100000
set_option maxHeartbeats 4000000
/-! Mo: list(d) of a dict with tuples for keys. -/
namespace Mo
open PySem PySem.Spec PySem.Calls L2 PyProof.Rows
end Mo
set_option Elab.async false
set_option linter.all false
set_option maxRecDepth 100000
set_option maxHeartbeats 4000000
/-! Mo: dict(xs) of a list of pairs whose keys are tuples. -/
namespace Mo
open PySem PySem.Spec PySem.Calls L2 PyProof.Rows
end Mo
set_option Elab.async false
set_option linter.all false
set_option maxRecDepth 100000
set_option maxHeartbeats 4000000
/-! Mo: list(d), d the def's own dict with tuples for keys. -/
namespace Mo
open PySem PySem.Spec PySem.Calls L2 PyProof.Rows
end Mo
set_option Elab.async false
set_option linter.all false
set_option maxRecDepth 100000
set_option maxHeartbeats 4000000
/-! Mo: len(d) of a dict with tuples for keys. -/
namespace Mo
open PySem PySem.Spec PySem.Calls L2 PyProof.Rows
end Mo
set_option Elab.async false
set_option linter.all false
set_option maxRecDepth 100000
set_option maxHeartbeats 4000000
/-! Mo: a | b, a + b, a * b of a class with own methods for them. -/
namespace Mo
open PySem PySem.Spec PySem.Calls L2 PyProof.Rows
open Lp (FnG okN callG)
/-- what the text's class tells of an operator -/
structure BinC (K : PySem.W.Frag) (op : Operator) (C f : Addr) : Prop where
  sp : SpecM K C (PySem.dunder op.info.2) f
  own : PySem.W.selfFirst K C = true
section
variable {X : Cx} {W : WW} {a b : Expr} {pos : Pos} {C ff : Addr} {k : Nat} {fd : FuncData} {qs : List Str} {sp : Sp} {op : Operator}
def rOwnBin (C : Addr) (sp : Sp) : R2 := fun x y H Q => ∃ (p q dx dy : Addr) (fs gs : List (Str × V)), x = .ref p ∧ y = .ref q ∧ H p = some (.ins C dx fs) ∧ H q = some (.ins C dy gs) ∧
  sp [.ref p, .ref q] H Q fun _ _ _ => False
theorem own_bin_call {pins : List (Addr × Obj)} {σ : L2.St} {H : Hp} {s : Shared} {p q : Addr} {Q : VK} {B : Around} {E' : Value → Shared → Prop} (F : FnG X.prog X.w X.K X.mg X.base CX0 k ff fd qs sp) (hr : Room k B) (hgd : B.guards = some []) (e0 : Env0 X.prog X.w X.K X.mg X.base B X.stack s H) (hb : Binds X.K fd qs [])
    (I : Inv X pins σ H s) (h : sp [.ref p, .ref q] H Q fun _ _ _ => False) : wpAny (model X.prog X.w) B (call (.ref ff) [.ref p, .ref q]) (PySem.W.CmpBack (EP X pins σ Q)) E' s := by
  have rv : Vals [V.ref p, V.ref q] [Value.ref p, Value.ref q] := .cons rfl (.cons rfl .nil)
  have bt := hb s [.ref p, .ref q] I.kIn (by rw [List.append_nil, ← rv.length]; exact F.len _ _ _ _ h)
  rw [List.append_nil] at bt
  refine wpAny_call (codeAny_mono (F.go B X.stack s H ⟨[.ref p, .ref q], []⟩ _ _ _ _ hr hgd e0 bt rv h) fun o s2 w2 => ?_)
  match o, w2 with
  | .error e, w2 => exact False.elim (pass0 (X := X.nox) pins σ H s e s2 (I.wish _) w2)
  | .ok (.ret u), w2 =>
    obtain ⟨v, H', I3, rv3, q3⟩ := I.after w2
    cases u <;> first | exact ⟨v, H', I3, rv3, q3⟩ | (exfalso; cases v <;> first | (cases rv3; done) | (obtain ⟨_, z⟩ := rv3; cases z))
theorem op_own_bin (c : BinC X.K op C ff) (F : FnG X.prog X.w X.K X.mg X.base CX0 k ff fd qs sp) (hr : Room (k + 1) X.A) (hgd : X.A.guards = some []) (hb : Binds X.K fd qs []) : OpR X (binaryOp op) (rOwnBin C sp) := by
  intro pins s σ H x y v u Q I rx ry hq
  obtain ⟨p, q, dx, dy, fs, gs, rfl, rfl, hp, hq', h⟩ := hq
  cases rx
  cases ry
  obtain ⟨mA, O, _⟩ := ins_get I.hok hp
  obtain ⟨mB, O', _⟩ := ins_get I.hok hq'
  obtain ⟨od, J, _⟩ := O.look
  obtain ⟨od', J', _⟩ := O'.look
  obtain ⟨mm, hF⟩ := I.fr
  exact PySem.W.binop_K hF I.ok.mod.kin J J'.type c.own c.sp.at_ c.sp.fn (own_bin_call F (hr.mono (Nat.le_succ _)) hgd I.env0 hb I h)
/-- on data -/
def mBinI (C : Addr) (F : FD) (ma mb : M D) : M D := ma.bind fun x => mb.bind fun y => match x, y with
  | .ins C1 fs, .ins C2 gs => if C1 = C ∧ C2 = C then liftC (F [.ins C fs, .ins C gs]) else bad
  | _, _ => bad
theorem own_bin_data {F : FD} {ma mb : M D} (ho : OpR X (binaryOp op) (rOwnBin C (spM X.K false F))) (ha : EF X W a ma) (hb : EF X W b mb) : EF X W (.BinOp a op b pos) (mBinI C F ma mb) := fun J p g σ H R0 r hm' Q hp =>
  of_pe (pe_op ho semE semE) (ha.then R0 hm' hp fun x g1 p1 H1 v ad1 R1 rv hm1 hp1 => hb.then R1 hm1 hp1 fun y g2 p2 H2 w ad2 R2 rw' hm2 hp2 => by
    cases x <;> first | (cases hm2; done) | skip
    cases y <;> first | (cases hm2; done) | skip
    rename_i C1 fs C2 gs
    dsimp only at hm2
    split at hm2
    · rename_i hC
      obtain ⟨e1, e2⟩ := hC
      subst e1 e2
      have rv2 := rv.le ad2.le
      obtain ⟨a1, dx, vs, rfl, h1, h2⟩ := rep_ins rv2
      obtain ⟨a2, dy, us, rfl, h3, h4⟩ := rep_ins rw'
      unfold liftC at hm2
      cases e1 : F [.ins C2 fs, .ins C2 gs] g2.c with
      | none => rw [e1] at hm2; cases hm2
      | some z =>
        obtain ⟨d, c'⟩ := z
        rw [e1] at hm2
        refine ⟨a1, a2, dx, dy, vs, us, rfl, rfl, del_of h1, del_of h3, p2, g2.c, [.ins C2 fs, .ins C2 gs], [.ref a1, .ref a2], d, c', rfl, R2.hd, .cons rv2 (.cons rw' .nil), e1, fun v J2 af rv3 => ?_⟩
        obtain ⟨R3, ad3⟩ := R2.after af
        cases hm2
        exact hp2 p2 J2 ad3 R3 _ rv3
    · cases hm2)
theorem e_binI {F : FD} {ma mb : M D} (c : BinC X.K op C ff) (hF : FnG X.prog X.w X.K X.mg X.base CX0 k ff fd qs (spM X.K false F)) (hr : Room (k + 1) X.A) (hgd : X.A.guards = some []) (hq : Binds X.K fd qs []) (ha : EF X W a ma) (hb : EF X W b mb) :
    EF X W (.BinOp a op b pos) (mBinI C F ma mb) := own_bin_data (op_own_bin c hF hr hgd hq) ha hb
end
theorem ev_binI {C : Addr} {F : FD} {ma mb : M D} {g : G} {Q : D → G → Prop} (h : Ev ma g fun x g1 => Ev mb g1 fun y g2 => ∃ fs gs, x = .ins C fs ∧ y = .ins C gs ∧ ∃ v c', F [.ins C fs, .ins C gs] g2.c = some (v, c') ∧ Q v ⟨g2.s, c'⟩) : Ev (mBinI C F ma mb) g Q := by
  unfold mBinI
  refine ev_bind.mpr (h.mono fun x g1 h => ev_bind.mpr (h.mono fun y g2 h => ?_))
  obtain ⟨fs, gs, rfl, rfl, v, c', e, q⟩ := h
  show Ev (if C = C ∧ C = C then liftC (F [.ins C fs, .ins C gs]) else bad) g2 Q
  rw [if_pos ⟨rfl, rfl⟩]
  exact ev_liftC.mpr ⟨v, c', e, q⟩
end Mo
set_option Elab.async false
set_option linter.all false
set_option maxRecDepth 100000
set_option maxHeartbeats 4000000
/-! Mo: return y, y the def's own thing, given away. -/
namespace Mo
open PySem PySem.Spec PySem.Calls L2 PyProof.Rows
end Mo
set_option Elab.async false
set_option linter.all false
set_option maxRecDepth 100000
set_option maxHeartbeats 4000000
/-! Mo: a set of texts as a value: set(xs), sorted(s), len(s); a << b, a | b of numbers. -/
namespace Mo
open PySem PySem.Spec PySem.Calls L2 PyProof.Rows
open Lp
section
variable {X : Cx} {W : WW} {a b : Expr} {pos : Pos}
def uShl : D → D → Option D := fI (fun i j => decide (0 ≤ j ∧ j ≤ 1000000 ∧ i.natAbs < 2 ^ 64)) fun i j => .int (i * 2 ^ j.toNat)
def uOr : D → D → Option D := fI0 fun i j => .int (Builtin.bitOr i j)
def uAnd : D → D → Option D := fI0 fun i j => .int (Builtin.bitAnd i j)
theorem e_shl {ma mb : M D} (ha : EF X W a ma) (hb : EF X W b mb) : EF X W (.BinOp a .LShift b pos) (mBin uShl ma mb) := e_bin op_shl (os_I fun i j h => show 0 ≤ j ∧ j ≤ 1000000 ∧ i.natAbs < 2 ^ 64 from of_decide_eq_true h) ha hb
theorem e_bor {ma mb : M D} (ha : EF X W a ma) (hb : EF X W b mb) : EF X W (.BinOp a .BitOr b pos) (mBin uOr ma mb) := e_bin op_or os_I0 ha hb
theorem e_band {ma mb : M D} (ha : EF X W a ma) (hb : EF X W b mb) : EF X W (.BinOp a .BitAnd b pos) (mBin uAnd ma mb) := e_bin op_and os_I0 ha hb
end
end Mo
namespace Mo
open PySem PySem.Spec PySem.Calls L2 PyProof.Rows
open Lp
end Mo
set_option Elab.async false
set_option linter.all false
set_option maxRecDepth 100000
set_option maxHeartbeats 4000000
/-! Mo: list comprehensions with two for; what the second goes over is a list, a tuple or a text. -/
namespace Mo
open PySem PySem.Spec L2
/-- as Ad, the slots' values may change, too -/
structure Adv (g0 : G) (σ0 : St) (p1 : Mt) (H1 : Hp) (g : G) (σ : St) (p : Mt) (H : Hp) : Prop where
  dd : p.d = p1.d
  le : Le (del p1 H1) (del p H)
  ex : ∀ a ∈ p1.o, NoSl g0 σ0 a → a ∈ p.o ∧ H a = H1 a
  sl : ∀ a, NoSl g0 σ0 a → NoSl g σ a
  th : ∀ a, H1 a ≠ none → H a ≠ none
section
variable {g0 g g' : G} {σ0 σ σ' : St} {p1 p p' : Mt} {H1 H H' : Hp} {q : Addr} {u : HO}
theorem Adv.refl : Adv g0 σ0 p1 H1 g0 σ0 p1 H1 := ⟨rfl, .refl _, fun _ h _ => ⟨h, rfl⟩, fun _ h => h, fun _ h => h⟩
theorem Adv.ad (a : Adv g0 σ0 p1 H1 g σ p H) (b : Ad g σ p H g' p' H') : Adv g0 σ0 p1 H1 g' σ p' H' := ⟨b.dd.trans a.dd, a.le.trans b.le, fun x hx n => by
    obtain ⟨h1, h2⟩ := a.ex x hx n
    obtain ⟨h3, h4⟩ := b.ex x h1 (a.sl x n)
    exact ⟨h3, h4.trans h2⟩, fun x n => b.sl x (a.sl x n), fun x n => b.th x (a.th x n)⟩
theorem Adv.wipe (a : Adv g0 σ0 p1 H1 g σ p H) (vs : List Nat) : Adv g0 σ0 p1 H1 (wipeG g vs) (L2.wipe σ vs) p H := ⟨a.dd, a.le, a.ex, fun x n => (a.sl x n).wipe vs, a.th⟩
theorem Adv.put (a : Adv g0 σ0 p1 H1 g σ p H) (hq : H1 q = none) (lv : ∀ a ∈ p1.o, H1 a ≠ none) (le : Le (del p H) (del p (upd H q u))) : Adv g0 σ0 p1 H1 g σ p (upd H q u) := ⟨a.dd, a.le.trans le, fun x hx n => by
    obtain ⟨h1, h2⟩ := a.ex x hx n
    exact ⟨h1, by rw [upd_ne fun z : x = q => lv x hx (by rw [z]; exact hq)]; exact h2⟩, a.sl, fun x n => by
    by_cases z : x = q
    · rw [z, upd_same]
      exact Option.some_ne_none _
    · rw [upd_ne z]
      exact a.th x n⟩
end
/-! ### what the inner for goes over -/
def iterS : D → Option (List D)
  | .lst ds => some ds
  | .tup ds => some ds
  | .str x => some (chars x)
  | _ => none
def mIterS (m : M D) : M (List D) := m.bind fun d => lift (iterS d)
section
variable {X : Cx} {W : WW} {it tg it1 tg1 : Expr} {pos : Pos}
def lcGo2 (vs vs1 : List Nat) (f : D → G → Option G) (mt : M Bool) (mi1 : M (List D)) (f1 : D → G → Option G) (mt1 : M Bool) (me : M D) : List D → List D → M (List D)
  | [], acc => ret acc
  | d :: ds, acc => fun g => match f d g with
    | none => none
    | some g1 => match mt g1 with
      | some (.ok true g2) => match mi1 g2 with
        | some (.ok es g3) => match lcGo vs1 f1 mt1 me es acc (wipeG g3 vs1) with
          | some (.ok acc2 g4) => lcGo2 vs vs1 f mt mi1 f1 mt1 me ds acc2 (wipeG g4 vs)
          | _ => none
        | _ => none
      | some (.ok false g2) => lcGo2 vs vs1 f mt mi1 f1 mt1 me ds acc (wipeG g2 vs)
      | _ => none
def mLc2 (vs vs1 : List Nat) (mi : M (List D)) (f : D → G → Option G) (mt : M Bool) (mi1 : M (List D)) (f1 : D → G → Option G) (mt1 : M Bool) (me : M D) : M O :=
  mi.bind fun ds g1 => if noOwn vs g1 = true then lcEnd vs g1 .l (lcGo2 vs vs1 f mt mi1 f1 mt1 me ds [] (wipeG g1 vs)) else none
end
end Mo
set_option Elab.async false
set_option linter.all false
set_option maxRecDepth 100000
set_option maxHeartbeats 4000000
/-! Mo: list(d.values()), dict(d.items()); x, y = e, f where a name is a cell. -/
namespace Mo
open PySem PySem.Spec PySem.Calls L2 PyProof.Rows
/-! ### of the def's own -/
end Mo
set_option Elab.async false
set_option linter.all false
set_option maxRecDepth 100000
set_option maxHeartbeats 4000000
/-! Mo: d != e of two dicts with plain keys and whole numbers, where they are alike. -/
namespace Mo
open PySem PySem.Spec PySem.Calls L2 PyProof.Rows
end Mo
/-! ### isinstance(e, C), C a class of one's own, e of a type that is none of it -/
namespace Mo
open PySem PySem.Spec L2
/-- the types of which no thing is a C -/
structure NotIn (K : PySem.W.Frag) (C : Addr) : Prop where
  no : ∀ n : String, n ∈ ["NoneType", "bool", "int", "str", "list", "tuple", "dict"] → PySem.W.kitOne K (.type n) (.ref C) = some false
def fIsN (C : Addr) (d : D) : Option D := (fIsC C d).or ((tyN d).map fun _ => .bl false)
def mIsN (C : Addr) (m : M D) : M D := m.bind fun d => lift (fIsN C d)
theorem tyN_in {d : D} {n : String} (h : tyN d = some n) : n ∈ ["NoneType", "bool", "int", "str", "list", "tuple", "dict"] := by
  cases d <;> simp only [tyN] at h <;> first | (cases h; done) | (cases h; decide)
def rIsDC (K : PySem.W.Frag) (C : Addr) : List V → Hp → VK → Prop := fun xs H Q => ∃ (a : Addr) (n : String) (b : Bool), xs = [.ref a, .ref C] ∧ (((∃ kvs : List (List Key × V), Rd H a (.dT kvs)) ∧ n = "dict") ∨ ((∃ ys : List V, Rd H a (.lst ys)) ∧ n = "list")) ∧ PySem.W.kitOne K (.type n) (.ref C) = some b ∧ Q (.bl b) H
theorem call_isDC {X : Cx} {C : Addr} : CallR X (.builtin "isinstance") (rIsDC X.K C) := by
  intro pins s σ H xs us Q I r h
  obtain ⟨a, n, b, rfl, hr, e, q⟩ := h
  obtain ⟨u1, u2, rfl, r1, r2⟩ := L2.vals2 r
  cases (show u1 = Value.ref a from r1)
  cases (show u2 = Value.ref C from r2)
  rcases hr with ⟨⟨kvs, hr⟩, rfl⟩ | ⟨⟨ys, hr⟩, rfl⟩
  · obtain ⟨_, _, xs, _, o, es, ep, h1, h2, _⟩ := dt_rd I.hok hr
    exact PySem.W.kia_one PySem.W.kitx_dict I.kIn ⟨o, h1, h2.1⟩ e (fun z => nomatch z) fun tk => ⟨.bl b, H, I.kept (t' := tk) fun _ _ z => z, rfl, q⟩
  · obtain ⟨z, its, n, r, e2⟩ := hr.ok I.hok
    exact PySem.W.kia_one PySem.W.kitx_list I.kIn ⟨_, e2, rfl⟩ e (fun z => nomatch z) fun tk => ⟨.bl b, H, I.kept (t' := tk) fun _ _ z => z, rfl, q⟩
@[simp] theorem ev_isN {C : Addr} {m : M D} {g : G} {Q : D → G → Prop} : Ev (mIsN C m) g Q ↔ Ev m g fun d g1 => Ev (lift (fIsN C d)) g1 Q := by
  unfold mIsN
  simp
end Mo
/-! ### len of a dict, whatever its keys -/
namespace Mo
open PySem PySem.Spec L2
end Mo
set_option Elab.async false
set_option linter.all false
set_option maxRecDepth 100000
set_option maxHeartbeats 4000000
set_option exponentiation.threshold 9000
/-! Lw, part one: what all laws have in common: the dice. -/
namespace Lw
open PySem PySem.Spec L2 Mo
/-- the dice, rolled at most N times -/
def Di (c : C3) (N : Nat) : Prop := ∃ a b n : Int, c = .l [.int a, .int b, .int n] ∧ 0 ≤ a ∧ a < 10 ^ 120 ∧ 0 ≤ b ∧ b < 10 ^ 12 ∧ 0 ≤ n ∧ n ≤ N
theorem Di.mono {c : C3} {N N' : Nat} (h : Di c N) (l : N ≤ N') : Di c N' := by
  obtain ⟨a, b, n, e, h1, h2, h3, h4, h5, h6⟩ := h
  exact ⟨a, b, n, e, h1, h2, h3, h4, h5, by omega⟩
theorem log_le {i : Int} {k : Nat} (h0 : 0 ≤ i) (h : i < 2 ^ k) (hk : 0 < k) : i.natAbs.log2 < k := by
  have : i.natAbs < 2 ^ k := by
    have e : ((2 ^ k : Nat) : Int) = 2 ^ k := by simp
    omega
  by_cases z : i.natAbs = 0
  · rw [z]
    exact hk
  · exact (Nat.log2_lt z).mpr this
def mRoll : M Oc := (seq (mIf (mT2 iGt (mIxD 0 (ret (.int 0))) (ret (.int 0))) (seq (mSet 4 (mBin uMod (mCall fInt1 (mCons (mIxD 0 (ret (.int 0))) (ret []))) (mName 1))) (seq (mIxPutD 0 0 (mBin uDiv (mIxD 0 (ret (.int 0))) (mName 1))) (seq (mRet (mName 4)) (ret .nx)))) (ret .nx)) (seq (mIxPutD 0 2 (mBin uPlus (mIxD 0 (ret (.int 2))) (ret (.int 1)))) (seq (mSet 2 (mBin uMod (mCall fInt1 (mCons (mBin uPlus (mIxD 0 (ret (.int 1))) (mBin uMul (ret (.int 7907)) (mIxD 0 (ret (.int 2))))) (ret []))) (ret (.int 2305843009213693907)))) (seq (mSet 3 (mBin uPlus (mBin uMul (mBin uMod (mCall fInt1 (mCons (mBin uPlus (mBin uMul (mName 2) (mName 2)) (mBin uMul (ret (.int 67)) (mIxD 0 (ret (.int 2))))) (ret []))) (ret (.int 2305843009213693921))) (ret (.int 6700417))) (mName 2))) (seq (mRet (mBin uMod (mCall fInt1 (mCons (mBin uDiv (mName 3) (ret (.int 32768))) (ret []))) (mName 1))) (ret .nx))))))
@[simp] theorem ix3_0 {x y z : D} : fIx (.lst [x, y, z]) (.int 0) = some x := rfl
@[simp] theorem ix3_1 {x y z : D} : fIx (.lst [x, y, z]) (.int 1) = some y := rfl
@[simp] theorem ix3_2 {x y z : D} : fIx (.lst [x, y, z]) (.int 2) = some z := rfl
theorem ixN3_0 : ixN 3 (0 : Int) = some 0 := rfl
theorem ixN3_2 : ixN 3 (2 : Int) = some 2 := rfl
/-- what a roll promises -/
def RollS (F : FD) : Prop := ∀ (c : C3) (N : Nat) (n : Int), Di c N → N ≤ 1000000 → 0 < n → n ≤ 10 ^ 60 → ∃ r c', F [.int n] c = some (.int r, c') ∧ 0 ≤ r ∧ r < n ∧ Di c' (N + 1)
theorem log_small {i : Int} (h0 : 0 ≤ i) (h : i < 10 ^ 130) : i.natAbs.log2 < 433 := log_le h0 (Int.lt_trans h (by decide)) (by decide)
theorem roll_spec : RollS (runM true 5 2 mRoll) := fun c N n ⟨a, b, k, e, a0, a1, b0, b1, k0, k1⟩ hN hn hn2 => by
  subst e
  suffices h : ∃ d c', runM true 5 2 mRoll [.int n] (.l [.int a, .int b, .int k]) = some (d, c') ∧ ∃ r, d = .int r ∧ 0 ≤ r ∧ r < n ∧ Di c' (N + 1) by
    obtain ⟨d, c', e, r, rfl, h⟩ := h
    exact ⟨r, c', e, h⟩
  refine run_ev rfl ?_
  have hm1 : ∀ {x : Int}, uMod (.int x) (.int n) = some (.int (x % n)) := uMod_int hn
  have hd1 : ∀ {x : Int}, uDiv (.int x) (.int n) = some (.int (x / n)) := uDiv_int ⟨hn, Nat.lt_trans (log_small (Int.le_of_lt hn) (Int.lt_of_le_of_lt hn2 (by decide))) (by decide)⟩
  have hm2 : ∀ {x : Int}, uMod (.int x) (.int 2305843009213693907) = some (.int (x % 2305843009213693907)) := uMod_int (by decide)
  have hm3 : ∀ {x : Int}, uMod (.int x) (.int 2305843009213693921) = some (.int (x % 2305843009213693921)) := uMod_int (by decide)
  have hd2 : ∀ {x : Int}, uDiv (.int x) (.int 32768) = some (.int (x / 32768)) := uDiv_int (by decide)
  have k2 : k + 1 < 10 ^ 130 := by omega
  have ml : ∀ {x y : Int}, 0 ≤ x → x < 10 ^ 130 → 0 ≤ y → y < 10 ^ 130 → uMul (.int x) (.int y) = some (.int (x * y)) := fun a b c d => uMul_int (by have := log_small a b; have := log_small c d; omega)
  have h1 := ml (x := 7907) (by decide) (by decide) (by omega : 0 ≤ k + 1) k2
  have h2 := ml (x := 67) (by decide) (by decide) (by omega : 0 ≤ k + 1) k2
  have r1 : ∀ x : Int, 0 ≤ x % 2305843009213693907 ∧ x % 2305843009213693907 < 2305843009213693907 := fun x => ⟨Int.emod_nonneg _ (by decide), Int.emod_lt_of_pos _ (by decide)⟩
  have r2 : ∀ x : Int, 0 ≤ x % 2305843009213693921 ∧ x % 2305843009213693921 < 2305843009213693921 := fun x => ⟨Int.emod_nonneg _ (by decide), Int.emod_lt_of_pos _ (by decide)⟩
  have h3 : ∀ {x : Int}, uMul (.int (x % 2305843009213693907)) (.int (x % 2305843009213693907)) = some (.int (x % 2305843009213693907 * (x % 2305843009213693907))) := fun {x} => ml (r1 x).1 (Int.lt_trans (r1 x).2 (by decide)) (r1 x).1 (Int.lt_trans (r1 x).2 (by decide))
  have h4 : ∀ {x : Int}, uMul (.int (x % 2305843009213693921)) (.int 6700417) = some (.int (x % 2305843009213693921 * 6700417)) := fun {x} => ml (r2 x).1 (Int.lt_trans (r2 x).2 (by decide)) (by decide) (by decide)
  simp [mRoll, ev_name_v, hm1, hd1, hm2, hm3, hd2, h1, h2, h3, h4, ixN3_0, ixN3_2]
  split
  · refine ⟨Int.emod_nonneg _ (by omega), Int.emod_lt_of_pos _ hn, a / n, b, k, rfl, Int.ediv_nonneg a0 (by omega), ?_, b0, b1, k0, by omega⟩
    exact Int.lt_of_le_of_lt (Int.ediv_le_self _ a0) a1
  · refine ⟨Int.emod_nonneg _ (by omega), Int.emod_lt_of_pos _ hn, a, b, k + 1, rfl, a0, a1, b0, b1, by omega, by omega⟩
end Lw
set_option Elab.async false
set_option linter.all false
set_option maxRecDepth 100000
set_option maxHeartbeats 4000000
set_option exponentiation.threshold 9000
/-! Lw, part two: dice made, picks, mixtures. -/
namespace Lw
open PySem PySem.Spec L2 Mo
def mDice : M Oc := (seq (mSet 2 (mIf (mT2 uLt (mName 1) (mCall fLen (mCons (mName 0) (ret [])))) (mCall fInt1 (mCons (mBin uIx (mName 0) (mName 1)) (ret []))) (mBin uPlus (mBin uMul (ret (.int 43)) (mName 1)) (ret (.int 7))))) (seq (mSet 3 (mBin uMod (mCall fAbs (mCons (mName 2) (ret []))) (mBin uPow (ret (.int 10)) (ret (.int 59))))) (seq (mSet 4 (mCall fMax2 (mCons (ret (.int 0)) (mCons (mBin uSub (mCall fAbs (mCons (mName 2) (ret []))) (mBin uPow (ret (.int 10)) (ret (.int 17)))) (ret []))))) (seq (mRetO (mLst (mCons (mBin uMod (mName 4) (mBin uMul (mBin uPow (ret (.int 10)) (ret (.int 60))) (mBin uPow (ret (.int 10)) (ret (.int 60))))) (mCons (mBin uPlus (mBin uPlus (mBin uPlus (mBin uMul (mBin uMod (mName 3) (ret (.int 2147483587))) (ret (.int 37))) (mBin uMul (ret (.int 601)) (mName 1))) (mBin uMul (ret (.int 11)) (mCall fInt1 (mCons (mBin uLt (mName 2) (ret (.int 0))) (ret []))))) (ret (.int 5))) (mCons (ret (.int 0)) (ret [])))))) (ret .nx)))))
theorem uIx_lst {xs : List D} {i : Int} (h0 : 0 ≤ i) (h1 : i < xs.length) : ∃ d, xs[i.toNat]? = some d ∧ uIx (.lst xs) (.int i) = some d := by
  have h2 : i.toNat < xs.length := by omega
  refine ⟨xs[i.toNat], List.getElem?_eq_getElem h2, ?_⟩
  show atI xs i = _
  have e := atI_nat (List.getElem?_eq_getElem h2)
  rw [Int.toNat_of_nonneg h0] at e
  exact e
theorem uPow_nat {i : Int} {j : Nat} (h : (j : Int) ≤ 1000000 ∧ i.natAbs < 2 ^ 64) : uPow (.int i) (.int (j : Int)) = some (.int (i ^ j)) := by
  show (if cPow i j = true then some (D.int (i ^ (j : Int).toNat)) else none) = _
  rw [if_pos (show cPow i j = true from decide_eq_true ⟨by omega, h.1, h.2⟩)]
  rfl
theorem pow59 : uPow (.int 10) (.int 59) = some (.int (10 ^ 59)) := uPow_nat (i := 10) (j := 59) (by decide)
theorem pow17 : uPow (.int 10) (.int 17) = some (.int (10 ^ 17)) := uPow_nat (i := 10) (j := 17) (by decide)
theorem pow60 : uPow (.int 10) (.int 60) = some (.int (10 ^ 60)) := uPow_nat (i := 10) (j := 60) (by decide)
@[simp] theorem fAbs_int {i : Int} : fAbs [.int i] = some (.int (if i < 0 then -i else i)) := rfl
@[simp] theorem fMax2_int {i j : Int} : fMax2 [.int i, .int j] = some (.int (if j > i then j else i)) := rfl
@[simp] theorem fMin2_int {i j : Int} : fMin2 [.int i, .int j] = some (.int (if j < i then j else i)) := rfl
@[simp] theorem fInt1_bl {b : Bool} : fInt1 [.bl b] = some (.int (if b then 1 else 0)) := rfl
def DiceS (F : FO) : Prop := ∀ (ns : List Int) (spot : Int) (c : C3), 0 ≤ spot → spot < 100 → ∃ o c', F [.lst (ns.map .int), .int spot] c = some (o, c') ∧ Di o 0
theorem dice_spec : DiceS (runO false 5 2 mDice) := fun ns spot c s0 s1 => by
  refine runO_ev rfl ?_
  have hm1 : ∀ {x : Int}, uMod (.int x) (.int (10 ^ 59)) = some (.int (x % 10 ^ 59)) := uMod_int (by decide)
  have hm2 : ∀ {x : Int}, uMod (.int x) (.int (10 ^ 60 * 10 ^ 60)) = some (.int (x % (10 ^ 60 * 10 ^ 60))) := uMod_int (by decide)
  have hm3 : ∀ {x : Int}, uMod (.int x) (.int 2147483587) = some (.int (x % 2147483587)) := uMod_int (by decide)
  have ml : ∀ {x y : Int}, 0 ≤ x → x < 10 ^ 130 → 0 ≤ y → y < 10 ^ 130 → uMul (.int x) (.int y) = some (.int (x * y)) := fun a b c d => uMul_int (by have := log_small a b; have := log_small c d; omega)
  have h1 : uMul (.int 43) (.int spot) = some (.int (43 * spot)) := ml (by decide) (by decide) s0 (by omega)
  have h2 : uMul (.int 601) (.int spot) = some (.int (601 * spot)) := ml (by decide) (by decide) s0 (by omega)
  have h3 : uMul (.int (10 ^ 60)) (.int (10 ^ 60)) = some (.int (10 ^ 60 * 10 ^ 60)) := ml (by decide) (by decide) (by decide) (by decide)
  have r3 : ∀ x : Int, 0 ≤ x % 2147483587 ∧ x % 2147483587 < 2147483587 := fun x => ⟨Int.emod_nonneg _ (by decide), Int.emod_lt_of_pos _ (by decide)⟩
  have h4 : ∀ {x : Int}, uMul (.int (x % 2147483587)) (.int 37) = some (.int (x % 2147483587 * 37)) := fun {x} => ml (r3 x).1 (Int.lt_trans (r3 x).2 (by decide)) (by decide) (by decide)
  have h5 : ∀ {x : Int}, uMul (.int 11) (.int (if x < 0 then 1 else 0)) = some (.int (11 * if x < 0 then 1 else 0)) := fun {x} => by
    split
    · exact ml (by decide) (by decide) (by decide) (by decide)
    · exact ml (by decide) (by decide) (by decide) (by decide)
  have fin : ∀ x : Int, Ev (seq (mSet 3 (mBin uMod (mCall fAbs (mCons (mName 2) (ret []))) (mBin uPow (ret (.int 10)) (ret (.int 59))))) (seq (mSet 4 (mCall fMax2 (mCons (ret (.int 0)) (mCons (mBin uSub (mCall fAbs (mCons (mName 2) (ret []))) (mBin uPow (ret (.int 10)) (ret (.int 17)))) (ret []))))) (seq (mRetO (mLst (mCons (mBin uMod (mName 4) (mBin uMul (mBin uPow (ret (.int 10)) (ret (.int 60))) (mBin uPow (ret (.int 10)) (ret (.int 60))))) (mCons (mBin uPlus (mBin uPlus (mBin uPlus (mBin uMul (mBin uMod (mName 3) (ret (.int 2147483587))) (ret (.int 37))) (mBin uMul (ret (.int 601)) (mName 1))) (mBin uMul (ret (.int 11)) (mCall fInt1 (mCons (mBin uLt (mName 2) (ret (.int 0))) (ret []))))) (ret (.int 5))) (mCons (ret (.int 0)) (ret [])))))) (ret .nx))))
      ⟨[.v (.lst (ns.map .int)), .v (.int spot), .v (.int x), .un, .un], c⟩ (RetO fun o _ => Di o 0) := fun x => by
    simp [ev_name_v, pow59, pow17, pow60, hm1, hm2, hm3, h2, h3, h4, h5, -Int.reducePow, -Int.reduceMul]
    refine ⟨by decide, _, _, 0, rfl, Int.emod_nonneg _ (by decide), ?_, ?_, ?_, Int.le_refl _, Int.le_refl _⟩
    · exact Int.emod_lt_of_pos _ (by decide)
    · have := (r3 ((if x < 0 then -x else x) % 10 ^ 59)).1
      split <;> omega
    · have := (r3 ((if x < 0 then -x else x) % 10 ^ 59)).2
      split <;> omega
  unfold mDice
  rw [ev_seq]
  by_cases hl : spot < ns.length
  · obtain ⟨d, e1, e2⟩ := uIx_lst (xs := ns.map .int) s0 (by rw [List.length_map]; exact hl)
    rw [List.getElem?_map] at e1
    cases e3 : ns[spot.toNat]? with
    | none => rw [e3] at e1; cases e1
    | some x =>
      rw [e3] at e1
      cases e1
      have := fin x
      simp only [ini_f, List.map_cons, List.map_nil, List.length_cons, List.length_nil]
      simp [ev_name_v, hl, e2] at this ⊢
      exact this
  · have := fin (43 * spot + 7)
    simp only [ini_f, List.map_cons, List.map_nil, List.length_cons, List.length_nil]
    simp [ev_name_v, hl, h1] at this ⊢
    exact this
end Lw
set_option Elab.async false
set_option linter.all false
set_option maxRecDepth 100000
set_option maxHeartbeats 4000000
/-! Lw, part three: picks, mixtures, some of a list. -/
namespace Lw
open PySem PySem.Spec L2 Mo
@[simp] theorem ex2 {α β : Type} {x : α} {y : β} {P : α → β → Prop} : (∃ a c, (x = a ∧ y = c) ∧ P a c) ↔ P x y := ⟨fun ⟨_, _, ⟨h1, h2⟩, p⟩ => h1 ▸ h2 ▸ p, fun p => ⟨x, y, ⟨rfl, rfl⟩, p⟩⟩
def mPick (Fr : FD) : M Oc := (seq (mRet (mBin uIx (mName 1) (isDi 0 (mFn Fr (mCons (mCall fLen (mCons (mName 1) (ret []))) (ret [])))))) (ret .nx))
def PickS (F : FD) : Prop := ∀ (c : C3) (N : Nat) (xs : List D), Di c N → N ≤ 1000000 → xs ≠ [] → xs.length ≤ 1000000 → ∃ x c', F [.lst xs] c = some (x, c') ∧ x ∈ xs ∧ Di c' (N + 1)
theorem pick_spec {Fr : FD} (hr : RollS Fr) : PickS (runM true 2 2 (mPick Fr)) := fun c N xs h hN hx hl => by
  refine run_ev rfl ?_
  have h0 : 0 < xs.length := List.length_pos_iff.mpr hx
  obtain ⟨r, c', e, r0, r1, hd⟩ := hr c N xs.length h hN (by omega) (by omega)
  obtain ⟨d, e1, e2⟩ := uIx_lst (xs := xs) r0 r1
  simp [mPick, ev_name_v, e, e2]
  exact ⟨List.mem_of_getElem? e1, hd⟩
/-! ### mixtures -/
theorem rng1_nat {n : Nat} (h : n ≤ 1000000) : fRng1 [.int (n : Int)] = some (rngD 0 n) := by
  dsimp only [fRng1]
  rw [if_pos ⟨by omega, by omega⟩, Int.toNat_natCast]
end Lw
set_option Elab.async false
set_option linter.all false
set_option maxRecDepth 100000
set_option maxHeartbeats 4000000
/-! Lw, part four: some of a list; names of states. -/
namespace Lw
open PySem PySem.Spec L2 Mo
@[simp] theorem wipeG_n {g : G} : wipeG g [] = g := rfl
@[simp] theorem wipeG_c' {g : G} {v : Nat} {vs : List Nat} : wipeG g (v :: vs) = (wipeG g vs).set v .un := rfl
@[simp] theorem backG_n {g0 g : G} : backG g0 g [] = g := rfl
@[simp] theorem backG_c {g0 g : G} {v : Nat} {vs : List Nat} : backG g0 g (v :: vs) = match g0.s[v]? with
  | some x => (backG g0 g vs).set v x
  | none => backG g0 g vs := rfl
@[simp] theorem od_l {xs : List D} : (O.l xs).d = .lst xs := rfl
@[simp] theorem od_k {xs : List (Key × D)} : (O.k xs).d = .dk xs := rfl
@[simp] theorem od_t {xs : List (List Key × D)} : (O.t xs).d = .dt xs := rfl
@[simp] theorem od_n {C : Addr} {xs : List (Str × D)} : (O.n C xs).d = .ins C xs := rfl
def sL (ss : List Str) : List D := ss.map .str
theorem sL_len {ss : List Str} : (sL ss).length = ss.length := List.length_map _
theorem pys_strs : ∀ ss : List Str, D.pys (sL ss) = some (ss.map .str)
  | [] => rfl
  | s :: r => by
    show (match D.py (.str s), D.pys (sL r) with | some x, some r => some (x :: r) | _, _ => none) = _
    rw [pys_strs r]
    rfl
theorem eqv_strs : ∀ ss tt : List Str, PyData.eqvAll (ss.map .str) (tt.map .str) = decide (ss = tt)
  | [], [] => rfl
  | [], _ :: _ => rfl
  | _ :: _, [] => rfl
  | s :: ss, t :: tt => by
    show (PyData.eqv (.str s) (.str t) && PyData.eqvAll (ss.map .str) (tt.map .str)) = _
    rw [eqv_strs ss tt]
    show ((s == t) && decide (ss = tt)) = _
    by_cases h : s = t <;> simp [h]
def OkS (ss : List Str) : Prop := ∀ x ∈ ss, PyData.strOk x = true
theorem lay_strs : ∀ {ss : List Str}, OkS ss → PyData.canLayAll0 (ss.map .str) = true
  | [], _ => rfl
  | s :: ss, h => by
    show (PyData.canLay0 (.str s) && PyData.canLayAll0 (ss.map .str)) = true
    rw [lay_strs fun x m => h x (List.mem_cons_of_mem _ m)]
    show (PyData.strOk s && true) = true
    rw [h s List.mem_cons_self]
    rfl
theorem dep_strs : ∀ ss : List Str, PyData.depthAll (ss.map .str) = 0
  | [] => rfl
  | s :: ss => by simp [PyData.depthAll, PyData.depth, dep_strs ss]
theorem shp_strs {ss : List Str} (h : OkS ss) : SeqAt.shaped (.list (ss.map .str)) = true := by
  simp [SeqAt.shaped, PyData.canLay0, PyData.depth, lay_strs h, dep_strs]
theorem fEq_strs {neg : Bool} {ss tt : List Str} (h : OkS ss) (h2 : OkS tt) : fEq neg (.lst (sL ss)) (.lst (sL tt)) = some (.bl (if neg then !decide (ss = tt) else decide (ss = tt))) := by
  have e1 : D.py (.lst (sL ss)) = some (.list (ss.map .str)) := by simp only [D.py, pys_strs]; rfl
  have e2 : D.py (.lst (sL tt)) = some (.list (tt.map .str)) := by simp only [D.py, pys_strs]; rfl
  unfold fEq
  rw [e1, e2]
  simp only [shp_strs h, shp_strs h2, Bool.and_self, if_true]
  show some (D.bl (if neg = true then !PyData.eqvAll _ _ else PyData.eqvAll _ _)) = _
  rw [eqv_strs]
@[simp] theorem fEq_int {neg : Bool} {i j : Int} : fEq neg (.int i) (.int j) = some (.bl (if neg then !(i == j) else (i == j))) := rfl
/-! ### names of states -/
def drawPool : List Str := ["s", "t", "p", "q", "qa", "first", "last", "arc", "zzzzzzzz", "u"]
def namePool : List Str := drawPool ++ ((["r", "c", "x", "xa", "xb", "xc", "xd", "xe", "y", "v"] : List Str) ++ ((["qb", "qc", "qd", "qe", "qf", "qg", "qh", "qi", "qj", "qk", "ql", "qm"] : List Str) ++ (["qn", "qo", "qp", "qq", "qr", "qs", "qt", "qu", "qv", "qw", "qx", "new", "later", "z", "e", "k", "a", "zz", "m", "b", "yy", "g", "h", "zzz"] : List Str)))
/-- strictly ascending names from the pool -/
structure NamesOk (ss : List Str) : Prop where
  up : ss.Pairwise fun x y => x.cps.toList < y.cps.toList
  mem : ∀ x ∈ ss, x ∈ namePool
  ne : ss ≠ []
  len : ss.length ≤ 24
theorem NamesOk.sub {ss tt : List Str} (h : NamesOk ss) (s : tt.Sublist ss) (n : tt ≠ []) : NamesOk tt := ⟨h.up.sublist s, fun x m => h.mem x (s.subset m), n, Nat.le_trans s.length_le h.len⟩
theorem pool_ok : OkS namePool := List.all_eq_true.mp (by decide +kernel : namePool.all PyData.strOk = true)
theorem NamesOk.ok {ss : List Str} (h : NamesOk ss) : OkS ss := fun x m => pool_ok x (h.mem x m)
theorem lt_of_leS {x y : Str} (h : leS x y = true) (n : x ≠ y) : x.cps.toList < y.cps.toList := by
  unfold leS at h
  have h1 : ¬ y.cps.toList < x.cps.toList := by simpa using h
  rcases Decidable.em (x.cps.toList < y.cps.toList) with h2 | h2
  · exact h2
  · exact absurd (str_ext (List.le_antisymm (List.not_lt.mp h1) (List.not_lt.mp h2))) n
theorem sortS_lt {ss : List Str} (nd : ss.Nodup) : (sortS ss).Pairwise fun x y => x.cps.toList < y.cps.toList := by
  have h1 := List.pairwise_mergeSort leS_trans leS_total ss
  have h2 : (sortS ss).Nodup := (List.mergeSort_perm ss leS).symm.nodup nd
  exact List.Pairwise.imp₂ (fun _ _ a b => lt_of_leS a b) h1 h2
end Lw
set_option Elab.async false
set_option linter.all false
set_option maxRecDepth 100000
set_option maxHeartbeats 4000000
/-! Lw, part five: a drawn machine. -/
namespace Lw
open PySem PySem.Spec L2 Mo
structure Arc where
  a : Str
  l : Str
  b : Str
  p : Int
def keyA (a l b : Str) : List Key := [.inr a, .inr l, .inr b]
def arcT (x : Arc) : List Key × D := (keyA x.a x.l x.b, .int x.p)
def sameA (x : Arc) (a l b : Str) : Prop := x.a = a ∧ x.l = l ∧ x.b = b
instance {x : Arc} {a l b : Str} : Decidable (sameA x a l b) := inferInstanceAs (Decidable (_ ∧ _ ∧ _))
def putA (xs : List Arc) (a l b : Str) (p : Int) : List Arc := if (xs.any fun x => decide (sameA x a l b)) = true then xs.map (fun x => if sameA x a l b then ⟨x.a, x.l, x.b, p⟩ else x) else xs ++ [⟨a, l, b, p⟩]
/-- arcs as they come: the places differ, the names are known -/
structure ArcsOk (names signs : List Str) (xs : List Arc) : Prop where
  nd : xs.Pairwise fun x y => ¬ sameA x y.a y.l y.b
  at' : ∀ x ∈ xs, x.a ∈ names ∧ x.l ∈ signs ∧ x.b ∈ names ∧ 0 ≤ x.p ∧ x.p ≤ 9
theorem ArcsOk.put {names signs : List Str} {xs : List Arc} {a l b : Str} {p : Int} (h : ArcsOk names signs xs) (ha : a ∈ names) (hl : l ∈ signs) (hb : b ∈ names) (p0 : 0 ≤ p) (p9 : p ≤ 9) : ArcsOk names signs (putA xs a l b p) := by
  unfold putA
  split
  · refine ⟨?_, fun x m => ?_⟩
    · rw [List.pairwise_map]
      refine h.nd.imp fun {x y} n => ?_
      by_cases h1 : sameA x a l b <;> by_cases h2 : sameA y a l b <;> simp only [h1, h2, if_true, if_false] <;> exact n
    · obtain ⟨y, my, rfl⟩ := List.mem_map.mp m
      obtain ⟨h1, h2, h3, h4, h5⟩ := h.at' y my
      split
      · exact ⟨h1, h2, h3, p0, p9⟩
      · exact ⟨h1, h2, h3, h4, h5⟩
  · rename_i hn
    refine ⟨?_, fun x m => ?_⟩
    · rw [List.pairwise_append]
      refine ⟨h.nd, List.pairwise_singleton _ _, fun x m y my => ?_⟩
      cases List.mem_singleton.mp my
      intro z
      exact hn (List.any_eq_true.mpr ⟨x, m, decide_eq_true z⟩)
    · rcases List.mem_append.mp m with m | m
      · exact h.at' x m
      · cases List.mem_singleton.mp m
        exact ⟨ha, hl, hb, p0, p9⟩
def lets : List Str := ["a", "b", "c"]
/-- a machine of plain parts -/
structure Pl where
  fs : List Str
  ls : List Str
  arcs : List Arc
def Pl.d (p : Pl) : D := .dk [(.inr "firsts", .lst (sL p.fs)), (.inr "lasts", .lst (sL p.ls)), (.inr "arcs", .dt (p.arcs.map arcT))]
structure PlOk (p : Pl) (n : Nat) : Prop where
  fs : NamesOk p.fs
  ls : NamesOk p.ls
  all : ∃ names, NamesOk names ∧ names.length ≤ n ∧ (∀ x ∈ p.fs, x ∈ names) ∧ (∀ x ∈ p.ls, x ∈ names) ∧ ArcsOk names lets p.arcs
  few : p.arcs.length ≤ 1000
end Lw
set_option Elab.async false
set_option linter.all false
set_option maxRecDepth 100000
set_option maxHeartbeats 4000000
/-! Lw, part six: pure comprehensions; the states and letters of plain parts. -/
namespace Lw
open PySem PySem.Spec L2 Mo
theorem run_pure {dice : Bool} {n k : Nat} {m : M Oc} {ds : List D} {c : C3} {r : D} (hl : ds.length + dice.toNat = k) (h : Ev m ⟨ini dice n ds, c⟩ (RetP fun d c' => d = r ∧ c' = c)) : runM dice n k m ds c = some (r, c) := by
  obtain ⟨d, c', e, rfl, rfl⟩ := run_ev hl h
  exact e
theorem ev_lcPure {β : Type} {vs : List Nat} {f : D → G → Option G} {mt : M Bool} {me : M D} {g0 : G} {Q : List D → G → Prop} (xs : List β) (tD : β → D) (keep : β → Bool) (out : β → D)
    (hs : ∀ x ∈ xs, ∃ g1, f (tD x) g0 = some g1 ∧ Ev mt g1 fun b g2 => b = keep x ∧ if b = true then Ev me g2 fun y g3 => y = out x ∧ wipeG g3 vs = g0 else wipeG g2 vs = g0)
    (hl : xs.length < sizeLine) (q : Q ((xs.filter keep).map out) g0) : Ev (lcGo vs f mt me (xs.map tD) []) g0 Q := by
  obtain ⟨I, hI⟩ : ∃ I : List D → List D → G → Prop, ∀ ds acc g, I ds acc g ↔ ∃ pre rr, xs = pre ++ rr ∧ ds = rr.map tD ∧ acc = (pre.filter keep).map out ∧ g = g0 := ⟨_, fun _ _ _ => Iff.rfl⟩
  refine ev_lcGo I ?_ ?_ _ _ _ ((hI _ _ _).mpr ⟨[], xs, rfl, rfl, rfl, rfl⟩)
  · intro d r acc g hi
    obtain ⟨pre, rr, e1, e2, e3, e4⟩ := (hI _ _ _).mp hi
    cases rr with
    | nil => cases e2
    | cons x rr =>
      cases e2
      subst e4
      obtain ⟨g1, e5, h5⟩ := hs x (by rw [e1]; simp)
      refine ⟨g1, e5, h5.mono fun b g2 ⟨hb, h6⟩ => ?_⟩
      have eap : xs = (pre ++ [x]) ++ rr := by rw [e1]; simp
      cases b with
      | true =>
        rw [if_pos rfl] at h6 ⊢
        refine ⟨?_, h6.mono fun y g3 ⟨ey, eg⟩ => (hI _ _ _).mpr ⟨pre ++ [x], rr, eap, rfl, ?_, eg⟩⟩
        · have h7 : (pre.filter keep).length ≤ pre.length := List.length_filter_le _ _
          have h8 : xs.length = pre.length + (rr.length + 1) := by rw [e1]; simp
          rw [e3, List.length_map]
          omega
        · rw [e3, ey, List.filter_append, List.map_append, List.filter_cons, if_pos hb.symm]
          rfl
      | false =>
        rw [if_neg Bool.false_ne_true] at h6 ⊢
        refine (hI _ _ _).mpr ⟨pre ++ [x], rr, eap, rfl, ?_, h6⟩
        rw [e3, List.filter_append, List.filter_cons, if_neg (by rw [← hb]; exact Bool.false_ne_true)]
        simp
  · intro acc g hi
    obtain ⟨pre, rr, e1, e2, e3, e4⟩ := (hI _ _ _).mp hi
    cases rr with
    | cons x rr => cases e2
    | nil =>
      rw [List.append_nil] at e1
      subst e4 e1 e3
      exact q
theorem filter_tt {α : Type} (xs : List α) : xs.filter (fun _ => true) = xs := List.filter_eq_self.mpr fun _ _ => rfl
def arcD (x : Arc) : D := .tup [.str x.a, .str x.l, .str x.b]
def endsOf (xs : List Arc) : List Str := xs.flatMap fun x => [x.a, x.b]
def Pl.all (p : Pl) : List Str := p.fs ++ p.ls ++ endsOf p.arcs
def Pl.states (p : Pl) : List Str := sortU p.all
def Pl.letters (p : Pl) : List Str := sortU (p.arcs.map (·.l))
end Lw
set_option Elab.async false
set_option linter.all false
set_option maxRecDepth 100000
set_option maxHeartbeats 4000000
/-! Mo: what comprehensions with two for come to. -/
namespace Mo
open PySem PySem.Spec L2
@[simp] theorem ev_lc2 {vs vs1 : List Nat} {f f1 : D → G → Option G} {mi mi1 : M (List D)} {mt mt1 : M Bool} {me : M D} {g : G} {Q : O → G → Prop} : Ev (mLc2 vs vs1 mi f mt mi1 f1 mt1 me) g Q ↔ Ev mi g fun ds g1 => noOwn vs g1 = true ∧ Ev (lcGo2 vs vs1 f mt mi1 f1 mt1 me ds []) (wipeG g1 vs) fun ys g2 => Q (.l ys) (backG g1 g2 vs) := by
  unfold mLc2
  rw [ev_bind]
  refine ⟨fun h => h.mono fun ds g1 q => ?_, fun h => h.mono fun ds g1 ⟨h1, ys, g2, e, q⟩ => ?_⟩
  · obtain ⟨a, g', e, q⟩ := q
    dsimp only at e
    split at e
    · rename_i h1
      refine ⟨h1, ?_⟩
      cases e2 : lcGo2 vs vs1 f mt mi1 f1 mt1 me ds [] (wipeG g1 vs) with
      | none => rw [e2] at e; cases e
      | some r =>
        cases r with
        | ex E g2 => rw [e2] at e; cases e
        | ok ys g2 =>
          rw [e2] at e
          cases e
          exact ⟨ys, g2, e2, q⟩
    · cases e
  · refine ⟨.l ys, backG g1 g2 vs, ?_, q⟩
    dsimp only
    rw [if_pos h1, e]
    rfl
@[simp] theorem ev_iterS {m : M D} {g : G} {Q : List D → G → Prop} : Ev (mIterS m) g Q ↔ Ev m g fun d g1 => Ev (lift (iterS d)) g1 Q := by
  unfold mIterS
  simp
end Mo
set_option Elab.async false
set_option linter.all false
set_option maxRecDepth 100000
set_option maxHeartbeats 4000000
/-! Mo: xs.pop() and the truth of an own list; while: its bound, what it comes to. -/
namespace Mo
open PySem PySem.Spec PySem.Calls L2
open Lp (FnG)
section
variable {K : PySem.W.Frag} {X : Cx} {W : WW} {x : Str} {px pos : Pos}
/-- the truth of an own list -/
def mtOwnQ (i : Nat) : M Bool := onL i fun xs => ret (!xs.isEmpty)
end
section
variable {g : G} {i : Nat}
@[simp] theorem ev_lm0 {f : List D → Option (List D × D)} {Q : D → G → Prop} : Ev (mLm0 i f) g Q ↔ ∃ xs, g.s[i]? = some (.o (.l xs)) ∧ ∃ ys y, f xs = some (ys, y) ∧ Q y (g.set i (.o (.l ys))) := by
  unfold mLm0
  simp only [ev_onL, ev_toL]
@[simp] theorem ev_ownQ {Q : Bool → G → Prop} : Ev (mtOwnQ i) g Q ↔ ∃ xs, g.s[i]? = some (.o (.l xs)) ∧ Q (!xs.isEmpty) g := by
  unfold mtOwnQ
  simp only [ev_onL, ev_ret]
end
end Mo
set_option Elab.async false
set_option linter.all false
set_option maxRecDepth 100000
set_option maxHeartbeats 4000000
/-! Mo: x in o, x not in o, str(o): o of a class with its own specials. -/
namespace Mo
open PySem PySem.Spec PySem.Calls L2 PyProof.Rows
open Lp (FnG okN callG)
section
variable {X : Cx} {W : WW} {a b : Expr} {pos ps : Pos} {C ff : Addr} {k : Nat} {fd : FuncData} {qs : List Str} {sp : Sp}
theorem own_in_call {pins : List (Addr × Obj)} {σ : L2.St} {H : Hp} {s : Shared} {q : Addr} {x : V} {v : Value} {Q : Bool → Hp → Prop} {B : Around} {E' : Value → Shared → Prop} (F : FnG X.prog X.w X.K X.mg X.base CX0 k ff fd qs sp) (hr : Room k B) (hgd : B.guards = some []) (e0 : Env0 X.prog X.w X.K X.mg X.base B X.stack s H) (hb : Binds X.K fd qs [])
    (I : Inv X pins σ H s) (rx : RelV x v) (h : sp [.ref q, x] H (fun v H' => ∃ t, v = .bl t ∧ Q t H') fun _ _ _ => False) : wpAny (model X.prog X.w) B (call (.ref ff) [.ref q, v]) (fun v s' => ∃ t, v = .bool t ∧ ∃ H', Inv X pins σ H' s' ∧ Q t H') E' s := by
  have rv : Vals [V.ref q, x] [Value.ref q, v] := .cons rfl (.cons rx .nil)
  have bt := hb s [.ref q, v] I.kIn (by rw [List.append_nil, ← rv.length]; exact F.len _ _ _ _ h)
  rw [List.append_nil] at bt
  refine wpAny_call (codeAny_mono (F.go B X.stack s H ⟨[.ref q, v], []⟩ _ _ _ _ hr hgd e0 bt rv h) fun o s2 w2 => ?_)
  match o, w2 with
  | .error e, w2 => exact False.elim (pass0 (X := X.nox) pins σ H s e s2 (I.wish _) w2)
  | .ok (.ret u), w2 =>
    obtain ⟨v, H', I3, rv3, t, e, q3⟩ := I.after w2
    subst e
    cases rv3
    exact ⟨t, rfl, H', I3, q3⟩
/-- on data -/
def inGo {α : Type} (neg : Bool) (C : Addr) (F : FD) (kk : Bool → M α) (x y : D) : M α := match y with
  | .ins C2 gs => if C2 = C then (liftC (F [.ins C gs, x])).bind fun v => (match v with
    | .bl t => kk (bif neg then !t else t)
    | _ => bad) else bad
  | _ => bad
def mInI (neg : Bool) (C : Addr) (F : FD) (ma mb : M D) : M D := ma.bind fun x => mb.bind fun y => inGo neg C F (fun b => ret (.bl b)) x y
def mtInI (neg : Bool) (C : Addr) (F : FD) (ma mb : M D) : M Bool := ma.bind fun x => mb.bind fun y => inGo neg C F ret x y
/-- str(o), o's class with an own __str__ -/
def rStrOwn (C : Addr) (sp : Sp) : List V → Hp → VK → Prop := fun vs H Q => ∃ (a dx : Addr) (fs : List (Str × V)), vs = [.ref a] ∧ H a = some (.ins C dx fs) ∧ sp [.ref a] H (fun v H' => ∃ z : Str, v = .str z ∧ Q (.str z) H') fun _ _ _ => False
theorem call_strOwn (hm : SpecM X.K C "__str__" ff) (F : FnG X.prog X.w X.K X.mg X.base CX0 k ff fd qs sp) (hr : Room (k + 2) X.A) (hgd : X.A.guards = some []) (hb : Binds X.K fd qs []) : CallR X (.type "str") (rStrOwn C sp) := by
  intro pins s σ H vs us Q I r h
  obtain ⟨x, dx, fs, rfl, ea, q⟩ := h
  rw [Vals.ref1 r]
  obtain ⟨mA, O, _⟩ := ins_get I.hok ea
  obtain ⟨od, Jo, _⟩ := O.look
  have r1 : Room (k + 1) X.A.in1 := Room.in1 hr
  have r2 : Room k X.A.in1.in1 := Room.in1 r1
  have rv2 : Vals [V.ref x] [Value.ref x] := .cons rfl .nil
  have bt := hb s [Value.ref x] I.kIn (by rw [List.append_nil, ← rv2.length]; exact F.len _ _ _ _ q)
  rw [List.append_nil] at bt
  refine PySem.W.kso_call (Nat.lt_of_le_of_lt (Nat.le_add_right _ _) r2.units) I.kIn Jo hm.at_ hm.fn (wpAny_call (codeAny_mono (F.go X.A.in1.in1 X.stack s H ⟨[Value.ref x], []⟩ _ _ _ _ r2 hgd I.env0.in1.in1 bt rv2 q) fun w s' hq => ?_))
  match w, hq with
  | .error er, hq => exact False.elim (pass0 (X := X.nox) pins σ H s er s' (I.wish _) hq)
  | .ok (.ret u), hq =>
    obtain ⟨v, H', I3, rv3, z, rfl, q3⟩ := I.after hq
    obtain ⟨t, rfl⟩ := rv3
    exact ⟨.str z, H', I3, ⟨t, rfl⟩, q3⟩
def mStrI (C : Addr) (F : FD) (mo : M D) : M D := mo.bind fun d => match d with
  | .ins C' fs => if C' = C then (liftC (F [.ins C' fs])).bind fun v => (match v with
    | .str z => ret (.str z)
    | _ => bad) else bad
  | _ => bad
theorem e_strI {e : Expr} {F : FD} {mo : M D} {p1 : Pos} (hm : SpecM X.K C "__str__" ff) (hF : FnG X.prog X.w X.K X.mg X.base CX0 k ff fd qs (spM X.K false F)) (hr : Room (k + 2) X.A) (hgd : X.A.guards = some []) (hb : Binds X.K fd qs []) (hm0 : X.mg "str" = none) (ho : EF X W e mo)
    (hv : bootBuiltins "str" = some (.type "str") := by decide +kernel) (hg : Gl X "str" := by rfl) (he : starEach [e] X.env = (false, eval e X.env) :: starEach [] X.env := by rfl) (hpl : (backTo pos (starEach [] X.env)).any (·.1) = false := by rfl) : EF X W (.Call (.Name "str" p1) [e] [] pos) (mStrI C F mo) := fun J p g σ H R0 r hmm Q hp =>
  of_pe (pe_callTy (call_strOwn hm hF hr hgd hb) hg hm0 hv (pa_cons semE pa_nil he) (by decide) (by decide) he hpl) (ho.then R0 hmm hp fun d g1 p1 H1 v ad R1 rv hk hq => by
    cases d <;> first | (cases hk; done) | skip
    rename_i C' fs
    dsimp only at hk
    split at hk
    · rename_i hC
      subst hC
      obtain ⟨a, dx, vs, rfl, h1, h2⟩ := rep_ins rv
      unfold M.bind liftC at hk
      cases e1 : F [.ins C' fs] g1.c with
      | none => rw [e1] at hk; cases hk
      | some z =>
        obtain ⟨d, c'⟩ := z
        rw [e1] at hk
        dsimp only at hk
        refine ⟨a, dx, vs, rfl, del_of h1, p1, g1.c, [.ins C' fs], [.ref a], d, c', rfl, R1.hd, .cons rv .nil, e1, fun v J2 af rv2 => ?_⟩
        obtain ⟨R3, ad3⟩ := R1.after af
        cases d <;> first | (cases hk; done) | skip
        rename_i z
        cases hk
        cases rep_str rv2
        exact ⟨z, rfl, hq p1 J2 ad3 R3 _ (.str _)⟩
    · cases hk)
end
theorem ev_inGo {α : Type} {C : Addr} {neg : Bool} {F : FD} {kk : Bool → M α} {x y : D} {g : G} {Q : α → G → Prop} : Ev (inGo neg C F kk x y) g Q ↔ ∃ gs, y = .ins C gs ∧ ∃ t c', F [.ins C gs, x] g.c = some (.bl t, c') ∧ Ev (kk (bif neg then !t else t)) ⟨g.s, c'⟩ Q := by
  unfold inGo
  refine ⟨fun z => ?_, fun ⟨gs, e2, t, c', e3, z⟩ => ?_⟩
  · cases y <;> first | exact (ev_bad.mp z).elim | skip
    rename_i C2 gs
    dsimp only at z
    rw [ev_ite] at z
    split at z
    · rename_i hC
      subst hC
      refine ⟨gs, rfl, ?_⟩
      obtain ⟨d, c', e, z⟩ := ev_liftC.mp (ev_bind.mp z)
      cases d <;> first | exact (ev_bad.mp z).elim | skip
      exact ⟨_, c', e, z⟩
    · exact (ev_bad.mp z).elim
  · subst e2
    dsimp only
    rw [if_pos rfl]
    exact ev_bind.mpr (ev_liftC.mpr ⟨_, _, e3, z⟩)
@[simp] theorem ev_inI {C : Addr} {neg : Bool} {F : FD} {ma mb : M D} {g : G} {Q : D → G → Prop} : Ev (mInI neg C F ma mb) g Q ↔ Ev ma g fun x g1 => Ev mb g1 fun y g2 => ∃ gs, y = .ins C gs ∧ ∃ t c', F [.ins C gs, x] g2.c = some (.bl t, c') ∧ Q (.bl (bif neg then !t else t)) ⟨g2.s, c'⟩ := by
  unfold mInI
  simp only [ev_bind, ev_inGo, ev_ret]
@[simp] theorem ev_tinI {C : Addr} {neg : Bool} {F : FD} {ma mb : M D} {g : G} {Q : Bool → G → Prop} : Ev (mtInI neg C F ma mb) g Q ↔ Ev ma g fun x g1 => Ev mb g1 fun y g2 => ∃ gs, y = .ins C gs ∧ ∃ t c', F [.ins C gs, x] g2.c = some (.bl t, c') ∧ Q (bif neg then !t else t) ⟨g2.s, c'⟩ := by
  unfold mtInI
  simp only [ev_bind, ev_inGo, ev_ret]
end Mo
set_option Elab.async false
set_option linter.all false
set_option maxRecDepth 100000
set_option maxHeartbeats 4000000
/-! Mo: xs[::-1] of a list. -/
namespace Mo
open PySem PySem.Spec PySem.Calls L2 PyProof.Rows
section
variable {X : Cx} {W : WW} {a se : Expr} {pos p2 : Pos}
def fRevL : D → Option Int → Option O
  | .lst ds, some (-1) => some (.l ds.reverse)
  | _, _ => none
def mRevL (ma : M D) (ms : M (Option Int)) : M O := ma.bind fun x => ms.bind fun o => lift (fRevL x o)
end
@[simp] theorem ev_revL {ma : M D} {ms : M (Option Int)} {g : G} {Q : O → G → Prop} : Ev (mRevL ma ms) g Q ↔ Ev ma g fun x g1 => Ev ms g1 fun o g2 => Ev (lift (fRevL x o)) g2 Q := by
  unfold mRevL
  simp only [ev_bind]
end Mo
set_option Elab.async false
set_option linter.all false
set_option maxRecDepth 100000
set_option maxHeartbeats 4000000
/-! Mo: == and != of a thing of an own class with a tuple, a text or None. -/
namespace Mo
open PySem PySem.Spec PySem.Calls L2 PyProof.Rows
open Lp (FnG okN callG)
/-- plain types do not come first -/
structure NtC (K : PySem.W.Frag) (C : Addr) : Prop where
  t : PySem.W.notFirst K C (.type "tuple") = true
  s : PySem.W.notFirst K C (.type "str") = true
  n : PySem.W.notFirst K C (.type "NoneType") = true
section
variable {X : Cx} {W : WW} {a b : Expr} {pos : Pos} {C ff : Addr} {k : Nat} {fd : FuncData} {qs : List Str} {sp : Sp}
/-- what a value's type is, by the abstract heap -/
inductive TyX (H : Hp) : V → String → Prop
  | tup {q : Addr} {xs : List V} : H q = some (.tup xs) → TyX H (.ref q) "tuple"
  | str (z : Str) : TyX H (.str z) "str"
  | non : TyX H .non "NoneType"
theorem NtC.of {K : PySem.W.Frag} (c : NtC K C) {H : Hp} {y : V} {T : String} (h : TyX H y T) : PySem.W.notFirst K C (.type T) = true := by
  cases h with
  | tup e => exact c.t
  | str z => exact c.s
  | non => exact c.n
/-- on data -/
def isTX : D → Bool
  | .tup _ => true
  | .str _ => true
  | .non => true
  | _ => false
def eqGo {α : Type} (neg : Bool) (C : Addr) (F : FD) (kk : Bool → M α) (x y : D) : M α := match x with
  | .ins C2 fs => if C2 = C ∧ isTX y = true then (liftC (F [.ins C fs, y])).bind fun v => (match v with
    | .bl t => kk (bif neg then !t else t)
    | _ => bad) else bad
  | _ => bad
def mEqX (neg : Bool) (C : Addr) (F : FD) (ma mb : M D) : M D := ma.bind fun x => mb.bind fun y => eqGo neg C F (fun b => ret (.bl b)) x y
def mtEqX (neg : Bool) (C : Addr) (F : FD) (ma mb : M D) : M Bool := ma.bind fun x => mb.bind fun y => eqGo neg C F ret x y
end
theorem ev_eqGo {α : Type} {C : Addr} {neg : Bool} {F : FD} {kk : Bool → M α} {x y : D} {g : G} {Q : α → G → Prop} : Ev (eqGo neg C F kk x y) g Q ↔ ∃ gs, x = .ins C gs ∧ isTX y = true ∧ ∃ t c', F [.ins C gs, y] g.c = some (.bl t, c') ∧ Ev (kk (bif neg then !t else t)) ⟨g.s, c'⟩ Q := by
  unfold eqGo
  refine ⟨fun z => ?_, fun ⟨gs, e2, hy, t, c', e3, z⟩ => ?_⟩
  · cases x <;> first | exact (ev_bad.mp z).elim | skip
    rename_i C2 gs
    dsimp only at z
    rw [ev_ite] at z
    split at z
    · rename_i hC
      obtain ⟨hC, hy⟩ := hC
      subst hC
      refine ⟨gs, rfl, hy, ?_⟩
      obtain ⟨d, c', e, z⟩ := ev_liftC.mp (ev_bind.mp z)
      cases d <;> first | exact (ev_bad.mp z).elim | skip
      exact ⟨_, c', e, z⟩
    · exact (ev_bad.mp z).elim
  · subst e2
    dsimp only
    rw [if_pos ⟨rfl, hy⟩]
    exact ev_bind.mpr (ev_liftC.mpr ⟨_, _, e3, z⟩)
@[simp] theorem ev_eqX {C : Addr} {neg : Bool} {F : FD} {ma mb : M D} {g : G} {Q : D → G → Prop} : Ev (mEqX neg C F ma mb) g Q ↔ Ev ma g fun x g1 => Ev mb g1 fun y g2 => ∃ gs, x = .ins C gs ∧ isTX y = true ∧ ∃ t c', F [.ins C gs, y] g2.c = some (.bl t, c') ∧ Q (.bl (bif neg then !t else t)) ⟨g2.s, c'⟩ := by
  unfold mEqX
  simp only [ev_bind, ev_eqGo, ev_ret]
@[simp] theorem ev_teqX {C : Addr} {neg : Bool} {F : FD} {ma mb : M D} {g : G} {Q : Bool → G → Prop} : Ev (mtEqX neg C F ma mb) g Q ↔ Ev ma g fun x g1 => Ev mb g1 fun y g2 => ∃ gs, x = .ins C gs ∧ isTX y = true ∧ ∃ t c', F [.ins C gs, y] g2.c = some (.bl t, c') ∧ Q (bif neg then !t else t) ⟨g2.s, c'⟩ := by
  unfold mtEqX
  simp only [ev_bind, ev_eqGo, ev_ret]
end Mo
set_option Elab.async false
set_option linter.all false
set_option maxRecDepth 100000
set_option maxHeartbeats 4000000
/-! Mo: for .. in e.items(), list(e.values()), e a dict with tuples for keys. -/
namespace Mo
open PySem PySem.Spec PySem.Calls L2 PyProof.Rows
def itemsT (kvs : List (List Key × D)) : List D := kvs.map fun kv => .tup [.tup (kv.1.map kD), kv.2]
def fItemsT : D → Option (List D)
  | .dt kvs => some (itemsT kvs)
  | _ => none
def mItemsT (m : M D) : M (List D) := m.bind fun d => lift (fItemsT d)
@[simp] theorem ev_itemsT {m : M D} {g : G} {Q : List D → G → Prop} : Ev (mItemsT m) g Q ↔ Ev m g fun d g1 => Ev (lift (fItemsT d)) g1 Q := by
  unfold mItemsT
  simp
@[simp] theorem fItemsT_dt {kvs : List (List Key × D)} : fItemsT (.dt kvs) = some (itemsT kvs) := rfl
/-! ### list(e.values()) -/
def fListValsT : D → Option O
  | .dt kvs => some (.l (kvs.map (·.2)))
  | _ => none
def mListValsT (m : M D) : M O := m.bind fun d => lift (fListValsT d)
@[simp] theorem ev_listValsT {m : M D} {g : G} {Q : O → G → Prop} : Ev (mListValsT m) g Q ↔ Ev m g fun d g1 => Ev (lift (fListValsT d)) g1 Q := by
  unfold mListValsT
  simp
end Mo
set_option Elab.async false
set_option linter.all false
set_option maxRecDepth 100000
set_option maxHeartbeats 4000000
/-! Mo: defs that let own errors out; raise, try. -/
namespace Mo
open PySem PySem.Spec PySem.Calls L2 PyProof.Rows
open Lp (FnG okG okN callG)
def mkE (adr : Str → Addr) (n : Str) : Exn := ⟨adr n, [(n, .non)]⟩
end Mo
set_option Elab.async false
set_option linter.all false
set_option maxRecDepth 100000
set_option maxHeartbeats 4000000
/-! Mo: try: .. except C: .. (clauses without a name). -/
namespace Mo
open PySem PySem.Spec PySem.Calls L2 PyProof.Rows
def tsOf (X : Cx) (su : List Stmt) : Addr → Value → Option Addr → TS := fun a cls d D σ H => ∀ (oe : Obj) (pn : List (Addr × Obj)), Zc cls d oe → (∃ vs, oe.data = .fields vs) → SemSs (X.suite a ((a, oe) :: pn)) su D σ H
inductive HdM (X : Cx) (adr : Str → Addr) (names : List Str) (tab : Str → Str → Bool) : List ExceptHandler → List (Str × M Oc) → List (Value × (Addr → Value → Option Addr → TS)) → Prop
  | nil : HdM X adr names tab [] [] []
  | cons {y : Str} {b₀ : Stmt} {suite : List Stmt} {np pos' : Pos} {m : M Oc} {hds : List ExceptHandler} {ms : List (Str × M Oc)} {l : List (Value × (Addr → Value → Option Addr → TS))} (hc : Names X y (.ref (adr y))) (hx : ∀ n ∈ names, PySem.W.exmOne X.K (.ref (adr n)) (.ref (adr y)) = some (tab n y))
      (hsu : ∀ (a : Addr) (pn : List (Addr × Obj)), SB (X.suite a pn) WN (b₀ :: suite) m) (r : HdM X adr names tab hds ms l) :
      HdM X adr names tab (.ExceptHandler (some (.Name y np)) none (b₀ :: suite) pos' :: hds) ((y, m) :: ms) ((.ref (adr y), tsOf X (b₀ :: suite)) :: l)
section
variable {X : Cx} {W : WW} {adr : Str → Addr} {names : List Str} {tab : Str → Str → Bool}
theorem HdM.ok {hds : List ExceptHandler} {ms : List (Str × M Oc)} {l : List (Value × (Addr → Value → Option Addr → TS))} (h : HdM X adr names tab hds ms l) : HdsOk X hds l := by
  induction h with
  | nil => exact .nil
  | cons hc hx hsu r ih => exact .cons hc (fun a oe cls d pn hz hd => ⟨fun pins s σ H D I q => (q oe pn hz hd).run pins s I⟩) ih
end
end Mo
set_option Elab.async false
set_option linter.all false
set_option maxRecDepth 100000
set_option maxHeartbeats 4000000
/-! Mo: errors: what a function of the state comes to that lets one out; try. -/
namespace Mo
open PySem PySem.Spec PySem.Calls L2
open Lp (FnG)
/-- m lets the error n out -/
def Er {α : Type} (adr : Str → Addr) (m : M α) (g : G) (n : Str) (Q : G → Prop) : Prop := ∃ g', m g = some (.ex (mkE adr n) g') ∧ Q g'
/-- a statement that lets nothing out, wherever it stands -/
def noEx {α : Type} (m : M α) : M α := fun g => match m g with
  | some (.ok a g') => some (.ok a g')
  | _ => none
theorem noEx_ok {α : Type} {m : M α} {g : G} {r : R α} (h : noEx m g = some r) : ∃ a g', r = .ok a g' ∧ m g = some (.ok a g') := by
  unfold noEx at h
  split at h
  · rename_i a g' e
    cases h
    exact ⟨a, g', rfl, e⟩
  · cases h
@[simp] theorem ev_noEx {α : Type} {m : M α} {g : G} {Q : α → G → Prop} : Ev (noEx m) g Q ↔ Ev m g Q := by
  constructor
  · rintro ⟨a, g', e, q⟩
    obtain ⟨a2, g2, e2, e3⟩ := noEx_ok e
    cases e2
    exact ⟨a, g', e3, q⟩
  · rintro ⟨a, g', e, q⟩
    exact ⟨a, g', by unfold noEx; rw [e], q⟩
end Mo
set_option Elab.async false
set_option linter.all false
set_option maxRecDepth 100000
set_option maxHeartbeats 4000000
/-! Mo: a + b and the like of an own class, where its method may let an error out. -/
namespace Mo
open PySem PySem.Spec PySem.Calls L2 PyProof.Rows
open Lp (FnG)
end Mo
set_option Elab.async false
set_option linter.all false
set_option maxRecDepth 100000
set_option maxHeartbeats 4000000
/-! Mo: zip of three with a plain name as target: the pair's owner keeps the tuple that is out, so each turn makes its own. -/
namespace Mo
open PySem PySem.Spec L2
open PyProof.Rows hiding St
end Mo
set_option Elab.async false
set_option linter.all false
set_option maxRecDepth 100000
set_option maxHeartbeats 4000000
/-! Mo: zip(xs, text, ys) with a plain name as target, xs longer than the text; ys[::-1] of a tuple. -/
namespace Mo
open PySem PySem.Spec PySem.Calls L2
open PyProof.Rows hiding St
end Mo
set_option Elab.async false
set_option linter.all false
set_option maxRecDepth 100000
set_option maxHeartbeats 4000000
/-! Mo: t[::-1] and t[i:j] of a tuple (also the whole). -/
namespace Mo
open PySem PySem.Spec PySem.Calls L2 PyProof.Rows
section
variable {X : Cx} {W : WW} {a se : Expr} {e : Expr} {te : TE} {ts : TO} {pos p2 : Pos}
def fRevT : D → Option Int → Option D
  | .tup ds, some (-1) => some (.tup ds.reverse)
  | _, _ => none
def mRevT (ma : M D) (ms : M (Option Int)) : M D := ma.bind fun x => ms.bind fun o => lift (fRevT x o)
@[simp] theorem ev_revT {ma : M D} {ms : M (Option Int)} {g : G} {Q : D → G → Prop} : Ev (mRevT ma ms) g Q ↔ Ev ma g fun x g1 => Ev ms g1 fun o g2 => Ev (lift (fRevT x o)) g2 Q := by
  unfold mRevT
  simp only [ev_bind]
end
end Mo
set_option Elab.async false
set_option linter.all false
set_option maxRecDepth 100000
set_option maxHeartbeats 4000000
/-! Mo: t[::-1] of a text. -/
namespace Mo
open PySem PySem.Spec PySem.Calls L2 PyProof.Rows
/-- a text from behind -/
def revS (x : Str) : Str := ⟨x.cps.toList.reverse.toArray⟩
section
variable {X : Cx} {W : WW} {a se : Expr} {e : Expr} {te : TE} {ts : TO} {pos p2 : Pos}
def fRevS : D → Option Int → Option D
  | .str x, some (-1) => if x.length ≤ sizeLine then some (.str (revS x)) else none
  | _, _ => none
def mRevS (ma : M D) (ms : M (Option Int)) : M D := ma.bind fun x => ms.bind fun o => lift (fRevS x o)
@[simp] theorem ev_revS {ma : M D} {ms : M (Option Int)} {g : G} {Q : D → G → Prop} : Ev (mRevS ma ms) g Q ↔ Ev ma g fun x g1 => Ev ms g1 fun o g2 => Ev (lift (fRevS x o)) g2 Q := by
  unfold mRevS
  simp only [ev_bind]
end
end Mo
set_option Elab.async false
set_option linter.all false
set_option maxRecDepth 100000
set_option maxHeartbeats 8000000
/-! Mo: the walk along a text from several rows, one dict for all. -/
namespace Mo
open PySem PySem.Spec L2
end Mo
set_option Elab.async false
set_option linter.all false
set_option maxRecDepth 100000
set_option maxHeartbeats 1000000
/-! Mo, part MtO: int(x, 8). -/
namespace Mo
open PySem PySem.Spec PySem.Calls L2 PyProof.Rows
namespace Oc
open PySem.NumText
def IsO (c : Nat) : Prop := 48 ≤ c ∧ c ≤ 55
instance {c : Nat} : Decidable (IsO c) := inferInstanceAs (Decidable (48 ≤ c ∧ c ≤ 55))
/-- the number of some octal figures -/
def oct (l : List Nat) : Nat := l.foldl (fun n c => n * 8 + (c - 48)) 0
theorem IsO.hex {c : Nat} (h : IsO c) : Hx.IsHex c := .inl ⟨h.1, Nat.le_trans h.2 (by decide)⟩
theorem hvO {c : Nat} (h : IsO c) : Hx.hv c = c - 48 := if_pos (Nat.le_trans h.2 (by decide))
theorem hexs {l : List Nat} (h : ∀ c ∈ l, IsO c) : ∀ c ∈ l, Hx.IsHex c := fun c m => (h c m).hex
theorem stepO {v : Array Nat} {b : Bool} {c : Nat} (h : IsO c) : PySem.NumText.step 8 (v, b) c = some (v.push (c - 48), true) := by
  have h1 := h.1
  have h2 := h.2
  have e : digit? c = some (c - 48) := by rw [Hx.digit_hex h.hex, hvO h]
  unfold PySem.NumText.step
  rw [if_neg (by rw [beq_iff_eq]; omega), e]
  exact if_pos (show c - 48 < 8 by omega)
theorem stepsO : ∀ (l : List Nat) (v : Array Nat), (∀ c ∈ l, IsO c) → l.foldlM (PySem.NumText.step 8) (v, true) = some (l.foldl (fun w c => w.push (c - 48)) v, true)
  | [], _, _ => rfl
  | c :: l, v, h => by
    rw [List.foldlM_cons, stepO (h c List.mem_cons_self)]
    exact stepsO l (v.push (c - 48)) fun x m => h x (List.mem_cons_of_mem _ m)
theorem digsO {l : List Nat} (h : ∀ c ∈ l, IsO c) (ne : l ≠ []) : digits? 8 l = some (l.foldl (fun w c => w.push (c - 48)) #[]) := by
  obtain ⟨c, r, rfl⟩ := List.exists_cons_of_ne_nil ne
  unfold digits?
  rw [List.foldlM_cons, stepO (h c List.mem_cons_self)]
  have := stepsO r ((#[] : Array Nat).push (c - 48)) fun x m => h x (List.mem_cons_of_mem _ m)
  show (r.foldlM (PySem.NumText.step 8) ((#[] : Array Nat).push (c - 48), true)).bind _ = _
  rw [this]
  rfl
theorem sumO : ∀ (l : List Nat) (v : Array Nat), (l.foldl (fun w c => w.push (c - 48)) v).foldl (fun n d => n * 8 + d) 0 = l.foldl (fun n c => n * 8 + (c - 48)) (v.foldl (fun n d => n * 8 + d) 0)
  | [], _ => rfl
  | c :: l, v => by
    rw [List.foldl_cons, List.foldl_cons, sumO l, Array.foldl_push]
theorem figO {c : Nat} (h : IsO c) : c = 48 ∨ c = 49 ∨ c = 50 ∨ c = 51 ∨ c = 52 ∨ c = 53 ∨ c = 54 ∨ c = 55 := by
  have h1 := h.1
  have h2 := h.2
  omega
theorem basedO {l : List Nat} (h : ∀ c ∈ l, IsO c) : based 8 l = (8, false, l) := by
  unfold based
  split
  · rename_i p hp
    exfalso
    match l, h, hp with
    | [], _, hp => cases (show (none : Option Nat) = some p from hp)
    | [a], h, hp =>
      rcases figO (h a List.mem_cons_self) with e | e | e | e | e | e | e | e <;> subst e <;> cases (show (none : Option Nat) = some p from hp)
    | a :: c :: r, h, hp =>
      have hc := (h c (List.mem_cons_of_mem _ List.mem_cons_self)).2
      rcases figO (h a List.mem_cons_self) with e | e | e | e | e | e | e | e
      · subst e
        have hp' : (if (c == 120 || c == 88) = true then some 16 else if (c == 111 || c == 79) = true then some 8 else if (c == 98 || c == 66) = true then some 2 else none) = some p := hp
        rw [if_neg (by rw [Bool.or_eq_true, beq_iff_eq, beq_iff_eq]; omega), if_neg (by rw [Bool.or_eq_true, beq_iff_eq, beq_iff_eq]; omega), if_neg (by rw [Bool.or_eq_true, beq_iff_eq, beq_iff_eq]; omega)] at hp'
        cases hp'
      all_goals
        subst e
        cases (show (none : Option Nat) = some p from hp)
  · rfl
theorem readO {l : List Nat} (h : ∀ c ∈ l, IsO c) (ne : l ≠ []) : (int_private% "readNumeral") 0 8 l = (int_private% "Numeral.value") ((oct l : Nat) : Int) := by
  have rev : ∀ c ∈ l.reverse, Hx.IsHex c := fun c m => hexs h c (List.mem_reverse.mp m)
  have eb : based 8 l = (8, false, l) := basedO h
  refine (readNumeral_eq 0 8 l).trans ?_
  rw [Hx.dropB (hexs h), Hx.signH (hexs h)]
  show judge 0 false (based 8 l).1 (based 8 l).2.1 (digits? (based 8 l).1 (((based 8 l).2.2.reverse.dropWhile blank).reverse)) = _
  rw [eb]
  show judge 0 false 8 false (digits? 8 ((l.reverse.dropWhile blank).reverse)) = _
  rw [Hx.dropB rev, List.reverse_reverse, digsO h ne]
  show (int_private% "Numeral.value") (((l.foldl (fun w c => w.push (c - 48)) (#[] : Array Nat)).foldl (fun n d => n * 8 + d) 0 : Nat) : Int) = _
  rw [sumO]
  rfl
set_option maxHeartbeats 4000000 in
theorem gives_oct {x : PySem.Str} {u t : Tok} (hl : x.length ≤ 640) (h : ∀ c ∈ x.cps.toList, IsO c) (ne : x.cps.toList ≠ []) :
    Gives (Builtin.«int.__new__» ⟨[.type "int", .str x u, .int 8 t], []⟩) (.int ((oct x.cps.toList : Nat) : Int)) :=
  .of_wp fun M A E s Q hQ => by
    obtain ⟨hp, g, d, tk, os⟩ := s
    have k1 := F.conv_sub_int
    have k2 := F.madeHere_int
    have k3 : typeOf (.str x u) = pure (.type "str") := rfl
    obtain ⟨e1, e2⟩ := Hx.seen_hex (hexs h)
    have z : Hx.Hid ((numSeenOf x).length ≤ 640 ∧ (int_private% "readNumeral") 0 8 (numSeenOf x) = (int_private% "Numeral.value") ((oct x.cps.toList : Nat) : Int) ∧ ((numSeenOf x).length == (numTextOf x).length) = true) :=
      ⟨by rw [e2, Array.length_toList]; exact hl, by rw [e2]; exact readO h ne, by rw [e1, e2]; exact beq_self_eq_true _⟩
    clear e1 e2 hl ne h
    repeat (any_goals (first
      | assumption
      | ((with_reducible show wpAny _ _ ((int_private% "intFromText") _ _ _) _ _ _); refine Hx.wp_textB z.out.1 z.out.2.1 z.out.2.2 ?_)
      | wp_step))
    all_goals first | exact ⟨_, rfl, hQ⟩ | skip
end Oc
def rOct : List V → Hp → VK → Prop := fun xs H Q => ∃ x : Str, xs = [.str x, .int 8] ∧ x.length ≤ 640 ∧ (∀ c ∈ x.cps.toList, Oc.IsO c) ∧ x.cps.toList ≠ [] ∧ Q (.int ((Oc.oct x.cps.toList : Nat) : Int)) H
theorem cr_oct {X : Cx} : CallR X (.type "int") rOct := by
  intro pins s σ H xs us Q I r h
  obtain ⟨x, rfl, h1, h2, h3, q⟩ := h
  obtain ⟨u, v, rfl, ⟨t1, rfl⟩, ⟨t2, rfl⟩⟩ := vals2 r
  exact callType_new F.called_int F.newNe_int (Hx.typeCall_int_2 _ _) (Hx.newCall_int_2 _ _) (fun o => F.initArgs_range_2 o _ _) F.entry_int_new (Oc.gives_oct h1 h2 h3).meets
    (show (Made.int ((Oc.oct x.cps.toList : Nat) : Int)).post _ s from ⟨rfl, ⟨.int _, H, I.tok _, ⟨_, rfl⟩, q⟩⟩)
end Mo
set_option Elab.async false
set_option linter.all false
set_option maxRecDepth 100000
set_option maxHeartbeats 1000000
/-! Mo, part MtP: f"{n:o}", f"{n:b}", translate by a dict, zfill, index, ord, int(x, 8). -/
namespace Mo
open PySem PySem.Spec PySem.Calls L2 PyProof.Rows
theorem gives_str_eq {x y : Str} (h : x = y) : Gives (retStr x) (.str y) := by
  subst h
  exact .of_eq rfl
theorem gives_o (a : Int) (h0 : 0 ≤ a) (t u : Tok) : Gives (Builtin.«int.__format__» ⟨[.int a t, .str ⟨#[111]⟩ u], []⟩) (.str ⟨((Nat.toDigits 8 a.natAbs).map Char.toNat).toArray⟩) := by
  unfold Builtin.«int.__format__»
  show Gives (do let _kind ← typeNameOf (.str ⟨#[111]⟩ u); _) _
  refine gives_after_typeNameOf (T := "str") (fun s => typeIs_str s _ _) (by decide) fun n => ?_
  show Gives (do let name ← typeNameOf (.int a t); _) _
  refine gives_after_typeNameOf (T := "int") (fun s => typeIs_int s _ _) (by decide) fun n2 => ?_
  show Gives (do let name ← typeNameOf (.int a t); _) _
  refine gives_after_typeNameOf (T := "int") (fun s => typeIs_int s _ _) (by decide) fun n2 => ?_
  show Gives (retStr _) _
  refine gives_str_eq ?_
  generalize hd : List.map _ (Nat.toDigits 8 a.natAbs) = ds
  rw [show List.map Char.toNat (Nat.toDigits 8 a.natAbs) = ds from hd]
  clear hd
  rw [decide_eq_false (show ¬ a < 0 by omega)]
  cases ds with
  | nil => rfl
  | cons c r =>
    show (⟨(List.replicate (((-1 : Int) - ((0 : Nat) : Int) - ((List.replicate ((0 : Int).toNat - (c :: r).length) 48 ++ c :: r).length : Int)).toNat) 32 ++ [] ++ [] ++ List.replicate 0 32 ++ (List.replicate ((0 : Int).toNat - (c :: r).length) 48 ++ c :: r) ++ [] ++ List.replicate 0 32).toArray⟩ : Str) = _
    have e : (((-1 : Int) - ((0 : Nat) : Int) - ((List.replicate ((0 : Int).toNat - (c :: r).length) 48 ++ c :: r).length : Int)).toNat) = 0 := by omega
    rw [e]
    simp
theorem gives_b (a : Int) (h0 : 0 ≤ a) (t u : Tok) : Gives (Builtin.«int.__format__» ⟨[.int a t, .str ⟨#[98]⟩ u], []⟩) (.str ⟨((Nat.toDigits 2 a.natAbs).map Char.toNat).toArray⟩) := by
  unfold Builtin.«int.__format__»
  show Gives (do let _kind ← typeNameOf (.str ⟨#[98]⟩ u); _) _
  refine gives_after_typeNameOf (T := "str") (fun s => typeIs_str s _ _) (by decide) fun n => ?_
  show Gives (do let name ← typeNameOf (.int a t); _) _
  refine gives_after_typeNameOf (T := "int") (fun s => typeIs_int s _ _) (by decide) fun n2 => ?_
  show Gives (do let name ← typeNameOf (.int a t); _) _
  refine gives_after_typeNameOf (T := "int") (fun s => typeIs_int s _ _) (by decide) fun n2 => ?_
  show Gives (retStr _) _
  refine gives_str_eq ?_
  generalize hd : List.map _ (Nat.toDigits 2 a.natAbs) = ds
  rw [show List.map Char.toNat (Nat.toDigits 2 a.natAbs) = ds from hd]
  clear hd
  rw [decide_eq_false (show ¬ a < 0 by omega)]
  cases ds with
  | nil => rfl
  | cons c r =>
    show (⟨(List.replicate (((-1 : Int) - ((0 : Nat) : Int) - ((List.replicate ((0 : Int).toNat - (c :: r).length) 48 ++ c :: r).length : Int)).toNat) 32 ++ [] ++ [] ++ List.replicate 0 32 ++ (List.replicate ((0 : Int).toNat - (c :: r).length) 48 ++ c :: r) ++ [] ++ List.replicate 0 32).toArray⟩ : Str) = _
    have e : (((-1 : Int) - ((0 : Nat) : Int) - ((List.replicate ((0 : Int).toNat - (c :: r).length) 48 ++ c :: r).length : Int)).toNat) = 0 := by omega
    rw [e]
    simp
section TR
open PySem.Builtin PySem.Builtin.Str
variable {X : Cx} {pins : List (Addr × Obj)} {σ : L2.St} {H : Hp}
abbrev TSt := List Str × Nat × Bool × List (Nat × Option Nat) × Bool
def Mid (X : Cx) (pins : List (Addr × Obj)) (σ : L2.St) (H : Hp) (f : Nat → Nat) (x : List Nat) (rest : List Nat) (b : TSt) (s : Shared) : Prop :=
  ∃ (past : List Nat) (ps : List Str) (known : List (Nat × Option Nat)), x = past ++ rest ∧ b = (ps, past.length, true, known, false) ∧ ps.reverse = past.map (fun c => (⟨#[f c]⟩ : Str)) ∧
    (∀ c u, List.lookup c known = some u → u = some (f c)) ∧ Inv X pins σ H s
theorem glue (f : Nat → Nat) : ∀ (l : List Nat) (z : Array Nat), (l.map fun c => (⟨#[f c]⟩ : Str)).foldl (fun z p => z ++ p.cps) z = z ++ (l.map f).toArray
  | [], z => by simp
  | c :: l, z => by
    rw [List.map_cons, List.foldl_cons, glue f l]
    simp
theorem mid_next {f : Nat → Nat} {x rest past : List Nat} {c : Nat} {ps : List Str} {known : List (Nat × Option Nat)} {s : Shared} (e : x = past ++ c :: rest) (h : ps.reverse = past.map (fun c => (⟨#[f c]⟩ : Str)))
    (hk : ∀ c u, List.lookup c known = some u → u = some (f c)) (I : Inv X pins σ H s) : Mid X pins σ H f x rest (⟨#[f c]⟩ :: ps, past.length + 1, true, known, false) s :=
  ⟨past ++ [c], ⟨#[f c]⟩ :: ps, known, by rw [e]; simp, by simp, by rw [List.reverse_cons, h]; simp, hk, I⟩
end TR
/-! ### as rules -/
def figs (B : Nat) (i : Int) : Str := ⟨((Nat.toDigits B i.natAbs).map Char.toNat).toArray⟩
section
variable {X : Cx} {W : WW} {K : PySem.W.Frag} {e o : Expr} {es : List Expr} {pos ps : Pos}
/-- {x:o} or {x:b} -/
def tFmtB (te ts : TE) : TE := fun σ H Q => te σ H fun x H1 => ts σ H1 fun y H2 => ∃ i B, x = .int i ∧ 0 ≤ i ∧ ((B = 8 ∧ y = .str ⟨#[111]⟩) ∨ (B = 2 ∧ y = .str ⟨#[98]⟩)) ∧ (figs B i).length ≤ sizeLine ∧ Q (.str (figs B i)) H2
theorem pe_fmtB {sp : Expr} {te ts : TE} (he : PE X e te) (hs : PE X sp ts) : PE X (.FormattedValue e (-1) (some sp) pos) (tFmtB te ts) := by
  refine ⟨fun pins s σ H Q I h => ?_⟩
  refine wpAny_FormattedValue_spec (thn (he.run pins s σ H _ I h) fun v s1 ⟨x, H1, I1, r1, q1⟩ => thn (hs.run pins s1 σ H1 _ I1 q1) fun w s2 ⟨y, H2, I2, r2, q2⟩ => ?_)
  obtain ⟨i, B, rfl, h0, hB, hz, q⟩ := q2
  obtain ⟨t, rfl⟩ := r1
  rcases hB with ⟨rfl, rfl⟩ | ⟨rfl, rfl⟩
  · obtain ⟨u, rfl⟩ := r2
    exact ⟨_, _, rfl, wpAny_formatField_spec (by rfl) (fun s' => typeIs_int s' i t) PySem.F.slot_int_format PySem.F.entry_int_format PySem.F.args_int_format_2 (fun u => gives_o i h0 t u) ⟨.str (figs 8 i), H2, (I2.tok _).tok _, ⟨_, rfl⟩, q⟩ (by show 1 ≤ sizeLine; rw [sizeLine_eq]; decide) hz⟩
  · obtain ⟨u, rfl⟩ := r2
    exact ⟨_, _, rfl, wpAny_formatField_spec (by rfl) (fun s' => typeIs_int s' i t) PySem.F.slot_int_format PySem.F.entry_int_format PySem.F.args_int_format_2 (fun u => gives_b i h0 t u) ⟨.str (figs 2 i), H2, (I2.tok _).tok _, ⟨_, rfl⟩, q⟩ (by show 1 ≤ sizeLine; rw [sizeLine_eq]; decide) hz⟩
def fFmtB : D → D → Option D
  | .int i, .str y => if 0 ≤ i ∧ y = ⟨#[111]⟩ ∧ (figs 8 i).length ≤ sizeLine then some (.str (figs 8 i)) else if 0 ≤ i ∧ y = ⟨#[98]⟩ ∧ (figs 2 i).length ≤ sizeLine then some (.str (figs 2 i)) else none
  | _, _ => none
theorem e_fmtB {sp : Expr} {ma mb : M D} (ha : EF X W e ma) (hb : EF X W sp mb) : EF X W (.FormattedValue e (-1) (some sp) pos) (mBin fFmtB ma mb) := fun J p g σ H R0 r hm Q hp =>
  of_pe (pe_fmtB semE semE) (ha.then R0 hm hp fun x g1 p1 H1 v ad1 R1 rv hm1 hp1 => hb.then R1 hm1 hp1 fun y g2 p2 H2 w ad2 R2 rw' hm2 hp2 => by
    obtain ⟨z, hz, hq⟩ := post_lift hm2 hp2 R2
    unfold fFmtB at hz
    split at hz
    · cases rep_int rv
      cases rep_str rw'
      split at hz
      · rename_i c
        cases hz
        exact ⟨_, 8, rfl, c.1, .inl ⟨rfl, by rw [c.2.1]⟩, c.2.2, hq p2 H2 .refl R2 _ (.str _)⟩
      · split at hz
        · rename_i c
          cases hz
          exact ⟨_, 2, rfl, c.1, .inr ⟨rfl, by rw [c.2.1]⟩, c.2.2, hq p2 H2 .refl R2 _ (.str _)⟩
        · cases hz
    · cases hz)
/-! methods of a text with one argument -/
def MS1 (K : PySem.W.Frag) (r : L2.St → V → List V → Hp → VK → Prop) (f : D → D → Option D) : Prop := ∀ J p g σ H x w y z (Q : VK), Rl K J p g σ H → Rep K (del p H) w y → f (.str x) y = some z →
  (∀ p' H', Ad g σ p H g p' H' → Rl K J p' g σ H' → ∀ u, Rep K (del p' H') u z → Q u H') → r σ (.str x) [w] H Q
theorem e_ms1 {a b : Expr} {pa : Pos} {ma mb : M D} {name : Str} {id : String} {r : L2.St → V → List V → Hp → VK → Prop} {f : D → D → Option D} (slot : Slot "str" name id) (hty : typeOf (.builtin id) = pure (.type "method_descriptor")) (hm' : MtS X id r) (hs : MS1 X.K r f)
    (ha : EF X W a ma) (hb : EF X W b mb) (hba : attributeBase a name X.env (eval a X.env) = eval a X.env := by rfl) (hl : (pa.endLine == pos.line) = true := by rfl) (hfew : ((backTo pos (starEach [b] X.env)).all (fun x => !x.1) && (backToKw pos (keywordEach [] X.env)).all (fun x => x.1.isSome) && decide ([b].length + ([] : List Keyword).length + (if ([] : List Keyword).isEmpty then 0 else 1) < 30)) = true := by rfl)
    (he : starEach [b] X.env = (false, eval b X.env) :: starEach [] X.env := by rfl) (hpl : (backTo pos (starEach [] X.env)).any (·.1) = false := by rfl) : EF X W (.Call (.Attribute a name pa) [b] [] pos) (mMs1 f ma mb) := fun J p g σ H R0 r hm Q hp =>
  of_pe (pe_bmS PySem.F.plainAttrs_str slot hty hm' semE (pa_cons semE pa_nil he) hba hfew hl he hpl) (ha.then R0 hm hp fun x g1 p1 H1 v ad1 R1 rv hm1 hp1 => by
    cases x <;> first | (cases hm1; done) | skip
    cases rep_str rv
    refine ⟨rfl, hb.then R1 hm1 hp1 fun y g2 p2 H2 w ad2 R2 rw' hm2 hp2 => ?_⟩
    obtain ⟨z, hz, hq⟩ := post_lift hm2 hp2 R2
    exact hs J p2 g2 σ H2 _ w y z Q R2 rw' hz hq)
def fZfill : D → D → Option D
  | .str x, .int i => if PadOk i = true then some (.str (Txt.zfill x i)) else none
  | _, _ => none
theorem ms_zfill : MS1 K (fun _ x xs H Q => ∃ (a : Str) (i : Int), x = .str a ∧ xs = [.int i] ∧ PadOk i = true ∧ Q (.str (Txt.zfill a i)) H) fZfill := fun J p g σ H x w y z Q R rw' e q => by
  cases y <;> first | (cases e; done) | skip
  rename_i i
  cases rep_int rw'
  have e' : (if PadOk i = true then some (D.str (Txt.zfill x i)) else none) = some z := e
  split at e'
  · rename_i hz
    cases e'
    exact ⟨_, _, rfl, rfl, hz, q p H .refl R _ (.str _)⟩
  · cases e'
def fIndex : D → D → Option D
  | .str x, .str y => (Txt.index0 x y).map fun k => .int (k : Nat)
  | _, _ => none
theorem ms_index : MS1 K (rIndexX fun _ _ _ _ => False) fIndex := fun J p g σ H x w y z Q R rw' e q => by
  unfold fIndex at e
  split at e
  · rename_i x' y' h
    cases h
    cases rep_str rw'
    obtain ⟨k, e1, e2⟩ := Option.map_eq_some_iff.mp e
    subst e2
    exact ⟨x, y', rfl, rfl, fun k' hk => by rw [e1] at hk; cases hk; exact q p H .refl R _ (.int _), fun hn => by rw [e1] at hn; cases hn⟩
  · cases e
theorem takes_none : Takes X fun _ _ _ _ => False := fun u s' ⟨_, _, _, _, _, _, _, _, _, _, _, _, _, _, _, _, h⟩ => h.elim
/-- one sign by a dict -/
def trOne (kvs : List (Key × D)) (c : Nat) : Option Nat := match valD kvs (.inl (c : Int)) with
  | some (.str x) => (match x.cps.toList with
    | [n] => if c < 128 ∧ n < 128 then some n else none
    | _ => none)
  | _ => none
def fTransl : D → D → Option D
  | .str x, .dk kvs => if x.length ≤ 1000000 then (x.cps.toList.mapM (trOne kvs)).map fun l => .str ⟨l.toArray⟩ else none
  | _, _ => none
theorem mapM_spec {α β : Type} {f : α → Option β} {d : β} : ∀ {l : List α} {m : List β}, l.mapM f = some m → m = l.map (fun c => (f c).getD d) ∧ ∀ c ∈ l, ∃ y, f c = some y
  | [], m, h => by
    cases h
    exact ⟨rfl, fun _ m => nomatch m⟩
  | c :: l, m, h => by
    rw [List.mapM_cons] at h
    cases e : f c with
    | none => rw [e] at h; cases h
    | some y =>
      cases e2 : l.mapM f with
      | none => rw [e, e2] at h; cases h
      | some r =>
        rw [e, e2] at h
        cases h
        obtain ⟨h1, h2⟩ := mapM_spec (d := d) e2
        refine ⟨by rw [List.map_cons, e, ← h1]; rfl, fun x hx => ?_⟩
        rcases List.mem_cons.mp hx with z | z
        · exact ⟨y, by rw [z, e]⟩
        · exact h2 x z
/-! ord(x), int(x, 8) -/
def fOrd : List D → Option D
  | [.str x] => if x.length = 1 then some (.int (x.cps.getD 0 0 : Nat)) else none
  | _ => none
def fInt8 : List D → Option D
  | [.str x, .int 8] => if x.length ≤ 640 ∧ (∀ c ∈ x.cps.toList, Oc.IsO c) ∧ x.cps.toList ≠ [] then some (.int ((Oc.oct x.cps.toList : Nat) : Int)) else none
  | _ => none
theorem cs_oct : CS K rOct fInt8 := fun J p g σ H vs ds z Q R rs e q => by
  unfold fInt8 at e
  split at e
  · split at e
    · rename_i h
      cases e
      obtain ⟨v, w, rfl, rv, rw'⟩ := reps2 rs
      cases rep_str rv
      cases rep_int rw'
      exact ⟨_, rfl, h.1, h.2.1, h.2.2, q p H .refl R _ (.int _)⟩
    · cases e
  · cases e
end
end Mo
set_option Elab.async false
set_option linter.all false
set_option maxRecDepth 100000
set_option maxHeartbeats 1000000
/-! Mo, part MtQ: a[i].replace(c, d), a a text. -/
namespace Mo
open PySem PySem.Spec PySem.Calls L2 PyProof.Rows
section
variable {X : Cx} {W : WW} {a b : Expr} {ta tb : TE} {y z : Str} {j k : Nat} {c0 c1 ip apos pos : Pos}
def rReplIx (y z : Str) : R2 := fun x w H Q => ∃ u i c, x = .str u ∧ w = .int i ∧ 0 ≤ i ∧ i < 2 ^ 63 ∧ i < u.length ∧ u.cps[i.toNat]? = some c ∧ z.length ≤ 1000 ∧ Q (.str (Txt.replace ⟨#[c]⟩ y z)) H
theorem pe_replIx (ha : PE X a ta) (hb : PE X b tb) (hs : PlainIxT b) (hyz : (y == z) = false := by decide)
    (hst : starEach [.Constant (.str y) j c0, .Constant (.str z) k c1] X.env = [(false, eval (.Constant (.str y) j c0) X.env), (false, eval (.Constant (.str z) k c1) X.env)] := by rfl)
    (hbase : attributeBase (.Subscript a b ip) "replace" X.env (eval (.Subscript a b ip) X.env) = eval (.Subscript a b ip) X.env := by rfl) (hline : (apos.endLine == pos.line) = true := by rfl) :
    PE X (.Call (.Attribute (.Subscript a b ip) "replace" apos) [.Constant (.str y) j c0, .Constant (.str z) k c1] [] pos) (tOp (rReplIx y z) ta tb) := by
  refine ⟨fun pins s σ H Q I h => ?_⟩
  refine PySem.Call_method2 hbase hst hline (Subscript_ (binT ha hb I h fun v u s2 x w H2 I2 rx ry q => ?_))
  obtain ⟨xx, i, c, rfl, rfl, h0, h63, h1, hc, hz, q⟩ := q
  obtain ⟨t, rfl⟩ := rx
  obtain ⟨t', rfl⟩ := ry
  have e : seqIndex? i xx.length = some i.toNat := PySem.StrLaws.seqIndex_nonneg h0 h1
  refine tail_any (typeIs_str s2 xx t) slot_str_getitem.lookup (getItem_str (c := c) (by
    have n1 : decide (i < -(2 ^ 63 : Int)) = false := decide_eq_false (by omega)
    have n2 : decide (i ≥ 2 ^ 63) = false := decide_eq_false (by omega)
    rw [n1, n2] <;> rfl) (by rw [e]; exact hc) ?_) (hs _ _)
  refine ⟨"str", _, PySem.F.plainAttrs_str, PySem.F.slot_str_replace, PySem.F.type_str_replace, typeIs_str _ _ _, (fun _ e => nomatch e), Calls.callWith_builtin rfl (Calls.evalArgs_plain (Calls.spliced_cons ?_))⟩
  refine Calls.Constant_str (Calls.spliced_cons (Calls.Constant_str (Calls.spliced_nil ?_)))
  have I3 := I2.tok (s2.toks + 1)
  refine PySem.SC.replace (by show s2.toks + 1 ≠ 0; omega) (by show s2.toks + 1 + 1 ≠ 0; omega) (by show s2.toks + 1 ≠ s2.toks + 1 + 1; omega) hyz ?_ fun t' k => ⟨.str (Txt.replace ⟨#[c]⟩ y z), H2, I3.tok k, ⟨t', rfl⟩, q⟩
  show 1 + (1 + 1) * z.length ≤ 16777216
  omega
def fReplIx (y z : Str) : D → D → Option D
  | .str u, .int i => if 0 ≤ i ∧ i < 2 ^ 63 ∧ i < u.length ∧ z.length ≤ 1000 then (u.cps[i.toNat]?).map fun c => .str (Txt.replace ⟨#[c]⟩ y z) else none
  | _, _ => none
theorem e_replIx {ma mb : M D} (ha : EF X W a ma) (hb : EF X W b mb) (hs : PlainIxT b := by exact fun _ _ => rfl) (hyz : (y == z) = false := by decide)
    (hst : starEach [.Constant (.str y) j c0, .Constant (.str z) k c1] X.env = [(false, eval (.Constant (.str y) j c0) X.env), (false, eval (.Constant (.str z) k c1) X.env)] := by rfl)
    (hbase : attributeBase (.Subscript a b ip) "replace" X.env (eval (.Subscript a b ip) X.env) = eval (.Subscript a b ip) X.env := by rfl) (hline : (apos.endLine == pos.line) = true := by rfl) :
    EF X W (.Call (.Attribute (.Subscript a b ip) "replace" apos) [.Constant (.str y) j c0, .Constant (.str z) k c1] [] pos) (mBin (fReplIx y z) ma mb) := fun J p g σ H R0 r hm Q hp =>
  of_pe (pe_replIx semE semE hs hyz hst hbase hline) (ha.then R0 hm hp fun x g1 p1 H1 v ad1 R1 rv hm1 hp1 => hb.then R1 hm1 hp1 fun w g2 p2 H2 v2 ad2 R2 rw' hm2 hp2 => by
    obtain ⟨r2, hz, hq⟩ := post_lift hm2 hp2 R2
    unfold fReplIx at hz
    split at hz
    · cases rep_str rv
      cases rep_int rw'
      split at hz
      · rename_i c
        obtain ⟨cc, e1, e2⟩ := Option.map_eq_some_iff.mp hz
        subst e2
        exact ⟨_, _, cc, rfl, rfl, c.1, c.2.1, c.2.2.1, e1, c.2.2.2, hq p2 H2 .refl R2 _ (.str _)⟩
      · cases hz
    · cases hz)
end
end Mo
set_option Elab.async false
set_option linter.all false
set_option maxRecDepth 100000
set_option maxHeartbeats 1000000
/-! Mo, part MtR: def f(a, .., *v). -/
namespace Mo
open PySem PySem.Spec PySem.Calls L2 PyProof.Rows
open StX (vals_split run_bnd env0_laid un_laid)
section
variable {P : Program} {w : World} {K : PySem.W.Frag} {mg : Str → Option Value} {base : Heap} {x qual pv : Str} {st : Stmt} {f : Addr} {fd : FuncData} {N ps : List Str} {k : Nat} {m : M Oc}
structure FnS (P : Program) (w : World) (K : PySem.W.Frag) (mg : Str → Option Value) (base : Heap) (k : Nat) (f : Addr) (n : Nat) (sp : Sp) : Prop where
  go : ∀ (B : Around) (fr : List Env) (s : Shared) (J : Hp) (ws : List Value) (xs : List V) (R : VK) (Z : XK), Room k B → B.guards = some [] → Env0 P w K mg base B fr s J → Vals xs ws → n ≤ xs.length → xs.length ≤ sizeLine →
    (∀ p, J p = none → sp (xs.take n ++ [V.ref p]) (upd J p (.tup (xs.drop n))) R Z) → codeAny (model P w) B (.call (.ref f) ⟨ws, []⟩) (CR CX0 fr P w J s R Z) s
theorem FnS.mono {j n : Nat} {sp : Sp} (F : FnS P w K mg base j f n sp) (h : j ≤ k) : FnS P w K mg base k f n sp := ⟨fun B fr s J ws xs R Z r => F.go B fr s J ws xs R Z (r.mono h)⟩
/-- what binds them -/
def StarB (fd : FuncData) (ps : List Str) (pv : Str) : Prop := ∀ us rest : List Value, us.length = ps.length → bindArgs fd ⟨us ++ rest, []⟩ = (newTuple rest >>= fun t => pure (ps.zip us ++ [(pv, t)]))
theorem starB0 (h0 : bindArgs fd ⟨[], []⟩ = (newTuple [] >>= fun t => pure [(pv, t)])) (h1 : ∀ r rs, bindArgs fd ⟨r :: rs, []⟩ = (newTuple (r :: rs) >>= fun t => pure [(pv, t)])) : StarB fd [] pv
  | [], [], _ => h0
  | [], r :: rs, _ => h1 r rs
theorem okS (F : Fun K x qual st f fd) (S : FnScope N (ps ++ [pv]) (defScope st)) (hb : StarB fd ps pv)
    (body : ∀ (cdv : Value) (B : Around) (fr : List Env) (s : Shared) (J0 : Hp) (Z : XK), Room k (XX P w K mg base N qual st f cdv B fr s J0 Z).A → (XX P w K mg base N qual st f cdv B fr s J0 Z).A.guards = some [] →
      SB (XX P w K mg base N qual st f cdv B fr s J0 Z) WN (defBody st) m) : FnS P w K mg base (k + 1) f ps.length (spM K false (runM false N.length (ps.length + 1) m)) := by
  obtain ⟨oc, od, kV, doc, pm, an, cdv, ct, osl, rfl, lk, hcd⟩ := F.ex
  refine ⟨fun B fr s J ws xs R Z hr hg e0 r hn hz hsp => ?_⟩
  have r0 : Vals (xs.take ps.length ++ xs.drop ps.length) ws := by rw [List.take_append_drop]; exact r
  obtain ⟨u1, u2, rfl, r1, r2⟩ := vals_split r0
  have hJ : J s.heap.objs.size = none := e0.hok.fresh (Nat.le_refl _)
  have l1 : u1.length = ps.length := by rw [← r1.length, List.length_take]; omega
  have l2 : u2.length ≤ sizeLine := by rw [← r2.length, List.length_drop]; omega
  refine run_bnd lk hcd S hr e0 (G := fun ys H2 => ∃ p, J p = none ∧ ys = xs.take ps.length ++ [V.ref p] ∧ H2 = upd J p (.tup (xs.drop ps.length))) (fun A' Ex Q' h => ?_) fun s2 H2 ys ⟨p, hp, ey, eH⟩ hr' => ?_
  · rw [hb u1 u2 l1]
    refine wpAny_bind (wpAny_newTuple (wpAny_pure ?_) l2)
    have ob : ObjOk P w (upd J s.heap.objs.size (.tup (xs.drop ps.length))) (s.heap.push ({ cls := .type "tuple", data := .seq u2.toArray } : Obj)) s.heap.objs.size (.tup (xs.drop ps.length)) := ⟨by rw [List.length_drop]; omega, u2, r2, ⟨_, Heap.get?_push_size _ rfl, rfl, _, rfl⟩⟩
    have z := h _ _ (xs.take ps.length ++ [V.ref s.heap.objs.size]) (u1 ++ [Value.ref s.heap.objs.size]) (env0_laid e0 ob) (un_laid hJ) rfl (fun e s' z => z) (r1.append (.cons rfl .nil))
      (by simp only [List.length_append, List.length_take, List.length_cons, List.length_nil]; omega) ⟨_, hJ, rfl, rfl⟩
    rw [List.zip_append l1.symm] at z
    exact z
  · subst ey eH
    obtain ⟨p0, c, ds, ws', d, c', ha, hd, rr, e, q⟩ := hsp p hp
    refine ⟨_, (semSs (X := (cxOf CX0 P w K mg base N qual (defScope st) f cdv B fr s2 (upd J p (.tup (xs.drop ps.length))) Z).nox)).nox, ?_⟩
    unfold runM at e
    split at e
    · cases e1 : m ⟨ini false N.length ds, c⟩ with
      | none =>
        rw [e1] at e
        cases e
      | some r1 =>
        rw [e1] at e
        refine body cdv B fr s2 _ Z hr' hg _ p0 _ _ _ (rl_start ha hd rr) r1 e1 _ ?_
        have fin : ∀ {p' : Mt} {H' : Hp} {g' : G} {σ' : L2.St}, As (upd J p (.tup (xs.drop ps.length))) p0 (upd J p (.tup (xs.drop ps.length))) p' H' → Rl K (upd J p (.tup (xs.drop ps.length))) p' g' σ' H' → Af K p0 p0 (upd J p (.tup (xs.drop ps.length))) H' g'.c := fun a R => ⟨fun b o n e => R.old b o (by rw [a.dd]; exact n) e, fun b e => (R.dice b (by rw [a.dd]; exact e)).le (le_back (fun a m => mut_ne (hd.lv a m)) a.dd a.ex) rfl, R.fz⟩
        cases r1 with
        | ex E g => cases e
        | ok o g =>
          cases o with
          | nx =>
            cases e
            exact fun σ' p' H' a R => q _ H' (fin a R) .non
          | rt d =>
            cases e
            exact fun σ' p' H' v a R rv => q v H' (fin a R) (rv.le (le_back (fun a m => mut_ne (hd.lv a m)) a.dd a.ex))
          | rto o =>
            cases e
            refine fun σ' p' H' y a R h1 h2 h3 h4 => q _ H' (fin a R) ?_
            obtain ⟨R2, e2⟩ := R.show_ h3 h1
            refine ((h4.le del_rem rfl).rep e2).le (le_back (p' := p'.rem y) (fun a m => mut_ne (hd.lv a m)) a.dd fun b hb n => List.mem_filter.mpr ⟨a.ex b hb n, decide_eq_true fun z => n (z ▸ h2)⟩)
          | bk => cases e
          | ct => cases e
    · cases e
end
section
variable {X : Cx} {W : WW} {e : Expr} {es : List Expr} {pos ps : Pos} {x : Str} {f : Addr} {k n : Nat}
/-- a star def called -/
def mFnS (n : Nat) (F : FD) (ms : M (List D)) : M D := ms.bind fun ds => if n ≤ ds.length ∧ ds.length ≤ sizeLine then liftC (F (ds.take n ++ [.tup (ds.drop n)])) else bad
theorem callS {sp : Sp} {t : TA} {Z : XK} (F : FnS X.prog X.w X.K X.mg X.base k f n sp) (hr : Room k X.A) (hgd : X.A.guards = some [])
    (hg : Gl X x) (hm : X.mg x = some (.ref f)) (hk : PySem.W.keepIn X.K (.ref f) = true) (hx : Passes CX0 X Z)
    (ha : PA X (e :: es) t) (hdb : (x == ("__debug__" : Str)) = false := by decide) (he : starEach (e :: es) X.env = (false, eval e X.env) :: starEach es X.env := by rfl) (hpl : (backTo pos (starEach es X.env)).any (·.1) = false := by rfl) :
    PE X (.Call (.Name x ps) (e :: es) [] pos) (fun σ H Q => t σ H fun xs H1 => n ≤ xs.length ∧ xs.length ≤ sizeLine ∧ ∀ p, H1 p = none → sp (xs.take n ++ [V.ref p]) (upd H1 p (.tup (xs.drop n))) Q Z) := by
  constructor
  intro pins s σ J R I h
  apply wpAny_Call_Name_kw
  refine ld_glob I hg hm ?_ hdb
  refine PySem.W.callWith_K (h₀ := X.base) I.ok.mod.kin hk (thn (ha.run pos pins s σ J _ I h) fun ws s1 z => ?_) he hpl
  obtain ⟨xs, J1, I1, r, q1, q2, q⟩ := z
  refine ⟨I1.kIn, ?_⟩
  refine wpAny_call (codeAny_mono (F.go X.A X.stack s1 J1 ws xs R Z hr hgd I1.env0 r q1 q2 q) fun o s2 w2 => ?_)
  match o, w2 with
  | .error e, w2 => exact hx pins σ J1 s1 e s2 I1 w2
  | .ok (.ret u), w2 => exact I1.after w2
theorem e_fnS {F : FD} {ms : M (List D)} (hF : FnS X.prog X.w X.K X.mg X.base k f n (spM X.K false F)) (hr : Room k X.A) (hgd : X.A.guards = some []) (hm : X.mg x = some (.ref f)) (hk : PySem.W.keepIn X.K (.ref f) = true)
    (ha : EA X W (e :: es) ms) (hg : Gl X x := by rfl) (hdb : (x == ("__debug__" : Str)) = false := by decide) (he : starEach (e :: es) X.env = (false, eval e X.env) :: starEach es X.env := by rfl) (hpl : (backTo pos (starEach es X.env)).any (·.1) = false := by rfl) :
    EF X W (.Call (.Name x ps) (e :: es) [] pos) (mFnS n F ms) := fun J p g σ H R0 r hm' Q hp =>
  of_pe (callS hF hr hgd hg hm hk pass0 semA hdb he hpl) (by
    refine ha.then R0 hm' hp fun ds g1 p1 H1 vs ad1 R1 rs hm1 hp1 => ?_
    split at hm1
    · rename_i hc
      have lv : vs.length = ds.length := rs.len
      refine ⟨by rw [lv]; exact hc.1, by rw [lv]; exact hc.2, fun q hq => ?_⟩
      obtain ⟨R2, ad2, hat⟩ := R1.new (o := .tup (vs.drop n)) hq
      obtain ⟨d, c, e1, rfl⟩ := liftC_some hm1
      refine ⟨p1, g1.c, _, _, d, c, rfl, R2.hd, ((rs.take n).le ad2.le).app (.cons (.tup hat ((rs.drop n).le ad2.le)) .nil), e1, fun v J2 a rv => ?_⟩
      obtain ⟨R3, ad3⟩ := R2.after a
      exact hp1 p1 J2 (ad2.trans ad3) R3 v rv
    · cases hm1)
end
end Mo
set_option Elab.async false
set_option linter.all false
set_option maxRecDepth 100000
set_option maxHeartbeats 4000000
/-! Mo, part MtS: zip of texts, lists and tuples, in whatever order. -/
namespace Mo
open PySem PySem.Spec L2
open PyProof.Rows hiding St
/-- what is zipped -/
inductive Zs where
  | q (k : Kd) (a : Addr)
  | x (y : Str) (t : Tok)
def Zs.fp (it : Addr) : Zs → List Addr
  | .q _ a => [it, a]
  | .x _ _ => [it]
def Zs.at (h : Heap) (it : Addr) (i : Nat) : Zs → Prop
  | .q k a => Ik k h it a i
  | .x y t => h.IsStrIter it (strIterType y) y t i
def Zs.has (K : PySem.W.Frag) (H : Hp) (xs : List V) : Zs → Prop
  | .q k a => Sk K k H a xs
  | .x y _ => xs = chV y
def Zs.sep (it : Addr) : Zs → Prop
  | .q _ a => a ≠ it
  | .x _ _ => True
theorem zs_keep {h h' : Heap} {it : Addr} {i : Nat} : ∀ {s : Zs}, s.at h it i → (∀ o, h.get? it = some o → h'.get? it = some o) → s.at h' it i
  | .q _ _, z, kp => ik_keep z kp
  | .x _ _, z, kp => si_keep z kp
theorem zs_obj {h : Heap} {it : Addr} {i : Nat} : ∀ {s : Zs}, s.at h it i → ∃ o, h.get? it = some o ∧ ∀ v, o.data ≠ .cell v
  | .q _ _, z => ik_obj z
  | .x _ _, z => si_obj z
theorem zs_draw {X : Cx} {pins : List (Addr × Obj)} {σ : L2.St} {H : Hp} {s : Shared} (I : Inv X pins σ H s) (hd : X.A.in1.handled = none) (it : Addr) {xs : List V} : ∀ {z : Zs}, z.has X.K H xs → z.sep it →
    ∃ (P : Nat → Value → Prop) (St : Nat → Heap → Prop), Draws X.prog X.w X.A.in1 it (z.fp it) xs.length P St ∧ (∀ i v y, P i v → xs[i]? = some y → RelV y v) ∧ (∀ i, z.at s.heap it i → St i s.heap) ∧ ∀ i h', St i h' → z.at h' it i
  | .q k a, hz, ne => by
    obtain ⟨its, rv, p, _⟩ := inv_sk I hz
    have el : xs.length = its.toArray.size := by rw [rv.length]; simp
    refine ⟨fun i v => its.toArray[i]? = some v, fun i h => Ik k h it a i ∧ Ak k h a its.toArray, by rw [el]; exact draws_k hd k it a ne its.toArray, fun i v y e hy => ?_, fun i q => ⟨q, p⟩, fun i h' q => q.1⟩
    obtain ⟨u, hu, ru⟩ := rv.get hy
    have : its[i]? = some v := by simpa using e
    rw [hu] at this
    cases this
    exact ru
  | .x y t, hz, _ => by
    cases hz
    have el : (chV y).length = y.cps.size := by unfold chV; rw [List.length_map, Array.length_toList]
    refine ⟨_, _, by rw [el]; exact Draws.text hd it y t, fun i v u e hy => ?_, fun i q => q, fun i h' q => q⟩
    obtain ⟨c, t', hc, rfl⟩ := e
    rw [chV_at hc] at hy
    cases hy
    exact ⟨t', rfl⟩
section
variable {P : Program} {w : World} {K : PySem.W.Frag}
def ItS (K : PySem.W.Frag) (s1 s2 : Zs) : It :=
  ⟨fun i H => ∃ (xs ys : List V) (u v : V), s1.has K H xs ∧ s2.has K H ys ∧ xs[i]? = some u ∧ ys[i]? = some v,
    fun i H r H' => ∃ T u v, r = .ref T ∧ H T = none ∧ H' = upd H T (.tup [u, v]) ∧ (∀ xs, s1.has K H xs → xs[i]? = some u) ∧ ∀ ys, s2.has K H ys → ys[i]? = some v,
    fun i H => ∃ xs ys : List V, s1.has K H xs ∧ s2.has K H ys ∧ i ≤ xs.length ∧ i ≤ ys.length ∧ (i = xs.length ∨ i = ys.length)⟩
theorem zs_inj {X : Cx} {pins : List (Addr × Obj)} {σ : L2.St} {H : Hp} {s : Shared} (I : Inv X pins σ H s) {xs ys : List V} : ∀ {z : Zs}, z.has X.K H xs → z.has X.K H ys → xs = ys
  | .q _ _, h1, h2 => inv_sk_inj I h1 h2
  | .x _ _, h1, h2 => h1.trans h2.symm
theorem turn_zipS {elts : List Expr} {kk : Nat} {tpos : Pos} {s1 s2 : Zs} {z TI TO i1 i2 : Addr} (S : ZipSep2 z TI TO i1 i2 (s1.fp i1) (s2.fp i2)) (n1 : s1.sep i1) (n2 : s2.sep i2) :
    L2.Turn P w K (.Tuple elts kk tpos) (ItS K s1 s2) [z, TI, TO, i1, i2] z (fun i h => IsZip h z TI TO .none ∧ IsTupOf2 h TI (.ref i1) (.ref i2) ∧ (∃ u v, IsTupOf2 h TO u v) ∧ s1.at h i1 i ∧ s2.at h i2 i) where
  mem := by simp
  obj := fun i h ⟨hz, hTI, ⟨u, v, hTO⟩, h1, h2⟩ c hc => by
    rcases pair5 hc with q | q | q | q | q <;> rw [q]
    · exact ⟨_, hz, fun v q => nomatch q⟩
    · exact ⟨_, hTI, fun v q => nomatch q⟩
    · exact ⟨_, hTO, fun v q => nomatch q⟩
    · exact zs_obj h1
    · exact zs_obj h2
  keep := fun i h h' ⟨hz, hTI, ⟨u, v, hTO⟩, h1, h2⟩ kp => ⟨kp z (by simp) _ hz, kp TI (by simp) _ hTI, ⟨u, v, kp TO (by simp) _ hTO⟩, zs_keep h1 fun o q => kp i1 (by simp) o q, zs_keep h2 fun o q => kp i2 (by simp) o q⟩
  item := by
    intro X hP hw hK hc i pins s σ H E I hf ⟨hz, hTI, ⟨x0, y0, hTO⟩, h1, h2⟩ ⟨xs, ys, y1, y2, q1, q2, hx, hy⟩
    subst hP hw hK
    have hd : X.A.in1.handled = none := I.ok.hd hc
    obtain ⟨P1, St1, D1, r1, a1, b1⟩ := zs_draw I hd i1 q1 n1
    obtain ⟨P2, St2, D2, r2, a2, b2⟩ := zs_draw I hd i2 q2 n2
    have hzl : z < s.heap.objs.size := Heap.lt_size hz
    have l1 : i < xs.length := (List.getElem?_eq_some_iff.mp hx).1
    have l2 : i < ys.length := (List.getElem?_eq_some_iff.mp hy).1
    refine wpAny_pyNext_zipD2_item S D1 D2 hz hTI hTO (a1 i h1) (a2 i h2) l1 l2 fun w1 w2 h' tk e1 e2 z' TO' g1 g2 hT hsz hk => ?_
    refine ⟨_, rfl, wpAny_letOwnedTupleGo_zip (s := { s with heap := h', toks := tk }) z' fun h'' z'' sb => ?_⟩
    have hT2 : h''.get? s.heap.objs.size = some { cls := .type "tuple", data := .seq #[w1, w2] } := (sb.2 _ (Nat.ne_of_gt hzl)).trans hT
    have new : ObjOk X.prog X.w (upd H s.heap.objs.size (.tup [y1, y2])) h'' s.heap.objs.size (.tup [y1, y2]) :=
      ⟨by show 2 ≤ sizeLine; decide, [w1, w2], .cons (r1 i w1 y1 e1 hx) (.cons (r2 i w2 y2 e2 hy) .nil), ⟨_, hT2, rfl, _, rfl⟩⟩
    have I1 : Inv X pins σ (upd H s.heap.objs.size (.tup [y1, y2])) { s with heap := h'', toks := tk } :=
      I.turnedNew (ch := [z, TI, TO, i1, i2]) (fun c o hb q => (sb.2 c (fun q' => hb (by simp [q']))).trans (hk c o (fun q' => hb (by simp [q'])) (fun q' => hb (by simp [q'])) (fun q' => hb (by simp [q'])) (fun q' => hb (by simp [q'])) q)) hf (Nat.le_refl _) new
    refine ⟨.ref s.heap.objs.size, _, I1, rfl, ⟨_, y1, y2, rfl, I.hok.fresh (Nat.le_refl _), rfl, fun l hl => by rw [zs_inj I hl q1]; exact hx, fun l hl => by rw [zs_inj I hl q2]; exact hy⟩, ⟨z'', ?_, ⟨w1, w2, ?_⟩, ?_, ?_⟩, fun c hcm => ?_⟩
    · exact (sb.2 _ S.TIz).trans (hk _ _ S.TIz S.TITO S.TIi1 S.TIi2 hTI)
    · exact (sb.2 _ S.TOz).trans TO'
    · exact zs_keep (b1 _ _ g1) fun o q => (sb.2 _ (Ne.symm S.zi1)).trans q
    · exact zs_keep (b2 _ _ g2) fun o q => (sb.2 _ (Ne.symm S.zi2)).trans q
    · have hlt : c < s.heap.objs.size := by
        rcases pair5 hcm with q | q | q | q | q <;> rw [q]
        · exact hzl
        · exact Heap.lt_size hTI
        · exact Heap.lt_size hTO
        · obtain ⟨_, e, _⟩ := zs_obj h1
          exact Heap.lt_size e
        · obtain ⟨_, e, _⟩ := zs_obj h2
          exact Heap.lt_size e
      rw [upd_ne (Nat.ne_of_lt hlt)]
      exact (hf c hcm).1
  done := by
    intro X hP hw hK hc i pins s σ H E I hf ⟨hz, hTI, ⟨x0, y0, hTO⟩, h1, h2⟩ ⟨xs, ys, q1, q2, le1, le2, hend⟩
    subst hP hw hK
    have hd : X.A.in1.handled = none := I.ok.hd hc
    obtain ⟨P1, St1, D1, r1, a1, b1⟩ := zs_draw I hd i1 q1 n1
    obtain ⟨P2, St2, D2, r2, a2, b2⟩ := zs_draw I hd i2 q2 n2
    exact wpAny_pyNext_zipD2_end S D1 D2 hz hTI hTO (a1 i h1) (a2 i h2) le1 le2 hend fun h' tk hk => ⟨rfl, I.turnedL (t' := tk) (ch := [z, TI, TO, i1, i2]) (fun c o hb q =>
      hk c o (fun q' => hb (by simp [q'])) (fun q' => hb (by simp [q'])) (fun q' => hb (by simp [q'])) (fun q' => hb (by simp [q'])) q) hf⟩
  self := fun A i s Q E st h => wpAny_pyIter_zip st.1 h
end
/-- what a value is zipped as -/
inductive ZV (K : PySem.W.Frag) (H : Hp) : V → (Tok → Zs) → List V → Prop
  | q {k : Kd} {a : Addr} {xs : List V} (h : Sk K k H a xs) : ZV K H (.ref a) (fun _ => .q k a) xs
  | x (y : Str) : ZV K H (.str y) (fun t => .x y t) (chV y)
def iZipS (K : PySem.W.Frag) (ta : TA) : TI := fun σ H R => ta σ H fun vs H1 => ∃ u v f1 f2 xs ys, vs = [u, v] ∧ ZV K H1 u f1 xs ∧ ZV K H1 v f2 ys ∧ ∀ t1 t2, R (ItS K (f1 t1) (f2 t2)) H1
theorem zv_val {X : Cx} {pins : List (Addr × Obj)} {σ : L2.St} {H : Hp} {s : Shared} (I : Inv X pins σ H s) {v : V} {f : Tok → Zs} {xs : List V} {u : Value} (h : ZV X.K H v f xs) (r : RelV v u) :
    ∃ (t : Tok) (io : Obj) (St0 : Heap → Prop), (f t).has X.K H xs ∧ Begins u io St0 ∧ St0 s.heap ∧ (∀ (h' : Heap) (it : Addr), h'.get? it = some io → (f t).at h' it 0) ∧ (∀ it, s.heap.objs.size ≤ it → (f t).sep it ∧ ∀ c ∈ (f t).fp it, c = it ∨ c < s.heap.objs.size) := by
  cases h with
  | q hq =>
    rename_i k a
    cases r
    obtain ⟨its, rv, p, lt⟩ := inv_sk I hq
    refine ⟨0, _, _, hq, begins_k k a its.toArray, p, fun h' it e => itO_at e, fun it le => ⟨Nat.ne_of_lt (Nat.lt_of_lt_of_le lt le), fun c m => ?_⟩⟩
    rcases List.mem_cons.mp m with e | m
    · exact .inl e
    · rw [List.mem_singleton.mp m]
      exact .inr lt
  | x y =>
    obtain ⟨t, rfl⟩ := r
    refine ⟨t, _, _, rfl, begins_text y t, trivial, fun h' it e => ⟨_, e, rfl, rfl⟩, fun it _ => ⟨trivial, fun c m => .inl (List.mem_singleton.mp m)⟩⟩
theorem pi_zipS {X : Cx} {e e2 : Expr} {ta : TA} {p pos tpos : Pos} {elts : List Expr} {kk : Nat} (hg : Gl X "zip") (hm : X.mg "zip" = none) (ha : PA X [e, e2] ta)
    (hs : starEach [e, e2] X.env = (false, eval e X.env) :: starEach [e2] X.env) (hpl : (backTo pos (starEach [e2] X.env)).any (·.1) = false) :
    PI X (.Tuple elts kk tpos) (.Call (.Name "zip" p) [e, e2] [] pos) (iZipS X.K ta) := by
  refine ⟨fun pins s σ H R I h => ?_⟩
  refine Call_ (ld_blt I hg hm PyProof.Rows.boot_zip (PyProof.Rows.callWith_type1 (thn (ha.run pos pins s σ H _ I h) fun us s1 ⟨vs, H1, I1, r1, u, v, f1, f2, xs, ys, ex, z1, z2, q⟩ => ?_) hs hpl))
  subst ex
  obtain ⟨w1, w2, rfl, ru, rv⟩ := vals2 r1
  obtain ⟨t1, o1, S1, has1, bg1, b1, at1, sp1⟩ := zv_val I1 z1 ru
  obtain ⟨t2, o2, S2, has2, bg2, b2, at2, sp2⟩ := zv_val I1 z2 rv
  have fresh : ∀ c, c ∈ [s1.heap.objs.size + 4, s1.heap.objs.size + 2, s1.heap.objs.size + 3, s1.heap.objs.size, s1.heap.objs.size + 1] → FpOk X pins H1 c := fun c hcm => by
    have hle : s1.heap.objs.size ≤ c := by
      rcases pair5 hcm with z | z | z | z | z <;> rw [z]
      · exact Nat.le_add_right _ _
      · exact Nat.le_add_right _ _
      · exact Nat.le_add_right _ _
      · exact Nat.le_refl _
      · exact Nat.le_add_right _ _
    exact I1.fpOk hle (I1.hok.fresh hle)
  refine zip_begins2 bg1 bg2 b1 b2 fun h' hz hTI hTO h1 h2 hsz hk => wpAny_pyIter_zip hz ?_
  have I2 : Inv X pins σ H1 { s1 with heap := h' } := I1.kept (t' := s1.toks) hk
  obtain ⟨n1, c1⟩ := sp1 s1.heap.objs.size (Nat.le_refl _)
  obtain ⟨n2, c2⟩ := sp2 (s1.heap.objs.size + 1) (Nat.le_succ _)
  have no : ∀ (z : Zs) (it d : Nat), (∀ c ∈ z.fp it, c = it ∨ c < s1.heap.objs.size) → d ≠ it → s1.heap.objs.size ≤ d → d ∉ z.fp it := fun z it d hz hne hle m => by
    rcases hz d m with e | e
    · exact hne e
    · exact absurd e (Nat.not_lt.mpr hle)
  have c2' : ∀ c ∈ (f2 t2).fp (s1.heap.objs.size + 1), c = s1.heap.objs.size + 1 ∨ c < s1.heap.objs.size := c2
  have self : ∀ (z : Zs) (it : Addr), it ∈ z.fp it := fun z it => by cases z <;> simp [Zs.fp]
  have ap : ZipSep2 (s1.heap.objs.size + 4) (s1.heap.objs.size + 2) (s1.heap.objs.size + 3) s1.heap.objs.size (s1.heap.objs.size + 1) ((f1 t1).fp s1.heap.objs.size) ((f2 t2).fp (s1.heap.objs.size + 1)) := by
    have m1 : ∀ d, d ≠ s1.heap.objs.size → s1.heap.objs.size ≤ d → d ∉ (f1 t1).fp s1.heap.objs.size := fun d => no (f1 t1) s1.heap.objs.size d c1
    have m2 : ∀ d, d ≠ s1.heap.objs.size + 1 → s1.heap.objs.size ≤ d → d ∉ (f2 t2).fp (s1.heap.objs.size + 1) := fun d => no (f2 t2) (s1.heap.objs.size + 1) d c2'
    have ne : ∀ {p q : Nat}, p < q → q ≠ p := fun h => Nat.ne_of_gt h
    have lt : ∀ {p q : Nat}, p < q → p ≠ q := fun h => Nat.ne_of_lt h
    generalize s1.heap.objs.size = I at m1 m2
    exact ⟨lt (by omega), lt (by omega), lt (by omega), ne (by omega), self _ _, m1 _ (ne (by omega)) (by omega), m1 _ (ne (by omega)) (by omega), ne (by omega), self _ _, m2 _ (ne (by omega)) (by omega), m2 _ (ne (by omega)) (by omega), m2 _ (lt (by omega)) (Nat.le_refl _), m1 _ (ne (by omega)) (by omega)⟩
  exact ⟨s1.heap.objs.size + 4, [s1.heap.objs.size + 4, s1.heap.objs.size + 2, s1.heap.objs.size + 3, s1.heap.objs.size, s1.heap.objs.size + 1], _, _, H1, rfl, I2, turn_zipS ap n1 n2, ⟨hz, hTI, ⟨_, _, hTO⟩, at1 _ _ h1, at2 _ _ h2⟩, fresh, q t1 t2⟩
theorem walk_zipS {K : PySem.W.Frag} {s1 s2 : Zs} {xs ys : List V} {n : Nat} (hn : n = min xs.length ys.length) : Walk (ItS K s1 s2) n (fun H => s1.has K H xs ∧ s2.has K H ys) (YPair (fun i => xs[i]?) (fun i => ys[i]?)) := by
  refine ⟨fun i H hi q => ?_, fun H q => ⟨xs, ys, q.1, q.2, by omega, by omega, by omega⟩, fun i H v H' hi q ⟨T, u, v', y1, y2, y3, y4, y5⟩ => ⟨T, u, v', y1, y2, y3, y4 xs q.1, y5 ys q.2⟩⟩
  have i1 : i < xs.length := by omega
  have i2 : i < ys.length := by omega
  exact ⟨xs, ys, _, _, q.1, q.2, List.getElem?_eq_getElem i1, List.getElem?_eq_getElem i2⟩
/-- the items of what is zipped -/
def seqZ : D → Option (List D)
  | .str y => some (chD y)
  | d => seqD d
theorem rep_zv {K : PySem.W.Frag} {p1 : Mt} {H1 : Hp} {v : V} {d : D} {ds : List D} (h : Rep K (del p1 H1) v d) (e : seqZ d = some ds) : ∃ f vs, ZV K H1 v f vs ∧ (∀ t p H, Le (del p1 H1) (del p H) → (f t).has K H vs) ∧ Reps K (del p1 H1) vs ds := by
  by_cases c : ∃ y, d = .str y
  · obtain ⟨y, rfl⟩ := c
    cases e
    cases rep_str h
    exact ⟨_, _, .x y, fun t p H le => rfl, reps_ch y⟩
  · have e' : seqD d = some ds := by
      cases d <;> first | exact e | skip
      exact absurd ⟨_, rfl⟩ c
    obtain ⟨k, a, vs, rfl, ha, ra⟩ := rep_sk h e'
    exact ⟨_, _, .q (ha p1 H1 (.refl _)), fun t p H le => ha p H le, ra⟩
def fZipS : List D → Option (List D)
  | [x, y] => match seqZ x, seqZ y with
    | some xs, some ys => some (pairs xs ys)
    | _, _ => none
  | _ => none
theorem ei_zipS {X : Cx} {W : WW} {a b : Expr} {pos ps : Pos} {elts : List Expr} {kk : Nat} {tpos : Pos} {ms : M (List D)} (hn : X.mg "zip" = none) (h : EA X W [a, b] ms) (hg : Gl X "zip" := by rfl) (hs : starEach [a, b] X.env = (false, eval a X.env) :: starEach [b] X.env := by rfl) (hpl : (backTo pos (starEach [b] X.env)).any (·.1) = false := by rfl) :
    EI X W (.Tuple elts kk tpos) (.Call (.Name "zip" ps) [a, b] [] pos) (mWk fZipS ms) := fun J p g σ H R0 r hm Q hp =>
  of_pi (pi_zipS hg hn semA hs hpl) (h.then R0 hm hp fun ds g1 p1 H1 vs ad R1 rs hk hq => by
    obtain ⟨es, h1, h2⟩ := post_liftI hk hq R1
    unfold fZipS at h1
    split at h1
    · rename_i x y
      split at h1
      · rename_i xs ys ex ey
        cases h1
        obtain ⟨v, w, e, rv, rw'⟩ := reps2 rs
        obtain ⟨f1, us, z1, ha, ra⟩ := rep_zv rv ex
        obtain ⟨f2, ws, z2, hb, rb⟩ := rep_zv rw' ey
        exact ⟨v, w, f1, f2, us, ws, e, z1, z2, fun t1 t2 => h2 _ J H1 .no (wk_pair (walk_zipS rfl) (by rw [ra.len, rb.len]) (fun p g σ H R dd le => ⟨ha t1 p H le, hb t2 p H le⟩) (fun p H i x le q => (ra.le le).get q) fun p H i x le q => (rb.le le).get q)⟩
      · cases h1
    · cases h1)
end Mo
set_option Elab.async false
set_option linter.all false
set_option maxRecDepth 100000
set_option maxHeartbeats 4000000
/-! Mo: dict(zip(e, e2)) of two lists whose first one holds plain keys. -/
namespace Mo
open PySem PySem.Spec PySem.Calls L2 PyProof.Rows
end Mo
set_option Elab.async false
set_option linter.all false
set_option maxRecDepth 100000
set_option maxHeartbeats 4000000
/-! Mo: xs.index(t) of a list of texts. -/
namespace Mo
open PySem PySem.Spec PySem.Calls L2 PyProof.Rows
def mMl1 {α : Type} (f : D → D → Option α) (ma mb : M D) : M α := ma.bind fun x => (match x with | .lst _ => mb.bind fun y => lift (f x y) | _ => bad)
section
variable {X : Cx} {W : WW} {a b : Expr} {pa pos : Pos}
@[simp] theorem ev_ml1 {α : Type} {f : D → D → Option α} {ma mb : M D} {g : G} {Q : α → G → Prop} : Ev (mMl1 f ma mb) g Q ↔ Ev ma g fun x g1 => ∃ ys, x = .lst ys ∧ Ev mb g1 fun z g2 => Ev (lift (f (.lst ys) z)) g2 Q := by
  unfold mMl1
  rw [ev_bind]
  constructor
  · refine fun h => h.mono fun x g1 h => ?_
    cases x <;> first | exact (ev_bad.mp h).elim | skip
    exact ⟨_, rfl, ev_bind.mp h⟩
  · refine fun h => h.mono fun x g1 ⟨ys, e, h⟩ => ?_
    subst e
    exact ev_bind.mpr h
end
end Mo
set_option Elab.async false
set_option linter.all false
set_option maxRecDepth 100000
set_option maxHeartbeats 4000000
/-! Mo: list(t) of a text. -/
namespace Mo
open PySem PySem.Spec PySem.Calls L2 PyProof.Rows
end Mo
set_option Elab.async false
set_option linter.all false
set_option maxRecDepth 100000
set_option maxHeartbeats 4000000
/-! Mo: zip(*rows) of any number of tuples: the turn of such a zip. Iterators at B .. B + n - 1, behind them the zip's two tuples and the zip. -/
namespace Mo
open PySem PySem.Spec L2
open PyProof.Rows hiding St
/-- iterator j stands at p j -/
def AtI (B n : Nat) (t : Nat → Addr) (xs : Nat → Array Value) (p : Nat → Nat) (h : Heap) : Prop := ∀ j, j < n → h.IsTupleIter (B + j : Nat) (t j) (p j) ∧ h.IsTuple (t j) (xs j)
structure Cols (B n m : Nat) (t : Nat → Addr) (xs : Nat → Array Value) : Prop where
  lo : ∀ k, k < n → t k < B
  sz : ∀ k, k < n → (xs k).size = m
  nl : n ≤ sizeLine
/-- but for the zip's own -/
def ButZ (B n : Nat) (h h' : Heap) : Prop := ∀ c o, (c < B ∨ B + n + 2 < c) → h.get? c = some o → h'.get? c = some o
def turned (i k : Nat) : Nat → Nat := fun j => if j < k then i + 1 else i
section
variable {B n m i k : Nat} {t : Nat → Addr} {xs : Nat → Array Value} {h h' : Heap} {p : Nat → Nat} {ys : List Value}
theorem AtI.push (a : AtI B n t xs p h) (o : Obj) : AtI B n t xs p (h.push o) := fun j hj =>
  ⟨let ⟨o', ho, r⟩ := (a j hj).1; ⟨o', Heap.get?_push_of_some o ho, r⟩, (a j hj).2.push o⟩
theorem AtI.turn (C : Cols B n m t xs) (a : AtI B n t xs (turned i k) h) (hk : k < n) (h1 : h'.IsTupleIter (B + k : Nat) (t k) (i + 1)) (s : Heap.SameBut (B + k : Nat) h h') : AtI B n t xs (turned i (k + 1)) h' := fun j hj => by
  have h2 := C.lo j hj
  have e2 : @Ne Nat (t j) (B + k) := Nat.ne_of_lt (Nat.lt_of_lt_of_le h2 (Nat.le_add_right _ _))
  refine ⟨?_, (a j hj).2.extBut s.extBut e2⟩
  by_cases e : j = k
  · subst e
    have : turned i (j + 1) j = i + 1 := by simp [turned]
    rw [this]
    exact h1
  · have : turned i (k + 1) j = turned i k j := by
      unfold turned
      by_cases q : j < k
      · rw [if_pos q, if_pos (by omega)]
      · rw [if_neg q, if_neg (by omega)]
    rw [this]
    exact (a j hj).1.extBut s.extBut (show @Ne Nat (B + j) (B + k) by omega)
theorem ButZ.refl : ButZ B n h h := fun _ _ _ e => e
theorem ButZ.push {g0 : Heap} (k0 : ButZ B n g0 h) (o : Obj) : ButZ B n g0 (h.push o) := fun c o' hc e => Heap.get?_push_of_some _ (k0 c o' hc e)
end
end Mo
set_option Elab.async false
set_option linter.all false
set_option maxRecDepth 100000
set_option maxHeartbeats 4000000
/-! Mo: zip(*rows) of any number of tuples: it begins; list(..) of it. -/
namespace Mo
open PySem PySem.Spec L2
open PyProof.Rows hiding St
end Mo
set_option Elab.async false
set_option linter.all false
set_option maxRecDepth 100000
set_option maxHeartbeats 4000000
/-! Mo: zip(*rows) of any number of tuples: it begins. -/
namespace Mo
open PySem PySem.Spec L2
open PyProof.Rows hiding St
end Mo
set_option Elab.async false
set_option linter.all false
set_option maxRecDepth 100000
set_option maxHeartbeats 4000000
/-! Mo: list(zip(*rows)): the list grows by one tuple a turn. -/
namespace Mo
open PySem PySem.Spec PySem.Calls L2
open PyProof.Rows hiding St
end Mo
set_option Elab.async false
set_option linter.all false
set_option maxRecDepth 100000
set_option maxHeartbeats 4000000
/-! Mo: the expression list(zip(*e)), e a tuple or list of tuples of one length. -/
namespace Mo
open PySem PySem.Spec PySem.Calls L2 PyProof.Rows
end Mo
set_option Elab.async false
set_option linter.all false
set_option maxRecDepth 100000
set_option maxHeartbeats 4000000
/-! Mo: list(zip(*e)) over data. -/
namespace Mo
open PySem PySem.Spec PySem.Calls L2 PyProof.Rows
section
variable {K : PySem.W.Frag} {J H : Hp} {p : Mt} {g : G} {σ : L2.St}
inductive RCols (K : PySem.W.Frag) (F : Hp) : List (List V) → List (List D) → Prop
  | nil : RCols K F [] []
  | cons {c d cs ds} : Reps K F c d → RCols K F cs ds → RCols K F (c :: cs) (d :: ds)
theorem RCols.le {F F' : Hp} (e : Le F F') : ∀ {cs : List (List V)} {ds : List (List D)}, RCols K F cs ds → RCols K F' cs ds
  | _, _, .nil => .nil
  | _, _, .cons h r => .cons (h.le e) (RCols.le e r)
end
end Mo
set_option Elab.async false
set_option linter.all false
set_option maxRecDepth 100000
set_option maxHeartbeats 4000000
/-! Mo: x ** n of an own thing with its own method and a whole number. -/
namespace Mo
open PySem PySem.Spec PySem.Calls L2 PyProof.Rows
open Lp (FnG okN callG)
end Mo
set_option Elab.async false
set_option linter.all false
set_option maxRecDepth 100000
set_option maxHeartbeats 4000000
/-! Mo: enumerate(text). -/
namespace Mo
open PySem PySem.Spec PySem.Calls L2
open PyProof.Rows hiding St
end Mo
set_option Elab.async false
set_option linter.all false
set_option maxRecDepth 100000
set_option maxHeartbeats 4000000
/-! Mo: for .. in reversed(range(n)). -/
namespace Mo
open PySem PySem.Spec PySem.Calls L2
open PyProof.Rows hiding St
end Mo
set_option Elab.async false
set_option linter.all false
set_option maxRecDepth 100000
set_option maxHeartbeats 4000000
/-! Mo: an own error class is called; the __new__ that it inherits may be another class's than its nearest built-in base (KeyError's is LookupError's). -/
namespace PySem
end PySem
set_option Elab.async false
set_option linter.all false
set_option maxRecDepth 100000
set_option maxHeartbeats 4000000
/-! Mo: own errors over any built-in error, whose __init__ keeps its one argument in a field: made. -/
namespace PySem
end PySem
namespace L2
open PySem PySem.Spec PyProof.Rows
end L2
namespace Mo
open PySem PySem.Spec PySem.Calls L2 PyProof.Rows
open Lp (FnG okG callG)
end Mo
set_option Elab.async false
set_option linter.all false
set_option maxRecDepth 100000
set_option maxHeartbeats 4000000
/-! Mo: defs that may let out own errors that keep a field. -/
namespace Mo
open PySem PySem.Spec PySem.Calls L2 PyProof.Rows
open Lp (FnG okG callG)
/-- the error's dict -/
def EDict (K : PySem.W.Frag) (p : Mt) (H : Hp) (E : Exn) (d : Option Addr) : Prop := match E.fs with
  | _ :: (f, x) :: _ => ∃ (dd : Addr) (v : V), d = some dd ∧ H dd = some (.xd [(f, v)]) ∧ Rep K (del p H) v x
  | _ => d = none
theorem EDict.le {K : PySem.W.Frag} {p p' : Mt} {H : Hp} {E : Exn} {d : Option Addr} (h : EDict K p' H E d) (le : Le (del p' H) (del p H)) : EDict K p H E d := by
  unfold EDict at h ⊢
  split at h
  · obtain ⟨dd, v, e1, e2, e3⟩ := h
    exact ⟨dd, v, e1, e2, e3.le le⟩
  · exact h
end Mo
set_option Elab.async false
set_option linter.all false
set_option maxRecDepth 100000
set_option maxHeartbeats 4000000
/-! Mo: a call that may let such an error out; try: .. except C as e: .. -/
namespace Mo
open PySem PySem.Spec PySem.Calls L2 PyProof.Rows
open Lp (FnG okG callG)
/-! ### try: .. except C as e: .. -/
end Mo
set_option Elab.async false
set_option linter.all false
set_option maxRecDepth 100000
set_option maxHeartbeats 4000000
/-! Mo: except C as e: return [e.f] -/
namespace Mo
open PySem PySem.Spec PySem.Calls L2 PyProof.Rows
end Mo
set_option Elab.async false
set_option linter.all false
set_option maxRecDepth 100000
set_option maxHeartbeats 4000000
/-! Mo: x in [..] where the items are data of any depth; tuple * int. -/
namespace Mo
open PySem PySem.Spec PySem.Calls L2 PyProof.Rows
section
variable {K : PySem.W.Frag}
theorem Reps.rep {H : Hp} {vs : List V} {ds : List D} (h : Reps K H vs ds) : ∀ n : Nat, Reps K H (List.replicate n vs).flatten (List.replicate n ds).flatten
  | 0 => .nil
  | n + 1 => by
    have app : ∀ {as bs : List V} {cs es : List D}, Reps K H as cs → Reps K H bs es → Reps K H (as ++ bs) (cs ++ es) := fun {as} => by
      induction as with
      | nil => intro bs cs es a b; cases a; exact b
      | cons y ys ih => intro bs cs es a b; cases a with | cons a1 a2 => exact .cons a1 (ih a2 b)
    rw [List.replicate_succ, List.replicate_succ, List.flatten_cons, List.flatten_cons]
    exact app h (Reps.rep h n)
end
end Mo
set_option Elab.async false
set_option linter.all false
set_option maxRecDepth 100000
set_option maxHeartbeats 4000000
/-! Mo: what the printed texts want of errors with a field. -/
namespace Mo
open PySem PySem.Spec PySem.Calls L2 PyProof.Rows
open Lp (FnG okG callG)
end Mo
set_option Elab.async false
set_option linter.all false
set_option maxRecDepth 100000
set_option maxHeartbeats 4000000
/-! Mo: except C as e: return .., with e.f anywhere in it. -/
namespace Mo
open PySem PySem.Spec PySem.Calls L2 PyProof.Rows
/-- an expression read while something holds that stays -/
def EFp (X : Cx) (W : WW) (P : L2.St → Mt → Hp → Prop) (e : Expr) (m : M D) : Prop := ∀ J p g σ H, Rl X.K J p g σ H → P σ p H → ∀ r, m g = some r → ∀ Q : VK, Post X.K W J p g σ H r (qF X.K Q) → SemE X e σ H Q
def Stay (P : L2.St → Mt → Hp → Prop) : Prop := ∀ {g : G} {σ : L2.St} {p : Mt} {H : Hp} {g1 : G} {p1 : Mt} {H1 : Hp}, Ad g σ p H g1 p1 H1 → P σ p H → P σ p1 H1
section
variable {X : Cx} {W : WW} {P : L2.St → Mt → Hp → Prop} {a b e : Expr} {rest : List Expr} {pos : Pos} {ma mb m : M D} {β : Type}
theorem EF.p (h : EF X W e m) : EFp X W P e m := fun J p g σ H R _ => h J p g σ H R
section
variable {J : Hp} {p : Mt} {g : G} {σ : L2.St} {H : Hp} {q : β → G → Mt → Hp → Prop} {r : R β}
theorem EFp.then (hst : Stay P) {k : D → M β} (h : EFp X W P e m) (R0 : Rl X.K J p g σ H) (h0 : P σ p H) (hm : m.bind k g = some r) (hp : Post X.K W J p g σ H r q) {Q : VK}
    (hk : ∀ d g1 p1 H1 v, Ad g σ p H g1 p1 H1 → Rl X.K J p1 g1 σ H1 → P σ p1 H1 → Rep X.K (del p1 H1) v d → k d g1 = some r → Post X.K W J p1 g1 σ H1 r q → Q v H1) : SemE X e σ H Q := by
  unfold M.bind at hm
  cases e1 : m g with
  | none => rw [e1] at hm; cases hm
  | some r1 =>
    cases r1 with
    | ok d g1 =>
      rw [e1] at hm
      exact h J p g σ H R0 h0 _ e1 Q fun p1 H1 ad R1 v rv => hk d g1 p1 H1 v ad R1 (hst ad h0) rv hm (hp.adv ad)
    | ex E g1 =>
      rw [e1] at hm
      cases hm
      exact h J p g σ H R0 h0 _ e1 Q hp
end
end
end Mo
set_option Elab.async false
set_option linter.all false
set_option maxRecDepth 100000
set_option maxHeartbeats 4000000
/-! Mo: o.m(k = e), the other keyword-only parameters at their defaults. -/
namespace Mo
open PySem PySem.Spec PySem.Calls L2 PyProof.Rows
open Lp (FnG okG callG)
end Mo
set_option Elab.async false
set_option linter.all false
set_option maxRecDepth 100000
set_option maxHeartbeats 4000000
/-! Mo: a class as a value (cls(..) in a classmethod), C.m(..), o[k] by an own __getitem__. -/
namespace Mo
open PySem PySem.Spec PySem.Calls L2 PyProof.Rows
open Lp (FnG okG callG)
section
variable {X : Cx} {W : WW} {e fe o : Expr} {es : List Expr} {pos ps apos : Pos} {C ff : Addr} {m x : Str} {k : Nat} {fd : FuncData} {qs : List Str} {sp : Sp} {t : TA} {tf ta : TE}
def mMakeV (C : Addr) (F : FD) (mf : M D) (ms : M (List D)) : M O := mf.bind fun d => match d with
  | .cl C' => if C' = C then mMake C F ms else bad
  | _ => bad
/-! ### C.m(e, ..) -/
def mCm (C : Addr) (F : FD) (ms : M (List D)) : M D := ms.bind fun ds => liftC (F (.cl C :: ds))
/-! ### o[k], o's class with an own __getitem__ -/
structure GetI (K : PySem.W.Frag) (C f : Addr) : Prop where
  sp : SpecM K C "__getitem__" f
  fi : PySem.W.fnIn K f = true
def rOwnGet (C : Addr) (sp : Sp) : R2 := fun x y H Q => ∃ (q dy : Addr) (gs : List (Str × V)), x = .ref q ∧ H q = some (.ins C dy gs) ∧ sp [.ref q, y] H Q fun _ _ _ => False
theorem ix_own {value slice : Expr} {pins : List (Addr × Obj)} {s : Shared} {σ : L2.St} {H : Hp} {x y : V} {v u : Value} {Q : VK} (c : GetI X.K C ff) (F : FnG X.prog X.w X.K X.mg X.base CX0 k ff fd qs sp) (hr : Room (k + 1) X.A) (hgd : X.A.guards = some []) (hb : Binds X.K fd qs []) (hsl : ∀ (q : Addr) u, subscripted slice true (.ref q) u = runValue (.builtin "lifetime.subscript" ⟨[.ref q, u], []⟩)) (I : Inv X pins σ H s) (rx : RelV x v) (ry : RelV y u) (h : rOwnGet C sp x y H Q) : wpAny (model X.prog X.w) X.A (subscriptTail value slice v u) (EP X pins σ Q) X.xe s := by
  obtain ⟨q, dy, gs, rfl, hq, h⟩ := h
  cases rx
  obtain ⟨mB, O', _⟩ := ins_get I.hok hq
  obtain ⟨od', J', _⟩ := O'.look
  obtain ⟨mm, hF⟩ := I.fr
  refine PySem.W.sub_K hF I.ok.mod.kin J' c.sp.at_ c.fi c.sp.fn ?_ (hsl q u)
  have rv : Vals [V.ref q, y] [Value.ref q, u] := .cons rfl (.cons ry .nil)
  have bt := hb s [.ref q, u] I.kIn (by rw [List.append_nil, ← rv.length]; exact F.len _ _ _ _ h)
  rw [List.append_nil] at bt
  refine wpAny_call (codeAny_mono (F.go X.A.in1 X.stack s H ⟨[.ref q, u], []⟩ _ _ Q _ hr.in1 hgd I.env0.in1 bt rv h) fun w s2 hw => ?_)
  match w, hw with
  | .error er, hw => exact False.elim (pass0 (X := X.nox) pins σ H s er s2 (I.wish _) hw)
  | .ok (.ret u), hw => exact I.after hw
def mGetI (C : Addr) (F : FD) (ma mb : M D) : M D := ma.bind fun x => mb.bind fun y => match x with
  | .ins C' fs => if C' = C then liftC (F [.ins C fs, y]) else bad
  | _ => bad
end
@[simp] theorem ev_makeV {C : Addr} {F : FD} {mf : M D} {ms : M (List D)} {g : G} {Q : O → G → Prop} : Ev (mMakeV C F mf ms) g Q ↔ Ev mf g fun d g1 => d = .cl C ∧ Ev (mMake C F ms) g1 Q := by
  unfold mMakeV
  rw [ev_bind]
  refine ⟨fun h => h.mono fun x g1 z => ?_, fun h => h.mono fun x g1 ⟨e, z⟩ => ?_⟩
  · cases x <;> first | exact (ev_bad.mp z).elim | skip
    dsimp only at z
    rw [ev_ite] at z
    split at z
    · rename_i hC
      exact ⟨by rw [hC], z⟩
    · exact (ev_bad.mp z).elim
  · subst e
    dsimp only
    rw [if_pos rfl]
    exact z
@[simp] theorem ev_cm {C : Addr} {F : FD} {ms : M (List D)} {g : G} {Q : D → G → Prop} : Ev (mCm C F ms) g Q ↔ Ev ms g fun ds g1 => ∃ d c', F (.cl C :: ds) g1.c = some (d, c') ∧ Q d ⟨g1.s, c'⟩ := by
  unfold mCm
  simp only [ev_bind, ev_liftC]
@[simp] theorem ev_getI {C : Addr} {F : FD} {ma mb : M D} {g : G} {Q : D → G → Prop} : Ev (mGetI C F ma mb) g Q ↔ Ev ma g fun x g1 => Ev mb g1 fun y g2 => ∃ fs, x = .ins C fs ∧ ∃ d c', F [.ins C fs, y] g2.c = some (d, c') ∧ Q d ⟨g2.s, c'⟩ := by
  unfold mGetI
  simp only [ev_bind]
  refine ⟨fun h => h.mono fun x g1 q => q.mono fun y g2 z => ?_, fun h => h.mono fun x g1 q => q.mono fun y g2 ⟨fs, e, d, c', e3, z⟩ => ?_⟩
  · cases x <;> first | exact (ev_bad.mp z).elim | skip
    rename_i C2 gs
    dsimp only at z
    rw [ev_ite] at z
    split at z
    · rename_i hC
      subst hC
      obtain ⟨d, c', e, z⟩ := ev_liftC.mp z
      exact ⟨gs, rfl, d, c', e, z⟩
    · exact (ev_bad.mp z).elim
  · subst e
    dsimp only
    rw [if_pos rfl]
    exact ev_liftC.mpr ⟨d, c', e3, z⟩
end Mo
set_option Elab.async false
set_option linter.all false
set_option maxRecDepth 100000
set_option maxHeartbeats 4000000
/-! Mo: ==, != of a thing of an own class with anything; isinstance of anything. -/
namespace Mo
open PySem PySem.Spec PySem.Calls L2 PyProof.Rows
open Lp (FnG okN callG)
/-- the type of what stands for data -/
theorem rep_looks {X : Cx} {M : Model} {pins : List (Addr × Obj)} {σ : L2.St} {H : Hp} {s : Shared} {p : Mt} {v : V} {u : Value} {d : D} {n : String} (I : Inv X pins σ H s) (h : Rep X.K (del p H) v d) (r : RelV v u) (e : tyN d = some n) : PySem.W.Looks M s.heap (typeOf u) (.type n) := by
  cases h <;> simp only [tyN] at e <;> first | (cases e; done) | skip
  · cases e
    cases r
    exact .of_pure rfl
  · cases e
    cases r
    exact .of_pure rfl
  · cases e
    obtain ⟨t, rfl⟩ := r
    exact .of_pure rfl
  · cases e
    obtain ⟨t, rfl⟩ := r
    exact .of_pure rfl
  · rename_i s0 r0
    cases e
    cases r
    rcases s0 with (z | ⟨o, z⟩) | ⟨o, arr, m, hk, hc, _⟩
    · obtain ⟨_, _, n, _, h1⟩ := (show ObjOk X.prog X.w H s.heap _ (.lst _) from I.hok _ _ (del_of z))
      exact (PySem.W.Looks.ld h1).andThen .now
    · obtain ⟨_, _, _, n, _, h1⟩ := (show ObjOk X.prog X.w H s.heap _ (.frz _ (.lst _)) from I.hok _ _ (del_of z))
      exact (PySem.W.Looks.ld h1).andThen .now
    · have := I.kIn _ _ hk
      exact hc ▸ (PySem.W.Looks.ld this).andThen .now
  · rename_i s0 r0
    cases e
    cases r
    obtain ⟨_, _, _, o, h1, h2, _⟩ := (show ObjOk X.prog X.w H s.heap _ (.tup _) from I.hok _ _ (del_of s0))
    exact h2 ▸ (PySem.W.Looks.ld h1).andThen .now
  · rename_i s0 r0
    cases e
    cases r
    obtain ⟨_, _, vs, _, o, es, ep, h1, h2, _⟩ := (show ObjOk X.prog X.w H s.heap _ (.dK _) from rd_of I.hok (vw_of s0).rd)
    exact h2.1 ▸ (PySem.W.Looks.ld h1).andThen .now
  · rename_i s0 r0
    cases e
    cases r
    obtain ⟨_, _, xs, _, o, es, ep, h1, h2, _⟩ := (show ObjOk X.prog X.w H s.heap _ (.dT _) from rd_of I.hok (vw_of s0).rd)
    exact h2.1 ▸ (PySem.W.Looks.ld h1).andThen .now
/-- which types and classes do not come first beside C -/
structure NtZ (K : PySem.W.Frag) (C : Addr) (Os : List Addr) : Prop where
  ty : ∀ n : String, n ∈ ["NoneType", "bool", "int", "str", "list", "tuple", "dict"] → PySem.W.notFirst K C (.type n) = true
  os : ∀ o ∈ Os, PySem.W.notFirst K C (.ref o) = true
section
variable {X : Cx} {W : WW} {a b : Expr} {pos : Pos} {C ff : Addr} {Os : List Addr} {k : Nat} {fd : FuncData} {qs : List Str} {sp : Sp}
def rOwnEqZ (C : Addr) (Os : List Addr) (sp : Sp) (neg : Bool) (K : PySem.W.Frag) : R2 := fun x y H Q => ∃ (p dx : Addr) (fs : List (Str × V)), x = .ref p ∧ H p = some (.ins C dx fs) ∧
  ((∃ (q dy c2 : Addr) (gs : List (Str × V)), y = .ref q ∧ H q = some (.ins c2 dy gs) ∧ (c2 = C ∨ c2 ∈ Os)) ∨ ∃ (p : Mt) (d : D) (n : String), Rep K (del p H) y d ∧ tyN d = some n) ∧
  sp [.ref p, y] H (fun v H' => ∃ t, v = .bl t ∧ Q (.bl (bif neg then !t else t)) H') fun _ _ _ => False
theorem z_looks {M : Model} {pins : List (Addr × Obj)} {σ : L2.St} {H : Hp} {s : Shared} {y : V} {u : Value} (nt : NtZ X.K C Os) (I : Inv X pins σ H s) (r : RelV y u)
    (h : (∃ (q dy c2 : Addr) (gs : List (Str × V)), y = .ref q ∧ H q = some (.ins c2 dy gs) ∧ (c2 = C ∨ c2 ∈ Os)) ∨ ∃ (p : Mt) (d : D) (n : String), Rep X.K (del p H) y d ∧ tyN d = some n) : ∃ t, PySem.W.Looks M s.heap (typeOf u) t ∧ PySem.W.notFirst X.K C t = true := by
  rcases h with ⟨q, dy, c2, gs, rfl, hq, hc⟩ | ⟨p, d, n, hr, hn⟩
  · cases r
    obtain ⟨mB, O', _⟩ := ins_get I.hok hq
    obtain ⟨od', J', _⟩ := O'.look
    refine ⟨.ref c2, J'.type, ?_⟩
    rcases hc with rfl | hc
    · simp [PySem.W.notFirst]
    · exact nt.os c2 hc
  · exact ⟨.type n, rep_looks I hr r hn, nt.ty n (tyN_in hn)⟩
theorem op_own_eqZ (c : EqC X.K C ff) (nt : NtZ X.K C Os) (F : FnG X.prog X.w X.K X.mg X.base CX0 k ff fd qs sp) (hr : Room (k + 1) X.A) (hgd : X.A.guards = some []) (hb : Binds X.K fd qs []) : OpR X (compareOp .Eq) (rOwnEqZ C Os sp false X.K) := by
  intro pins s σ H x y v u Q I rx ry hq
  obtain ⟨p, dx, fs, rfl, hp, hT, h⟩ := hq
  cases rx
  obtain ⟨mA, O, _⟩ := ins_get I.hok hp
  obtain ⟨od, J, _⟩ := O.look
  obtain ⟨mm, hF⟩ := I.fr
  obtain ⟨t, lk, nf⟩ := z_looks nt I ry hT
  have hu : X.A.units < cLine := Nat.lt_of_le_of_lt (Nat.le_add_right _ _) hr.units
  show wpAny (model X.prog X.w) X.A (richCompare .Eq (.ref p) u) (EP X pins σ Q) X.xe s
  refine PySem.W.cmp_K (op := .Eq) (tb := t) hu hF I.ok.mod.kin J lk nf c.eq.at_ c.eq.fn ?_
  refine wpAny_mono (own_in_call (Q := fun t H' => Q (.bl t) H') F (hr.mono (Nat.le_succ _)) hgd I.env0 hb I ry h) (fun v s' hv => ?_) fun _ _ z => z
  obtain ⟨t, rfl, H', I', z⟩ := hv
  exact ⟨.bl t, H', I', rfl, z⟩
theorem op_own_neZ (c : EqC X.K C ff) (nt : NtZ X.K C Os) (F : FnG X.prog X.w X.K X.mg X.base CX0 k ff fd qs sp) (hr : Room (k + 1) X.A) (hgd : X.A.guards = some []) (hb : Binds X.K fd qs []) : OpR X (compareOp .NotEq) (rOwnEqZ C Os sp true X.K) := by
  intro pins s σ H x y v u Q I rx ry hq
  obtain ⟨p, dx, fs, rfl, hp, hT, h⟩ := hq
  cases rx
  obtain ⟨mA, O, _⟩ := ins_get I.hok hp
  obtain ⟨od, J, _⟩ := O.look
  obtain ⟨t, lk, nf⟩ := z_looks nt I ry hT
  have hu : X.A.units + 1 < cLine := hu_of hr
  show wpAny (model X.prog X.w) X.A (richCompare .NotEq (.ref p) u) (EP X pins σ Q) X.xe s
  refine ne_rich (tb := t) hu I.kIn J lk nf c ?_
  refine wpAny_mono (own_in_call (Q := fun t H' => Q (.bl (!t)) H') F hr.in1 hgd I.env0.in1 hb I ry h) (fun v s' hv => ?_) fun _ _ z => z
  obtain ⟨t, rfl, H', I', z⟩ := hv
  exact ⟨t, rfl, .bl (!t), H', I', rfl, z⟩
/-- on data -/
def isTZ (C : Addr) (Os : List Addr) : D → Bool
  | .ins c _ => decide (c = C ∨ c ∈ Os)
  | d => (tyN d).isSome
def eqGoZ {α : Type} (neg : Bool) (C : Addr) (Os : List Addr) (F : FD) (kk : Bool → M α) (x y : D) : M α := match x with
  | .ins C2 fs => if C2 = C ∧ isTZ C Os y = true then (liftC (F [.ins C fs, y])).bind fun v => (match v with
    | .bl t => kk (bif neg then !t else t)
    | _ => bad) else bad
  | _ => bad
def mEqZ (neg : Bool) (C : Addr) (Os : List Addr) (F : FD) (ma mb : M D) : M D := ma.bind fun x => mb.bind fun y => eqGoZ neg C Os F (fun b => ret (.bl b)) x y
def mtEqZ (neg : Bool) (C : Addr) (Os : List Addr) (F : FD) (ma mb : M D) : M Bool := ma.bind fun x => mb.bind fun y => eqGoZ neg C Os F ret x y
theorem tz_of {K : PySem.W.Frag} {p : Mt} {H : Hp} {w : V} {y : D} (h : Rep K (del p H) w y) (e : isTZ C Os y = true) :
    (∃ (q dy c2 : Addr) (gs : List (Str × V)), w = .ref q ∧ H q = some (.ins c2 dy gs) ∧ (c2 = C ∨ c2 ∈ Os)) ∨ ∃ (p : Mt) (d : D) (n : String), Rep K (del p H) w d ∧ tyN d = some n := by
  cases y <;> first | (cases e; done) | skip
  case ins c2 fs =>
    obtain ⟨a1, dx, vs, rfl, h1, h2⟩ := rep_ins h
    exact .inl ⟨a1, dx, c2, vs, rfl, del_of h1, of_decide_eq_true e⟩
  all_goals exact .inr ⟨p, _, _, h, rfl⟩
theorem eqZ_core {α : Type} {kk : Bool → M α} {F : FD} {neg : Bool} {J : Hp} {p2 : Mt} {g2 : G} {σ : L2.St} {H2 : Hp} {x y : D} {v w : V} {r : R α} {Q : VK} (R2 : Rl X.K J p2 g2 σ H2) (rv2 : Rep X.K (del p2 H2) v x) (rw' : Rep X.K (del p2 H2) w y)
    (hm2 : eqGoZ neg C Os F kk x y g2 = some r) (k : ∀ t g3, kk t g3 = some r → ∀ J2 p3, Ad g2 σ p2 H2 g3 p3 J2 → Rl X.K J p3 g3 σ J2 → Q (V.bl t) J2) : rOwnEqZ C Os (spM X.K false F) neg X.K v w H2 Q := by
  unfold eqGoZ at hm2
  cases x <;> first | (cases hm2; done) | skip
  rename_i C2 fs
  dsimp only at hm2
  split at hm2
  · rename_i hC
    obtain ⟨hC, hy⟩ := hC
    subst hC
    obtain ⟨a2, dy, us, rfl, h3, h4⟩ := rep_ins rv2
    unfold M.bind liftC at hm2
    cases e1 : F [.ins C2 fs, y] g2.c with
    | none => rw [e1] at hm2; cases hm2
    | some z =>
      obtain ⟨d, c'⟩ := z
      rw [e1] at hm2
      dsimp only at hm2
      refine ⟨a2, dy, us, rfl, del_of h3, tz_of rw' hy, p2, g2.c, [.ins C2 fs, y], [.ref a2, w], d, c', rfl, R2.hd, .cons rv2 (.cons rw' .nil), e1, fun v J2 af rv3 => ?_⟩
      obtain ⟨R3, ad3⟩ := R2.after af
      cases d <;> first | (cases hm2; done) | skip
      rename_i t
      cases rep_bl rv3
      exact ⟨t, rfl, k _ _ hm2 J2 _ ad3 R3⟩
  · cases hm2
theorem own_eqZ_data {F : FD} {neg : Bool} {op : CmpOp} {ma mb : M D} (ho : OpR X (compareOp op) (rOwnEqZ C Os (spM X.K false F) neg X.K)) (ha : EF X W a ma) (hb : EF X W b mb) (hm : behindInMarks op b = false) : EF X W (.Compare a [op] [b] pos) (mEqZ neg C Os F ma mb) := fun J p g σ H R0 r hm' Q hp =>
  of_pe (pe_cmpR ho semE semE hm) (ha.then R0 hm' hp fun x g1 p1 H1 v ad1 R1 rv hm1 hp1 => hb.then R1 hm1 hp1 fun y g2 p2 H2 w ad2 R2 rw' hm2 hp2 =>
    eqZ_core R2 (rv.le ad2.le) rw' hm2 fun t g3 er J2 p3 ad3 R3 => by
      cases er
      exact hp2 p3 J2 ad3 R3 _ (.bl _))
theorem own_eqZ_test {F : FD} {neg : Bool} {op : CmpOp} {ma mb : M D} (ho : OpR X (compareOp op) (rOwnEqZ C Os (spM X.K false F) neg X.K)) (ha : EF X W a ma) (hb : EF X W b mb) (hm : behindInMarks op b = false) : ET X W (.Compare a [op] [b] pos) (mtEqZ neg C Os F ma mb) := fun J p g σ H R0 r hm' Q hp =>
  of_pt (pt_cmpR ho semE semE hm) (ha.then R0 hm' hp fun x g1 p1 H1 v ad1 R1 rv hm1 hp1 => hb.then R1 hm1 hp1 fun y g2 p2 H2 w ad2 R2 rw' hm2 hp2 =>
    eqZ_core R2 (rv.le ad2.le) rw' hm2 fun t g3 er J2 p3 ad3 R3 => by
      cases er
      exact ⟨t, rfl, hp2 p3 J2 ad3 R3⟩)
section
variable {F : FD} {ma mb : M D} (c : EqC X.K C ff) (nt : NtZ X.K C Os) (hF : FnG X.prog X.w X.K X.mg X.base CX0 k ff fd qs (spM X.K false F)) (hr : Room (k + 1) X.A) (hgd : X.A.guards = some []) (hq : Binds X.K fd qs []) (ha : EF X W a ma) (hb : EF X W b mb)
include c nt hF hr hgd hq ha hb
theorem e_eqZ (hm : behindInMarks .Eq b = false := by first | exact nomark _ | rfl) : EF X W (.Compare a [.Eq] [b] pos) (mEqZ false C Os F ma mb) := own_eqZ_data (op_own_eqZ c nt hF hr hgd hq) ha hb hm
theorem t_neZ (hm : behindInMarks .NotEq b = false := by first | exact nomark _ | rfl) : ET X W (.Compare a [.NotEq] [b] pos) (mtEqZ true C Os F ma mb) := own_eqZ_test (op_own_neZ c nt hF hr hgd hq) ha hb hm
end
end
theorem ev_eqGoZ {α : Type} {C : Addr} {Os : List Addr} {neg : Bool} {F : FD} {kk : Bool → M α} {x y : D} {g : G} {Q : α → G → Prop} : Ev (eqGoZ neg C Os F kk x y) g Q ↔ ∃ gs, x = .ins C gs ∧ isTZ C Os y = true ∧ ∃ t c', F [.ins C gs, y] g.c = some (.bl t, c') ∧ Ev (kk (bif neg then !t else t)) ⟨g.s, c'⟩ Q := by
  unfold eqGoZ
  refine ⟨fun z => ?_, fun ⟨gs, e2, hy, t, c', e3, z⟩ => ?_⟩
  · cases x <;> first | exact (ev_bad.mp z).elim | skip
    rename_i C2 gs
    dsimp only at z
    rw [ev_ite] at z
    split at z
    · rename_i hC
      obtain ⟨hC, hy⟩ := hC
      subst hC
      refine ⟨gs, rfl, hy, ?_⟩
      obtain ⟨d, c', e, z⟩ := ev_liftC.mp (ev_bind.mp z)
      cases d <;> first | exact (ev_bad.mp z).elim | skip
      exact ⟨_, c', e, z⟩
    · exact (ev_bad.mp z).elim
  · subst e2
    dsimp only
    rw [if_pos ⟨rfl, hy⟩]
    exact ev_bind.mpr (ev_liftC.mpr ⟨_, _, e3, z⟩)
@[simp] theorem ev_eqZ {C : Addr} {Os : List Addr} {neg : Bool} {F : FD} {ma mb : M D} {g : G} {Q : D → G → Prop} : Ev (mEqZ neg C Os F ma mb) g Q ↔ Ev ma g fun x g1 => Ev mb g1 fun y g2 => ∃ gs, x = .ins C gs ∧ isTZ C Os y = true ∧ ∃ t c', F [.ins C gs, y] g2.c = some (.bl t, c') ∧ Q (.bl (bif neg then !t else t)) ⟨g2.s, c'⟩ := by
  unfold mEqZ
  simp only [ev_bind, ev_eqGoZ, ev_ret]
@[simp] theorem ev_teqZ {C : Addr} {Os : List Addr} {neg : Bool} {F : FD} {ma mb : M D} {g : G} {Q : Bool → G → Prop} : Ev (mtEqZ neg C Os F ma mb) g Q ↔ Ev ma g fun x g1 => Ev mb g1 fun y g2 => ∃ gs, x = .ins C gs ∧ isTZ C Os y = true ∧ ∃ t c', F [.ins C gs, y] g2.c = some (.bl t, c') ∧ Q (bif neg then !t else t) ⟨g2.s, c'⟩ := by
  unfold mtEqZ
  simp only [ev_bind, ev_eqGoZ, ev_ret]
/-! ### isinstance(e, C), e anything -/
structure IsZ (K : PySem.W.Frag) (C : Addr) (Os : List Addr) : Prop where
  me : C8.InsC K C
  ty : NotIn K C
  os : ∀ o ∈ Os, C8.InsC K o ∧ PySem.W.kitOne K (.ref o) (.ref C) = some false
def fIsZ (C : Addr) (Os : List Addr) : D → Option D
  | .ins c _ => if c = C then some (.bl true) else if c ∈ Os then some (.bl false) else none
  | d => (tyN d).map fun _ => .bl false
def mIsZ (C : Addr) (Os : List Addr) (m : M D) : M D := m.bind fun d => lift (fIsZ C Os d)
def rIsO (C : Addr) (Os : List Addr) : List V → Hp → VK → Prop := fun xs H Q => ∃ (a c dx : Addr) (fs : List (Str × V)), xs = [.ref a, .ref C] ∧ H a = some (.ins c dx fs) ∧ c ∈ Os ∧ Q (.bl false) H
theorem call_isO {X : Cx} {C : Addr} {Os : List Addr} (z : IsZ X.K C Os) : CallR X (.builtin "isinstance") (rIsO C Os) := by
  intro pins s σ H xs us Q I r h
  obtain ⟨a, c, dx, fs, rfl, ha, hc, q⟩ := h
  obtain ⟨u, w', rfl, ru, rw'⟩ := vals2 r
  cases rw'
  obtain ⟨k, e⟩ := z.os c hc
  exact isinst_ok I ru (TyOf.ins ha k.cl k.ha k.hn k.htk k.hm) e fun tk => ⟨.bl false, H, I.tok _, rfl, q⟩
theorem e_isZ {X : Cx} {W : WW} {e : Expr} {pos : Pos} {C : Addr} {Os : List Addr} {x : Str} {px pc : Pos} {m : M D} (c : IsZ X.K C Os) (hm0 : X.mg "isinstance" = none) (hmc : X.mg x = some (.ref C)) (ha : EF X W e m) (hg : Gl X "isinstance" := by rfl) (hgc : Gl X x := by rfl)
    (hd : (x == ("__debug__" : Str)) = false := by decide) (he : starEach [e, .Name x pc] X.env = (false, eval e X.env) :: starEach [.Name x pc] X.env := by rfl) (he2 : starEach [.Name x pc] X.env = (false, eval (.Name x pc) X.env) :: starEach [] X.env := by rfl) (hpl : (backTo pos (starEach [.Name x pc] X.env)).any (·.1) = false := by rfl) :
    EF X W (.Call (.Name "isinstance" px) [e, .Name x pc] [] pos) (mIsZ C Os m) := fun J p g σ H R0 r hm Q hp =>
  of_pe (pe_callB ((call_isO c).or ((C8.call_isC c.me).or (call_isi.or (call_isDC (C := C))))) hg hm0 (by decide +kernel) (pa_cons semE (pa_cons (pe_glob (v := .ref C) hgc hmc rfl hd) pa_nil he2) he) (by decide) (by decide) he hpl) (ha.then R0 hm hp fun d g1 p1 H1 v ad1 R1 rv hm1 hp1 => by
    obtain ⟨z, hz, hq⟩ := post_lift hm1 hp1 R1
    by_cases hi : ∃ c2 fs, d = .ins c2 fs
    · obtain ⟨c2, fs, rfl⟩ := hi
      obtain ⟨a, dx, vs, rfl, h1, h2⟩ := rep_ins rv
      unfold fIsZ at hz
      dsimp only at hz
      split at hz
      · rename_i hC
        subst hC
        cases hz
        exact .inr (.inl ⟨a, dx, vs, rfl, del_of h1, hq p1 H1 .refl R1 _ (.bl true)⟩)
      · split at hz
        · rename_i hO
          cases hz
          exact .inl ⟨a, c2, dx, vs, rfl, del_of h1, hO, hq p1 H1 .refl R1 _ (.bl false)⟩
        · cases hz
    · have e2 : fIsZ C Os d = (tyN d).map fun _ => .bl false := by
        cases d <;> first | rfl | exact absurd ⟨_, _, rfl⟩ hi
      rw [e2] at hz
      cases e1 : tyN d with
      | none => rw [e1] at hz; cases hz
      | some n =>
        rw [e1] at hz
        cases hz
        have k := c.ty.no n (tyN_in e1)
        rcases rep_ty rv e1 with ty | ⟨A, rfl, hr⟩
        · exact .inr (.inr (.inl ⟨v, .ref C, _, _, false, rfl, .own C, ty, k, hq p1 H1 .refl R1 _ (.bl false)⟩))
        · exact .inr (.inr (.inr ⟨A, n, false, rfl, hr, k, hq p1 H1 .refl R1 _ (.bl false)⟩)))
@[simp] theorem ev_isZ {C : Addr} {Os : List Addr} {m : M D} {g : G} {Q : D → G → Prop} : Ev (mIsZ C Os m) g Q ↔ Ev m g fun d g1 => Ev (lift (fIsZ C Os d)) g1 Q := by
  unfold mIsZ
  simp
end Mo
set_option Elab.async false
set_option linter.all false
set_option maxRecDepth 100000
set_option maxHeartbeats 4000000
/-! Mo, part MtU: a, b, .. = a list. -/
namespace Mo
open PySem PySem.Spec L2
section
variable {X : Cx} {W : WW} {pos : Pos}
def stLst (n : Nat) (r : List D → G → Option G) : D → G → Option G := fun d g => match d with
  | .lst ds => if ds.length = n then r ds g else none
  | _ => none
theorem g_lst {ts : List Expr} {is : List Nat} {k n : Nat} {r : List D → G → Option G} (hc : X.calm = true) (h : ESs X is ts r) (hn : (assignEach ts X.env).length = n := by rfl) (hst : (assignEach ts X.env).findIdx? (·.1) = none := by rfl) : ES X is (.Tuple ts k pos) (stLst n r) := fun J p g σ H v d g' R0 rv e Q hQ => by
  unfold stLst at e
  cases d <;> first | (cases e; done) | skip
  rename_i ds
  dsimp only at e
  split at e
  · rename_i hl
    obtain ⟨a, vs, rfl, sa, ra⟩ := rep_lst rv
    exact of_pg (pg_unl hc semGs hn hst) ⟨a, vs, rfl, sl_of sa, by rw [ra.len]; exact hl, h J p g σ H vs ds g' R0 ra e Q hQ⟩
  · cases e
end
end Mo
set_option Elab.async false
set_option linter.all false
set_option maxRecDepth 100000
set_option maxHeartbeats 1000000
/-! Mo, part MtZ: f(*e) of a def f(a, .., *v). -/
namespace Mo
open PySem PySem.Spec PySem.Calls L2 PyProof.Rows
end Mo
set_option Elab.async false
set_option linter.all false
set_option maxRecDepth 100000
set_option maxHeartbeats 4000000
/-! Mo, part MtW: a dict of texts that is filled behind all others' backs: opened, closed. -/
namespace Mo
open PySem PySem.Spec L2
theorem nd_len {α : Type} [DecidableEq α] : ∀ {l m : List α}, l.Nodup → (∀ x ∈ l, x ∈ m) → l.length ≤ m.length
  | [], _, _, _ => Nat.zero_le _
  | x :: l, m, nd, h => by
    have hx := h x List.mem_cons_self
    have h2 : ∀ y ∈ l, y ∈ m.erase x := fun y my => by
      have ne : y ≠ x := fun e => (List.nodup_cons.mp nd).1 (e ▸ my)
      exact (List.mem_erase_of_ne ne).mpr (h y (List.mem_cons_of_mem _ my))
    have := nd_len (List.nodup_cons.mp nd).2 h2
    rw [List.length_erase_of_mem hx] at this
    have : 0 < m.length := List.length_pos_of_mem hx
    rw [List.length_cons]
    omega
/-- what may stand in it -/
structure VagK (m kvs : List (Str × Str)) : Prop where
  nd : (kvs.map (·.1)).Nodup
  sub : ∀ x ∈ kvs, x ∈ m
theorem VagK.len {m kvs : List (Str × Str)} (h : VagK m kvs) : kvs.length ≤ m.length := by
  have e := nd_len (m := m.map (·.1)) h.nd fun x mx => by
    obtain ⟨y, my, rfl⟩ := List.mem_map.mp mx
    exact List.mem_map_of_mem (h.sub y my)
  simpa using e
end Mo
set_option Elab.async false
set_option linter.all false
set_option maxRecDepth 100000
set_option maxHeartbeats 4000000
/-! Mo, part MtX: the rest of a def over such a dict, as if it were the parameter that the def changes. -/
namespace Mo
open PySem PySem.Spec L2
/-! data that no such dict belongs to -/
def isExt : HO → Bool
  | .ext _ => true
  | _ => false
/-- what can be read in F can be read in F', but for what is told by hand -/
def LeX (F F' : Hp) : Prop := ∀ a u, isExt u = false → isFD u = false → Vw F a u → Vw F' a u
section
variable {K : PySem.W.Frag} {F F' : Hp}
theorem LeX.ex {a : Addr} {o : HO} (e : LeX F F') (h : F a = some o) (n : isD o = false) (x : isExt o = false) (f : isFD o = false := by rfl) : F' a = some o := (e a o x f (.inl h)).ex n
end
end Mo
set_option Elab.async false
set_option linter.all false
set_option maxRecDepth 100000
set_option maxHeartbeats 4000000
/-! Mo, part MtY: a dict that is the changed parameter's content: k in d, d[k], d[k] = v. -/
namespace Mo
open PySem PySem.Spec L2
end Mo
set_option Elab.async false
set_option linter.all false
/-! Vm: what a factor keeps of the rows that were put before it. -/
set_option Elab.async false
set_option linter.all false
set_option maxRecDepth 100000
set_option maxHeartbeats 4000000
/-! Mo: x.translate(T), T a dict of numbers to signs that the text itself writes. -/
namespace Mo
open PySem PySem.Spec PySem.Calls L2 PyProof.Rows PySem.Builtin PySem.Builtin.Str
/-- at a: a written dict of numbers, its signs as tab tells -/
structure WTab (K : PySem.W.Frag) (a : Addr) (tab : List (Nat × Nat)) : Prop where
  ex : ∃ es n, K.lookup a = some ⟨.type "dict", none, .dict es n, #[]⟩ ∧ (∀ e ∈ es, ∃ i t, e.key = .int i t ∧ e.hash = hashInt i) ∧ ∀ c m, tab.lookup c = some m → ∃ t, findBy Value.isInt es (c : Int) = some (.str ⟨#[m]⟩ t)
theorem WTab.map {K : PySem.W.Frag} {a : Addr} {tab : List (Nat × Nat)} (T : WTab K a tab) {prog : Program} {w : World} {h : Heap} (X : K.In h) {c m : Nat} (hc : tab.lookup c = some m) : ∃ f, h.MapOf (intKind prog w) a f ∧ ∃ t, f (c : Int) = some (.str ⟨#[m]⟩ t) := by
  obtain ⟨es, n, e1, e2, e3⟩ := T.ex
  refine ⟨fun k => findBy Value.isInt es k, ⟨_, es, n, X _ _ e1, ⟨rfl, rfl, rfl⟩, rfl, fun e he => ?_, fun _ => rfl⟩, e3 c m hc⟩
  obtain ⟨i, t, k1, k2⟩ := e2 e he
  exact ⟨i, by rw [k1]; simp [PySem.intKind, Value.isInt], k2⟩
section
variable {X : Cx} {pins : List (Addr × Obj)} {σ : L2.St} {H : Hp}
theorem tl_oneK {A : Around} {E : Value → Shared → Prop} {s : Shared} {a : Addr} {tab : List (Nat × Nat)} {c n : Nat} {Q : Mapped → Shared → Prop} (I : Inv X pins σ H s) (T : WTab X.K a tab) (g : tab.lookup c = some n)
    (h : ∀ s', Inv X pins σ H s' → Q (.text ⟨#[n]⟩) s') : wpAny (model X.prog X.w) A (tableLookup (.ref a) c) Q E s := by
  unfold tableLookup
  obtain ⟨f, hm, t, hf⟩ := T.map (prog := X.prog) (w := X.w) I.kIn g
  refine wpAny_bind (wpAny_attempt (wpAny_bind (wpAny_mkInt ?_)))
  refine wpAny_getItem_of (knd := intKind X.prog X.w) (k := (c : Int)) (by simp [PySem.intKind, Value.isInt]) hm hf ?_
  refine wpAny_bind (wpAny_of_eq (a := none) rfl ?_)
  refine wpAny_bind (wpAny_of_eq (a := some ⟨#[n]⟩) rfl ?_)
  exact wpAny_pure (h _ ((I.tok _).tok _))
/-- what a text becomes by a written table -/
structure TblC (tab : List (Nat × Nat)) (f : Nat → Nat) (x : List Nat) : Prop where
  lo : ∀ c ∈ x, c < 128
  hi : ∀ c ∈ x, f c < 128
  get : ∀ c ∈ x, tab.lookup c = some (f c)
theorem tr_runK {x : List Nat} {t : Tok} {a : Addr} {tab : List (Nat × Nat)} {f : Nat → Nat} (T : WTab X.K a tab) (hz : x.length ≤ 1000000) : MeetsIn X.prog X.w («str.translate» ⟨[.str ⟨x.toArray⟩ t, .ref a], []⟩) (fun A R s =>
    Inv X pins σ H s ∧ TblC tab f x ∧ ∀ s' u, Inv X pins σ H s' → R (.ok (.ret (.str ⟨(x.map f).toArray⟩ u))) s') := by
  refine .of_wp fun A R s h => ?_
  obtain ⟨I, C, q⟩ := h
  unfold «str.translate»
  by_cases h0 : x = []
  · subst h0
    show wpAny _ _ (do rule "str.translate.empty"; PySem.ret (Value.str ⟨#[]⟩ t)) _ _ _
    exact wpAny_bind (wpAny_rule (wpAny_pure ⟨_, rfl, q s t I⟩))
  have zx : ((⟨x.toArray⟩ : Str).length == 0) = false := by
    rw [beq_eq_false_iff_ne]
    intro z
    exact h0 (List.eq_nil_of_length_eq_zero (by rw [← z]; rfl))
  have fst : ((⟨x.toArray⟩ : Str).cps.all fun y => decide (y < 128)) = true := by
    rw [Array.all_eq_true']
    intro c hc
    exact decide_eq_true (C.lo c (by simpa using hc))
  have hM : Mid X pins σ H f x x ([], 0, true, [], false) s := by
    refine ⟨[], [], [], ?_, ?_, ?_, ?_, I⟩
    · rfl
    · rfl
    · rfl
    · exact fun c u z => nomatch z
  show wpAny _ _ (if ((⟨x.toArray⟩ : Str).length == 0) = true then (do rule "str.translate.empty"; PySem.ret (Value.str ⟨x.toArray⟩ t)) else (do
    let st ← forIn (⟨x.toArray⟩ : Str).cps (([], 0, (⟨x.toArray⟩ : Str).cps.all fun y => decide (y < 128), [], false) : TSt) _
    _)) _ _ s
  rw [zx, if_neg Bool.false_ne_true, fst]
  refine wpAny_bind (MeetsSeq2.wpAny_forIn_array _ (Mid X pins σ H f x) _ (fun c rest st s1 hI => ?turn) (fun st s1 hI => ?fin) _ _ (by simpa using hM))
  case turn =>
    obtain ⟨past, ps, known, e1, rfl, e3, e4, I1⟩ := hI
    have mc : c ∈ x := by rw [e1]; simp
    have hpl : past.length ≤ 1000000 := by
      have := congrArg List.length e1
      rw [List.length_append] at this
      omega
    show wpAny _ _ (if tooLong past.length = true then _ else (if true = true then _ else _)) _ _ _
    rw [show tooLong past.length = false from PyProof.Rows.short24 (by omega), if_neg Bool.false_ne_true, if_pos rfl]
    cases hl : List.lookup c known with
    | some u =>
      cases e4 c u hl
      exact wpAny_bind (wpAny_pure (wpAny_pure (mid_next e1 e3 e4 I1)))
    | none =>
      refine wpAny_bind (tl_oneK I1 T (C.get c mc) fun s2 I2 => ?_)
      have w : (if ((⟨#[f c]⟩ : Str).length == 1 && (⟨#[f c]⟩ : Str).cps.all fun y => decide (y < 128)) = true then some ((⟨#[f c]⟩ : Str).cps[0]?) else none) = some (some (f c)) := by
        have : decide (f c < 128) = true := decide_eq_true (C.hi c mc)
        simp [Str.length, this]
      dsimp only
      rw [w]
      refine wpAny_bind (wpAny_pure ?_)
      exact wpAny_pure (mid_next e1 e3 (fun c' u z => by
        rcases lookup_new z with ⟨q1, q2⟩ | z
        · rw [q2, q1]
        · exact e4 c' u z) I2)
  case fin =>
    obtain ⟨past, ps, known, e1, rfl, e3, e4, I1⟩ := hI
    have ex : x = past := by rw [e1, List.append_nil]
    show wpAny _ _ (if tooLong past.length = true then _ else retStr { cps := List.foldl (fun z (p : Str) => z ++ p.cps) #[] ps.reverse }) _ _ _
    rw [show tooLong past.length = false from PyProof.Rows.short24 (by rw [← ex]; omega), if_neg Bool.false_ne_true, e3, glue, ← ex]
    have ev : (⟨#[] ++ (x.map f).toArray⟩ : Str) = ⟨(x.map f).toArray⟩ := by
      rw [Array.empty_append]
    rw [ev]
    refine wpAny_bind (wpAny_mkStr (wpAny_pure ⟨_, rfl, q _ _ (I1.tok _)⟩) ?_)
    show (x.map f).toArray.size ≤ sizeLine
    rw [List.size_toArray, List.length_map, sizeLine_eq]
    omega
def rTranslC (a : Addr) (tab : List (Nat × Nat)) : V → List V → Hp → VK → Prop := fun x xs H Q => ∃ (y : Str) (f : Nat → Nat), x = .str y ∧ xs = [.ref a] ∧ y.length ≤ 1000000 ∧ TblC tab f y.cps.toList ∧ Q (.str ⟨(y.cps.toList.map f).toArray⟩) H
theorem mt_translC {a : Addr} {tab : List (Nat × Nat)} (T : WTab X.K a tab) : MtR X "str.translate" (rTranslC a tab) := by
  intro pins s σ H x xs v us Q I rx rs h
  obtain ⟨y, f, rfl, rfl, hz, C, q⟩ := h
  obtain ⟨t, rfl⟩ := rx
  obtain ⟨u, rfl, ru⟩ := vals1 rs
  cases ru
  have hr := tr_runK (X := X) (pins := pins) (σ := σ) (H := H) (x := y.cps.toList) (t := t) (f := f) T (by rw [Array.length_toList]; exact hz)
  rw [show (⟨y.cps.toList.toArray⟩ : Str) = y from rfl] at hr
  exact call_meetsIn PySem.F.slot_str_translate (typeIs_str _ _ _) PySem.F.entry_str_translate (PySem.F.args_str_translate_2 _ _) hr ⟨I, C, fun s' u I' => ⟨.str _, H, I', ⟨u, rfl⟩, q⟩⟩
def trC (tab : List (Nat × Nat)) (c : Nat) : Option Nat := match tab.lookup c with
  | some n => if c < 128 ∧ n < 128 then some n else none
  | none => none
def fTranslC (a : Addr) (tab : List (Nat × Nat)) : D → D → Option D
  | .str x, .cl b => if b = a ∧ x.length ≤ 1000000 then (x.cps.toList.mapM (trC tab)).map fun l => .str ⟨l.toArray⟩ else none
  | _, _ => none
theorem ms_translC {a : Addr} {tab : List (Nat × Nat)} : MS1 X.K (fun _ => rTranslC a tab) (fTranslC a tab) := fun J p g σ H x w y z Q R rw' e q => by
  unfold fTranslC at e
  split at e
  · rename_i x' b h
    cases h
    split at e
    · rename_i hz
      obtain ⟨rfl, hz⟩ := hz
      obtain ⟨l, e1, e2⟩ := Option.map_eq_some_iff.mp e
      subst e2
      obtain ⟨m1, m2⟩ := mapM_spec (d := 0) e1
      subst m1
      cases rw'
      have one : ∀ c ∈ x.cps.toList, c < 128 ∧ (trC tab c).getD 0 < 128 ∧ tab.lookup c = some ((trC tab c).getD 0) := fun c m => by
        obtain ⟨n, hn⟩ := m2 c m
        rw [hn]
        unfold trC at hn
        split at hn
        · rename_i n' hv
          split at hn
          · rename_i hc
            cases hn
            exact ⟨hc.1, hc.2, hv⟩
          · cases hn
        · cases hn
      exact ⟨x, fun c => (trC tab c).getD 0, rfl, rfl, hz, ⟨fun c m => (one c m).1, fun c m => (one c m).2.1, fun c m => (one c m).2.2⟩, q p H .refl R _ (.str _)⟩
    · cases e
  · cases e
end
/-- a global name whose value is told by its address alone -/
theorem e_gref {X : Cx} {W : WW} {x : Str} {p0 : Pos} {a : Addr} (hm : X.mg x = some (.ref a)) (hg : Gl X x := by rfl) (hd : (x == ("__debug__" : Str)) = false := by decide) : EF X W (.Name x p0) (ret (.cl a)) := fun J p g σ H R0 r hm' Q hp => by
  cases hm'
  exact of_pe (pe_glob (v := .ref a) hg hm rfl hd) (hp p H .refl R0 _ (.cl a))
end Mo
namespace Mh
open PySem PySem.Spec PyProof.Rows L2 He
theorem lookup_in {tab : List (Nat × Nat)} {c m : Nat} (h : tab.lookup c = some m) : (c, m) ∈ tab := by
  induction tab with
  | nil => cases h
  | cons y r ih =>
    obtain ⟨a, b⟩ := y
    rw [List.lookup_cons] at h
    by_cases e : c = a
    · subst e
      rw [beq_self_eq_true] at h
      cases h
      exact .head _
    · rw [beq_eq_false_iff_ne.mpr e] at h
      exact .tail _ (ih h)
theorem ktab_glo {K : PySem.W.Frag} {h : Heap} {mg : Str → Option Value} (X : K.In h) (G : h.Ns mainGlobals mg) {x : Str} {tab : List (Nat × Nat)} (c : kTabW x tab K = true) : mg x = some (.ref (ga K x)) := PySem.W.mg_of X G (eqO_ok (ba c).1)
theorem ktab_ok {K : PySem.W.Frag} {x : Str} {tab : List (Nat × Nat)} (c : kTabW x tab K = true) : Mo.WTab K (ga K x) tab := by
  have c := (ba c).2
  split at c
  · rename_i es n sl hk
    obtain ⟨c1, c⟩ := ba c
    obtain ⟨c2, c3⟩ := ba c
    have e2 : sl = #[] := Array.toList_eq_nil_iff.mp (List.isEmpty_iff.mp c1)
    subst e2
    refine ⟨es, n, hk, fun e he => ?_, fun c m hc => ?_⟩
    · have := List.all_eq_true.mp c2 e (Array.mem_toList_iff.mpr he)
      split at this
      · rename_i i t hk2
        exact ⟨i, t, hk2, of_decide_eq_true this⟩
      · cases this
    · have := List.all_eq_true.mp c3 _ (lookup_in hc)
      split at this
      · rename_i z t hf
        have hz : z.cps.toList = [m] := of_decide_eq_true this
        have hz2 : z = ⟨#[m]⟩ := by
          obtain ⟨⟨l⟩⟩ := z
          simp at hz
          subst hz
          rfl
        exact ⟨t, by rw [hf, hz2]⟩
      · cases this
  · cases c
end Mh
set_option Elab.async false
set_option linter.all false
set_option maxRecDepth 100000
set_option maxHeartbeats 4000000
set_option exponentiation.threshold 9000
namespace K426
open PySem PySem.Spec L2 Mo
open Lp (FnG)
def topS (i : Nat) : Stmt := PySem.Challenge.pw_lastprices_k26_whole_repeats.main.body.getD i (.Pass ⟨0, 0, 0, 0⟩)
structure CA where
  Square : Addr
  w : World
  ad : Str → Addr
abbrev osZ_Square (c : CA) : List Addr := []
abbrev osE_Square (c : CA) : List Addr := []
structure TF (c : CA) (K : PySem.W.Frag) (mg : Str → Option Value) (w : World) where
  ww : c.w = w
  z_abs : mg "abs" = none
  z_all : mg "all" = none
  z_enumerate : mg "enumerate" = none
  z_int : mg "int" = none
  z_isinstance : mg "isinstance" = none
  z_len : mg "len" = none
  z_max : mg "max" = none
  z_min : mg "min" = none
  z_range : mg "range" = none
  z_str : mg "str" = none
  z_tuple : mg "tuple" = none
  z_zip : mg "zip" = none
  t_MAX_STATES : Tok
  c_MAX_STATES : mg "MAX_STATES" = some (.int 24 t_MAX_STATES)
  t_SIGNS : Tok
  c_SIGNS : mg "SIGNS" = some (.str "01n." t_SIGNS)
  cl_Square : Cls K c.Square
  g_Square : mg "Square" = some (.ref c.Square)
  k_Square : PySem.W.keepIn K (.ref c.Square) = true
  iz_Square : IsZ K c.Square []
  nz_Square : NtZ K c.Square []
  wg_TO_FIGURES : mg "TO_FIGURES" = some (.ref (c.ad "TO_FIGURES"))
  wt_TO_FIGURES : WTab K (c.ad "TO_FIGURES") [(48, 55), (49, 54), (110, 52), (46, 48)]
  wg_TO_SIGNS : mg "TO_SIGNS" = some (.ref (c.ad "TO_SIGNS"))
  wt_TO_SIGNS : WTab K (c.ad "TO_SIGNS") [(55, 48), (54, 49), (52, 110), (48, 46)]
  nf_Square__rows : NoAttr K c.Square "_rows"
  f__law_dice : Addr
  d__law_dice : FuncData
  F__law_dice : Fun K "_law_dice" "_law_dice" (topS 34) f__law_dice d__law_dice
  b__law_dice : Binds K d__law_dice ["_law_script", "_law_spot"] []
  m__law_dice : mg "_law_dice" = some (.ref f__law_dice)
  f__law_roll : Addr
  d__law_roll : FuncData
  F__law_roll : Fun K "_law_roll" "_law_roll" (topS 35) f__law_roll d__law_roll
  b__law_roll : Binds K d__law_roll ["_law_dice_here", "_law_total"] []
  m__law_roll : mg "_law_roll" = some (.ref f__law_roll)
  f__law_pick : Addr
  d__law_pick : FuncData
  F__law_pick : Fun K "_law_pick" "_law_pick" (topS 36) f__law_pick d__law_pick
  b__law_pick : Binds K d__law_pick ["_law_dice_here", "_law_items"] []
  m__law_pick : mg "_law_pick" = some (.ref f__law_pick)
  f__law_drawn_square : Addr
  d__law_drawn_square : FuncData
  F__law_drawn_square : Fun K "_law_drawn_square" "_law_drawn_square" (topS 41) f__law_drawn_square d__law_drawn_square
  b__law_drawn_square : Binds K d__law_drawn_square ["_law_dice_here", "_law_size"] []
  m__law_drawn_square : mg "_law_drawn_square" = some (.ref f__law_drawn_square)
  f_check_size : Addr
  d_check_size : FuncData
  F_check_size : Fun K "check_size" "check_size" (topS 13) f_check_size d_check_size
  b_check_size : Binds K d_check_size ["many", "expected"] []
  m_check_size : mg "check_size" = some (.ref f_check_size)
  f__is_of_signs : Addr
  d__is_of_signs : FuncData
  F__is_of_signs : Fun K "_is_of_signs" "_is_of_signs" (topS 32) f__is_of_signs d__is_of_signs
  b__is_of_signs : Binds K d__is_of_signs ["value"] []
  m__is_of_signs : mg "_is_of_signs" = some (.ref f__is_of_signs)
  f_is_sized : Addr
  d_is_sized : FuncData
  F_is_sized : Fun K "is_sized" "is_sized" (topS 11) f_is_sized d_is_sized
  b_is_sized : Binds K d_is_sized ["value"] []
  m_is_sized : mg "is_sized" = some (.ref f_is_sized)
  f_is_square : Addr
  d_is_square : FuncData
  F_is_square : Fun K "is_square" "is_square" (topS 29) f_is_square d_is_square
  b_is_square : Binds K d_is_square ["value"] []
  m_is_square : mg "is_square" = some (.ref f_is_square)
  f_Square_init : Addr
  d_Square_init : FuncData
  F_Square_init : Fun K "__init__" "Square.__init__" (inClass (topS 30) 0) f_Square_init d_Square_init
  b_Square_init : Binds K d_Square_init ["self", "rows"] []
  mk_Square : Mk K c.Square f_Square_init
  f_row_number : Addr
  d_row_number : FuncData
  F_row_number : Fun K "row_number" "row_number" (topS 18) f_row_number d_row_number
  b_row_number : Binds K d_row_number ["row"] []
  m_row_number : mg "row_number" = some (.ref f_row_number)
  f_masks_for : Addr
  d_masks_for : FuncData
  F_masks_for : Fun K "masks_for" "masks_for" (topS 20) f_masks_for d_masks_for
  b_masks_for : Binds K d_masks_for ["many"] []
  m_masks_for : mg "masks_for" = some (.ref f_masks_for)
  f_written_row : Addr
  d_written_row : FuncData
  F_written_row : Fun K "written_row" "written_row" (topS 19) f_written_row d_written_row
  b_written_row : Binds K d_written_row ["number", "many"] []
  m_written_row : mg "written_row" = some (.ref f_written_row)
  f_least_behind : Addr
  d_least_behind : FuncData
  F_least_behind : Fun K "least_behind" "least_behind" (topS 21) f_least_behind d_least_behind
  b_least_behind : Binds K d_least_behind ["row", "numbers", "masks"] []
  m_least_behind : mg "least_behind" = some (.ref f_least_behind)
  f_product_of : Addr
  d_product_of : FuncData
  F_product_of : Fun K "product_of" "product_of" (topS 22) f_product_of d_product_of
  b_product_of : Binds K d_product_of ["one", "other"] []
  m_product_of : mg "product_of" = some (.ref f_product_of)
  f_Square_mul : Addr
  d_Square_mul : FuncData
  F_Square_mul : Fun K "__mul__" "Square.__mul__" (inClass (topS 30) 6) f_Square_mul d_Square_mul
  b_Square_mul : Binds K d_Square_mul ["self", "other"] []
  bi_Square_mul : BinC K .Mult c.Square f_Square_mul
  f_Square_eq : Addr
  d_Square_eq : FuncData
  F_Square_eq : Fun K "__eq__" "Square.__eq__" (inClass (topS 30) 10) f_Square_eq d_Square_eq
  b_Square_eq : Binds K d_Square_eq ["self", "other"] []
  eq_Square : EqC K c.Square f_Square_eq
  f_Square_rows : Addr
  d_Square_rows : FuncData
  F_Square_rows : Fun K "rows" "Square.rows" (inClass (topS 30) 2) f_Square_rows d_Square_rows
  b_Square_rows : Binds K d_Square_rows ["self"] []
  p_Square_rows : Addr
  pr_Square_rows : PropOf K c.Square "rows" p_Square_rows f_Square_rows
  f__law_lesser : Addr
  d__law_lesser : FuncData
  F__law_lesser : Fun K "_law_lesser" "_law_lesser" (topS 37) f__law_lesser d__law_lesser
  b__law_lesser : Binds K d__law_lesser ["_law_one", "_law_other"] []
  m__law_lesser : mg "_law_lesser" = some (.ref f__law_lesser)
  f__law_greater : Addr
  d__law_greater : FuncData
  F__law_greater : Fun K "_law_greater" "_law_greater" (topS 38) f__law_greater d__law_greater
  b__law_greater : Binds K d__law_greater ["_law_one", "_law_other"] []
  m__law_greater : mg "_law_greater" = some (.ref f__law_greater)
  f__law_product : Addr
  d__law_product : FuncData
  F__law_product : Fun K "_law_product" "_law_product" (topS 39) f__law_product d__law_product
  b__law_product : Binds K d__law_product ["_law_one", "_law_other"] []
  m__law_product : mg "_law_product" = some (.ref f__law_product)
  f_is_stable_by_numbers : Addr
  d_is_stable_by_numbers : FuncData
  F_is_stable_by_numbers : Fun K "is_stable_by_numbers" "is_stable_by_numbers" (topS 26) f_is_stable_by_numbers d_is_stable_by_numbers
  b_is_stable_by_numbers : Binds K d_is_stable_by_numbers ["rows", "numbers", "masks"] []
  m_is_stable_by_numbers : mg "is_stable_by_numbers" = some (.ref f_is_stable_by_numbers)
  f_is_stable_square : Addr
  d_is_stable_square : FuncData
  F_is_stable_square : Fun K "is_stable_square" "is_stable_square" (topS 25) f_is_stable_square d_is_stable_square
  b_is_stable_square : Binds K d_is_stable_square ["rows"] []
  m_is_stable_square : mg "is_stable_square" = some (.ref f_is_stable_square)
  f_Square_is_stable : Addr
  d_Square_is_stable : FuncData
  F_Square_is_stable : Fun K "is_stable" "Square.is_stable" (inClass (topS 30) 3) f_Square_is_stable d_Square_is_stable
  b_Square_is_stable : Binds K d_Square_is_stable ["self"] []
  p_Square_is_stable : Addr
  pr_Square_is_stable : PropOf K c.Square "is_stable" p_Square_is_stable f_Square_is_stable
  f_repeat_by_numbers : Addr
  d_repeat_by_numbers : FuncData
  F_repeat_by_numbers : Fun K "repeat_by_numbers" "repeat_by_numbers" (topS 24) f_repeat_by_numbers d_repeat_by_numbers
  b_repeat_by_numbers : Binds K d_repeat_by_numbers ["rows", "numbers"] []
  m_repeat_by_numbers : mg "repeat_by_numbers" = some (.ref f_repeat_by_numbers)
  f_repeat_of : Addr
  d_repeat_of : FuncData
  F_repeat_of : Fun K "repeat_of" "repeat_of" (topS 23) f_repeat_of d_repeat_of
  b_repeat_of : Binds K d_repeat_of ["rows"] []
  m_repeat_of : mg "repeat_of" = some (.ref f_repeat_of)
  f_Square_repeated : Addr
  d_Square_repeated : FuncData
  F_Square_repeated : Fun K "repeated" "Square.repeated" (inClass (topS 30) 4) f_Square_repeated d_Square_repeated
  b_Square_repeated : Binds K d_Square_repeated ["self"] []
  me_Square_repeated : Meth K c.Square "repeated" f_Square_repeated
  f__law_repeat : Addr
  d__law_repeat : FuncData
  F__law_repeat : Fun K "_law_repeat" "_law_repeat" (topS 40) f__law_repeat d__law_repeat
  b__law_repeat : Binds K d__law_repeat ["_law_square"] []
  m__law_repeat : mg "_law_repeat" = some (.ref f__law_repeat)
  f__ranks : Addr
  d__ranks : FuncData
  F__ranks : Fun K "_ranks" "_ranks" (topS 31) f__ranks d__ranks
  b__ranks : Binds K d__ranks ["signs"] []
  m__ranks : mg "_ranks" = some (.ref f__ranks)
  f_least_sign : Addr
  d_least_sign : FuncData
  F_least_sign : Fun K "least_sign" "least_sign" (topS 28) f_least_sign d_least_sign
  m_least_sign : mg "least_sign" = some (.ref f_least_sign)
  f__law_no_less : Addr
  d__law_no_less : FuncData
  F__law_no_less : Fun K "_law_no_less" "_law_no_less" (topS 43) f__law_no_less d__law_no_less
  b__law_no_less : Binds K d__law_no_less ["_law_one", "_law_other"] []
  m__law_no_less : mg "_law_no_less" = some (.ref f__law_no_less)
  f__law_repeats_right : Addr
  d__law_repeats_right : FuncData
  F__law_repeats_right : Fun K "_law_repeats_right" "_law_repeats_right" (topS 44) f__law_repeats_right d__law_repeats_right
  b__law_repeats_right : Binds K d__law_repeats_right ["_law_rows"] []
  m__law_repeats_right : mg "_law_repeats_right" = some (.ref f__law_repeats_right)
  f__law_stable_of : Addr
  d__law_stable_of : FuncData
  F__law_stable_of : Fun K "_law_stable_of" "_law_stable_of" (topS 42) f__law_stable_of d__law_stable_of
  b__law_stable_of : Binds K d__law_stable_of ["_law_square"] []
  m__law_stable_of : mg "_law_stable_of" = some (.ref f__law_stable_of)
  f__law_right : Addr
  d__law_right : FuncData
  F__law_right : Fun K "_law_right" "_law_right" (topS 45) f__law_right d__law_right
  b__law_right : Binds K d__law_right ["_law_dice_here"] []
  m__law_right : mg "_law_right" = some (.ref f__law_right)
  f_Square_str : Addr
  d_Square_str : FuncData
  F_Square_str : Fun K "__str__" "Square.__str__" (inClass (topS 30) 11) f_Square_str d_Square_str
  b_Square_str : Binds K d_Square_str ["self"] []
  sp_Square_str : SpecM K c.Square "__str__" f_Square_str
  f_law : Addr
  d_law : FuncData
  F_law : Fun K "law" "law" (topS 46) f_law d_law
  b_law : Binds K d_law ["_law_script"] []
  m_law : mg "law" = some (.ref f_law)
section
variable {P : Program} {w : World} {K : PySem.W.Frag} {mg : Str → Option Value} {base : Heap}
abbrev s__law_dice : Stmt := topS 34
theorem sc__law_dice : FnScope ["_law_script", "_law_spot", "_law_cell", "_law_great", "_law_left"] ["_law_script", "_law_spot"] (defScope s__law_dice) := ⟨rfl, rfl, rfl, by decide +kernel, rfl, by decide +kernel, by decide +kernel⟩
noncomputable def m__law_dice (c : CA) : M Oc :=
  (seq (mSet 2 (mIf (mT2 uLt (mName 1) (mCall fLen (mCons (mName 0) (ret [])))) (mCall fInt1 (mCons (mBin uIx (mName 0) (mName 1)) (ret []))) (mBin uPlus (mBin uMul (ret (.int 43)) (mName 1)) (ret (.int 7))))) (seq (mSet 3 (mBin uMod (mCall fAbs (mCons (mName 2) (ret []))) (mBin uPow (ret (.int 10)) (ret (.int 59))))) (seq (mSet 4 (mCall fMax2 (mCons (ret (.int 0)) (mCons (mBin uSub (mCall fAbs (mCons (mName 2) (ret []))) (mBin uPow (ret (.int 10)) (ret (.int 17)))) (ret []))))) (seq (mRetO (mLst (mCons (mBin uMod (mName 4) (mBin uMul (mBin uPow (ret (.int 10)) (ret (.int 60))) (mBin uPow (ret (.int 10)) (ret (.int 60))))) (mCons (mBin uPlus (mBin uPlus (mBin uPlus (mBin uMul (mBin uMod (mName 3) (ret (.int 2147483587))) (ret (.int 37))) (mBin uMul (ret (.int 601)) (mName 1))) (mBin uMul (ret (.int 11)) (mCall fInt1 (mCons (mBin uLt (mName 2) (ret (.int 0))) (ret []))))) (ret (.int 5))) (mCons (ret (.int 0)) (ret [])))))) (ret .nx)))))
noncomputable def F__law_dice (c : CA) : FO := runO false 5 2 (m__law_dice c)
theorem ok__law_dice {c : CA} (T : TF c K mg w) : FnG P w K mg base CX0 1 T.f__law_dice T.d__law_dice ["_law_script", "_law_spot"] (spO K false (F__law_dice c)) :=
  okO T.F__law_dice sc__law_dice fun cdv B fr s J0 Z hr hg =>
    have nd := sc__law_dice.nd
    have hu64 := hr.units
    have hu1 := Nat.lt_of_le_of_lt (Nat.add_le_add_left (by decide : 1 ≤ 64) _) hu64
    (b_cons (s_set 2 nd (e_if (t_lt (e_name 1) (e_blt call_len cs_len T.z_len (a_cons (e_name 0) a_nil))) (e_ty call_int1 cs_int T.z_int (a_cons (e_sbs hu1 (e_name 0) (e_name 1)) a_nil)) (e_plus (e_mul e_int (e_name 1)) e_int))) (b_cons (s_set 3 nd (e_mod (e_blt call_abs cs_abs T.z_abs (a_cons (e_name 2) a_nil)) (e_pow e_int e_int))) (b_cons (s_set 4 nd (e_blt (call_max2 rfl) cs_max2 T.z_max (a_cons e_int (a_cons (e_sub (e_blt call_abs cs_abs T.z_abs (a_cons (e_name 2) a_nil)) (e_pow e_int e_int)) a_nil)))) (b_cons (s_retO (eo_lst (a_cons (e_mod (e_name 4) (e_mul (e_pow e_int e_int) (e_pow e_int e_int))) (a_cons (e_plus (e_plus (e_plus (e_mul (e_mod (e_name 3) e_int) e_int) (e_mul e_int (e_name 1))) (e_mul e_int (e_ty call_int1 cs_int T.z_int (a_cons (e_lt (e_name 2) e_int) a_nil)))) e_int) (a_cons e_int a_nil))))) b_nil))))
abbrev s__law_roll : Stmt := topS 35
theorem sc__law_roll : FnScope ["_law_dice_here", "_law_total", "_law_one", "_law_two", "_law_found"] ["_law_dice_here", "_law_total"] (defScope s__law_roll) := ⟨rfl, rfl, rfl, by decide +kernel, rfl, by decide +kernel, by decide +kernel⟩
noncomputable def m__law_roll (c : CA) : M Oc :=
  (seq (mIf (mT2 iGt (mIxD 0 (ret (.int 0))) (ret (.int 0))) (seq (mSet 4 (mBin uMod (mCall fInt1 (mCons (mIxD 0 (ret (.int 0))) (ret []))) (mName 1))) (seq (mIxPutD 0 0 (mBin uDiv (mIxD 0 (ret (.int 0))) (mName 1))) (seq (mRet (mName 4)) (ret .nx)))) (ret .nx)) (seq (mIxPutD 0 2 (mBin uPlus (mIxD 0 (ret (.int 2))) (ret (.int 1)))) (seq (mSet 2 (mBin uMod (mCall fInt1 (mCons (mBin uPlus (mIxD 0 (ret (.int 1))) (mBin uMul (ret (.int 7907)) (mIxD 0 (ret (.int 2))))) (ret []))) (ret (.int 2305843009213693907)))) (seq (mSet 3 (mBin uPlus (mBin uMul (mBin uMod (mCall fInt1 (mCons (mBin uPlus (mBin uMul (mName 2) (mName 2)) (mBin uMul (ret (.int 67)) (mIxD 0 (ret (.int 2))))) (ret []))) (ret (.int 2305843009213693921))) (ret (.int 6700417))) (mName 2))) (seq (mRet (mBin uMod (mCall fInt1 (mCons (mBin uDiv (mName 3) (ret (.int 32768))) (ret []))) (mName 1))) (ret .nx))))))
noncomputable def F__law_roll (c : CA) : FD := runM true 5 2 (m__law_roll c)
theorem ok__law_roll {c : CA} (T : TF c K mg w) : FnG P w K mg base CX0 1 T.f__law_roll T.d__law_roll ["_law_dice_here", "_law_total"] (spM K true (F__law_roll c)) :=
  okM T.F__law_roll sc__law_roll fun cdv B fr s J0 Z hr hg =>
    have nd := sc__law_roll.nd
    have hu64 := hr.units
    have hu1 := Nat.lt_of_le_of_lt (Nat.add_le_add_left (by decide : 1 ≤ 64) _) hu64
    (b_cons (s_if (t_gt (e_ixD 0 e_int) e_int) (b_cons (s_set 4 nd (e_mod (e_ty call_int1 cs_int T.z_int (a_cons (e_ixD 0 e_int) a_nil)) (e_name 1))) (b_cons (s_ixD 0 (e_div (e_ixD 0 e_int) (e_name 1))) (b_cons (s_ret (e_name 4)) b_nil))) b_nil) (b_cons (s_ixD 0 (e_plus (e_ixD 0 e_int) e_int)) (b_cons (s_set 2 nd (e_mod (e_ty call_int1 cs_int T.z_int (a_cons (e_plus (e_ixD 0 e_int) (e_mul e_int (e_ixD 0 e_int))) a_nil)) e_int)) (b_cons (s_set 3 nd (e_plus (e_mul (e_mod (e_ty call_int1 cs_int T.z_int (a_cons (e_plus (e_mul (e_name 2) (e_name 2)) (e_mul e_int (e_ixD 0 e_int))) a_nil)) e_int) e_int) (e_name 2))) (b_cons (s_ret (e_mod (e_ty call_int1 cs_int T.z_int (a_cons (e_div (e_name 3) e_int) a_nil)) (e_name 1))) b_nil)))))
abbrev s__law_pick : Stmt := topS 36
theorem sc__law_pick : FnScope ["_law_dice_here", "_law_items"] ["_law_dice_here", "_law_items"] (defScope s__law_pick) := ⟨rfl, rfl, rfl, by decide +kernel, rfl, by decide +kernel, by decide +kernel⟩
noncomputable def m__law_pick (c : CA) : M Oc :=
  (seq (mRet (mBin uIx (mName 1) (isDi 0 (mFn (F__law_roll c) (mCons (mCall fLen (mCons (mName 1) (ret []))) (ret [])))))) (ret .nx))
noncomputable def F__law_pick (c : CA) : FD := runM true 2 2 (m__law_pick c)
theorem ok__law_pick {c : CA} (T : TF c K mg w) : FnG P w K mg base CX0 2 T.f__law_pick T.d__law_pick ["_law_dice_here", "_law_items"] (spM K true (F__law_pick c)) :=
  okM T.F__law_pick sc__law_pick fun cdv B fr s J0 Z hr hg =>
    have nd := sc__law_pick.nd
    have hu64 := hr.units
    have hu1 := Nat.lt_of_le_of_lt (Nat.add_le_add_left (by decide : 1 ≤ 64) _) hu64
    (b_cons (s_ret (e_sbs hu1 (e_name 1) (e_fd 0 (ok__law_roll T) (hr.mono (by decide)) hg T.m__law_roll T.F__law_roll.kp T.b__law_roll (a_cons (e_blt call_len cs_len T.z_len (a_cons (e_name 1) a_nil)) a_nil)))) b_nil)
abbrev s__law_drawn_square : Stmt := topS 41
theorem sc__law_drawn_square : FnScope ["_law_dice_here", "_law_size", "_law_pool", "_law_found", "_law_row", "_law_at"] ["_law_dice_here", "_law_size"] (defScope s__law_drawn_square) := ⟨rfl, rfl, rfl, by decide +kernel, rfl, by decide +kernel, by decide +kernel⟩
noncomputable def m__law_drawn_square (c : CA) : M Oc :=
  (seq (mSet 2 (isDi 0 (mFn (F__law_pick c) (mCons (frz (mLst (mCons (ret (.str "01n.")) (mCons (ret (.str "01.")) (mCons (ret (.str "0.")) (mCons (ret (.str "1n.")) (mCons (ret (.str "0..1")) (mCons (ret (.str "0n")) (ret []))))))))) (ret []))))) (seq (mSetO 3 (mLst (ret []))) (seq (mFor (stName 4) (mWk fRng1 (mCons (mName 1) (ret []))) (seq (mExpr (mLm1 3 fApp (mMs1 fJoin (ret (.str "")) (frz (mLc [5] (mWk fRng1 (mCons (mName 1) (ret []))) (stName 5) (ret true) (isDi 0 (mFn (F__law_pick c) (mCons (mName 2) (ret []))))))))) (ret .nx))) (seq (mRet (mCall fTuple (mCons (mName 3) (ret [])))) (ret .nx)))))
noncomputable def F__law_drawn_square (c : CA) : FD := runM true 6 2 (m__law_drawn_square c)
theorem ok__law_drawn_square {c : CA} (T : TF c K mg w) : FnG P w K mg base CX0 3 T.f__law_drawn_square T.d__law_drawn_square ["_law_dice_here", "_law_size"] (spM K true (F__law_drawn_square c)) :=
  okM T.F__law_drawn_square sc__law_drawn_square fun cdv B fr s J0 Z hr hg =>
    have nd := sc__law_drawn_square.nd
    have hu64 := hr.units
    have hu1 := Nat.lt_of_le_of_lt (Nat.add_le_add_left (by decide : 1 ≤ 64) _) hu64
    (b_cons (s_set 2 nd (e_fd 0 (ok__law_pick T) (hr.mono (by decide)) hg T.m__law_pick T.F__law_pick.kp T.b__law_pick (a_cons (EO.f (eo_lst (a_cons e_str (a_cons e_str (a_cons e_str (a_cons e_str (a_cons e_str (a_cons e_str a_nil)))))))) a_nil))) (b_cons (s_setO 3 nd (eo_lst a_nil)) (b_cons (s_for rfl .never (ei_rng1 T.z_range (a_cons (e_name 1) a_nil)) (g_name 4 nd) (b_cons (s_expr (e_lm1 3 PySem.F.slot_list_append PySem.F.type_list_append mt_append ls_app (e_join e_str (EO.f (eo_lc (own := [("_law_at", 5)]) rfl nd (ei_rng1 T.z_range (a_cons (e_name 1) a_nil)) (blkOk_by rfl) (fun _ _ _ _ _ => (g_name 5 nd)) (fun _ _ _ _ _ => ts_nil) (fun _ _ _ _ _ => (e_fd 0 (ok__law_pick T) (hr.mono (by decide)) hg T.m__law_pick T.F__law_pick.kp T.b__law_pick (a_cons (e_name 2) a_nil)))))))) b_nil)) (b_cons (s_ret (e_ty call_tuple_of cs_tuple T.z_tuple (a_cons (e_name 3) a_nil))) b_nil))))
abbrev s_check_size : Stmt := topS 13
theorem sc_check_size : FnScope ["many", "expected"] ["many", "expected"] (defScope s_check_size) := ⟨rfl, rfl, rfl, by decide +kernel, rfl, by decide +kernel, by decide +kernel⟩
noncomputable def m_check_size (c : CA) : M Oc :=
  (seq (mIf (mT2 (fEq true) (mName 0) (mName 1)) (seq bad (ret .nx)) (ret .nx)) (ret .nx))
noncomputable def F_check_size (c : CA) : FD := runM false 2 2 (m_check_size c)
theorem ok_check_size {c : CA} (T : TF c K mg w) : FnG P w K mg base CX0 1 T.f_check_size T.d_check_size ["many", "expected"] (spM K false (F_check_size c)) :=
  okM T.F_check_size sc_check_size fun cdv B fr s J0 Z hr hg =>
    have nd := sc_check_size.nd
    have hu64 := hr.units
    have hu1 := Nat.lt_of_le_of_lt (Nat.add_le_add_left (by decide : 1 ≤ 64) _) hu64
    (b_cons (s_if (t_ne hu64 (e_name 0) (e_name 1)) (b_cons s_never b_nil) b_nil) b_nil)
abbrev s__is_of_signs : Stmt := topS 32
theorem sc__is_of_signs : FnScope ["value"] ["value"] (defScope s__is_of_signs) := ⟨rfl, rfl, rfl, by decide +kernel, rfl, by decide +kernel, by decide +kernel⟩
noncomputable def m__is_of_signs (c : CA) : M Oc :=
  (seq (mRet (mAnd (mIsi "str" (mName 0)) (mBin (fEq false) (mMs1 fStrip (mName 0) (ret (.str "01n."))) (ret (.str ""))))) (ret .nx))
noncomputable def F__is_of_signs (c : CA) : FD := runM false 1 1 (m__is_of_signs c)
theorem ok__is_of_signs {c : CA} (T : TF c K mg w) : FnG P w K mg base CX0 1 T.f__is_of_signs T.d__is_of_signs ["value"] (spM K false (F__is_of_signs c)) :=
  okM T.F__is_of_signs sc__is_of_signs fun cdv B fr s J0 Z hr hg =>
    have nd := sc__is_of_signs.nd
    have hu64 := hr.units
    have hu1 := Nat.lt_of_le_of_lt (Nat.add_le_add_left (by decide : 1 ≤ 64) _) hu64
    (b_cons (s_ret (e_and (e_isi T.z_isinstance T.z_str PyProof.Rows.boot_str (e_name 0)) (e_one (e_eq hu64 (e_strip (e_name 0) (e_globS T.c_SIGNS)) e_str)))) b_nil)
abbrev s_is_sized : Stmt := topS 11
theorem sc_is_sized : FnScope ["value"] ["value"] (defScope s_is_sized) := ⟨rfl, rfl, rfl, by decide +kernel, rfl, by decide +kernel, by decide +kernel⟩
noncomputable def m_is_sized (c : CA) : M Oc :=
  (seq (mRet (mAnd (mIsi "tuple" (mName 0)) (mChain iLe iLe (ret (.int 1)) (mCall fLen (mCons (mName 0) (ret []))) (ret (.int 24))))) (ret .nx))
noncomputable def F_is_sized (c : CA) : FD := runM false 1 1 (m_is_sized c)
theorem ok_is_sized {c : CA} (T : TF c K mg w) : FnG P w K mg base CX0 1 T.f_is_sized T.d_is_sized ["value"] (spM K false (F_is_sized c)) :=
  okM T.F_is_sized sc_is_sized fun cdv B fr s J0 Z hr hg =>
    have nd := sc_is_sized.nd
    have hu64 := hr.units
    have hu1 := Nat.lt_of_le_of_lt (Nat.add_le_add_left (by decide : 1 ≤ 64) _) hu64
    (b_cons (s_ret (e_and (e_isi T.z_isinstance T.z_tuple PyProof.Rows.boot_tuple (e_name 0)) (e_one (e_chain op_le op_le os_IB os_IB e_int (e_blt call_len cs_len T.z_len (a_cons (e_name 0) a_nil)) (e_globI T.c_MAX_STATES))))) b_nil)
abbrev s_is_square : Stmt := topS 29
theorem sc_is_square : FnScope ["value", "row"] ["value"] (defScope s_is_square) := ⟨rfl, rfl, rfl, by decide +kernel, rfl, by decide +kernel, by decide +kernel⟩
noncomputable def m_is_square (c : CA) : M Oc :=
  (seq (mRet (mAnd (mFn (F_is_sized c) (mCons (mName 0) (ret []))) (mCall fAll (mCons (frz (mLc [1] (mIter (mName 0)) (stName 1) (ret true) (mAnd (mFn (F__is_of_signs c) (mCons (mName 1) (ret []))) (mBin (fEq false) (mCall fLen (mCons (mName 1) (ret []))) (mCall fLen (mCons (mName 0) (ret []))))))) (ret []))))) (ret .nx))
noncomputable def F_is_square (c : CA) : FD := runM false 2 1 (m_is_square c)
theorem ok_is_square {c : CA} (T : TF c K mg w) : FnG P w K mg base CX0 2 T.f_is_square T.d_is_square ["value"] (spM K false (F_is_square c)) :=
  okM T.F_is_square sc_is_square fun cdv B fr s J0 Z hr hg =>
    have nd := sc_is_square.nd
    have hu64 := hr.units
    have hu1 := Nat.lt_of_le_of_lt (Nat.add_le_add_left (by decide : 1 ≤ 64) _) hu64
    (b_cons (s_ret (e_and (e_fn (ok_is_sized T) (hr.mono (by decide)) hg T.m_is_sized T.F_is_sized.kp T.b_is_sized (a_cons (e_name 0) a_nil)) (e_one (e_blt (cr_all rfl) cs_all T.z_all (a_cons (EO.f (eo_lc (own := [("row", 1)]) rfl nd (ei_any (e_name 0)) (blkOk_by rfl) (fun _ _ _ _ _ => (g_name 1 nd)) (fun _ _ _ _ _ => ts_nil) (fun _ _ _ _ _ => (e_and (e_fn (ok__is_of_signs T) (hr.mono (by decide)) hg T.m__is_of_signs T.F__is_of_signs.kp T.b__is_of_signs (a_cons (e_name 1) a_nil)) (e_one (e_eq hu64 (e_blt call_len cs_len T.z_len (a_cons (e_name 1) a_nil)) (e_blt call_len cs_len T.z_len (a_cons (e_name 0) a_nil)))))))) a_nil))))) b_nil)
abbrev s_Square_init : Stmt := inClass (topS 30) 0
theorem sc_Square_init : FnScope ["self", "rows"] ["self", "rows"] (defScope s_Square_init) := ⟨rfl, rfl, rfl, by decide +kernel, rfl, by decide +kernel, by decide +kernel⟩
noncomputable def m_Square_init (c : CA) : M Oc :=
  (seq (mIf (mtNot (mTru (mFn (F_is_square c) (mCons (mName 1) (ret []))))) (seq bad (ret .nx)) (ret .nx)) (seq (mFldPutD 0 c.Square "_rows" (mName 1)) (ret .nx)))
noncomputable def F_Square_init (c : CA) : FD := runM true 2 2 (m_Square_init c)
theorem ok_Square_init {c : CA} (T : TF c K mg w) : FnG P w K mg base CX0 3 T.f_Square_init T.d_Square_init ["self", "rows"] (spM K true (F_Square_init c)) :=
  okM T.F_Square_init sc_Square_init fun cdv B fr s J0 Z hr hg =>
    have nd := sc_Square_init.nd
    have hu64 := hr.units
    have hu1 := Nat.lt_of_le_of_lt (Nat.add_le_add_left (by decide : 1 ≤ 64) _) hu64
    (b_cons (s_if (t_not (t_e (e_fn (ok_is_square T) (hr.mono (by decide)) hg T.m_is_square T.F_is_square.kp T.b_is_square (a_cons (e_name 1) a_nil)))) (b_cons s_never b_nil) b_nil) (b_cons (s_fldD 0 T.cl_Square T.nf_Square__rows (e_name 1)) b_nil))
abbrev s_row_number : Stmt := topS 18
theorem sc_row_number : FnScope ["row"] ["row"] (defScope s_row_number) := ⟨rfl, rfl, rfl, by decide +kernel, rfl, by decide +kernel, by decide +kernel⟩
noncomputable def m_row_number (c : CA) : M Oc :=
  (seq (mRet (mCall fInt8 (mCons (mMs1 (fTranslC (c.ad "TO_FIGURES") [(48, 55), (49, 54), (110, 52), (46, 48)]) (mName 0) (ret (.cl (c.ad "TO_FIGURES")))) (mCons (ret (.int 8)) (ret []))))) (ret .nx))
noncomputable def F_row_number (c : CA) : FD := runM false 1 1 (m_row_number c)
theorem ok_row_number {c : CA} (T : TF c K mg w) : FnG P w K mg base CX0 1 T.f_row_number T.d_row_number ["row"] (spM K false (F_row_number c)) :=
  okM T.F_row_number sc_row_number fun cdv B fr s J0 Z hr hg =>
    have nd := sc_row_number.nd
    have hu64 := hr.units
    have hu1 := Nat.lt_of_le_of_lt (Nat.add_le_add_left (by decide : 1 ≤ 64) _) hu64
    (b_cons (s_ret (e_ty cr_oct cs_oct T.z_int (a_cons (e_ms1 PySem.F.slot_str_translate PySem.F.type_str_translate (mt_translC T.wt_TO_FIGURES).toS ms_translC (e_name 0) (e_gref T.wg_TO_FIGURES)) (a_cons e_int a_nil)))) b_nil)
abbrev s_masks_for : Stmt := topS 20
theorem sc_masks_for : FnScope ["many", "units"] ["many"] (defScope s_masks_for) := ⟨rfl, rfl, rfl, by decide +kernel, rfl, by decide +kernel, by decide +kernel⟩
noncomputable def m_masks_for (c : CA) : M Oc :=
  (seq (mSet 1 (mBin uDiv (mBin uSub (mBin uShl (ret (.int 1)) (mBin uMul (ret (.int 3)) (mName 0))) (ret (.int 1))) (ret (.int 7)))) (seq (mRet (frz (mDisp (mPairs (ret (.str "0")) (mBin uMul (ret (.int 7)) (mName 1)) (mPairs (ret (.str "1")) (mBin uMul (ret (.int 6)) (mName 1)) (mPairs (ret (.str "n")) (mBin uMul (ret (.int 4)) (mName 1)) (mPairs (ret (.str ".")) (ret (.int 0)) (ret [])))))))) (ret .nx)))
noncomputable def F_masks_for (c : CA) : FD := runM false 2 1 (m_masks_for c)
theorem ok_masks_for {c : CA} (T : TF c K mg w) : FnG P w K mg base CX0 1 T.f_masks_for T.d_masks_for ["many"] (spM K false (F_masks_for c)) :=
  okM T.F_masks_for sc_masks_for fun cdv B fr s J0 Z hr hg =>
    have nd := sc_masks_for.nd
    have hu64 := hr.units
    have hu1 := Nat.lt_of_le_of_lt (Nat.add_le_add_left (by decide : 1 ≤ 64) _) hu64
    (b_cons (s_set 1 nd (e_div (e_sub (e_shl e_int (e_mul e_int (e_name 0))) e_int) e_int)) (b_cons (s_ret (EO.f (eo_disp (pp_cons e_str (e_mul e_int (e_name 1)) (pp_cons e_str (e_mul e_int (e_name 1)) (pp_cons e_str (e_mul e_int (e_name 1)) (pp_cons e_str e_int pp_nil))))))) b_nil))
abbrev s_written_row : Stmt := topS 19
theorem sc_written_row : FnScope ["number", "many"] ["number", "many"] (defScope s_written_row) := ⟨rfl, rfl, rfl, by decide +kernel, rfl, by decide +kernel, by decide +kernel⟩
noncomputable def m_written_row (c : CA) : M Oc :=
  (seq (mRet (mMs1 (fTranslC (c.ad "TO_SIGNS") [(55, 48), (54, 49), (52, 110), (48, 46)]) (mMs1 fZfill (mBin fFmtB (mName 0) (ret (.str "o"))) (mName 1)) (ret (.cl (c.ad "TO_SIGNS"))))) (ret .nx))
noncomputable def F_written_row (c : CA) : FD := runM false 2 2 (m_written_row c)
theorem ok_written_row {c : CA} (T : TF c K mg w) : FnG P w K mg base CX0 1 T.f_written_row T.d_written_row ["number", "many"] (spM K false (F_written_row c)) :=
  okM T.F_written_row sc_written_row fun cdv B fr s J0 Z hr hg =>
    have nd := sc_written_row.nd
    have hu64 := hr.units
    have hu1 := Nat.lt_of_le_of_lt (Nat.add_le_add_left (by decide : 1 ≤ 64) _) hu64
    (b_cons (s_ret (e_ms1 PySem.F.slot_str_translate PySem.F.type_str_translate (mt_translC T.wt_TO_SIGNS).toS ms_translC (e_ms1 PySem.F.slot_str_zfill PySem.F.type_str_zfill mt_zfill.toS ms_zfill (e_joined1 (e_fmtB (e_name 0) (e_joined1 e_str))) (e_name 1)) (e_gref T.wg_TO_SIGNS))) b_nil)
abbrev s_least_behind : Stmt := topS 21
theorem sc_least_behind : FnScope ["row", "numbers", "masks", "least", "sign", "number"] ["row", "numbers", "masks"] (defScope s_least_behind) := ⟨rfl, rfl, rfl, by decide +kernel, rfl, by decide +kernel, by decide +kernel⟩
noncomputable def m_least_behind (c : CA) : M Oc :=
  (seq (mSet 3 (ret (.int 0))) (seq (mFor (stTup 2 (stCons (stName 4) (stCons (stName 5) stNil))) (mWk fZipS (mCons (mName 0) (mCons (mName 1) (ret [])))) (seq (mSet 3 (mBin uOr (mName 3) (mBin uAnd (mName 5) (mBin uIx (mName 2) (mName 4))))) (ret .nx))) (seq (mRet (mName 3)) (ret .nx))))
noncomputable def F_least_behind (c : CA) : FD := runM false 6 3 (m_least_behind c)
theorem ok_least_behind {c : CA} (T : TF c K mg w) : FnG P w K mg base CX0 1 T.f_least_behind T.d_least_behind ["row", "numbers", "masks"] (spM K false (F_least_behind c)) :=
  okM T.F_least_behind sc_least_behind fun cdv B fr s J0 Z hr hg =>
    have nd := sc_least_behind.nd
    have hu64 := hr.units
    have hu1 := Nat.lt_of_le_of_lt (Nat.add_le_add_left (by decide : 1 ≤ 64) _) hu64
    (b_cons (s_set 3 nd e_int) (b_cons (s_for rfl .never (ei_zipS T.z_zip (a_cons (e_name 0) (a_cons (e_name 1) a_nil))) (g_tup rfl (gs_cons (g_name 4 nd) (gs_cons (g_name 5 nd) gs_nil))) (b_cons (s_set 3 nd (e_bor (e_name 3) (e_band (e_name 5) (e_sbs hu1 (e_name 2) (e_name 4))))) b_nil)) (b_cons (s_ret (e_name 3)) b_nil)))
abbrev s_product_of : Stmt := topS 22
theorem sc_product_of : FnScope ["one", "other", "numbers", "masks", "row"] ["one", "other"] (defScope s_product_of) := ⟨rfl, rfl, rfl, by decide +kernel, rfl, by decide +kernel, by decide +kernel⟩
noncomputable def m_product_of (c : CA) : M Oc :=
  (seq (mSet 2 (frz (mLc [4] (mIter (mName 1)) (stName 4) (ret true) (mFn (F_row_number c) (mCons (mName 4) (ret [])))))) (seq (mSet 3 (mFn (F_masks_for c) (mCons (mCall fLen (mCons (mName 1) (ret []))) (ret [])))) (seq (mRet (mCall fTuple (mCons (frz (mLc [4] (mIter (mName 0)) (stName 4) (ret true) (mFn (F_written_row c) (mCons (mFn (F_least_behind c) (mCons (mName 4) (mCons (mName 2) (mCons (mName 3) (ret []))))) (mCons (mCall fLen (mCons (mName 1) (ret []))) (ret [])))))) (ret [])))) (ret .nx))))
noncomputable def F_product_of (c : CA) : FD := runM false 5 2 (m_product_of c)
theorem ok_product_of {c : CA} (T : TF c K mg w) : FnG P w K mg base CX0 2 T.f_product_of T.d_product_of ["one", "other"] (spM K false (F_product_of c)) :=
  okM T.F_product_of sc_product_of fun cdv B fr s J0 Z hr hg =>
    have nd := sc_product_of.nd
    have hu64 := hr.units
    have hu1 := Nat.lt_of_le_of_lt (Nat.add_le_add_left (by decide : 1 ≤ 64) _) hu64
    (b_cons (s_set 2 nd (EO.f (eo_lc (own := [("row", 4)]) rfl nd (ei_any (e_name 1)) (blkOk_by rfl) (fun _ _ _ _ _ => (g_name 4 nd)) (fun _ _ _ _ _ => ts_nil) (fun _ _ _ _ _ => (e_fn (ok_row_number T) (hr.mono (by decide)) hg T.m_row_number T.F_row_number.kp T.b_row_number (a_cons (e_name 4) a_nil)))))) (b_cons (s_set 3 nd (e_fn (ok_masks_for T) (hr.mono (by decide)) hg T.m_masks_for T.F_masks_for.kp T.b_masks_for (a_cons (e_blt call_len cs_len T.z_len (a_cons (e_name 1) a_nil)) a_nil))) (b_cons (s_ret (e_ty call_tuple_of cs_tuple T.z_tuple (a_cons (EO.f (eo_lc (own := [("row", 4)]) rfl nd (ei_any (e_name 0)) (blkOk_by rfl) (fun _ _ _ _ _ => (g_name 4 nd)) (fun _ _ _ _ _ => ts_nil) (fun _ _ _ _ _ => (e_fn (ok_written_row T) (hr.mono (by decide)) hg T.m_written_row T.F_written_row.kp T.b_written_row (a_cons (e_fn (ok_least_behind T) (hr.mono (by decide)) hg T.m_least_behind T.F_least_behind.kp T.b_least_behind (a_cons (e_name 4) (a_cons (e_name 2) (a_cons (e_name 3) a_nil)))) (a_cons (e_blt call_len cs_len T.z_len (a_cons (e_name 1) a_nil)) a_nil)))))) a_nil))) b_nil)))
abbrev s_Square_mul : Stmt := inClass (topS 30) 6
theorem sc_Square_mul : FnScope ["self", "other"] ["self", "other"] (defScope s_Square_mul) := ⟨rfl, rfl, rfl, by decide +kernel, rfl, by decide +kernel, by decide +kernel⟩
noncomputable def m_Square_mul (c : CA) : M Oc :=
  (seq (mIf (mtNot (mTru (mIsZ c.Square (osZ_Square c) (mName 1)))) (seq (mRet bad) (ret .nx)) (ret .nx)) (seq (mExpr (mFn (F_check_size c) (mCons (mCall fLen (mCons (mFld c.Square "_rows" (mName 1)) (ret []))) (mCons (mCall fLen (mCons (mFld c.Square "_rows" (mName 0)) (ret []))) (ret []))))) (seq (mRet (frz (mMake c.Square (F_Square_init c) (mCons (mFn (F_product_of c) (mCons (mFld c.Square "_rows" (mName 0)) (mCons (mFld c.Square "_rows" (mName 1)) (ret [])))) (ret []))))) (ret .nx))))
noncomputable def F_Square_mul (c : CA) : FD := runM false 2 2 (m_Square_mul c)
theorem ok_Square_mul {c : CA} (T : TF c K mg w) : FnG P w K mg base CX0 5 T.f_Square_mul T.d_Square_mul ["self", "other"] (spM K false (F_Square_mul c)) :=
  okM T.F_Square_mul sc_Square_mul fun cdv B fr s J0 Z hr hg =>
    have nd := sc_Square_mul.nd
    have hu64 := hr.units
    have hu1 := Nat.lt_of_le_of_lt (Nat.add_le_add_left (by decide : 1 ≤ 64) _) hu64
    (b_cons (s_if (t_not (t_e (e_isZ T.iz_Square T.z_isinstance T.g_Square (e_name 1)))) (b_cons (s_ret e_bad) b_nil) b_nil) (b_cons (s_expr (e_fn (ok_check_size T) (hr.mono (by decide)) hg T.m_check_size T.F_check_size.kp T.b_check_size (a_cons (e_blt call_len cs_len T.z_len (a_cons (e_fld T.cl_Square T.nf_Square__rows (e_name 1)) a_nil)) (a_cons (e_blt call_len cs_len T.z_len (a_cons (e_fld T.cl_Square T.nf_Square__rows (e_name 0)) a_nil)) a_nil)))) (b_cons (s_ret (EO.f (eo_make T.mk_Square (ok_Square_init T) (hr.mono (by decide)) hg T.b_Square_init T.g_Square (a_cons (e_fn (ok_product_of T) (hr.mono (by decide)) hg T.m_product_of T.F_product_of.kp T.b_product_of (a_cons (e_fld T.cl_Square T.nf_Square__rows (e_name 0)) (a_cons (e_fld T.cl_Square T.nf_Square__rows (e_name 1)) a_nil))) a_nil)))) b_nil)))
abbrev s_Square_eq : Stmt := inClass (topS 30) 10
theorem sc_Square_eq : FnScope ["self", "other"] ["self", "other"] (defScope s_Square_eq) := ⟨rfl, rfl, rfl, by decide +kernel, rfl, by decide +kernel, by decide +kernel⟩
noncomputable def m_Square_eq (c : CA) : M Oc :=
  (seq (mIf (mtNot (mTru (mIsZ c.Square (osZ_Square c) (mName 1)))) (seq (mRet (ret (.bl false))) (ret .nx)) (ret .nx)) (seq (mRet (mBin (fEq false) (mFld c.Square "_rows" (mName 0)) (mFld c.Square "_rows" (mName 1)))) (ret .nx)))
noncomputable def F_Square_eq (c : CA) : FD := runM false 2 2 (m_Square_eq c)
theorem ok_Square_eq {c : CA} (T : TF c K mg w) : FnG P w K mg base CX0 1 T.f_Square_eq T.d_Square_eq ["self", "other"] (spM K false (F_Square_eq c)) :=
  okM T.F_Square_eq sc_Square_eq fun cdv B fr s J0 Z hr hg =>
    have nd := sc_Square_eq.nd
    have hu64 := hr.units
    have hu1 := Nat.lt_of_le_of_lt (Nat.add_le_add_left (by decide : 1 ≤ 64) _) hu64
    (b_cons (s_if (t_not (t_e (e_isZ T.iz_Square T.z_isinstance T.g_Square (e_name 1)))) (b_cons (s_ret e_bool) b_nil) b_nil) (b_cons (s_ret (e_eq hu64 (e_fld T.cl_Square T.nf_Square__rows (e_name 0)) (e_fld T.cl_Square T.nf_Square__rows (e_name 1)))) b_nil))
abbrev s_Square_rows : Stmt := inClass (topS 30) 2
theorem sc_Square_rows : FnScope ["self"] ["self"] (defScope s_Square_rows) := ⟨rfl, rfl, rfl, by decide +kernel, rfl, by decide +kernel, by decide +kernel⟩
noncomputable def m_Square_rows (c : CA) : M Oc :=
  (seq (mRet (mFld c.Square "_rows" (mName 0))) (ret .nx))
noncomputable def F_Square_rows (c : CA) : FD := runM false 1 1 (m_Square_rows c)
theorem ok_Square_rows {c : CA} (T : TF c K mg w) : FnG P w K mg base CX0 1 T.f_Square_rows T.d_Square_rows ["self"] (spM K false (F_Square_rows c)) :=
  okM T.F_Square_rows sc_Square_rows fun cdv B fr s J0 Z hr hg =>
    have nd := sc_Square_rows.nd
    have hu64 := hr.units
    have hu1 := Nat.lt_of_le_of_lt (Nat.add_le_add_left (by decide : 1 ≤ 64) _) hu64
    (b_cons (s_ret (e_fld T.cl_Square T.nf_Square__rows (e_name 0))) b_nil)
abbrev s__law_lesser : Stmt := topS 37
theorem sc__law_lesser : FnScope ["_law_one", "_law_other"] ["_law_one", "_law_other"] (defScope s__law_lesser) := ⟨rfl, rfl, rfl, by decide +kernel, rfl, by decide +kernel, by decide +kernel⟩
noncomputable def m__law_lesser (c : CA) : M Oc :=
  (seq (mRet (mIf (mT2 iGt (mMs1 fIndex (ret (.str ".n10")) (mName 0)) (mMs1 fIndex (ret (.str ".n10")) (mName 1))) (mName 0) (mName 1))) (ret .nx))
noncomputable def F__law_lesser (c : CA) : FD := runM false 2 2 (m__law_lesser c)
theorem ok__law_lesser {c : CA} (T : TF c K mg w) : FnG P w K mg base CX0 1 T.f__law_lesser T.d__law_lesser ["_law_one", "_law_other"] (spM K false (F__law_lesser c)) :=
  okM T.F__law_lesser sc__law_lesser fun cdv B fr s J0 Z hr hg =>
    have nd := sc__law_lesser.nd
    have hu64 := hr.units
    have hu1 := Nat.lt_of_le_of_lt (Nat.add_le_add_left (by decide : 1 ≤ 64) _) hu64
    (b_cons (s_ret (e_if (t_gt (e_ms1 PySem.F.slot_str_index PySem.F.type_str_index (mt_indexX rfl takes_none) ms_index e_str (e_name 0)) (e_ms1 PySem.F.slot_str_index PySem.F.type_str_index (mt_indexX rfl takes_none) ms_index e_str (e_name 1))) (e_name 0) (e_name 1))) b_nil)
abbrev s__law_greater : Stmt := topS 38
theorem sc__law_greater : FnScope ["_law_one", "_law_other"] ["_law_one", "_law_other"] (defScope s__law_greater) := ⟨rfl, rfl, rfl, by decide +kernel, rfl, by decide +kernel, by decide +kernel⟩
noncomputable def m__law_greater (c : CA) : M Oc :=
  (seq (mRet (mIf (mT2 (fEq false) (mFn (F__law_lesser c) (mCons (mName 0) (mCons (mName 1) (ret [])))) (mName 0)) (mName 1) (mName 0))) (ret .nx))
noncomputable def F__law_greater (c : CA) : FD := runM false 2 2 (m__law_greater c)
theorem ok__law_greater {c : CA} (T : TF c K mg w) : FnG P w K mg base CX0 2 T.f__law_greater T.d__law_greater ["_law_one", "_law_other"] (spM K false (F__law_greater c)) :=
  okM T.F__law_greater sc__law_greater fun cdv B fr s J0 Z hr hg =>
    have nd := sc__law_greater.nd
    have hu64 := hr.units
    have hu1 := Nat.lt_of_le_of_lt (Nat.add_le_add_left (by decide : 1 ≤ 64) _) hu64
    (b_cons (s_ret (e_if (t_eq hu64 (e_fn (ok__law_lesser T) (hr.mono (by decide)) hg T.m__law_lesser T.F__law_lesser.kp T.b__law_lesser (a_cons (e_name 0) (a_cons (e_name 1) a_nil))) (e_name 0)) (e_name 1) (e_name 0))) b_nil)
abbrev s__law_product : Stmt := topS 39
theorem sc__law_product : FnScope ["_law_one", "_law_other", "_law_found", "_law_row", "_law_signs", "_law_at", "_law_sign", "_law_middle"] ["_law_one", "_law_other"] (defScope s__law_product) := ⟨rfl, rfl, rfl, by decide +kernel, rfl, by decide +kernel, by decide +kernel⟩
noncomputable def m__law_product (c : CA) : M Oc :=
  (seq (mSetO 2 (mLst (ret []))) (seq (mFor (stName 3) (mIter (mName 0)) (seq (mSetO 4 (mLst (ret []))) (seq (mFor (stName 5) (mWk fRng1 (mCons (mCall fLen (mCons (mName 0) (ret []))) (ret []))) (seq (mSet 6 (ret (.str "."))) (seq (mFor (stName 7) (mWk fRng1 (mCons (mCall fLen (mCons (mName 0) (ret []))) (ret []))) (seq (mSet 6 (mFn (F__law_lesser c) (mCons (mName 6) (mCons (mFn (F__law_greater c) (mCons (mBin uIx (mName 3) (mName 7)) (mCons (mBin uIx (mBin uIx (mName 1) (mName 7)) (mName 5)) (ret [])))) (ret []))))) (ret .nx))) (seq (mExpr (mLm1 4 fApp (mName 6))) (ret .nx))))) (seq (mExpr (mLm1 2 fApp (mMs1 fJoin (ret (.str "")) (mName 4)))) (ret .nx))))) (seq (mRet (mCall fTuple (mCons (mName 2) (ret [])))) (ret .nx))))
noncomputable def F__law_product (c : CA) : FD := runM false 8 2 (m__law_product c)
theorem ok__law_product {c : CA} (T : TF c K mg w) : FnG P w K mg base CX0 3 T.f__law_product T.d__law_product ["_law_one", "_law_other"] (spM K false (F__law_product c)) :=
  okM T.F__law_product sc__law_product fun cdv B fr s J0 Z hr hg =>
    have nd := sc__law_product.nd
    have hu64 := hr.units
    have hu1 := Nat.lt_of_le_of_lt (Nat.add_le_add_left (by decide : 1 ≤ 64) _) hu64
    (b_cons (s_setO 2 nd (eo_lst a_nil)) (b_cons (s_for rfl .never (ei_any (e_name 0)) (g_name 3 nd) (b_cons (s_setO 4 nd (eo_lst a_nil)) (b_cons (s_for rfl .never (ei_rng1 T.z_range (a_cons (e_blt call_len cs_len T.z_len (a_cons (e_name 0) a_nil)) a_nil)) (g_name 5 nd) (b_cons (s_set 6 nd e_str) (b_cons (s_for rfl .never (ei_rng1 T.z_range (a_cons (e_blt call_len cs_len T.z_len (a_cons (e_name 0) a_nil)) a_nil)) (g_name 7 nd) (b_cons (s_set 6 nd (e_fn (ok__law_lesser T) (hr.mono (by decide)) hg T.m__law_lesser T.F__law_lesser.kp T.b__law_lesser (a_cons (e_name 6) (a_cons (e_fn (ok__law_greater T) (hr.mono (by decide)) hg T.m__law_greater T.F__law_greater.kp T.b__law_greater (a_cons (e_sbs hu1 (e_name 3) (e_name 7)) (a_cons (e_sbs hu1 (e_sbs hu1 (e_name 1) (e_name 7)) (e_name 5)) a_nil))) a_nil)))) b_nil)) (b_cons (s_expr (e_lm1 4 PySem.F.slot_list_append PySem.F.type_list_append mt_append ls_app (e_name 6))) b_nil)))) (b_cons (s_expr (e_lm1 2 PySem.F.slot_list_append PySem.F.type_list_append mt_append ls_app (e_join e_str (e_name 4)))) b_nil)))) (b_cons (s_ret (e_ty call_tuple_of cs_tuple T.z_tuple (a_cons (e_name 2) a_nil))) b_nil)))
abbrev s_is_stable_by_numbers : Stmt := topS 26
theorem sc_is_stable_by_numbers : FnScope ["rows", "numbers", "masks", "row", "number"] ["rows", "numbers", "masks"] (defScope s_is_stable_by_numbers) := ⟨rfl, rfl, rfl, by decide +kernel, rfl, by decide +kernel, by decide +kernel⟩
noncomputable def m_is_stable_by_numbers (c : CA) : M Oc :=
  (seq (mFor (stTup 2 (stCons (stName 3) (stCons (stName 4) stNil))) (mWk fZip (mCons (mName 0) (mCons (mName 1) (ret [])))) (seq (mIf (mT2 (fEq true) (mFn (F_least_behind c) (mCons (mName 3) (mCons (mName 1) (mCons (mName 2) (ret []))))) (mName 4)) (seq (mRet (ret (.bl false))) (ret .nx)) (ret .nx)) (ret .nx))) (seq (mRet (ret (.bl true))) (ret .nx)))
noncomputable def F_is_stable_by_numbers (c : CA) : FD := runM false 5 3 (m_is_stable_by_numbers c)
theorem ok_is_stable_by_numbers {c : CA} (T : TF c K mg w) : FnG P w K mg base CX0 2 T.f_is_stable_by_numbers T.d_is_stable_by_numbers ["rows", "numbers", "masks"] (spM K false (F_is_stable_by_numbers c)) :=
  okM T.F_is_stable_by_numbers sc_is_stable_by_numbers fun cdv B fr s J0 Z hr hg =>
    have nd := sc_is_stable_by_numbers.nd
    have hu64 := hr.units
    have hu1 := Nat.lt_of_le_of_lt (Nat.add_le_add_left (by decide : 1 ≤ 64) _) hu64
    (b_cons (s_for rfl .never (ei_zip T.z_zip (a_cons (e_name 0) (a_cons (e_name 1) a_nil))) (g_tup rfl (gs_cons (g_name 3 nd) (gs_cons (g_name 4 nd) gs_nil))) (b_cons (s_if (t_ne hu64 (e_fn (ok_least_behind T) (hr.mono (by decide)) hg T.m_least_behind T.F_least_behind.kp T.b_least_behind (a_cons (e_name 3) (a_cons (e_name 1) (a_cons (e_name 2) a_nil)))) (e_name 4)) (b_cons (s_ret e_bool) b_nil) b_nil) b_nil)) (b_cons (s_ret e_bool) b_nil))
abbrev s_is_stable_square : Stmt := topS 25
theorem sc_is_stable_square : FnScope ["rows", "row"] ["rows"] (defScope s_is_stable_square) := ⟨rfl, rfl, rfl, by decide +kernel, rfl, by decide +kernel, by decide +kernel⟩
noncomputable def m_is_stable_square (c : CA) : M Oc :=
  (seq (mRet (mFn (F_is_stable_by_numbers c) (mCons (mName 0) (mCons (frz (mLc [1] (mIter (mName 0)) (stName 1) (ret true) (mFn (F_row_number c) (mCons (mName 1) (ret []))))) (mCons (mFn (F_masks_for c) (mCons (mCall fLen (mCons (mName 0) (ret []))) (ret []))) (ret [])))))) (ret .nx))
noncomputable def F_is_stable_square (c : CA) : FD := runM false 2 1 (m_is_stable_square c)
theorem ok_is_stable_square {c : CA} (T : TF c K mg w) : FnG P w K mg base CX0 3 T.f_is_stable_square T.d_is_stable_square ["rows"] (spM K false (F_is_stable_square c)) :=
  okM T.F_is_stable_square sc_is_stable_square fun cdv B fr s J0 Z hr hg =>
    have nd := sc_is_stable_square.nd
    have hu64 := hr.units
    have hu1 := Nat.lt_of_le_of_lt (Nat.add_le_add_left (by decide : 1 ≤ 64) _) hu64
    (b_cons (s_ret (e_fn (ok_is_stable_by_numbers T) (hr.mono (by decide)) hg T.m_is_stable_by_numbers T.F_is_stable_by_numbers.kp T.b_is_stable_by_numbers (a_cons (e_name 0) (a_cons (EO.f (eo_lc (own := [("row", 1)]) rfl nd (ei_any (e_name 0)) (blkOk_by rfl) (fun _ _ _ _ _ => (g_name 1 nd)) (fun _ _ _ _ _ => ts_nil) (fun _ _ _ _ _ => (e_fn (ok_row_number T) (hr.mono (by decide)) hg T.m_row_number T.F_row_number.kp T.b_row_number (a_cons (e_name 1) a_nil))))) (a_cons (e_fn (ok_masks_for T) (hr.mono (by decide)) hg T.m_masks_for T.F_masks_for.kp T.b_masks_for (a_cons (e_blt call_len cs_len T.z_len (a_cons (e_name 0) a_nil)) a_nil)) a_nil))))) b_nil)
abbrev s_Square_is_stable : Stmt := inClass (topS 30) 3
theorem sc_Square_is_stable : FnScope ["self"] ["self"] (defScope s_Square_is_stable) := ⟨rfl, rfl, rfl, by decide +kernel, rfl, by decide +kernel, by decide +kernel⟩
noncomputable def m_Square_is_stable (c : CA) : M Oc :=
  (seq (mRet (mFn (F_is_stable_square c) (mCons (mFld c.Square "_rows" (mName 0)) (ret [])))) (ret .nx))
noncomputable def F_Square_is_stable (c : CA) : FD := runM false 1 1 (m_Square_is_stable c)
theorem ok_Square_is_stable {c : CA} (T : TF c K mg w) : FnG P w K mg base CX0 4 T.f_Square_is_stable T.d_Square_is_stable ["self"] (spM K false (F_Square_is_stable c)) :=
  okM T.F_Square_is_stable sc_Square_is_stable fun cdv B fr s J0 Z hr hg =>
    have nd := sc_Square_is_stable.nd
    have hu64 := hr.units
    have hu1 := Nat.lt_of_le_of_lt (Nat.add_le_add_left (by decide : 1 ≤ 64) _) hu64
    (b_cons (s_ret (e_fn (ok_is_stable_square T) (hr.mono (by decide)) hg T.m_is_stable_square T.F_is_stable_square.kp T.b_is_stable_square (a_cons (e_fld T.cl_Square T.nf_Square__rows (e_name 0)) a_nil))) b_nil)
abbrev s_repeat_by_numbers : Stmt := topS 24
theorem sc_repeat_by_numbers : FnScope ["rows", "numbers", "many", "masks", "rounds", "ahead", "number", "row"] ["rows", "numbers"] (defScope s_repeat_by_numbers) := ⟨rfl, rfl, rfl, by decide +kernel, rfl, by decide +kernel, by decide +kernel⟩
noncomputable def m_repeat_by_numbers (c : CA) : M Oc :=
  (seq (mSet 2 (mCall fLen (mCons (mName 0) (ret [])))) (seq (mSet 3 (mFn (F_masks_for c) (mCons (mName 2) (ret [])))) (seq (mSet 4 (mFn (F_row_number c) (mCons (mMs1 fJoin (ret (.str "")) (frz (mLc [6, 7] (mWk fEnum (mCons (mName 0) (ret []))) (stTup 2 (stCons (stName 6) (stCons (stName 7) stNil))) (ret true) (mBin (fReplIx "1" "n") (mName 7) (mName 6))))) (ret [])))) (seq (mSet 5 (frz (mLc [6] (mIter (mName 1)) (stName 6) (ret true) (mFn (F_written_row c) (mCons (mBin uAnd (mName 6) (mName 4)) (mCons (mName 2) (ret []))))))) (seq (mRet (mCall fTuple (mCons (frz (mLc [7] (mIter (mName 5)) (stName 7) (ret true) (mFn (F_written_row c) (mCons (mFn (F_least_behind c) (mCons (mName 7) (mCons (mName 1) (mCons (mName 3) (ret []))))) (mCons (mName 2) (ret [])))))) (ret [])))) (ret .nx))))))
noncomputable def F_repeat_by_numbers (c : CA) : FD := runM false 8 2 (m_repeat_by_numbers c)
theorem ok_repeat_by_numbers {c : CA} (T : TF c K mg w) : FnG P w K mg base CX0 2 T.f_repeat_by_numbers T.d_repeat_by_numbers ["rows", "numbers"] (spM K false (F_repeat_by_numbers c)) :=
  okM T.F_repeat_by_numbers sc_repeat_by_numbers fun cdv B fr s J0 Z hr hg =>
    have nd := sc_repeat_by_numbers.nd
    have hu64 := hr.units
    have hu1 := Nat.lt_of_le_of_lt (Nat.add_le_add_left (by decide : 1 ≤ 64) _) hu64
    (b_cons (s_set 2 nd (e_blt call_len cs_len T.z_len (a_cons (e_name 0) a_nil))) (b_cons (s_set 3 nd (e_fn (ok_masks_for T) (hr.mono (by decide)) hg T.m_masks_for T.F_masks_for.kp T.b_masks_for (a_cons (e_name 2) a_nil))) (b_cons (s_set 4 nd (e_fn (ok_row_number T) (hr.mono (by decide)) hg T.m_row_number T.F_row_number.kp T.b_row_number (a_cons (e_join e_str (EO.f (eo_lc (own := [("number", 6), ("row", 7)]) rfl nd (ei_enum T.z_enumerate (a_cons (e_name 0) a_nil)) (blkOk_by rfl) (fun _ _ _ _ _ => (g_tup rfl (gs_cons (g_name 6 nd) (gs_cons (g_name 7 nd) gs_nil)))) (fun _ _ _ _ _ => ts_nil) (fun _ _ _ _ _ => (e_replIx (e_name 7) (e_name 6)))))) a_nil))) (b_cons (s_setLc (own := [("number", 6)]) 5 rfl nd (ei_any (e_name 1)) (blkOk_by rfl) (fun _ _ _ _ _ => (g_name 6 nd)) (fun _ _ _ _ _ => ts_nil) (fun _ _ _ _ _ => (e_fn (ok_written_row T) (hr.mono (by decide)) hg T.m_written_row T.F_written_row.kp T.b_written_row (a_cons (e_band (e_name 6) (e_name 4)) (a_cons (e_name 2) a_nil))))) (b_cons (s_ret (e_ty call_tuple_of cs_tuple T.z_tuple (a_cons (EO.f (eo_lc (own := [("row", 7)]) rfl nd (ei_any (e_name 5)) (blkOk_by rfl) (fun _ _ _ _ _ => (g_name 7 nd)) (fun _ _ _ _ _ => ts_nil) (fun _ _ _ _ _ => (e_fn (ok_written_row T) (hr.mono (by decide)) hg T.m_written_row T.F_written_row.kp T.b_written_row (a_cons (e_fn (ok_least_behind T) (hr.mono (by decide)) hg T.m_least_behind T.F_least_behind.kp T.b_least_behind (a_cons (e_name 7) (a_cons (e_name 1) (a_cons (e_name 3) a_nil)))) (a_cons (e_name 2) a_nil)))))) a_nil))) b_nil)))))
abbrev s_repeat_of : Stmt := topS 23
theorem sc_repeat_of : FnScope ["rows", "row"] ["rows"] (defScope s_repeat_of) := ⟨rfl, rfl, rfl, by decide +kernel, rfl, by decide +kernel, by decide +kernel⟩
noncomputable def m_repeat_of (c : CA) : M Oc :=
  (seq (mRet (mFn (F_repeat_by_numbers c) (mCons (mName 0) (mCons (frz (mLc [1] (mIter (mName 0)) (stName 1) (ret true) (mFn (F_row_number c) (mCons (mName 1) (ret []))))) (ret []))))) (ret .nx))
noncomputable def F_repeat_of (c : CA) : FD := runM false 2 1 (m_repeat_of c)
theorem ok_repeat_of {c : CA} (T : TF c K mg w) : FnG P w K mg base CX0 3 T.f_repeat_of T.d_repeat_of ["rows"] (spM K false (F_repeat_of c)) :=
  okM T.F_repeat_of sc_repeat_of fun cdv B fr s J0 Z hr hg =>
    have nd := sc_repeat_of.nd
    have hu64 := hr.units
    have hu1 := Nat.lt_of_le_of_lt (Nat.add_le_add_left (by decide : 1 ≤ 64) _) hu64
    (b_cons (s_ret (e_fn (ok_repeat_by_numbers T) (hr.mono (by decide)) hg T.m_repeat_by_numbers T.F_repeat_by_numbers.kp T.b_repeat_by_numbers (a_cons (e_name 0) (a_cons (EO.f (eo_lc (own := [("row", 1)]) rfl nd (ei_any (e_name 0)) (blkOk_by rfl) (fun _ _ _ _ _ => (g_name 1 nd)) (fun _ _ _ _ _ => ts_nil) (fun _ _ _ _ _ => (e_fn (ok_row_number T) (hr.mono (by decide)) hg T.m_row_number T.F_row_number.kp T.b_row_number (a_cons (e_name 1) a_nil))))) a_nil)))) b_nil)
abbrev s_Square_repeated : Stmt := inClass (topS 30) 4
theorem sc_Square_repeated : FnScope ["self"] ["self"] (defScope s_Square_repeated) := ⟨rfl, rfl, rfl, by decide +kernel, rfl, by decide +kernel, by decide +kernel⟩
noncomputable def m_Square_repeated (c : CA) : M Oc :=
  (seq (mIf (mtNot (mTru (mProp c.Square (F_Square_is_stable c) (mName 0)))) (seq bad (ret .nx)) (ret .nx)) (seq (mRet (frz (mMake c.Square (F_Square_init c) (mCons (mFn (F_repeat_of c) (mCons (mFld c.Square "_rows" (mName 0)) (ret []))) (ret []))))) (ret .nx)))
noncomputable def F_Square_repeated (c : CA) : FD := runM false 1 1 (m_Square_repeated c)
theorem ok_Square_repeated {c : CA} (T : TF c K mg w) : FnG P w K mg base CX0 6 T.f_Square_repeated T.d_Square_repeated ["self"] (spM K false (F_Square_repeated c)) :=
  okM T.F_Square_repeated sc_Square_repeated fun cdv B fr s J0 Z hr hg =>
    have nd := sc_Square_repeated.nd
    have hu64 := hr.units
    have hu1 := Nat.lt_of_le_of_lt (Nat.add_le_add_left (by decide : 1 ≤ 64) _) hu64
    (b_cons (s_if (t_not (t_e (e_prop T.cl_Square T.pr_Square_is_stable (ok_Square_is_stable T) (hr.mono (by decide)) hg T.b_Square_is_stable (e_name 0)))) (b_cons s_never b_nil) b_nil) (b_cons (s_ret (EO.f (eo_make T.mk_Square (ok_Square_init T) (hr.mono (by decide)) hg T.b_Square_init T.g_Square (a_cons (e_fn (ok_repeat_of T) (hr.mono (by decide)) hg T.m_repeat_of T.F_repeat_of.kp T.b_repeat_of (a_cons (e_fld T.cl_Square T.nf_Square__rows (e_name 0)) a_nil)) a_nil)))) b_nil))
abbrev s__law_repeat : Stmt := topS 40
theorem sc__law_repeat : FnScope ["_law_square", "_law_grown", "_law_at", "_law_sign", "_law_row"] ["_law_square"] (defScope s__law_repeat) := ⟨rfl, rfl, rfl, by decide +kernel, rfl, by decide +kernel, by decide +kernel⟩
noncomputable def m__law_repeat (c : CA) : M Oc :=
  (seq (mSetO 1 (mLst (ret []))) (seq (mFor (stName 2) (mWk fRng1 (mCons (mCall fLen (mCons (mName 0) (ret []))) (ret []))) (seq (mSet 3 (mIf (mT2 (fEq false) (mBin uIx (mBin uIx (mName 0) (mName 2)) (mName 2)) (ret (.str "1"))) (ret (.str "n")) (mBin uIx (mBin uIx (mName 0) (mName 2)) (mName 2)))) (seq (mSetO 4 (mBinO fTimesL (frz (mLst (mCons (ret (.str ".")) (ret [])))) (mCall fLen (mCons (mName 0) (ret []))))) (seq (mLPut 4 (mName 2) (mName 3)) (seq (mExpr (mLm1 1 fApp (mMs1 fJoin (ret (.str "")) (mName 4)))) (ret .nx)))))) (seq (mRet (mFn (F__law_product c) (mCons (mFn (F__law_product c) (mCons (mName 0) (mCons (mCall fTuple (mCons (mName 1) (ret []))) (ret [])))) (mCons (mName 0) (ret []))))) (ret .nx))))
noncomputable def F__law_repeat (c : CA) : FD := runM false 5 1 (m__law_repeat c)
theorem ok__law_repeat {c : CA} (T : TF c K mg w) : FnG P w K mg base CX0 4 T.f__law_repeat T.d__law_repeat ["_law_square"] (spM K false (F__law_repeat c)) :=
  okM T.F__law_repeat sc__law_repeat fun cdv B fr s J0 Z hr hg =>
    have nd := sc__law_repeat.nd
    have hu64 := hr.units
    have hu1 := Nat.lt_of_le_of_lt (Nat.add_le_add_left (by decide : 1 ≤ 64) _) hu64
    (b_cons (s_setO 1 nd (eo_lst a_nil)) (b_cons (s_for rfl .never (ei_rng1 T.z_range (a_cons (e_blt call_len cs_len T.z_len (a_cons (e_name 0) a_nil)) a_nil)) (g_name 2 nd) (b_cons (s_set 3 nd (e_if (t_eq hu64 (e_sbs hu1 (e_sbs hu1 (e_name 0) (e_name 2)) (e_name 2)) e_str) e_str (e_sbs hu1 (e_sbs hu1 (e_name 0) (e_name 2)) (e_name 2)))) (b_cons (s_setO 4 nd (eo_timesL (EO.f (eo_lst (a_cons e_str a_nil))) (e_blt call_len cs_len T.z_len (a_cons (e_name 0) a_nil)))) (b_cons (s_lput 4 (e_name 2) (e_name 3)) (b_cons (s_expr (e_lm1 1 PySem.F.slot_list_append PySem.F.type_list_append mt_append ls_app (e_join e_str (e_name 4)))) b_nil))))) (b_cons (s_ret (e_fn (ok__law_product T) (hr.mono (by decide)) hg T.m__law_product T.F__law_product.kp T.b__law_product (a_cons (e_fn (ok__law_product T) (hr.mono (by decide)) hg T.m__law_product T.F__law_product.kp T.b__law_product (a_cons (e_name 0) (a_cons (e_ty call_tuple_of cs_tuple T.z_tuple (a_cons (e_name 1) a_nil)) a_nil))) (a_cons (e_name 0) a_nil)))) b_nil)))
abbrev s__ranks : Stmt := topS 31
theorem sc__ranks : FnScope ["signs", "sign"] ["signs"] (defScope s__ranks) := ⟨rfl, rfl, rfl, by decide +kernel, rfl, by decide +kernel, by decide +kernel⟩
noncomputable def m__ranks (c : CA) : M Oc :=
  (seq (mIf (mT2 (fEq false) (mCall fLen (mCons (mName 0) (ret []))) (ret (.int 0))) (seq bad (ret .nx)) (ret .nx)) (seq (mIf (mtNot (mTru (mCall fAll (mCons (frz (mLc [1] (mIter (mName 0)) (stName 1) (ret true) (mAnd (mFn (F__is_of_signs c) (mCons (mName 1) (ret []))) (mBin (fEq false) (mCall fLen (mCons (mName 1) (ret []))) (ret (.int 1)))))) (ret []))))) (seq bad (ret .nx)) (ret .nx)) (seq (mRet (frz (mLc [1] (mIter (mName 0)) (stName 1) (ret true) (mMs1 fIndex (ret (.str "01n.")) (mName 1))))) (ret .nx))))
noncomputable def F__ranks (c : CA) : FD := runM false 2 1 (m__ranks c)
theorem ok__ranks {c : CA} (T : TF c K mg w) : FnG P w K mg base CX0 2 T.f__ranks T.d__ranks ["signs"] (spM K false (F__ranks c)) :=
  okM T.F__ranks sc__ranks fun cdv B fr s J0 Z hr hg =>
    have nd := sc__ranks.nd
    have hu64 := hr.units
    have hu1 := Nat.lt_of_le_of_lt (Nat.add_le_add_left (by decide : 1 ≤ 64) _) hu64
    (b_cons (s_if (t_eq hu64 (e_blt call_len cs_len T.z_len (a_cons (e_name 0) a_nil)) e_int) (b_cons s_never b_nil) b_nil) (b_cons (s_if (t_not (t_e (e_blt (cr_all rfl) cs_all T.z_all (a_cons (EO.f (eo_lc (own := [("sign", 1)]) rfl nd (ei_any (e_name 0)) (blkOk_by rfl) (fun _ _ _ _ _ => (g_name 1 nd)) (fun _ _ _ _ _ => ts_nil) (fun _ _ _ _ _ => (e_and (e_fn (ok__is_of_signs T) (hr.mono (by decide)) hg T.m__is_of_signs T.F__is_of_signs.kp T.b__is_of_signs (a_cons (e_name 1) a_nil)) (e_one (e_eq hu64 (e_blt call_len cs_len T.z_len (a_cons (e_name 1) a_nil)) e_int)))))) a_nil)))) (b_cons s_never b_nil) b_nil) (b_cons (s_ret (EO.f (eo_lc (own := [("sign", 1)]) rfl nd (ei_any (e_name 0)) (blkOk_by rfl) (fun _ _ _ _ _ => (g_name 1 nd)) (fun _ _ _ _ _ => ts_nil) (fun _ _ _ _ _ => (e_ms1 PySem.F.slot_str_index PySem.F.type_str_index (mt_indexX rfl takes_none) ms_index (e_globS T.c_SIGNS) (e_name 1)))))) b_nil)))
abbrev s_least_sign : Stmt := topS 28
theorem sc_least_sign : FnScope ["signs"] ["signs"] (defScope s_least_sign) := ⟨rfl, rfl, rfl, by decide +kernel, rfl, by decide +kernel, by decide +kernel⟩
noncomputable def m_least_sign (c : CA) : M Oc :=
  (seq (mRet (mBin uIx (ret (.str "01n.")) (mCall fMinL (mCons (mFn (F__ranks c) (mCons (mName 0) (ret []))) (ret []))))) (ret .nx))
noncomputable def F_least_sign (c : CA) : FD := runM false 1 1 (m_least_sign c)
theorem starB_least_sign {c : CA} (T : TF c K mg w) : StarB T.d_least_sign [] "signs" := by
  obtain ⟨_, _, _, _, _, _, _, _, _, e, _, _⟩ := T.F_least_sign.ex
  rw [e]
  exact starB0 rfl (fun _ _ => rfl)
theorem ok_least_sign {c : CA} (T : TF c K mg w) : FnS P w K mg base 3 T.f_least_sign 0 (spM K false (F_least_sign c)) :=
  okS (ps := []) (pv := "signs") T.F_least_sign sc_least_sign (starB_least_sign T) fun cdv B fr s J0 Z hr hg =>
    have nd := sc_least_sign.nd
    have hu64 := hr.units
    have hu1 := Nat.lt_of_le_of_lt (Nat.add_le_add_left (by decide : 1 ≤ 64) _) hu64
    (b_cons (s_ret (e_sbs hu1 (e_globS T.c_SIGNS) (e_blt (cr_min rfl) cs_minL T.z_min (a_cons (e_fn (ok__ranks T) (hr.mono (by decide)) hg T.m__ranks T.F__ranks.kp T.b__ranks (a_cons (e_name 0) a_nil)) a_nil)))) b_nil)
abbrev s__law_no_less : Stmt := topS 43
theorem sc__law_no_less : FnScope ["_law_one", "_law_other", "_law_left", "_law_right_here"] ["_law_one", "_law_other"] (defScope s__law_no_less) := ⟨rfl, rfl, rfl, by decide +kernel, rfl, by decide +kernel, by decide +kernel⟩
noncomputable def m__law_no_less (c : CA) : M Oc :=
  (seq (mFor (stTup 2 (stCons (stName 2) (stCons (stName 3) stNil))) (mWk fZipS (mCons (mMs1 fJoin (ret (.str "")) (mProp c.Square (F_Square_rows c) (mName 0))) (mCons (mMs1 fJoin (ret (.str "")) (mProp c.Square (F_Square_rows c) (mName 1))) (ret [])))) (seq (mIf (mtOr (mT2 (fEq true) (mFnS 0 (F_least_sign c) (mCons (mName 2) (mCons (mName 3) (ret [])))) (mName 3)) (mtOr (mT2 (fEq true) (mBin (uIn false) (mName 2) (ret (.str "0."))) (mBin (uIn false) (mName 3) (ret (.str "0.")))) (mtAnd (mT2 (uIn false) (mName 2) (ret (.str "0."))) (mT2 (fEq true) (mName 2) (mName 3))))) (seq (mRet (ret (.bl false))) (ret .nx)) (ret .nx)) (ret .nx))) (seq (mRet (ret (.bl true))) (ret .nx)))
noncomputable def F__law_no_less (c : CA) : FD := runM false 4 2 (m__law_no_less c)
theorem ok__law_no_less {c : CA} (T : TF c K mg w) : FnG P w K mg base CX0 4 T.f__law_no_less T.d__law_no_less ["_law_one", "_law_other"] (spM K false (F__law_no_less c)) :=
  okM T.F__law_no_less sc__law_no_less fun cdv B fr s J0 Z hr hg =>
    have nd := sc__law_no_less.nd
    have hu64 := hr.units
    have hu1 := Nat.lt_of_le_of_lt (Nat.add_le_add_left (by decide : 1 ≤ 64) _) hu64
    (b_cons (s_for rfl .never (ei_zipS T.z_zip (a_cons (e_join e_str (e_prop T.cl_Square T.pr_Square_rows (ok_Square_rows T) (hr.mono (by decide)) hg T.b_Square_rows (e_name 0))) (a_cons (e_join e_str (e_prop T.cl_Square T.pr_Square_rows (ok_Square_rows T) (hr.mono (by decide)) hg T.b_Square_rows (e_name 1))) a_nil))) (g_tup rfl (gs_cons (g_name 2 nd) (gs_cons (g_name 3 nd) gs_nil))) (b_cons (s_if (t_w (w_or (t_ne hu64 (e_fnS (ok_least_sign T) (hr.mono (by decide)) hg T.m_least_sign T.F_least_sign.kp (a_cons (e_name 2) (a_cons (e_name 3) a_nil))) (e_name 3)) (w_or (t_ne hu64 (e_in hu1 (e_name 2) e_str) (e_in hu1 (e_name 3) e_str)) (w_or1 (t_w (w_and (t_in hu1 (e_name 2) e_str) (w_and1 (t_ne hu64 (e_name 2) (e_name 3))))))))) (b_cons (s_ret e_bool) b_nil) b_nil) b_nil)) (b_cons (s_ret e_bool) b_nil))
abbrev s__law_repeats_right : Stmt := topS 44
theorem sc__law_repeats_right : FnScope ["_law_rows", "_law_square", "_law_again"] ["_law_rows"] (defScope s__law_repeats_right) := ⟨rfl, rfl, rfl, by decide +kernel, rfl, by decide +kernel, by decide +kernel⟩
noncomputable def m__law_repeats_right (c : CA) : M Oc :=
  (seq (mSet 1 (frz (mMake c.Square (F_Square_init c) (mCons (mName 0) (ret []))))) (seq (mSet 2 (mMeth c.Square "repeated" (F_Square_repeated c) (mName 1) (ret []))) (seq (mIf (mtOr (mT2 (fEq true) (mProp c.Square (F_Square_rows c) (mName 2)) (mFn (F__law_repeat c) (mCons (mName 0) (ret [])))) (mtOr (mtNot (mTru (mProp c.Square (F_Square_is_stable c) (mName 2)))) (mtEqZ true c.Square (osE_Square c) (F_Square_eq c) (mMeth c.Square "repeated" (F_Square_repeated c) (mName 2) (ret [])) (mName 2)))) (seq (mRet (ret (.bl false))) (ret .nx)) (ret .nx)) (seq (mIf (mtOr (mtEqZ true c.Square (osE_Square c) (F_Square_eq c) (mBinI c.Square (F_Square_mul c) (mName 1) (mName 2)) (mName 2)) (mtOr (mtEqZ true c.Square (osE_Square c) (F_Square_eq c) (mBinI c.Square (F_Square_mul c) (mName 2) (mName 1)) (mName 2)) (mtEqZ true c.Square (osE_Square c) (F_Square_eq c) (mBinI c.Square (F_Square_mul c) (mName 2) (mName 2)) (mName 2)))) (seq (mRet (ret (.bl false))) (ret .nx)) (ret .nx)) (seq (mRet (mAnd (mFn (F__law_no_less c) (mCons (mName 2) (mCons (mName 1) (ret [])))) (mAnd (mBin (fEq false) (mProp c.Square (F_Square_rows c) (mName 1)) (mName 0)) (mEqZ false c.Square (osE_Square c) (F_Square_eq c) (mBinI c.Square (F_Square_mul c) (mName 1) (mName 1)) (mName 1))))) (ret .nx))))))
noncomputable def F__law_repeats_right (c : CA) : FD := runM false 3 1 (m__law_repeats_right c)
theorem ok__law_repeats_right {c : CA} (T : TF c K mg w) : FnG P w K mg base CX0 7 T.f__law_repeats_right T.d__law_repeats_right ["_law_rows"] (spM K false (F__law_repeats_right c)) :=
  okM T.F__law_repeats_right sc__law_repeats_right fun cdv B fr s J0 Z hr hg =>
    have nd := sc__law_repeats_right.nd
    have hu64 := hr.units
    have hu1 := Nat.lt_of_le_of_lt (Nat.add_le_add_left (by decide : 1 ≤ 64) _) hu64
    (b_cons (s_set 1 nd (EO.f (eo_make T.mk_Square (ok_Square_init T) (hr.mono (by decide)) hg T.b_Square_init T.g_Square (a_cons (e_name 0) a_nil)))) (b_cons (s_set 2 nd (e_meth0 T.cl_Square T.me_Square_repeated (ok_Square_repeated T) (hr.mono (by decide)) hg T.b_Square_repeated (e_name 1))) (b_cons (s_if (t_w (w_or (t_ne hu64 (e_prop T.cl_Square T.pr_Square_rows (ok_Square_rows T) (hr.mono (by decide)) hg T.b_Square_rows (e_name 2)) (e_fn (ok__law_repeat T) (hr.mono (by decide)) hg T.m__law_repeat T.F__law_repeat.kp T.b__law_repeat (a_cons (e_name 0) a_nil))) (w_or (t_not (t_e (e_prop T.cl_Square T.pr_Square_is_stable (ok_Square_is_stable T) (hr.mono (by decide)) hg T.b_Square_is_stable (e_name 2)))) (w_or1 (t_neZ T.eq_Square T.nz_Square (ok_Square_eq T) (hr.mono (by decide)) hg T.b_Square_eq (e_meth0 T.cl_Square T.me_Square_repeated (ok_Square_repeated T) (hr.mono (by decide)) hg T.b_Square_repeated (e_name 2)) (e_name 2)))))) (b_cons (s_ret e_bool) b_nil) b_nil) (b_cons (s_if (t_w (w_or (t_neZ T.eq_Square T.nz_Square (ok_Square_eq T) (hr.mono (by decide)) hg T.b_Square_eq (e_binI T.bi_Square_mul (ok_Square_mul T) (hr.mono (by decide)) hg T.b_Square_mul (e_name 1) (e_name 2)) (e_name 2)) (w_or (t_neZ T.eq_Square T.nz_Square (ok_Square_eq T) (hr.mono (by decide)) hg T.b_Square_eq (e_binI T.bi_Square_mul (ok_Square_mul T) (hr.mono (by decide)) hg T.b_Square_mul (e_name 2) (e_name 1)) (e_name 2)) (w_or1 (t_neZ T.eq_Square T.nz_Square (ok_Square_eq T) (hr.mono (by decide)) hg T.b_Square_eq (e_binI T.bi_Square_mul (ok_Square_mul T) (hr.mono (by decide)) hg T.b_Square_mul (e_name 2) (e_name 2)) (e_name 2)))))) (b_cons (s_ret e_bool) b_nil) b_nil) (b_cons (s_ret (e_and (e_fn (ok__law_no_less T) (hr.mono (by decide)) hg T.m__law_no_less T.F__law_no_less.kp T.b__law_no_less (a_cons (e_name 2) (a_cons (e_name 1) a_nil))) (e_and (e_eq hu64 (e_prop T.cl_Square T.pr_Square_rows (ok_Square_rows T) (hr.mono (by decide)) hg T.b_Square_rows (e_name 1)) (e_name 0)) (e_one (e_eqZ T.eq_Square T.nz_Square (ok_Square_eq T) (hr.mono (by decide)) hg T.b_Square_eq (e_binI T.bi_Square_mul (ok_Square_mul T) (hr.mono (by decide)) hg T.b_Square_mul (e_name 1) (e_name 1)) (e_name 1)))))) b_nil)))))
abbrev s__law_stable_of : Stmt := topS 42
theorem sc__law_stable_of : FnScope ["_law_square", "_law_found", "_law_turn"] ["_law_square"] (defScope s__law_stable_of) := ⟨rfl, rfl, rfl, by decide +kernel, rfl, by decide +kernel, by decide +kernel⟩
noncomputable def m__law_stable_of (c : CA) : M Oc :=
  (seq (mSet 1 (mName 0)) (seq (mFor (stName 2) (mWk fRng1 (mCons (ret (.int 600)) (ret []))) (seq (mIf (mT2 (fEq false) (mFn (F__law_product c) (mCons (mName 1) (mCons (mName 1) (ret [])))) (mName 1)) (seq (ret .bk) (ret .nx)) (ret .nx)) (seq (mSet 1 (mFn (F__law_product c) (mCons (mName 1) (mCons (mName 0) (ret []))))) (ret .nx)))) (seq (mRet (mName 1)) (ret .nx))))
noncomputable def F__law_stable_of (c : CA) : FD := runM false 3 1 (m__law_stable_of c)
theorem ok__law_stable_of {c : CA} (T : TF c K mg w) : FnG P w K mg base CX0 4 T.f__law_stable_of T.d__law_stable_of ["_law_square"] (spM K false (F__law_stable_of c)) :=
  okM T.F__law_stable_of sc__law_stable_of fun cdv B fr s J0 Z hr hg =>
    have nd := sc__law_stable_of.nd
    have hu64 := hr.units
    have hu1 := Nat.lt_of_le_of_lt (Nat.add_le_add_left (by decide : 1 ≤ 64) _) hu64
    (b_cons (s_set 1 nd (e_name 0)) (b_cons (s_for rfl .never (ei_rng1 T.z_range (a_cons e_int a_nil)) (g_name 2 nd) (b_cons (s_if (t_eq hu64 (e_fn (ok__law_product T) (hr.mono (by decide)) hg T.m__law_product T.F__law_product.kp T.b__law_product (a_cons (e_name 1) (a_cons (e_name 1) a_nil))) (e_name 1)) (b_cons s_break b_nil) b_nil) (b_cons (s_set 1 nd (e_fn (ok__law_product T) (hr.mono (by decide)) hg T.m__law_product T.F__law_product.kp T.b__law_product (a_cons (e_name 1) (a_cons (e_name 0) a_nil)))) b_nil))) (b_cons (s_ret (e_name 1)) b_nil)))
abbrev s__law_right : Stmt := topS 45
theorem sc__law_right : FnScope ["_law_dice_here", "_law_size", "_law_one", "_law_other", "_law_third", "_law_left", "_law_right_here", "_law_turn"] ["_law_dice_here"] (defScope s__law_right) := ⟨rfl, rfl, rfl, by decide +kernel, rfl, by decide +kernel, by decide +kernel⟩
noncomputable def m__law_right (c : CA) : M Oc :=
  (seq (mSet 1 (mBin uPlus (ret (.int 1)) (isDi 0 (mFn (F__law_roll c) (mCons (ret (.int 4)) (ret [])))))) (seq (mAsg (stLst 3 (stCons (stName 2) (stCons (stName 3) (stCons (stName 4) stNil)))) (frz (mLc [7] (mWk fRng1 (mCons (ret (.int 3)) (ret []))) (stName 7) (ret true) (isDi 0 (mFn (F__law_drawn_square c) (mCons (mName 1) (ret []))))))) (seq (mPar 5 6 (mXd (mBinI c.Square (F_Square_mul c) (frz (mMake c.Square (F_Square_init c) (mCons (mName 2) (ret [])))) (frz (mMake c.Square (F_Square_init c) (mCons (mName 3) (ret [])))))) (mXd (mBinI c.Square (F_Square_mul c) (frz (mMake c.Square (F_Square_init c) (mCons (mName 3) (ret [])))) (frz (mMake c.Square (F_Square_init c) (mCons (mName 4) (ret []))))))) (seq (mIf (mtOr (mT2 (fEq true) (mProp c.Square (F_Square_rows c) (mName 5)) (mFn (F__law_product c) (mCons (mName 2) (mCons (mName 3) (ret []))))) (mtEqZ true c.Square (osE_Square c) (F_Square_eq c) (mBinI c.Square (F_Square_mul c) (mName 5) (frz (mMake c.Square (F_Square_init c) (mCons (mName 4) (ret []))))) (mBinI c.Square (F_Square_mul c) (frz (mMake c.Square (F_Square_init c) (mCons (mName 2) (ret [])))) (mName 6)))) (seq (mRet (ret (.bl false))) (ret .nx)) (ret .nx)) (seq (mRet (mAnd (mFn (F__law_repeats_right c) (mCons (mFn (F__law_stable_of c) (mCons (mName 2) (ret []))) (ret []))) (mFn (F__law_repeats_right c) (mCons (mFn (F__law_stable_of c) (mCons (mFn (F__law_product c) (mCons (mName 3) (mCons (mName 4) (ret [])))) (ret []))) (ret []))))) (ret .nx))))))
noncomputable def F__law_right (c : CA) : FD := runM true 8 1 (m__law_right c)
theorem ok__law_right {c : CA} (T : TF c K mg w) : FnG P w K mg base CX0 8 T.f__law_right T.d__law_right ["_law_dice_here"] (spM K true (F__law_right c)) :=
  okM T.F__law_right sc__law_right fun cdv B fr s J0 Z hr hg =>
    have nd := sc__law_right.nd
    have hu64 := hr.units
    have hu1 := Nat.lt_of_le_of_lt (Nat.add_le_add_left (by decide : 1 ≤ 64) _) hu64
    (b_cons (s_set 1 nd (e_plus e_int (e_fd 0 (ok__law_roll T) (hr.mono (by decide)) hg T.m__law_roll T.F__law_roll.kp T.b__law_roll (a_cons e_int a_nil)))) (b_cons (s_asg (EO.f (eo_lc (own := [("_law_turn", 7)]) rfl nd (ei_rng1 T.z_range (a_cons e_int a_nil)) (blkOk_by rfl) (fun _ _ _ _ _ => (g_name 7 nd)) (fun _ _ _ _ _ => ts_nil) (fun _ _ _ _ _ => (e_fd 0 (ok__law_drawn_square T) (hr.mono (by decide)) hg T.m__law_drawn_square T.F__law_drawn_square.kp T.b__law_drawn_square (a_cons (e_name 1) a_nil))))) (g_lst rfl (gs_cons (g_name 2 nd) (gs_cons (g_name 3 nd) (gs_cons (g_name 4 nd) gs_nil))))) (b_cons (s_par 5 6 rfl nd (x_d (e_binI T.bi_Square_mul (ok_Square_mul T) (hr.mono (by decide)) hg T.b_Square_mul (EO.f (eo_make T.mk_Square (ok_Square_init T) (hr.mono (by decide)) hg T.b_Square_init T.g_Square (a_cons (e_name 2) a_nil))) (EO.f (eo_make T.mk_Square (ok_Square_init T) (hr.mono (by decide)) hg T.b_Square_init T.g_Square (a_cons (e_name 3) a_nil))))) (x_d (e_binI T.bi_Square_mul (ok_Square_mul T) (hr.mono (by decide)) hg T.b_Square_mul (EO.f (eo_make T.mk_Square (ok_Square_init T) (hr.mono (by decide)) hg T.b_Square_init T.g_Square (a_cons (e_name 3) a_nil))) (EO.f (eo_make T.mk_Square (ok_Square_init T) (hr.mono (by decide)) hg T.b_Square_init T.g_Square (a_cons (e_name 4) a_nil)))))) (b_cons (s_if (t_w (w_or (t_ne hu64 (e_prop T.cl_Square T.pr_Square_rows (ok_Square_rows T) (hr.mono (by decide)) hg T.b_Square_rows (e_name 5)) (e_fn (ok__law_product T) (hr.mono (by decide)) hg T.m__law_product T.F__law_product.kp T.b__law_product (a_cons (e_name 2) (a_cons (e_name 3) a_nil)))) (w_or1 (t_neZ T.eq_Square T.nz_Square (ok_Square_eq T) (hr.mono (by decide)) hg T.b_Square_eq (e_binI T.bi_Square_mul (ok_Square_mul T) (hr.mono (by decide)) hg T.b_Square_mul (e_name 5) (EO.f (eo_make T.mk_Square (ok_Square_init T) (hr.mono (by decide)) hg T.b_Square_init T.g_Square (a_cons (e_name 4) a_nil)))) (e_binI T.bi_Square_mul (ok_Square_mul T) (hr.mono (by decide)) hg T.b_Square_mul (EO.f (eo_make T.mk_Square (ok_Square_init T) (hr.mono (by decide)) hg T.b_Square_init T.g_Square (a_cons (e_name 2) a_nil))) (e_name 6)))))) (b_cons (s_ret e_bool) b_nil) b_nil) (b_cons (s_ret (e_and (e_fn (ok__law_repeats_right T) (hr.mono (by decide)) hg T.m__law_repeats_right T.F__law_repeats_right.kp T.b__law_repeats_right (a_cons (e_fn (ok__law_stable_of T) (hr.mono (by decide)) hg T.m__law_stable_of T.F__law_stable_of.kp T.b__law_stable_of (a_cons (e_name 2) a_nil)) a_nil)) (e_one (e_fn (ok__law_repeats_right T) (hr.mono (by decide)) hg T.m__law_repeats_right T.F__law_repeats_right.kp T.b__law_repeats_right (a_cons (e_fn (ok__law_stable_of T) (hr.mono (by decide)) hg T.m__law_stable_of T.F__law_stable_of.kp T.b__law_stable_of (a_cons (e_fn (ok__law_product T) (hr.mono (by decide)) hg T.m__law_product T.F__law_product.kp T.b__law_product (a_cons (e_name 3) (a_cons (e_name 4) a_nil))) a_nil)) a_nil))))) b_nil)))))
abbrev s_Square_str : Stmt := inClass (topS 30) 11
theorem sc_Square_str : FnScope ["self"] ["self"] (defScope s_Square_str) := ⟨rfl, rfl, rfl, by decide +kernel, rfl, by decide +kernel, by decide +kernel⟩
noncomputable def m_Square_str (c : CA) : M Oc :=
  (seq (mRet (mMs1 fJoin (ret (.str "/")) (mFld c.Square "_rows" (mName 0)))) (ret .nx))
noncomputable def F_Square_str (c : CA) : FD := runM false 1 1 (m_Square_str c)
theorem ok_Square_str {c : CA} (T : TF c K mg w) : FnG P w K mg base CX0 1 T.f_Square_str T.d_Square_str ["self"] (spM K false (F_Square_str c)) :=
  okM T.F_Square_str sc_Square_str fun cdv B fr s J0 Z hr hg =>
    have nd := sc_Square_str.nd
    have hu64 := hr.units
    have hu1 := Nat.lt_of_le_of_lt (Nat.add_le_add_left (by decide : 1 ≤ 64) _) hu64
    (b_cons (s_ret (e_join e_str (e_fld T.cl_Square T.nf_Square__rows (e_name 0)))) b_nil)
abbrev s_law : Stmt := topS 46
theorem sc_law : FnScope ["_law_script", "_law_spot", "_law_told", "_law_dice_here", "_law_turn", "_law_rows"] ["_law_script"] (defScope s_law) := ⟨rfl, rfl, rfl, by decide +kernel, rfl, by decide +kernel, by decide +kernel⟩
noncomputable def m_law (c : CA) : M Oc :=
  (seq (mFor (stName 1) (mWk fRng1 (mCons (mCall fMax2 (mCons (ret (.int 1)) (mCons (mCall fMin2 (mCons (ret (.int 5)) (mCons (mCall fLen (mCons (mName 0) (ret []))) (ret [])))) (ret [])))) (ret []))) (seq (mSetO 3 (mFnO (F__law_dice c) (mCons (mName 0) (mCons (mName 1) (ret []))))) (seq (mFor (stName 4) (mWk fRng1 (mCons (ret (.int 5)) (ret []))) (seq (mIf (mtNot (mTru (mFnQ 3 (F__law_right c) (ret [])))) (seq (mRet (ret (.bl false))) (ret .nx)) (ret .nx)) (ret .nx))) (ret .nx)))) (seq (mSet 2 (frz (mLc [5] (mIter (frz (mLst (mCons (mTup (mCons (ret (.str "1")) (ret []))) (mCons (mTup (mCons (ret (.str "10")) (mCons (ret (.str ".0")) (ret [])))) (mCons (mTup (mCons (ret (.str "1.")) (mCons (ret (.str ".1")) (ret [])))) (mCons (mTup (mCons (ret (.str "0n")) (mCons (ret (.str ".0")) (ret [])))) (mCons (mTup (mCons (ret (.str "01")) (mCons (ret (.str ".1")) (ret [])))) (ret []))))))))) (stName 5) (ret true) (mStrI c.Square (F_Square_str c) (mMeth c.Square "repeated" (F_Square_repeated c) (frz (mMake c.Square (F_Square_init c) (mCons (mName 5) (ret [])))) (ret [])))))) (seq (mRet (mBin (fEq false) (mName 2) (frz (mLst (mCons (ret (.str "n")) (mCons (ret (.str "n0/.0")) (mCons (ret (.str "n./.n")) (mCons (ret (.str "0n/.0")) (mCons (ret (.str "01/.n")) (ret [])))))))))) (ret .nx))))
noncomputable def F_law (c : CA) : FD := runM false 6 1 (m_law c)
theorem ok_law {c : CA} (T : TF c K mg w) : FnG P w K mg base CX0 9 T.f_law T.d_law ["_law_script"] (spM K false (F_law c)) :=
  okM T.F_law sc_law fun cdv B fr s J0 Z hr hg =>
    have nd := sc_law.nd
    have hu64 := hr.units
    have hu1 := Nat.lt_of_le_of_lt (Nat.add_le_add_left (by decide : 1 ≤ 64) _) hu64
    (b_cons (s_for rfl .never (ei_rng1 T.z_range (a_cons (e_blt (call_max2 rfl) cs_max2 T.z_max (a_cons e_int (a_cons (e_blt (call_min2 rfl) cs_min2 T.z_min (a_cons e_int (a_cons (e_blt call_len cs_len T.z_len (a_cons (e_name 0) a_nil)) a_nil))) a_nil))) a_nil)) (g_name 1 nd) (b_cons (s_setO 3 nd (eo_fn (ok__law_dice T) (hr.mono (by decide)) hg T.m__law_dice T.F__law_dice.kp T.b__law_dice (a_cons (e_name 0) (a_cons (e_name 1) a_nil)))) (b_cons (s_for rfl .never (ei_rng1 T.z_range (a_cons e_int a_nil)) (g_name 4 nd) (b_cons (s_if (t_not (t_e (e_fq 3 (ok__law_right T) (hr.mono (by decide)) hg T.m__law_right T.F__law_right.kp T.b__law_right a_nil))) (b_cons (s_ret e_bool) b_nil) b_nil) b_nil)) b_nil))) (b_cons (s_setLc (own := [("_law_rows", 5)]) 2 rfl nd (ei_any (EO.f (eo_lst (a_cons (e_tup (a_cons e_str a_nil)) (a_cons (e_tup (a_cons e_str (a_cons e_str a_nil))) (a_cons (e_tup (a_cons e_str (a_cons e_str a_nil))) (a_cons (e_tup (a_cons e_str (a_cons e_str a_nil))) (a_cons (e_tup (a_cons e_str (a_cons e_str a_nil))) a_nil)))))))) (blkOk_by rfl) (fun _ _ _ _ _ => (g_name 5 nd)) (fun _ _ _ _ _ => ts_nil) (fun _ _ _ _ _ => (e_strI T.sp_Square_str (ok_Square_str T) (hr.mono (by decide)) hg T.b_Square_str T.z_str (e_meth0 T.cl_Square T.me_Square_repeated (ok_Square_repeated T) (hr.mono (by decide)) hg T.b_Square_repeated (EO.f (eo_make T.mk_Square (ok_Square_init T) (hr.mono (by decide)) hg T.b_Square_init T.g_Square (a_cons (e_name 5) a_nil))))))) (b_cons (s_ret (e_eq hu64 (e_name 2) (EO.f (eo_lst (a_cons e_str (a_cons e_str (a_cons e_str (a_cons e_str (a_cons e_str a_nil))))))))) b_nil)))
end
end K426
set_option Elab.async false
set_option linter.all false
set_option maxRecDepth 100000
set_option maxHeartbeats 4000000
/-! Mh: the head by one run in the kernel; what the walk wants is read off the heap by names. -/
namespace Mh
open PySem PySem.Spec PyProof.Rows L2 He
/-! checks by names -/
section
variable {K : PySem.W.Frag} {h : Heap} {mg : Str → Option Value}
theorem glo_of (X : K.In h) (G : h.Ns mainGlobals mg) {x : Str} (c : kGlo x K = true) : mg x = some (.ref (ga K x)) := PySem.W.mg_of X G (eqO_ok c)
theorem kcls_ok {x : Str} (c : kCls x K = true) : Cls K (ga K x) := cls_ok (ba c).1
theorem kcls_glo (X : K.In h) (G : h.Ns mainGlobals mg) {x : Str} (c : kCls x K = true) : mg x = some (.ref (ga K x)) := glo_of X G (ba (ba c).2).1
theorem kcls_keep {x : Str} (c : kCls x K = true) : PySem.W.keepIn K (.ref (ga K x)) = true := (ba (ba c).2).2
theorem kspec_ok {x m : Str} (c : kSpec x m K = true) : Mo.SpecM K (ga K x) m (ma K (ga K x) m) := ⟨eqO_ok (ba c).1, (ba c).2⟩
theorem kins_ok {x : Str} (c : kIns x K = true) : C8.InsC K (ga K x) := by
  obtain ⟨c1, c⟩ := ba c
  obtain ⟨c2, c⟩ := ba c
  obtain ⟨c3, c⟩ := ba c
  obtain ⟨c4, c5⟩ := ba c
  exact ⟨cls_ok c1, eqO_ok c2, eqO_ok c3, of_decide_eq_true c4, of_decide_eq_true c5, Mo.kit_self⟩
theorem knotin_ok {x : Str} (c : kNotIn x K = true) : Mo.NotIn K (ga K x) := ⟨fun n m => of_decide_eq_true (List.all_eq_true.mp c n m)⟩
theorem rec_ok {C : Addr} {m : Str} (c : recB K (ma K C m) = true) : ∃ r, PySem.W.recIn K (ma K C m) "property" = some (.ref (pg K C m) :: r) := by
  unfold recB at c
  split at c
  · rename_i g r e
    exact ⟨r, by rw [e]; unfold pg; rw [e]⟩
  · cases c
theorem kprop_ok {x m : Str} (c : kProp x m K = true) : PropOf K (ga K x) m (ma K (ga K x) m) (pg K (ga K x) m) := by
  obtain ⟨c1, c⟩ := ba c
  obtain ⟨c2, c⟩ := ba c
  obtain ⟨c3, c4⟩ := ba c
  exact ⟨eqO_ok c1, eqO_ok c2, of_decide_eq_true c3, rec_ok c4⟩
theorem kint_ok (X : K.In h) (G : h.Ns mainGlobals mg) {x : Str} {i : Int} (c : kInt x i K = true) : mg x = some (.int i (tokOf K x)) := by
  unfold kInt at c
  unfold tokOf
  split at c
  · rename_i j t2 e2
    have ej : j = i := of_decide_eq_true c
    rw [e2, ← ej]
    exact PySem.W.mg_of X G e2
  · cases c
theorem kstr_ok (X : K.In h) (G : h.Ns mainGlobals mg) {x z : Str} (c : kStr x z K = true) : mg x = some (.str z (tokOf K x)) := by
  unfold kStr at c
  unfold tokOf
  split at c
  · rename_i j t2 e2
    have ej : j = z := of_decide_eq_true c
    rw [e2, ← ej]
    exact PySem.W.mg_of X G e2
  · cases c
end
/-! defs -/
theorem df_fun {K : PySem.W.Frag} {d : Df} (e : seeF K (d.pl.ad K) = d.val) (c : d.good K = true) : Fun K d.name d.qual d.st (d.pl.ad K) (fdOf K (d.pl.ad K)) := by
  obtain ⟨c1, c2⟩ := ba c
  unfold seeF at e
  unfold fdOf at c1 ⊢
  split at e
  · rename_i oc od fd osl q
    rw [q] at c1
    have c1 : PySem.W.codeIn K fd.code d.qual = true := c1
    obtain ⟨x1, x2, x3, x4, x5, x6, x7, x8, x9, x10, x11, x12, x13, x14, x15⟩ := fd
    injection e with e
    simp only [Prod.mk.injEq] at e
    obtain ⟨y1, y2, y3, y4, y5, y6, y7, y8, y9⟩ := e
    subst y1 y2 y3 y4 y5 y6 y7 y8 y9
    exact ⟨⟨oc, od, _, _, _, _, _, _, osl, rfl, q, c1⟩, c2⟩
  · cases e
theorem bindsLaw {K : PySem.W.Frag} {x qual p : Str} {st : Stmt} {f : Addr} {fd : FuncData} (F : Fun K x qual st f fd)
    (h : ∀ (kV doc pm : Value) (an : Option Addr) (cdv ct v : Value), bindArgs (PySem.W.fnOf x qual (defArgs st) (defBody st) (defScope st) .none kV doc pm an cdv ct) ⟨[v], []⟩ = pure [(p, v)]) (s : Shared) (v : Value) : BindsTo s fd ⟨[v], []⟩ [(p, v)] := by
  obtain ⟨oc, od, kV, doc, pm, an, cdv, ct, osl, rfl, lk, hcd⟩ := F.ex
  exact .of_eq (h ..)
/-! the hook -/
section
variable {cs : List Ck} {ds : List Df} {K : PySem.W.Frag}
theorem SaysH.ck (c : SaysH cs ds K) (i : Nat) {f : Ck} (h : cs[i]? = some f) : f K = true :=
  List.all_eq_true.mp (ba (show ((cs.all fun c => c K) && ds.all fun d => d.good K) = true from congrArg (fun z : Ah => z.1) c)).1 f (List.mem_of_getElem? h)
theorem SaysH.df (c : SaysH cs ds K) (i : Nat) {d : Df} (h : ds[i]? = some d) : Fun K d.name d.qual d.st (d.pl.ad K) (fdOf K (d.pl.ad K)) := by
  have c2 := (ba (show ((cs.all fun c => c K) && ds.all fun d => d.good K) = true from congrArg (fun z : Ah => z.1) c)).2
  have e : (ds.map fun d => seeF K (d.pl.ad K)) = ds.map Df.val := congrArg (fun z : Ah => z.2) c
  have e2 := congrArg (fun l => l[i]?) e
  simp only [List.getElem?_map, h, Option.map_some, Option.some.injEq] at e2
  exact df_fun e2 (List.all_eq_true.mp c2 d (List.mem_of_getElem? h))
end
/-! the law's end -/
theorem walkH {l : PySem.W.OpenLaw} {n k : Nat} {q : Program} {loose : List Str} {XP : (Str → Option Value) → Heap → Prop} {d : DefRec} {cs : List Ck} {ds : List Df} {YP : World → Heap → Prop} {x : Str}
    (hY : ∀ w h, YP w h → ∃ K : PySem.W.Frag, K.In h ∧ SaysH cs ds K) (hn : l.most = some n) (hn2 : n ≤ sizeLine) (hdf : d.params.defaults = []) (hr : Room k callerA)
    (F : ∀ (w : World) (mg : Str → Option Value) (fa : Addr) (h : Heap) (K : PySem.W.Frag), K.In h → SaysH cs ds K → h.Ns mainGlobals mg → mg d.name = some (.ref fa) →
      ∃ (fd : FuncData) (sp : Sp), (∀ (s : Shared) (u : Value), BindsTo s fd ⟨[u], []⟩ [(x, u)]) ∧
        (∀ (J : Hp) (a : Addr) (ns : List Int), ns.length ≤ n → Only J → SqL K J a (ns.map V.int) → sp [.ref a] J (fun v _ => v = .bl true) fun _ _ _ => False) ∧
        ∀ b0 : Heap, K.In b0 → b0.Ns mainGlobals mg → Lp.FnG l.prog w K mg b0 CX0 k fa fd [x] sp) :
    PySem.W.WalkO q loose XP YP l.row.toRowW d [] (fun f vs => PySem.call f vs) :=
  Att.attach_call hn hdf fun w s0 s1 mg mb fa o pm cd doc a vs ns G Y ho hd hcd hmg hobj hints hlen hgen => by
    obtain ⟨K, KX, c⟩ := hY w _ Y
    obtain ⟨fd, sp, hb, hsp, hF⟩ := F w mg fa _ K KX c G.T.g hmg
    exact Lp.law_callG KX G.T.g G.T.b G.T.builtins G.T.nolimit hgen hobj hints (Nat.le_trans hlen hn2) hr hF hb (fun J hO hS => hsp J a ns hlen hO hS) fun J e s' h => h
end Mh
set_option Elab.async false
set_option linter.all false
set_option maxRecDepth 100000
set_option maxHeartbeats 4000000
namespace Mh
open PySem PySem.Spec PyProof.Rows L2 He
theorem keq_ok {K : PySem.W.Frag} {x : Str} (c : kEq x K = true) : Mo.EqC K (ga K x) (ma K (ga K x) "__eq__") := by
  obtain ⟨c1, c⟩ := ba c
  obtain ⟨c2, c3⟩ := ba c
  exact ⟨kspec_ok c1, eqO_ok c2, of_decide_eq_true c3⟩
theorem kbin_ok {K : PySem.W.Frag} {x m : Str} (op : Operator) (hm : PySem.dunder op.info.2 = m) (c : kBin x m K = true) : Mo.BinC K op (ga K x) (ma K (ga K x) m) := by
  obtain ⟨c1, c2⟩ := ba c
  subst hm
  exact ⟨kspec_ok c1, c2⟩
end Mh
set_option Elab.async false
set_option linter.all false
set_option maxRecDepth 100000
set_option maxHeartbeats 4000000
/-! Mh: what is read off the heap of the text's own errors. -/
namespace Mh
open PySem PySem.Spec PyProof.Rows L2 He
end Mh
set_option Elab.async false
set_option linter.all false
set_option maxRecDepth 100000
set_option maxHeartbeats 4000000
/-! Mh: what is read off the heap of errors that keep a field. -/
namespace Mh
open PySem PySem.Spec PyProof.Rows L2 He
end Mh
set_option Elab.async false
set_option linter.all false
set_option maxRecDepth 100000
set_option maxHeartbeats 4000000
/-! Mh: what is read off the heap of classmethods, subscripts, == and isinstance with anything. -/
namespace Mh
open PySem PySem.Spec PyProof.Rows L2 He
section
variable {K : PySem.W.Frag} {x m : Str} {os : List Str}
theorem kntz_ok (c : kNtZ x os K = true) : Mo.NtZ K (ga K x) (os.map (ga K)) := by
  obtain ⟨c1, c2⟩ := ba c
  refine ⟨fun n m => List.all_eq_true.mp c1 n m, fun o m => ?_⟩
  obtain ⟨y, my, rfl⟩ := List.mem_map.mp m
  exact List.all_eq_true.mp c2 y my
theorem kisz_ok (c : kIsZ x os K = true) : Mo.IsZ K (ga K x) (os.map (ga K)) := by
  obtain ⟨c1, c⟩ := ba c
  obtain ⟨c2, c3⟩ := ba c
  refine ⟨kins_ok c1, knotin_ok c2, fun o m => ?_⟩
  obtain ⟨y, my, rfl⟩ := List.mem_map.mp m
  obtain ⟨d1, d2⟩ := ba (List.all_eq_true.mp c3 y my)
  exact ⟨kins_ok d1, of_decide_eq_true d2⟩
end
end Mh
set_option Elab.async false
set_option linter.all false
set_option maxRecDepth 100000
set_option maxHeartbeats 4000000
/-! Mh: an own `**` out of its check. -/
namespace Mh
open PySem PySem.Spec PyProof.Rows L2 He
end Mh
set_option Elab.async false
set_option linter.all false
set_option maxRecDepth 100000
set_option maxHeartbeats 4000000
/-! Mo: own errors as values: C(e), C with an own __init__. -/
namespace Mo
open PySem PySem.Spec PySem.Calls L2 PyProof.Rows
open Lp (FnG okG callG)
end Mo
set_option Elab.async false
set_option linter.all false
set_option maxRecDepth 100000
set_option maxHeartbeats 4000000
/-! Mo: own errors as values: C(e), C without an own __init__; C('m') besides. -/
namespace Mo
open PySem PySem.Spec PySem.Calls L2 PyProof.Rows
end Mo
set_option Elab.async false
set_option linter.all false
set_option maxRecDepth 100000
set_option maxHeartbeats 4000000
/-! Mo: isinstance(e, C), e an own error as a value. -/
namespace Mo
open PySem PySem.Spec PySem.Calls L2 PyProof.Rows
end Mo
set_option Elab.async false
set_option linter.all false
set_option maxRecDepth 100000
set_option maxHeartbeats 4000000
/-! Mo: e.f, e an own error as a value. -/
namespace Mo
open PySem PySem.Spec PySem.Calls L2 PyProof.Rows
end Mo
set_option Elab.async false
set_option linter.all false
set_option maxRecDepth 100000
set_option maxHeartbeats 4000000
/-! Mo: repr of data with dicts in them. -/
namespace Mo
open PySem PySem.Spec PySem.Calls L2 PyProof.Rows
end Mo
set_option Elab.async false
set_option linter.all false
set_option maxRecDepth 100000
set_option maxHeartbeats 4000000
/-! Mo: repr(e) of data with dicts in them: the rule. -/
namespace Mo
open PySem PySem.Spec PySem.Calls L2 PyProof.Rows
end Mo
set_option Elab.async false
set_option linter.all false
set_option maxRecDepth 100000
set_option maxHeartbeats 4000000
/-! Mo: a def that is called while an error is handled, with that error as its argument. -/
namespace Mo
open PySem PySem.Spec PySem.Calls L2 PyProof.Rows
open Lp (FnG okG callG)
/-! ### an expression that reads the handled error, kept in slot i -/
/-! ### a body: assignments to one name, and return -/
end Mo
set_option Elab.async false
set_option linter.all false
set_option maxRecDepth 100000
set_option maxHeartbeats 4000000
/-! Mo: such a def by its body, and its call. -/
namespace Mo
open PySem PySem.Spec PySem.Calls L2 PyProof.Rows
open Lp (FnG okG callG)
end Mo
set_option Elab.async false
set_option linter.all false
set_option maxRecDepth 100000
set_option maxHeartbeats 4000000
/-! Mo: try with several clauses that all name their error alike. -/
namespace Mo
open PySem PySem.Spec PySem.Calls L2 PyProof.Rows
open Lp (FnG okG callG)
end Mo
set_option Elab.async false
set_option linter.all false
set_option maxRecDepth 100000
set_option maxHeartbeats 4000000
/-! Mo: try with several clauses that name their error: what it does. -/
namespace Mo
open PySem PySem.Spec PySem.Calls L2 PyProof.Rows
open Lp (FnG okG callG)
/-! ### suites that return an expression -/
end Mo
set_option Elab.async false
set_option linter.all false
set_option maxRecDepth 100000
set_option maxHeartbeats 4000000
/-! Mo: raise C('text') where errors may keep a field; what is told of all error classes. -/
namespace Mo
open PySem PySem.Spec PySem.Calls L2 PyProof.Rows
end Mo
set_option Elab.async false
set_option linter.all false
set_option maxRecDepth 100000
set_option maxHeartbeats 4000000
/-! Mh: what is read off the heap of errors as values. -/
namespace Mh
open PySem PySem.Spec PyProof.Rows L2 He
end Mh
set_option Elab.async false
set_option linter.all false
set_option maxRecDepth 100000
set_option maxHeartbeats 0
namespace K426
open PySem PySem.Spec L2 Mo Mh He PyProof.Rows
open Lp (FnG)
noncomputable def facts {K : PySem.W.Frag} {h : Heap} {mg : Str → Option Value} (X : K.In h) (G : h.Ns mainGlobals mg) (c : SaysH hCs hDs K) (w : World) : TF ⟨ga K "Square", w, fun n => ga K n⟩ K mg w := {
    ww := rfl
    z_abs := free_ok X G (x := "abs") (c.ck 0 (f := kFree "abs") rfl)
    z_all := free_ok X G (x := "all") (c.ck 1 (f := kFree "all") rfl)
    z_enumerate := free_ok X G (x := "enumerate") (c.ck 2 (f := kFree "enumerate") rfl)
    z_int := free_ok X G (x := "int") (c.ck 3 (f := kFree "int") rfl)
    z_isinstance := free_ok X G (x := "isinstance") (c.ck 4 (f := kFree "isinstance") rfl)
    z_len := free_ok X G (x := "len") (c.ck 5 (f := kFree "len") rfl)
    z_max := free_ok X G (x := "max") (c.ck 6 (f := kFree "max") rfl)
    z_min := free_ok X G (x := "min") (c.ck 7 (f := kFree "min") rfl)
    z_range := free_ok X G (x := "range") (c.ck 8 (f := kFree "range") rfl)
    z_str := free_ok X G (x := "str") (c.ck 9 (f := kFree "str") rfl)
    z_tuple := free_ok X G (x := "tuple") (c.ck 10 (f := kFree "tuple") rfl)
    z_zip := free_ok X G (x := "zip") (c.ck 11 (f := kFree "zip") rfl)
    t_MAX_STATES := tokOf K "MAX_STATES"
    c_MAX_STATES := kint_ok X G (c.ck 12 (f := kInt "MAX_STATES" 24) rfl)
    t_SIGNS := tokOf K "SIGNS"
    c_SIGNS := kstr_ok X G (c.ck 13 (f := kStr "SIGNS" "01n.") rfl)
    cl_Square := kcls_ok (x := "Square") (c.ck 14 (f := kCls "Square") rfl)
    g_Square := kcls_glo X G (x := "Square") (c.ck 14 (f := kCls "Square") rfl)
    k_Square := kcls_keep (x := "Square") (c.ck 14 (f := kCls "Square") rfl)
    iz_Square := kisz_ok (x := "Square") (os := []) (c.ck 15 (f := kIsZ "Square" []) rfl)
    nz_Square := kntz_ok (x := "Square") (os := []) (c.ck 16 (f := kNtZ "Square" []) rfl)
    wg_TO_FIGURES := ktab_glo X G (x := "TO_FIGURES") (tab := [(48, 55), (49, 54), (110, 52), (46, 48)]) (c.ck 17 (f := kTabW "TO_FIGURES" [(48, 55), (49, 54), (110, 52), (46, 48)]) rfl)
    wt_TO_FIGURES := ktab_ok (x := "TO_FIGURES") (tab := [(48, 55), (49, 54), (110, 52), (46, 48)]) (c.ck 17 (f := kTabW "TO_FIGURES" [(48, 55), (49, 54), (110, 52), (46, 48)]) rfl)
    wg_TO_SIGNS := ktab_glo X G (x := "TO_SIGNS") (tab := [(55, 48), (54, 49), (52, 110), (48, 46)]) (c.ck 18 (f := kTabW "TO_SIGNS" [(55, 48), (54, 49), (52, 110), (48, 46)]) rfl)
    wt_TO_SIGNS := ktab_ok (x := "TO_SIGNS") (tab := [(55, 48), (54, 49), (52, 110), (48, 46)]) (c.ck 18 (f := kTabW "TO_SIGNS" [(55, 48), (54, 49), (52, 110), (48, 46)]) rfl)
    nf_Square__rows := noat_ok (x := "Square") (f := "_rows") (c.ck 19 (f := kNo "Square" "_rows") rfl)
    f__law_dice := (ga K "_law_dice")
    d__law_dice := fdOf K (ga K "_law_dice")
    F__law_dice := (c.df 0 (d := ⟨.g "_law_dice", "_law_dice", "_law_dice", (tS 34)⟩) rfl)
    b__law_dice := (c.df 0 (d := ⟨.g "_law_dice", "_law_dice", "_law_dice", (tS 34)⟩) rfl).binds (ps := ["_law_script", "_law_spot"]) fun _ _ _ _ _ _ us hl => match us, hl with | [_, _], _ => rfl
    m__law_dice := glo_of X G (x := "_law_dice") (c.ck 20 (f := kGlo "_law_dice") rfl)
    f__law_roll := (ga K "_law_roll")
    d__law_roll := fdOf K (ga K "_law_roll")
    F__law_roll := (c.df 1 (d := ⟨.g "_law_roll", "_law_roll", "_law_roll", (tS 35)⟩) rfl)
    b__law_roll := (c.df 1 (d := ⟨.g "_law_roll", "_law_roll", "_law_roll", (tS 35)⟩) rfl).binds (ps := ["_law_dice_here", "_law_total"]) fun _ _ _ _ _ _ us hl => match us, hl with | [_, _], _ => rfl
    m__law_roll := glo_of X G (x := "_law_roll") (c.ck 21 (f := kGlo "_law_roll") rfl)
    f__law_pick := (ga K "_law_pick")
    d__law_pick := fdOf K (ga K "_law_pick")
    F__law_pick := (c.df 2 (d := ⟨.g "_law_pick", "_law_pick", "_law_pick", (tS 36)⟩) rfl)
    b__law_pick := (c.df 2 (d := ⟨.g "_law_pick", "_law_pick", "_law_pick", (tS 36)⟩) rfl).binds (ps := ["_law_dice_here", "_law_items"]) fun _ _ _ _ _ _ us hl => match us, hl with | [_, _], _ => rfl
    m__law_pick := glo_of X G (x := "_law_pick") (c.ck 22 (f := kGlo "_law_pick") rfl)
    f__law_drawn_square := (ga K "_law_drawn_square")
    d__law_drawn_square := fdOf K (ga K "_law_drawn_square")
    F__law_drawn_square := (c.df 3 (d := ⟨.g "_law_drawn_square", "_law_drawn_square", "_law_drawn_square", (tS 41)⟩) rfl)
    b__law_drawn_square := (c.df 3 (d := ⟨.g "_law_drawn_square", "_law_drawn_square", "_law_drawn_square", (tS 41)⟩) rfl).binds (ps := ["_law_dice_here", "_law_size"]) fun _ _ _ _ _ _ us hl => match us, hl with | [_, _], _ => rfl
    m__law_drawn_square := glo_of X G (x := "_law_drawn_square") (c.ck 23 (f := kGlo "_law_drawn_square") rfl)
    f_check_size := (ga K "check_size")
    d_check_size := fdOf K (ga K "check_size")
    F_check_size := (c.df 4 (d := ⟨.g "check_size", "check_size", "check_size", (tS 13)⟩) rfl)
    b_check_size := (c.df 4 (d := ⟨.g "check_size", "check_size", "check_size", (tS 13)⟩) rfl).binds (ps := ["many", "expected"]) fun _ _ _ _ _ _ us hl => match us, hl with | [_, _], _ => rfl
    m_check_size := glo_of X G (x := "check_size") (c.ck 24 (f := kGlo "check_size") rfl)
    f__is_of_signs := (ga K "_is_of_signs")
    d__is_of_signs := fdOf K (ga K "_is_of_signs")
    F__is_of_signs := (c.df 5 (d := ⟨.g "_is_of_signs", "_is_of_signs", "_is_of_signs", (tS 32)⟩) rfl)
    b__is_of_signs := (c.df 5 (d := ⟨.g "_is_of_signs", "_is_of_signs", "_is_of_signs", (tS 32)⟩) rfl).binds (ps := ["value"]) fun _ _ _ _ _ _ us hl => match us, hl with | [_], _ => rfl
    m__is_of_signs := glo_of X G (x := "_is_of_signs") (c.ck 25 (f := kGlo "_is_of_signs") rfl)
    f_is_sized := (ga K "is_sized")
    d_is_sized := fdOf K (ga K "is_sized")
    F_is_sized := (c.df 6 (d := ⟨.g "is_sized", "is_sized", "is_sized", (tS 11)⟩) rfl)
    b_is_sized := (c.df 6 (d := ⟨.g "is_sized", "is_sized", "is_sized", (tS 11)⟩) rfl).binds (ps := ["value"]) fun _ _ _ _ _ _ us hl => match us, hl with | [_], _ => rfl
    m_is_sized := glo_of X G (x := "is_sized") (c.ck 26 (f := kGlo "is_sized") rfl)
    f_is_square := (ga K "is_square")
    d_is_square := fdOf K (ga K "is_square")
    F_is_square := (c.df 7 (d := ⟨.g "is_square", "is_square", "is_square", (tS 29)⟩) rfl)
    b_is_square := (c.df 7 (d := ⟨.g "is_square", "is_square", "is_square", (tS 29)⟩) rfl).binds (ps := ["value"]) fun _ _ _ _ _ _ us hl => match us, hl with | [_], _ => rfl
    m_is_square := glo_of X G (x := "is_square") (c.ck 27 (f := kGlo "is_square") rfl)
    f_Square_init := (ma K (ga K "Square") "__init__")
    d_Square_init := fdOf K (ma K (ga K "Square") "__init__")
    F_Square_init := (c.df 8 (d := ⟨.m "Square" "__init__", "__init__", "Square.__init__", (inClass (tS 30) 0)⟩) rfl)
    b_Square_init := (c.df 8 (d := ⟨.m "Square" "__init__", "__init__", "Square.__init__", (inClass (tS 30) 0)⟩) rfl).binds (ps := ["self", "rows"]) fun _ _ _ _ _ _ us hl => match us, hl with | [_, _], _ => rfl
    mk_Square := mkr_ok (x := "Square") (c.ck 28 (f := kMk "Square") rfl)
    f_row_number := (ga K "row_number")
    d_row_number := fdOf K (ga K "row_number")
    F_row_number := (c.df 9 (d := ⟨.g "row_number", "row_number", "row_number", (tS 18)⟩) rfl)
    b_row_number := (c.df 9 (d := ⟨.g "row_number", "row_number", "row_number", (tS 18)⟩) rfl).binds (ps := ["row"]) fun _ _ _ _ _ _ us hl => match us, hl with | [_], _ => rfl
    m_row_number := glo_of X G (x := "row_number") (c.ck 29 (f := kGlo "row_number") rfl)
    f_masks_for := (ga K "masks_for")
    d_masks_for := fdOf K (ga K "masks_for")
    F_masks_for := (c.df 10 (d := ⟨.g "masks_for", "masks_for", "masks_for", (tS 20)⟩) rfl)
    b_masks_for := (c.df 10 (d := ⟨.g "masks_for", "masks_for", "masks_for", (tS 20)⟩) rfl).binds (ps := ["many"]) fun _ _ _ _ _ _ us hl => match us, hl with | [_], _ => rfl
    m_masks_for := glo_of X G (x := "masks_for") (c.ck 30 (f := kGlo "masks_for") rfl)
    f_written_row := (ga K "written_row")
    d_written_row := fdOf K (ga K "written_row")
    F_written_row := (c.df 11 (d := ⟨.g "written_row", "written_row", "written_row", (tS 19)⟩) rfl)
    b_written_row := (c.df 11 (d := ⟨.g "written_row", "written_row", "written_row", (tS 19)⟩) rfl).binds (ps := ["number", "many"]) fun _ _ _ _ _ _ us hl => match us, hl with | [_, _], _ => rfl
    m_written_row := glo_of X G (x := "written_row") (c.ck 31 (f := kGlo "written_row") rfl)
    f_least_behind := (ga K "least_behind")
    d_least_behind := fdOf K (ga K "least_behind")
    F_least_behind := (c.df 12 (d := ⟨.g "least_behind", "least_behind", "least_behind", (tS 21)⟩) rfl)
    b_least_behind := (c.df 12 (d := ⟨.g "least_behind", "least_behind", "least_behind", (tS 21)⟩) rfl).binds (ps := ["row", "numbers", "masks"]) fun _ _ _ _ _ _ us hl => match us, hl with | [_, _, _], _ => rfl
    m_least_behind := glo_of X G (x := "least_behind") (c.ck 32 (f := kGlo "least_behind") rfl)
    f_product_of := (ga K "product_of")
    d_product_of := fdOf K (ga K "product_of")
    F_product_of := (c.df 13 (d := ⟨.g "product_of", "product_of", "product_of", (tS 22)⟩) rfl)
    b_product_of := (c.df 13 (d := ⟨.g "product_of", "product_of", "product_of", (tS 22)⟩) rfl).binds (ps := ["one", "other"]) fun _ _ _ _ _ _ us hl => match us, hl with | [_, _], _ => rfl
    m_product_of := glo_of X G (x := "product_of") (c.ck 33 (f := kGlo "product_of") rfl)
    f_Square_mul := (ma K (ga K "Square") "__mul__")
    d_Square_mul := fdOf K (ma K (ga K "Square") "__mul__")
    F_Square_mul := (c.df 14 (d := ⟨.m "Square" "__mul__", "__mul__", "Square.__mul__", (inClass (tS 30) 6)⟩) rfl)
    b_Square_mul := (c.df 14 (d := ⟨.m "Square" "__mul__", "__mul__", "Square.__mul__", (inClass (tS 30) 6)⟩) rfl).binds (ps := ["self", "other"]) fun _ _ _ _ _ _ us hl => match us, hl with | [_, _], _ => rfl
    bi_Square_mul := kbin_ok .Mult (by decide +kernel) (x := "Square") (m := "__mul__") (c.ck 34 (f := kBin "Square" "__mul__") rfl)
    f_Square_eq := (ma K (ga K "Square") "__eq__")
    d_Square_eq := fdOf K (ma K (ga K "Square") "__eq__")
    F_Square_eq := (c.df 15 (d := ⟨.m "Square" "__eq__", "__eq__", "Square.__eq__", (inClass (tS 30) 10)⟩) rfl)
    b_Square_eq := (c.df 15 (d := ⟨.m "Square" "__eq__", "__eq__", "Square.__eq__", (inClass (tS 30) 10)⟩) rfl).binds (ps := ["self", "other"]) fun _ _ _ _ _ _ us hl => match us, hl with | [_, _], _ => rfl
    eq_Square := keq_ok (x := "Square") (c.ck 35 (f := kEq "Square") rfl)
    f_Square_rows := (pg K (ga K "Square") "rows")
    d_Square_rows := fdOf K (pg K (ga K "Square") "rows")
    F_Square_rows := (c.df 16 (d := ⟨.p "Square" "rows", "rows", "Square.rows", (inClass (tS 30) 2)⟩) rfl)
    b_Square_rows := (c.df 16 (d := ⟨.p "Square" "rows", "rows", "Square.rows", (inClass (tS 30) 2)⟩) rfl).binds (ps := ["self"]) fun _ _ _ _ _ _ us hl => match us, hl with | [_], _ => rfl
    p_Square_rows := ma K (ga K "Square") "rows"
    pr_Square_rows := kprop_ok (x := "Square") (m := "rows") (c.ck 36 (f := kProp "Square" "rows") rfl)
    f__law_lesser := (ga K "_law_lesser")
    d__law_lesser := fdOf K (ga K "_law_lesser")
    F__law_lesser := (c.df 17 (d := ⟨.g "_law_lesser", "_law_lesser", "_law_lesser", (tS 37)⟩) rfl)
    b__law_lesser := (c.df 17 (d := ⟨.g "_law_lesser", "_law_lesser", "_law_lesser", (tS 37)⟩) rfl).binds (ps := ["_law_one", "_law_other"]) fun _ _ _ _ _ _ us hl => match us, hl with | [_, _], _ => rfl
    m__law_lesser := glo_of X G (x := "_law_lesser") (c.ck 37 (f := kGlo "_law_lesser") rfl)
    f__law_greater := (ga K "_law_greater")
    d__law_greater := fdOf K (ga K "_law_greater")
    F__law_greater := (c.df 18 (d := ⟨.g "_law_greater", "_law_greater", "_law_greater", (tS 38)⟩) rfl)
    b__law_greater := (c.df 18 (d := ⟨.g "_law_greater", "_law_greater", "_law_greater", (tS 38)⟩) rfl).binds (ps := ["_law_one", "_law_other"]) fun _ _ _ _ _ _ us hl => match us, hl with | [_, _], _ => rfl
    m__law_greater := glo_of X G (x := "_law_greater") (c.ck 38 (f := kGlo "_law_greater") rfl)
    f__law_product := (ga K "_law_product")
    d__law_product := fdOf K (ga K "_law_product")
    F__law_product := (c.df 19 (d := ⟨.g "_law_product", "_law_product", "_law_product", (tS 39)⟩) rfl)
    b__law_product := (c.df 19 (d := ⟨.g "_law_product", "_law_product", "_law_product", (tS 39)⟩) rfl).binds (ps := ["_law_one", "_law_other"]) fun _ _ _ _ _ _ us hl => match us, hl with | [_, _], _ => rfl
    m__law_product := glo_of X G (x := "_law_product") (c.ck 39 (f := kGlo "_law_product") rfl)
    f_is_stable_by_numbers := (ga K "is_stable_by_numbers")
    d_is_stable_by_numbers := fdOf K (ga K "is_stable_by_numbers")
    F_is_stable_by_numbers := (c.df 20 (d := ⟨.g "is_stable_by_numbers", "is_stable_by_numbers", "is_stable_by_numbers", (tS 26)⟩) rfl)
    b_is_stable_by_numbers := (c.df 20 (d := ⟨.g "is_stable_by_numbers", "is_stable_by_numbers", "is_stable_by_numbers", (tS 26)⟩) rfl).binds (ps := ["rows", "numbers", "masks"]) fun _ _ _ _ _ _ us hl => match us, hl with | [_, _, _], _ => rfl
    m_is_stable_by_numbers := glo_of X G (x := "is_stable_by_numbers") (c.ck 40 (f := kGlo "is_stable_by_numbers") rfl)
    f_is_stable_square := (ga K "is_stable_square")
    d_is_stable_square := fdOf K (ga K "is_stable_square")
    F_is_stable_square := (c.df 21 (d := ⟨.g "is_stable_square", "is_stable_square", "is_stable_square", (tS 25)⟩) rfl)
    b_is_stable_square := (c.df 21 (d := ⟨.g "is_stable_square", "is_stable_square", "is_stable_square", (tS 25)⟩) rfl).binds (ps := ["rows"]) fun _ _ _ _ _ _ us hl => match us, hl with | [_], _ => rfl
    m_is_stable_square := glo_of X G (x := "is_stable_square") (c.ck 41 (f := kGlo "is_stable_square") rfl)
    f_Square_is_stable := (pg K (ga K "Square") "is_stable")
    d_Square_is_stable := fdOf K (pg K (ga K "Square") "is_stable")
    F_Square_is_stable := (c.df 22 (d := ⟨.p "Square" "is_stable", "is_stable", "Square.is_stable", (inClass (tS 30) 3)⟩) rfl)
    b_Square_is_stable := (c.df 22 (d := ⟨.p "Square" "is_stable", "is_stable", "Square.is_stable", (inClass (tS 30) 3)⟩) rfl).binds (ps := ["self"]) fun _ _ _ _ _ _ us hl => match us, hl with | [_], _ => rfl
    p_Square_is_stable := ma K (ga K "Square") "is_stable"
    pr_Square_is_stable := kprop_ok (x := "Square") (m := "is_stable") (c.ck 42 (f := kProp "Square" "is_stable") rfl)
    f_repeat_by_numbers := (ga K "repeat_by_numbers")
    d_repeat_by_numbers := fdOf K (ga K "repeat_by_numbers")
    F_repeat_by_numbers := (c.df 23 (d := ⟨.g "repeat_by_numbers", "repeat_by_numbers", "repeat_by_numbers", (tS 24)⟩) rfl)
    b_repeat_by_numbers := (c.df 23 (d := ⟨.g "repeat_by_numbers", "repeat_by_numbers", "repeat_by_numbers", (tS 24)⟩) rfl).binds (ps := ["rows", "numbers"]) fun _ _ _ _ _ _ us hl => match us, hl with | [_, _], _ => rfl
    m_repeat_by_numbers := glo_of X G (x := "repeat_by_numbers") (c.ck 43 (f := kGlo "repeat_by_numbers") rfl)
    f_repeat_of := (ga K "repeat_of")
    d_repeat_of := fdOf K (ga K "repeat_of")
    F_repeat_of := (c.df 24 (d := ⟨.g "repeat_of", "repeat_of", "repeat_of", (tS 23)⟩) rfl)
    b_repeat_of := (c.df 24 (d := ⟨.g "repeat_of", "repeat_of", "repeat_of", (tS 23)⟩) rfl).binds (ps := ["rows"]) fun _ _ _ _ _ _ us hl => match us, hl with | [_], _ => rfl
    m_repeat_of := glo_of X G (x := "repeat_of") (c.ck 44 (f := kGlo "repeat_of") rfl)
    f_Square_repeated := (ma K (ga K "Square") "repeated")
    d_Square_repeated := fdOf K (ma K (ga K "Square") "repeated")
    F_Square_repeated := (c.df 25 (d := ⟨.m "Square" "repeated", "repeated", "Square.repeated", (inClass (tS 30) 4)⟩) rfl)
    b_Square_repeated := (c.df 25 (d := ⟨.m "Square" "repeated", "repeated", "Square.repeated", (inClass (tS 30) 4)⟩) rfl).binds (ps := ["self"]) fun _ _ _ _ _ _ us hl => match us, hl with | [_], _ => rfl
    me_Square_repeated := meth_ok (x := "Square") (m := "repeated") (c.ck 45 (f := kMeth "Square" "repeated") rfl)
    f__law_repeat := (ga K "_law_repeat")
    d__law_repeat := fdOf K (ga K "_law_repeat")
    F__law_repeat := (c.df 26 (d := ⟨.g "_law_repeat", "_law_repeat", "_law_repeat", (tS 40)⟩) rfl)
    b__law_repeat := (c.df 26 (d := ⟨.g "_law_repeat", "_law_repeat", "_law_repeat", (tS 40)⟩) rfl).binds (ps := ["_law_square"]) fun _ _ _ _ _ _ us hl => match us, hl with | [_], _ => rfl
    m__law_repeat := glo_of X G (x := "_law_repeat") (c.ck 46 (f := kGlo "_law_repeat") rfl)
    f__ranks := (ga K "_ranks")
    d__ranks := fdOf K (ga K "_ranks")
    F__ranks := (c.df 27 (d := ⟨.g "_ranks", "_ranks", "_ranks", (tS 31)⟩) rfl)
    b__ranks := (c.df 27 (d := ⟨.g "_ranks", "_ranks", "_ranks", (tS 31)⟩) rfl).binds (ps := ["signs"]) fun _ _ _ _ _ _ us hl => match us, hl with | [_], _ => rfl
    m__ranks := glo_of X G (x := "_ranks") (c.ck 47 (f := kGlo "_ranks") rfl)
    f_least_sign := (ga K "least_sign")
    d_least_sign := fdOf K (ga K "least_sign")
    F_least_sign := (c.df 28 (d := ⟨.g "least_sign", "least_sign", "least_sign", (tS 28)⟩) rfl)
    m_least_sign := glo_of X G (x := "least_sign") (c.ck 48 (f := kGlo "least_sign") rfl)
    f__law_no_less := (ga K "_law_no_less")
    d__law_no_less := fdOf K (ga K "_law_no_less")
    F__law_no_less := (c.df 29 (d := ⟨.g "_law_no_less", "_law_no_less", "_law_no_less", (tS 43)⟩) rfl)
    b__law_no_less := (c.df 29 (d := ⟨.g "_law_no_less", "_law_no_less", "_law_no_less", (tS 43)⟩) rfl).binds (ps := ["_law_one", "_law_other"]) fun _ _ _ _ _ _ us hl => match us, hl with | [_, _], _ => rfl
    m__law_no_less := glo_of X G (x := "_law_no_less") (c.ck 49 (f := kGlo "_law_no_less") rfl)
    f__law_repeats_right := (ga K "_law_repeats_right")
    d__law_repeats_right := fdOf K (ga K "_law_repeats_right")
    F__law_repeats_right := (c.df 30 (d := ⟨.g "_law_repeats_right", "_law_repeats_right", "_law_repeats_right", (tS 44)⟩) rfl)
    b__law_repeats_right := (c.df 30 (d := ⟨.g "_law_repeats_right", "_law_repeats_right", "_law_repeats_right", (tS 44)⟩) rfl).binds (ps := ["_law_rows"]) fun _ _ _ _ _ _ us hl => match us, hl with | [_], _ => rfl
    m__law_repeats_right := glo_of X G (x := "_law_repeats_right") (c.ck 50 (f := kGlo "_law_repeats_right") rfl)
    f__law_stable_of := (ga K "_law_stable_of")
    d__law_stable_of := fdOf K (ga K "_law_stable_of")
    F__law_stable_of := (c.df 31 (d := ⟨.g "_law_stable_of", "_law_stable_of", "_law_stable_of", (tS 42)⟩) rfl)
    b__law_stable_of := (c.df 31 (d := ⟨.g "_law_stable_of", "_law_stable_of", "_law_stable_of", (tS 42)⟩) rfl).binds (ps := ["_law_square"]) fun _ _ _ _ _ _ us hl => match us, hl with | [_], _ => rfl
    m__law_stable_of := glo_of X G (x := "_law_stable_of") (c.ck 51 (f := kGlo "_law_stable_of") rfl)
    f__law_right := (ga K "_law_right")
    d__law_right := fdOf K (ga K "_law_right")
    F__law_right := (c.df 32 (d := ⟨.g "_law_right", "_law_right", "_law_right", (tS 45)⟩) rfl)
    b__law_right := (c.df 32 (d := ⟨.g "_law_right", "_law_right", "_law_right", (tS 45)⟩) rfl).binds (ps := ["_law_dice_here"]) fun _ _ _ _ _ _ us hl => match us, hl with | [_], _ => rfl
    m__law_right := glo_of X G (x := "_law_right") (c.ck 52 (f := kGlo "_law_right") rfl)
    f_Square_str := (ma K (ga K "Square") "__str__")
    d_Square_str := fdOf K (ma K (ga K "Square") "__str__")
    F_Square_str := (c.df 33 (d := ⟨.m "Square" "__str__", "__str__", "Square.__str__", (inClass (tS 30) 11)⟩) rfl)
    b_Square_str := (c.df 33 (d := ⟨.m "Square" "__str__", "__str__", "Square.__str__", (inClass (tS 30) 11)⟩) rfl).binds (ps := ["self"]) fun _ _ _ _ _ _ us hl => match us, hl with | [_], _ => rfl
    sp_Square_str := kspec_ok (x := "Square") (m := "__str__") (c.ck 53 (f := kSpec "Square" "__str__") rfl)
    f_law := (ga K "law")
    d_law := fdOf K (ga K "law")
    F_law := (c.df 34 (d := ⟨.g "law", "law", "law", (tS 46)⟩) rfl)
    b_law := (c.df 34 (d := ⟨.g "law", "law", "law", (tS 46)⟩) rfl).binds (ps := ["_law_script"]) fun _ _ _ _ _ _ us hl => match us, hl with | [_], _ => rfl
    m_law := glo_of X G (x := "law") (c.ck 54 (f := kGlo "law") rfl) }
end K426
set_option Elab.async false
set_option linter.all false
set_option maxRecDepth 100000
set_option maxHeartbeats 4000000
set_option exponentiation.threshold 9000
/-! Pw, part one: the program's words, as its text stands at 075f9ef. -/
namespace Pw
open PySem PySem.Spec L2 Mo Lw
theorem isi_ss : ∀ i : Str, fIsi "str" (.str i) = some (.bl true) := fun i => by
  have : kitB "str" "str" = some true := by decide +kernel
  show (kitB "str" "str").map D.bl = _
  rw [this]
  rfl
theorem isi_tt : ∀ ds : List D, fIsi "tuple" (.tup ds) = some (.bl true) := fun i => by
  have : kitB "tuple" "tuple" = some true := by decide +kernel
  show (kitB "tuple" "tuple").map D.bl = _
  rw [this]
  rfl
@[simp] theorem tru_bl {b : Bool} : truD (.bl b) = some b := rfl
def Tr (F : FD) (ds : List D) : Prop := ∀ c, F ds c = some (.bl true, c)
@[simp] theorem ev_chain {f f' : D → D → Option D} {ma mb mc : M D} {g : G} {Q : D → G → Prop} : Ev (mChain f f' ma mb mc) g Q ↔ Ev ma g fun x g1 => Ev mb g1 fun y g2 => ∃ b, f x y = some (.bl b) ∧ if b = true then Ev mc g2 fun z g3 => Ev (lift (f' y z)) g3 Q else Q (.bl false) g2 := by
  unfold mChain
  simp only [ev_bind]
  refine ⟨fun h => h.mono fun x g1 h => h.mono fun y g2 h => ?_, fun h => h.mono fun x g1 h => h.mono fun y g2 ⟨b, e, h⟩ => ?_⟩
  · split at h
    · rename_i e
      exact ⟨true, e, by rw [if_pos rfl]; exact ev_bind.mp h⟩
    · rename_i e
      exact ⟨false, e, by rw [if_neg Bool.false_ne_true]; exact ev_ret.mp h⟩
    · exact (ev_bad.mp h).elim
  · rw [e]
    cases b with
    | true => exact ev_bind.mpr (by rw [if_pos rfl] at h; exact h)
    | false => exact ev_ret.mpr (by rw [if_neg Bool.false_ne_true] at h; exact h)
theorem fEq_str {neg : Bool} {x y : Str} (h : PyData.strOk x = true) (h2 : PyData.strOk y = true) : fEq neg (.str x) (.str y) = some (.bl (if neg then !(x == y) else (x == y))) := by
  unfold fEq
  show (if (SeqAt.shaped (.str x) && SeqAt.shaped (.str y)) = true then some (D.bl (if neg then !PyData.eqv (.str x) (.str y) else PyData.eqv (.str x) (.str y))) else none) = _
  have s : ∀ {z : Str}, PyData.strOk z = true → SeqAt.shaped (.str z) = true := fun {z} h => by simp [SeqAt.shaped, PyData.canLay0, PyData.depth, h]
  rw [s h, s h2]
  rfl
end Pw
set_option Elab.async false
set_option linter.all false
set_option maxRecDepth 100000
set_option maxHeartbeats 4000000
set_option exponentiation.threshold 9000
/-! Pw, part two: what makes a machine. -/
namespace Pw
open PySem PySem.Spec L2 Mo Lw
@[simp] theorem arc_0 {x : Arc} : uIx (arcD x) (.int 0) = some (.str x.a) := rfl
@[simp] theorem arc_1 {x : Arc} : uIx (arcD x) (.int 1) = some (.str x.l) := rfl
@[simp] theorem arc_2 {x : Arc} : uIx (arcD x) (.int 2) = some (.str x.b) := rfl
theorem fAll_true : ∀ {β : Type} (xs : List β), fAll [.lst (xs.map fun _ => D.bl true)] = some (.bl true) := fun xs => by
  have : ∀ {β : Type} (xs : List β), asBls (xs.map fun _ => D.bl true) = some (xs.map fun _ => true) := fun {β} xs => by
    induction xs with
    | nil => rfl
    | cons x r ih =>
      show (asBls (r.map fun _ => D.bl true)).map (true :: ·) = _
      rw [ih]
      rfl
  show (asBls _).map _ = _
  rw [this]
  show some (D.bl ((xs.map fun _ => true).all id)) = _
  have : (xs.map fun _ => true).all id = true := by simp
  rw [this]
/-- an arc whose words are known -/
structure ArcW (x : Arc) : Prop where
  a : x.a ∈ namePool
  l : x.l ∈ lets
  b : x.b ∈ namePool
  p0 : 0 ≤ x.p
  p9 : x.p ≤ 9
theorem PlOk.w {p : Pl} {n : Nat} (h : PlOk p n) : ∀ x ∈ p.arcs, ArcW x := fun x m => by
  obtain ⟨names, no, _, _, _, ok⟩ := h.all
  obtain ⟨h1, h2, h3, h4, h5⟩ := ok.at' x m
  exact ⟨no.mem _ h1, h2, no.mem _ h3, h4, h5⟩
theorem PlOk.nd {p : Pl} {n : Nat} (h : PlOk p n) : p.arcs.Pairwise fun x y => ¬ sameA x y.a y.l y.b := by
  obtain ⟨names, no, _, _, _, ok⟩ := h.all
  exact ok.nd
theorem sortU_mem {xs : List Str} {x : Str} : x ∈ sortU xs ↔ x ∈ xs := (List.mergeSort_perm (nub xs) leS).mem_iff.trans mem_nub
theorem sortU_nodup {xs : List Str} : (sortU xs).Nodup := (List.mergeSort_perm (nub xs) leS).symm.nodup (nodup_nub xs)
theorem mem_ends {xs : List Arc} {s : Str} : s ∈ endsOf xs ↔ s ∈ xs.map (·.a) ∨ s ∈ xs.map (·.b) := by
  unfold endsOf
  simp only [List.mem_flatMap, List.mem_map, List.mem_cons, List.not_mem_nil, or_false]
  constructor
  · rintro ⟨x, m, rfl | rfl⟩
    · exact .inl ⟨x, m, rfl⟩
    · exact .inr ⟨x, m, rfl⟩
  · rintro (⟨x, m, rfl⟩ | ⟨x, m, rfl⟩)
    · exact ⟨x, m, .inl rfl⟩
    · exact ⟨x, m, .inr rfl⟩
theorem nodup_len : ∀ {xs ys : List Str}, xs.Nodup → (∀ x ∈ xs, x ∈ ys) → xs.length ≤ ys.length
  | [], _, _, _ => Nat.zero_le _
  | x :: xs, ys, nd, h => by
    obtain ⟨h1, h2⟩ := List.nodup_cons.mp nd
    have m := h x List.mem_cons_self
    have := nodup_len (ys := ys.erase x) h2 fun y my => (List.mem_erase_of_ne fun e : y = x => h1 (e ▸ my)).mpr (h y (List.mem_cons_of_mem _ my))
    rw [List.length_erase_of_mem m] at this
    have p := List.length_pos_of_mem m
    simp
    omega
theorem states_le {p : Pl} {n : Nat} (h : PlOk p n) : p.states.length ≤ n ∧ p.states.length ≤ 24 ∧ ∀ x ∈ p.states, x ∈ namePool := by
  obtain ⟨names, no, nl, hf, hl, ok⟩ := h.all
  have sub : ∀ x ∈ p.states, x ∈ names := fun x m => by
    have m2 := sortU_mem.mp m
    unfold Pl.all at m2
    rcases List.mem_append.mp m2 with m2 | m2
    · rcases List.mem_append.mp m2 with m2 | m2
      · exact hf x m2
      · exact hl x m2
    · rcases mem_ends.mp m2 with m2 | m2
      · obtain ⟨y, my, rfl⟩ := List.mem_map.mp m2
        exact (ok.at' y my).1
      · obtain ⟨y, my, rfl⟩ := List.mem_map.mp m2
        exact (ok.at' y my).2.2.1
  have le : p.states.length ≤ names.length := nodup_len sortU_nodup sub
  exact ⟨Nat.le_trans le nl, Nat.le_trans le no.len, fun x m => no.mem x (sub x m)⟩
end Pw
set_option Elab.async false
set_option linter.all false
set_option maxRecDepth 100000
set_option maxHeartbeats 4000000
set_option exponentiation.threshold 9000
/-! Pw, part three: lines; a machine is made. -/
namespace Pw
open PySem PySem.Spec L2 Mo Lw
/-! ### sorted arcs, kept again -/
theorem sameA_symm {x y : Arc} (h : sameA x y.a y.l y.b) : sameA y x.a x.l x.b := ⟨h.1.symm, h.2.1.symm, h.2.2.symm⟩
theorem nd_perm {xs ys : List Arc} (h : xs.Pairwise fun x y => ¬ sameA x y.a y.l y.b) (p : ys.Perm xs) : ys.Pairwise fun x y => ¬ sameA x y.a y.l y.b :=
  p.symm.pairwise h fun {x y} n z => n (sameA_symm z)
end Pw
set_option Elab.async false
set_option linter.all false
set_option maxRecDepth 100000
set_option maxHeartbeats 4000000
set_option exponentiation.threshold 9000
/-! Pw, part four: a machine is made. -/
namespace Pw
open PySem PySem.Spec L2 Mo Lw
/-- what a machine holds -/
def flds (p : Pl) (ys : List Arc) (zs : List Str) : List (Str × D) := [("_firsts", .tup (sL p.fs)), ("_lasts", .tup (sL p.ls)), ("_arcs", .dt (ys.map arcT)), ("_states", .tup (sL p.states)), ("_letters", .tup (sL p.letters)), ("_lines", .tup (sL zs))]
/-- a machine of plain parts -/
structure Mach (C : Addr) (p : Pl) (n : Nat) (d : D) : Prop where
  ok : PlOk p n
  ex : ∃ ys zs, ys.Perm p.arcs ∧ d = .ins C (flds p ys zs)
/-! ### what is read of it -/
end Pw
set_option Elab.async false
set_option linter.all false
set_option maxRecDepth 100000
set_option maxHeartbeats 4000000
set_option exponentiation.threshold 9000
/-! Pw, part five: rows, checked. -/
namespace Pw
open PySem PySem.Spec L2 Mo Lw
def iL (ns : List Int) : List D := ns.map .int
def NonR (F : FD) (ds : List D) : Prop := ∀ c, F ds c = some (.non, c)
end Pw
set_option Elab.async false
set_option linter.all false
set_option maxRecDepth 100000
set_option maxHeartbeats 4000000
/-! Lw, part seven: least numbers; steps along arcs. -/
namespace Lw
open PySem PySem.Spec L2 Mo
def IsMin (S : Int → Prop) (v : Int) : Prop := (S v ∧ ∀ s, S s → v ≤ s) ∨ ((∀ s, ¬ S s) ∧ v = -1)
def minL : List Int → Int
  | [] => -1
  | x :: r => minI x r
/-- the entry of a state in a row -/
def Ent (ss : List Str) (row : List Int) (s : Str) (e : Int) : Prop := (s, e) ∈ ss.zip row
/-! ### the least of two rows -/
end Lw
set_option Elab.async false
set_option linter.all false
set_option maxRecDepth 100000
set_option maxHeartbeats 4000000
set_option exponentiation.threshold 9000
/-! Pw, part six: the next row. -/
namespace Pw
open PySem PySem.Spec L2 Mo Lw
/-- the price of an arc -/
def arcAt (ys : List Arc) (a l b : Str) : Option Int := (ys.find? fun x => decide (sameA x a l b)).map (·.p)
/-- numbers and names, side by side -/
def nums (ss : List Str) : List (Nat × Str) := (List.range ss.length).zip ss
theorem nums_len (ss : List Str) : (nums ss).length = ss.length := by
  unfold nums
  rw [List.length_zip, List.length_range, Nat.min_self]
theorem nums_mem {ss : List Str} {z : Nat × Str} : z ∈ nums ss ↔ ss[z.1]? = some z.2 := by
  constructor
  · intro m
    obtain ⟨i, hi⟩ := List.getElem?_of_mem m
    obtain ⟨h1, h2⟩ := List.getElem?_zip_eq_some.mp hi
    obtain ⟨h3, h4⟩ := List.getElem?_eq_some_iff.mp h1
    rw [List.getElem_range] at h4
    rw [← h4]
    exact h2
  · intro h
    have hlt : z.1 < ss.length := by
      obtain ⟨q, _⟩ := List.getElem?_eq_some_iff.mp h
      exact q
    have : (nums ss)[z.1]? = some z := List.getElem?_zip_eq_some.mpr ⟨by rw [List.getElem?_range hlt], h⟩
    exact List.mem_of_getElem? this
def inner (ys : List Arc) (ss : List Str) (l b : Str) : List (Nat × Str) := (nums ss).filter fun z => (arcAt ys z.2 l b).isSome
def inD (ys : List Arc) (l b : Str) (z : Nat × Str) : D := .tup [.int (0 + (z.1 : Nat)), .int ((arcAt ys z.2 l b).getD 0)]
/-- the prices that are on the way to b -/
def vals (ys : List Arc) (ss : List Str) (row : List Int) (l b : Str) : List Int := ((inner ys ss l b).filter fun z => decide (0 ≤ row.getD z.1 (-1))).map fun z => row.getD z.1 (-1) + (arcAt ys z.2 l b).getD 0
theorem uIx_row {row : List Int} {i : Nat} (h : i < row.length) : uIx (.tup (iL row)) (.int (0 + (i : Nat))) = some (.int (row.getD i (-1))) := by
  show (fDGet (.tup (iL row)) (.int (0 + (i : Nat)))).or (atI (iL row) (0 + (i : Nat))) = _
  have h2 : (iL row)[i]? = some (.int (row.getD i (-1))) := by
    unfold iL
    rw [List.getElem?_map, List.getD_eq_getElem?_getD, List.getElem?_eq_getElem h]
    rfl
  have e := atI_nat h2
  rw [Int.zero_add, e]
  rfl
end Pw
set_option Elab.async false
set_option linter.all false
set_option maxRecDepth 100000
set_option maxHeartbeats 4000000
set_option exponentiation.threshold 9000
/-! Qw, part one: what enters by the letters of a text. -/
namespace Qw
open PySem PySem.Spec L2 Mo Lw Pw
end Qw
set_option Elab.async false
set_option linter.all false
set_option maxRecDepth 100000
set_option maxHeartbeats 4000000
set_option exponentiation.threshold 9000
/-! Qw, part two: rows lowered, and rows along a text. -/
namespace Qw
open PySem PySem.Spec L2 Mo Lw Pw
def fallOf (row : List Int) : Int := match row.filter fun e => decide (0 ≤ e) with
  | [] => 0
  | x :: r => minI x r
def lowR (row : List Int) : List Int := row.map fun e => if 0 ≤ e then e - fallOf row else -1
end Qw
set_option Elab.async false
set_option linter.all false
set_option maxRecDepth 100000
set_option maxHeartbeats 4000000
set_option exponentiation.threshold 9000
/-! Qw, part three: rows along a text, and where they end. -/
namespace Qw
open PySem PySem.Spec L2 Mo Lw Pw
def nextR (ys : List Arc) (ss : List Str) (row : List Int) (l : Str) : List Int := ss.map fun b => minL (vals ys ss row l b)
def trR (ys : List Arc) (ss : List Str) : List Int → List Str → List Int
  | row, [] => row
  | row, l :: ls => trR ys ss (nextR ys ss row l) ls
end Qw
set_option Elab.async false
set_option linter.all false
set_option maxRecDepth 100000
set_option maxHeartbeats 4000000
set_option exponentiation.threshold 9000
/-! Qw, part four: rows_along, ends_along. -/
namespace Qw
open PySem PySem.Spec L2 Mo Lw Pw
theorem signs_len (t : Str) : (signsS t).length = t.length := by
  simp [signsS, Str.length]
theorem asInts_iL : ∀ r : List Int, asInts (r.map D.int) = some r
  | [] => rfl
  | y :: t => by
    show (asInts (t.map D.int)).map (y :: ·) = _
    rw [asInts_iL t]
    rfl
end Qw
set_option Elab.async false
set_option linter.all false
set_option maxRecDepth 100000
set_option maxHeartbeats 4000000
/-! Lw, part eight: the laws' own steps. -/
namespace Lw
open PySem PySem.Spec L2 Mo
/-! ### dicts from texts to numbers -/
def lk (fd : List (Str × Int)) (b : Str) : Option Int := (fd.find? fun z => decide (z.1 = b)).map (·.2)
end Lw
set_option Elab.async false
set_option linter.all false
set_option maxRecDepth 100000
set_option maxHeartbeats 4000000
/-! Lw, part nine: reach, the laws' row after a letter. -/
namespace Lw
open PySem PySem.Spec L2 Mo
def lets4 : List Str := ["a", "b", "c", "z"]
end Lw
set_option Elab.async false
set_option linter.all false
set_option maxRecDepth 100000
set_option maxHeartbeats 4000000
set_option exponentiation.threshold 9000
/-! Pw, part seven: the laws' own row after a letter; prices in rows. -/
namespace Pw
open PySem PySem.Spec L2 Mo Lw
/-! ### prices in rows -/
def prD : List Int → D
  | [] => .non
  | x :: r => .int (minI x r)
theorem asInts_iL : ∀ r : List Int, asInts (iL r) = some r
  | [] => rfl
  | y :: t => by
    show (asInts (iL t)).map (y :: ·) = _
    rw [asInts_iL t]
    rfl
theorem fminD_non (ns : List Int) : fminD (.lst (iL ns)) .non = some (prD ns) := by
  cases ns with
  | nil => rfl
  | cons x r =>
    show (asInts (iL r)).map (fun ns => D.int (minI x ns)) = _
    rw [asInts_iL]
    rfl
def numsOf (p : Pl) : List (Nat × Str) := (nums p.states).filter fun z => decide (z.2 ∈ p.ls)
def nD (z : Nat × Str) : D := .int (0 + (z.1 : Nat))
def mLeast : M Oc := (seq (mRet (mBin fminD (frz (mLc [2] (mIter (mName 1)) (stName 2) (mT2 iGe (mBin uIx (mName 0) (mName 2)) (ret (.int 0))) (mBin uIx (mName 0) (mName 2)))) (ret .non))) (ret .nx))
def lastVals (p : Pl) (row : List Int) : List Int := ((numsOf p).filter fun z => decide (0 ≤ row.getD z.1 (-1))).map fun z => row.getD z.1 (-1)
def LeastS (F : FD) : Prop := ∀ (p : Pl) (n : Nat) (row : List Int) (c : C3), PlOk p n → row.length = p.states.length → F [.tup (iL row), .lst ((numsOf p).map nD)] c = some (prD (lastVals p row), c)
theorem least_spec : LeastS (runM false 3 2 mLeast) := fun p n row c ok hl => by
  have sl := (states_le ok).2.1
  refine run_pure rfl ?_
  simp [mLeast, ev_name_v, noOwn, plainSl]
  refine ev_lcPure (numsOf p) nD (fun z => decide (0 ≤ row.getD z.1 (-1))) (fun z => .int (row.getD z.1 (-1))) (fun z m => ⟨_, rfl, ?_⟩) ?_ ?_
  · have hi := nums_mem.mp (List.mem_filter.mp m).1
    have hlt : z.1 < row.length := by
      rw [hl]
      obtain ⟨w, _⟩ := List.getElem?_eq_some_iff.mp hi
      exact w
    have e := uIx_row hlt
    simp [ev_name_v, nD] at e ⊢
    simp [e]
    intro h0
    simp [ev_name_v, e]
  · exact Nat.lt_of_le_of_lt (List.length_filter_le _ _) (by rw [nums_len, sizeLine_eq]; omega)
  · have e : ((numsOf p).filter fun z => decide (0 ≤ row.getD z.1 (-1))).map (fun z => D.int (row.getD z.1 (-1))) = iL (lastVals p row) := by
      unfold iL lastVals
      rw [List.map_map]
      rfl
    rw [e]
    simp [fminD_non]
end Pw
set_option Elab.async false
set_option linter.all false
set_option maxRecDepth 100000
set_option maxHeartbeats 4000000
/-! Lw, part ten: repr of numbers and rows. -/
namespace Lw
open PySem PySem.Spec L2 Mo
theorem strOk_of {s : Str} (h : ∀ c ∈ s.cps.toList, c < 0x110000) : PyData.strOk s = true := by
  unfold PyData.strOk
  rw [← Array.all_toList]
  exact List.all_eq_true.mpr fun c m => decide_eq_true (h c m)
end Lw
set_option Elab.async false
set_option linter.all false
set_option maxRecDepth 100000
set_option maxHeartbeats 4000000
set_option exponentiation.threshold 9000
/-! Pw, part eight: rows compared. -/
namespace Pw
open PySem PySem.Spec L2 Mo Lw
theorem small_log {i : Int} (h1 : -1 ≤ i) (h2 : i ≤ 1000) : i.natAbs.log2 < 10 := by
  by_cases z : i.natAbs = 0
  · rw [z]
    decide
  · exact (Nat.log2_lt z).mpr (by omega)
/-! ### the least of two rows -/
end Pw
set_option Elab.async false
set_option linter.all false
set_option maxRecDepth 100000
set_option maxHeartbeats 4000000
set_option exponentiation.threshold 9000
/-! Pw, part nine: a pair, a row, all rows. -/
namespace Pw
open PySem PySem.Spec L2 Mo Lw
end Pw
set_option Elab.async false
set_option linter.all false
set_option maxRecDepth 100000
set_option maxHeartbeats 4000000
set_option exponentiation.threshold 9000
/-! Pw, part ten: all rows. -/
namespace Pw
open PySem PySem.Spec L2 Mo Lw
def rD (r : List Int) : D := .tup (iL r)
end Pw
set_option Elab.async false
set_option linter.all false
set_option maxRecDepth 100000
set_option maxHeartbeats 4000000
set_option exponentiation.threshold 9000
/-! Pw, part eleven: the law. -/
namespace Pw
open PySem PySem.Spec L2 Mo Lw
end Pw
set_option Elab.async false
set_option linter.all false
set_option maxRecDepth 100000
set_option maxHeartbeats 4000000
set_option exponentiation.threshold 9000
namespace Lp
open PySem PySem.Spec L2
/-! ### numbers as texts -/
theorem tw_none {α : Type} {f : α → Bool} : ∀ {l : List α}, (∀ a ∈ l, f a = false) → l.takeWhile f = []
  | [], _ => rfl
  | a :: r, h => by rw [List.takeWhile_cons, h a List.mem_cons_self]; rfl
theorem tw_app {α : Type} {f : α → Bool} : ∀ {l r : List α}, (∀ a ∈ l, f a = true) → (∀ a ∈ r, f a = false) → (l ++ r).takeWhile f = l
  | [], r, _, h => tw_none h
  | a :: l, r, h1, h2 => by
    rw [List.cons_append, List.takeWhile_cons, h1 a List.mem_cons_self]
    show a :: (l ++ r).takeWhile f = a :: l
    rw [tw_app (fun b m => h1 b (List.mem_cons_of_mem _ m)) h2]
theorem cps_len (x : Str) : x.length = x.cps.toList.length := by
  show x.cps.size = _
  exact (Array.length_toList).symm
theorem strip_len {goes : Nat → Bool} {x : Str} {a b : List Nat} (h : x.cps.toList = a ++ b) (h1 : ∀ c ∈ a, goes c = true) (h2 : ∀ c ∈ b, goes c = false) : (Txt.stripBy goes true true x).length = b.length := by
  have lx : x.length = a.length + b.length := by rw [cps_len, h, List.length_append]
  have lo : stripLo goes true x = a.length := by
    unfold stripLo
    rw [if_pos rfl, h, tw_app h1 h2]
  have hi : stripHi goes true x a.length = x.length := by
    unfold stripHi
    rw [if_pos rfl, h, List.drop_left, tw_none fun c m => h2 c (List.mem_reverse.mp m)]
    rfl
  unfold Txt.stripBy
  split
  · rename_i e
    unfold stripSame at e
    rw [lo, Bool.and_eq_true, beq_iff_eq] at e
    have := e.1
    omega
  · unfold stripped
    rw [lo, hi]
    show (x.cps.extract a.length x.length).size = _
    rw [Array.size_extract]
    have : x.cps.size = x.length := rfl
    omega
end Lp
set_option Elab.async false
set_option linter.all false
set_option maxRecDepth 100000
set_option maxHeartbeats 4000000
set_option exponentiation.threshold 9000
/-! Qw, part five: texts judged; the first row; the row of a text. -/
namespace Qw
open PySem PySem.Spec L2 Mo Lw Pw
def startR (p : Pl) : List Int := p.states.map fun s => if s ∈ p.fs then 0 else -1
/-- a text of letters, not too long -/
structure TxtOk (t : Str) : Prop where
  az : ∀ c ∈ t.cps.toList, 97 ≤ c ∧ c ≤ 122
  len : t.length ≤ 4000
def capR (cap : Int) (row : List Int) : List Int := row.map fun v => min v (cap + 1)
def RowOfS (C : Addr) (F : FD) : Prop := ∀ (p : Pl) (n : Nat) (d : D) (cap : Int) (t : Str) (c : C3), Mach C p n d → 0 ≤ cap → cap ≤ 200 → TxtOk t → ∃ ys : List Arc, ys.Perm p.arcs ∧ F [d, .int cap, .str t] c = some (.tup (iL (capR cap (trR ys p.states (startR p) (signsS t)))), c)
end Qw
set_option Elab.async false
set_option linter.all false
set_option maxRecDepth 100000
set_option maxHeartbeats 4000000
set_option exponentiation.threshold 9000
/-! Qw, part six: the written machines. -/
namespace Qw
open PySem PySem.Spec L2 Mo Lw Pw
end Qw
set_option Elab.async false
set_option linter.all false
set_option maxRecDepth 100000
set_option maxHeartbeats 4000000
set_option exponentiation.threshold 9000
/-! Qw, part seven: written or drawn machines. -/
namespace Qw
open PySem PySem.Spec L2 Mo Lw Pw
theorem sz {k : Nat} (h : k ≤ 1000) : k ≤ sizeLine := by rw [sizeLine_eq]; omega
theorem PlOk.mono {p : Pl} {n m : Nat} (h : PlOk p n) (le : n ≤ m) : PlOk p m := by
  obtain ⟨names, h1, h2, h3⟩ := h.all
  exact ⟨h.fs, h.ls, ⟨names, h1, Nat.le_trans h2 le, h3⟩, h.few⟩
end Qw
set_option Elab.async false
set_option linter.all false
set_option maxRecDepth 100000
set_option maxHeartbeats 4000000
set_option exponentiation.threshold 9000
/-! Qw, part eight: ways along texts, and rows that tell the least of them. -/
namespace Qw
open PySem PySem.Spec L2 Mo Lw Pw
/-- a way from a to b along the letters costs v -/
def Wy (xs : List Arc) : Str → List Str → Str → Int → Prop
  | a, [], b, v => a = b ∧ v = 0
  | a, l :: ls, b, v => ∃ x ∈ xs, x.a = a ∧ x.l = l ∧ ∃ w, Wy xs x.b ls b w ∧ v = x.p + w
/-- from a first state -/
def Fw (p : Pl) (ls : List Str) (b : Str) (v : Int) : Prop := ∃ f ∈ p.fs, Wy p.arcs f ls b v
/-- the row tells the least prices -/
structure RowSem (p : Pl) (ls : List Str) (row : List Int) : Prop where
  len : row.length = p.states.length
  at' : ∀ (i : Nat) s v, p.states[i]? = some s → row[i]? = some v → IsMin (Fw p ls s) v
theorem ends_mem {xs : List Arc} {x : Arc} (m : x ∈ xs) : x.a ∈ endsOf xs ∧ x.b ∈ endsOf xs :=
  ⟨List.mem_flatMap.mpr ⟨x, m, by simp⟩, List.mem_flatMap.mpr ⟨x, m, by simp⟩⟩
theorem arc_states {p : Pl} {x : Arc} (m : x ∈ p.arcs) : x.a ∈ p.states ∧ x.b ∈ p.states := by
  obtain ⟨h1, h2⟩ := ends_mem m
  exact ⟨sortU_mem.mpr (List.mem_append_right _ h1), sortU_mem.mpr (List.mem_append_right _ h2)⟩
end Qw
set_option Elab.async false
set_option linter.all false
set_option maxRecDepth 100000
set_option maxHeartbeats 4000000
set_option exponentiation.threshold 9000
/-! Qw, part nine: the law's own rows and prices, letter by letter. -/
namespace Qw
open PySem PySem.Spec L2 Mo Lw Pw
def LetOk (t : Str) : Prop := ∀ l ∈ signsS t, l ∈ lets4
theorem names_nd {ss : List Str} (h : NamesOk ss) : ss.Nodup := h.up.imp fun {a b} h e => by
  subst e
  exact absurd h (by simp)
theorem RowSem.of {p : Pl} {ls : List Str} {f : Str → Int} (h : ∀ s, IsMin (Fw p ls s) (f s)) : RowSem p ls (p.states.map f) := ⟨List.length_map _, fun i s v h1 h2 => by
  rw [List.getElem?_map, h1] at h2
  cases h2
  exact h s⟩
end Qw
set_option Elab.async false
set_option linter.all false
set_option maxRecDepth 100000
set_option maxHeartbeats 4000000
set_option exponentiation.threshold 9000
/-! Qw, part ten: all ways along a text. -/
namespace Qw
open PySem PySem.Spec L2 Mo Lw Pw
structure Way where
  i : List Str
  b : Str
  v : Int
end Qw
set_option Elab.async false
set_option linter.all false
set_option maxRecDepth 100000
set_option maxHeartbeats 4000000
set_option exponentiation.threshold 9000
/-! Qw, part eleven: the row that all ways force. -/
namespace Qw
open PySem PySem.Spec L2 Mo Lw Pw
end Qw
set_option Elab.async false
set_option linter.all false
set_option maxRecDepth 100000
set_option maxHeartbeats 4000000
set_option exponentiation.threshold 9000
/-! Qw, part twelve: a row is right. -/
namespace Qw
open PySem PySem.Spec L2 Mo Lw Pw
structure TxG (t : Str) : Prop where
  lets : LetOk t
  len : t.length ≤ 1000
theorem sign_az {q : Nat} (h : (⟨#[q]⟩ : Str) ∈ lets4) : 97 ≤ q ∧ q ≤ 122 := by
  have ca : ("a" : Str) = ⟨#[97]⟩ := by decide +kernel
  have cb : ("b" : Str) = ⟨#[98]⟩ := by decide +kernel
  have cc : ("c" : Str) = ⟨#[99]⟩ := by decide +kernel
  have cz : ("z" : Str) = ⟨#[122]⟩ := by decide +kernel
  unfold lets4 at h
  rw [ca, cb, cc, cz] at h
  simp at h
  omega
theorem TxG.ok {t : Str} (h : TxG t) : TxtOk t := ⟨fun q m => sign_az (h.lets _ (List.mem_map.mpr ⟨q, m, rfl⟩)), by have := h.len; omega⟩
theorem TxG.str {t : Str} (h : TxG t) : PyData.strOk t = true := strOk_of fun q m => by have := h.ok.az q m; omega
end Qw
set_option Elab.async false
set_option linter.all false
set_option maxRecDepth 100000
set_option maxHeartbeats 4000000
set_option exponentiation.threshold 9000
/-! Qw, part thirteen: the texts that are asked. -/
namespace Qw
open PySem PySem.Spec L2 Mo Lw Pw
theorem signs_app (t u : Str) : signsS (t ++ u) = signsS t ++ signsS u := by
  unfold signsS
  rw [PyProof.Rows.cps_toList_append, List.map_append]
/-! ### a drawn text -/
end Qw
set_option Elab.async false
set_option linter.all false
set_option maxRecDepth 100000
set_option maxHeartbeats 4000000
set_option exponentiation.threshold 9000
/-! Rw, part one: dicts from texts to texts; new names. -/
namespace Rw
open PySem PySem.Spec L2 Mo Lw Pw Qw
/-! ### the new names -/
def qnames : List Str := (["qa", "qb", "qc", "qd", "qe", "qf", "qg", "qh", "qi", "qj", "qk", "ql"] : List Str) ++ (["qm", "qn", "qo", "qp", "qq", "qr", "qs", "qt", "qu", "qv", "qw", "qx"] : List Str)
def qn (i : Nat) : Str := qnames.getD i "qa"
theorem all24 {p : Nat → Bool} (h : (List.range 24).all p = true) (i : Nat) (hi : i < 24) : p i = true := List.all_eq_true.mp h i (List.mem_range.mpr hi)
theorem qn_pool (i : Nat) (hi : i < 24) : qn i ∈ namePool := of_decide_eq_true (all24 (p := fun i => decide (qn i ∈ namePool)) (by decide +kernel) i hi)
theorem qn_lt (i j : Nat) (hi : i < 24) (hj : j < 24) (h : i < j) : (qn i).cps.toList < (qn j).cps.toList := by
  have := all24 (p := fun i => (List.range 24).all fun j => decide (i < j → (qn i).cps.toList < (qn j).cps.toList)) (by decide +kernel) i hi
  exact of_decide_eq_true (all24 this j hj) h
theorem qn_inj (i j : Nat) (hi : i < 24) (hj : j < 24) (h : qn i = qn j) : i = j := by
  rcases Nat.lt_trichotomy i j with l | e | l
  · have := qn_lt i j hi hj l
    rw [h] at this
    exact absurd this (by simp)
  · exact e
  · have := qn_lt j i hj hi l
    rw [h] at this
    exact absurd this (by simp)
end Rw
set_option Elab.async false
set_option linter.all false
set_option maxRecDepth 100000
set_option maxHeartbeats 4000000
set_option exponentiation.threshold 9000
/-! Rw, part two: names made, ends and arcs named anew. -/
namespace Rw
open PySem PySem.Spec L2 Mo Lw Pw Qw
end Rw
set_option Elab.async false
set_option linter.all false
set_option maxRecDepth 100000
set_option maxHeartbeats 4000000
set_option exponentiation.threshold 9000
/-! Rw, part three: the machine of pieces. -/
namespace Rw
open PySem PySem.Spec L2 Mo Lw Pw Qw
theorem mem_states {p : Pl} {x : Str} : x ∈ p.states ↔ x ∈ p.fs ∨ x ∈ p.ls ∨ ∃ y ∈ p.arcs, y.a = x ∨ y.b = x := by
  refine sortU_mem.trans ?_
  unfold Pl.all
  simp only [List.mem_append, mem_ends, List.mem_map, or_assoc]
  refine or_congr Iff.rfl (or_congr Iff.rfl ⟨?_, ?_⟩)
  · rintro (⟨y, m, e⟩ | ⟨y, m, e⟩)
    · exact ⟨y, m, .inl e⟩
    · exact ⟨y, m, .inr e⟩
  · rintro ⟨y, m, e | e⟩
    · exact .inl ⟨y, m, e⟩
    · exact .inr ⟨y, m, e⟩
theorem fs_states {p : Pl} {x : Str} (m : x ∈ p.fs) : x ∈ p.states := mem_states.mpr (.inl m)
theorem ls_states {p : Pl} {x : Str} (m : x ∈ p.ls) : x ∈ p.states := mem_states.mpr (.inr (.inl m))
theorem arc_states {p : Pl} {x : Arc} (m : x ∈ p.arcs) : x.a ∈ p.states ∧ x.b ∈ p.states := ⟨mem_states.mpr (.inr (.inr ⟨x, m, .inl rfl⟩)), mem_states.mpr (.inr (.inr ⟨x, m, .inr rfl⟩))⟩
/-! ### puts whose price is told by the state behind -/
def pcP (b : Str) : Int := if b = "qa" then 1 else 0
structure Gd (xs : List Arc) : Prop where
  nd : xs.Pairwise fun x y => ¬ sameA x y.a y.l y.b
  pr : ∀ z ∈ xs, z.p = pcP z.b
theorem Gd.nil : Gd [] := ⟨.nil, fun _ m => nomatch m⟩
theorem Gd.cases {xs : List Arc} (h : Gd xs) (a l b : Str) : (putA xs a l b (pcP b) = xs ∧ (⟨a, l, b, pcP b⟩ : Arc) ∈ xs) ∨ (putA xs a l b (pcP b) = xs ++ [⟨a, l, b, pcP b⟩] ∧ ∀ x ∈ xs, ¬ sameA x a l b) := by
  unfold putA
  split
  · rename_i q
    obtain ⟨x, m, e⟩ := List.any_eq_true.mp q
    have e := of_decide_eq_true e
    refine .inl ⟨?_, ?_⟩
    · refine (List.map_congr_left fun y my => ?_).trans (List.map_id xs)
      by_cases hy : sameA y a l b
      · rw [if_pos hy, ← hy.2.2, ← h.pr y my]
        rfl
      · rw [if_neg hy]
        rfl
    · have : x = ⟨a, l, b, pcP b⟩ := by
        have hp := h.pr x m
        obtain ⟨xa, xl, xb, xp⟩ := x
        obtain ⟨e1, e2, e3⟩ := e
        simp only at e1 e2 e3 hp
        subst e1 e2 e3 hp
        rfl
      rw [← this]
      exact m
  · rename_i q
    exact .inr ⟨rfl, fun x m z => q (List.any_eq_true.mpr ⟨x, m, decide_eq_true z⟩)⟩
theorem Gd.mem {xs : List Arc} (h : Gd xs) (a l b : Str) {z : Arc} : z ∈ putA xs a l b (pcP b) ↔ z ∈ xs ∨ z = ⟨a, l, b, pcP b⟩ := by
  rcases h.cases a l b with ⟨e, m⟩ | ⟨e, _⟩
  · rw [e]
    exact ⟨.inl, fun q => q.elim id fun e => e ▸ m⟩
  · rw [e, List.mem_append, List.mem_singleton]
theorem Gd.put {xs : List Arc} (h : Gd xs) (a l b : Str) : Gd (putA xs a l b (pcP b)) := by
  refine ⟨?_, fun z m => ?_⟩
  · rcases h.cases a l b with ⟨e, m⟩ | ⟨e, n⟩
    · rw [e]
      exact h.nd
    · rw [e, List.pairwise_append]
      refine ⟨h.nd, List.pairwise_singleton _ _, fun x m y my => ?_⟩
      cases List.mem_singleton.mp my
      exact n x m
  · rcases (h.mem a l b).mp m with m | rfl
    · exact h.pr z m
    · rfl
/-- places out of small sets are few -/
def cube (A L B : List Str) : List (Str × Str × Str) := A.flatMap fun a => L.flatMap fun l => B.map fun b => (a, l, b)
theorem cube_len (A L B : List Str) : (cube A L B).length = A.length * (L.length * B.length) := by
  have h1 : ∀ (a : Str), (L.flatMap fun l => B.map fun b => (a, l, b)).length = L.length * B.length := fun a => by
    induction L with
    | nil => simp
    | cons l L ih => rw [List.flatMap_cons, List.length_append, ih, List.length_map, List.length_cons, Nat.succ_mul, Nat.add_comm]
  unfold cube
  induction A with
  | nil => simp
  | cons a A ih => rw [List.flatMap_cons, List.length_append, ih, h1, List.length_cons, Nat.succ_mul, Nat.add_comm]
theorem nd_len {xs : List Arc} {A L : List Str} (nd : xs.Pairwise fun x y => ¬ sameA x y.a y.l y.b) (h : ∀ x ∈ xs, x.a ∈ A ∧ x.l ∈ L ∧ x.b ∈ A) : xs.length ≤ A.length * (L.length * A.length) := by
  rw [← cube_len]
  have n2 : (xs.map fun x => (x.a, x.l, x.b)).Nodup := by
    unfold List.Nodup
    rw [List.pairwise_map]
    refine nd.imp fun {x y} n e => n ?_
    simp only [Prod.mk.injEq] at e
    exact e
  have key : ∀ {us vs : List (Str × Str × Str)}, us.Nodup → (∀ x ∈ us, x ∈ vs) → us.length ≤ vs.length := fun {us vs} n s => by
    induction us generalizing vs with
    | nil => exact Nat.zero_le _
    | cons x us ih =>
      obtain ⟨h1, h2⟩ := List.nodup_cons.mp n
      have m := s x List.mem_cons_self
      have := ih (vs := vs.erase x) h2 fun y my => (List.mem_erase_of_ne fun e : y = x => h1 (e ▸ my)).mpr (s y (List.mem_cons_of_mem _ my))
      rw [List.length_erase_of_mem m] at this
      have p := List.length_pos_of_mem m
      simp
      omega
  have := key (vs := cube A L A) n2 fun q m => by
    obtain ⟨x, mx, rfl⟩ := List.mem_map.mp m
    obtain ⟨h1, h2, h3⟩ := h x mx
    exact List.mem_flatMap.mpr ⟨x.a, h1, List.mem_flatMap.mpr ⟨x.l, h2, List.mem_map.mpr ⟨x.b, h3, rfl⟩⟩⟩
  rwa [List.length_map] at this
end Rw
set_option Elab.async false
set_option linter.all false
set_option maxRecDepth 100000
set_option maxHeartbeats 8000000
set_option exponentiation.threshold 9000
/-! Rw, part four: the machine of pieces, made. -/
namespace Rw
open PySem PySem.Spec L2 Mo Lw Pw Qw
end Rw
set_option Elab.async false
set_option linter.all false
set_option maxRecDepth 100000
set_option maxHeartbeats 8000000
set_option exponentiation.threshold 9000
/-! Rw, part five: pieces by the law's own cuts. -/
namespace Rw
open PySem PySem.Spec L2 Mo Lw Pw Qw
end Rw
set_option Elab.async false
set_option linter.all false
set_option maxRecDepth 100000
set_option maxHeartbeats 8000000
set_option exponentiation.threshold 9000
/-! Rw, part six: one price for all arcs; == of machines. -/
namespace Rw
open PySem PySem.Spec L2 Mo Lw Pw Qw
end Rw
set_option Elab.async false
set_option linter.all false
set_option maxRecDepth 100000
set_option maxHeartbeats 4000000
set_option exponentiation.threshold 9000
/-! Sw, part one: new names for pairs of states. -/
namespace Sw
open PySem PySem.Spec L2 Mo Lw Pw Qw Rw
abbrev SS2 := Str × Str
theorem sortS_perm (xs : List Str) : (sortS xs).Perm xs := List.mergeSort_perm _ _
theorem map_nodup2 {α β : Type} {f : α → β} : ∀ {xs : List α}, xs.Nodup → (∀ x ∈ xs, ∀ y ∈ xs, f x = f y → x = y) → (xs.map f).Nodup
  | [], _, _ => List.nodup_nil
  | x :: r, nd, inj => by
    rw [List.map_cons, List.nodup_cons]
    obtain ⟨h1, h2⟩ := List.nodup_cons.mp nd
    refine ⟨fun m => ?_, map_nodup2 h2 fun a ma b mb => inj a (List.mem_cons_of_mem _ ma) b (List.mem_cons_of_mem _ mb)⟩
    obtain ⟨y, my, e⟩ := List.mem_map.mp m
    have := inj y (List.mem_cons_of_mem _ my) x List.mem_cons_self e
    rw [this] at my
    exact h1 my
def prs (A B : List Str) : List SS2 := A.flatMap fun a => B.map fun b => (a, b)
theorem mem_prs {A B : List Str} {z : SS2} : z ∈ prs A B ↔ z.1 ∈ A ∧ z.2 ∈ B := by
  unfold prs
  rw [List.mem_flatMap]
  constructor
  · rintro ⟨a, ma, m⟩
    obtain ⟨b, mb, rfl⟩ := List.mem_map.mp m
    exact ⟨ma, mb⟩
  · rintro ⟨ma, mb⟩
    exact ⟨z.1, ma, List.mem_map.mpr ⟨z.2, mb, rfl⟩⟩
theorem prs_len (A B : List Str) : (prs A B).length = A.length * B.length := by
  unfold prs
  induction A with
  | nil => simp
  | cons a A ih => rw [List.flatMap_cons, List.length_append, ih, List.length_map, List.length_cons, Nat.succ_mul, Nat.add_comm]
theorem prs_nodup {A B : List Str} (hA : A.Nodup) (hB : B.Nodup) : (prs A B).Nodup := by
  unfold prs
  induction A with
  | nil => exact List.nodup_nil
  | cons a A ih =>
    obtain ⟨h1, h2⟩ := List.nodup_cons.mp hA
    rw [List.flatMap_cons]
    refine List.nodup_append.mpr ⟨?_, ih h2, fun x mx y my e => ?_⟩
    · refine List.pairwise_map.mpr (hB.imp fun {x y} n e => n ?_)
      exact (Prod.mk.inj e).2
    · subst e
      obtain ⟨b, _, rfl⟩ := List.mem_map.mp mx
      exact h1 (mem_prs.mp my).1
def lp (fd : List (SS2 × Str)) (k : SS2) : Option Str := (fd.find? fun z => decide (z.1 = k)).map (·.2)
theorem lp_mem {k : SS2} {v : Str} : ∀ {fd : List (SS2 × Str)}, (fd.map (·.1)).Nodup → (k, v) ∈ fd → lp fd k = some v
  | [], _, m => nomatch m
  | z :: r, nd, m => by
    rw [List.map_cons, List.nodup_cons] at nd
    unfold lp
    rw [List.find?_cons]
    rcases List.mem_cons.mp m with e | m
    · cases e
      simp
    · have n : ¬ z.1 = k := fun e => nd.1 (List.mem_map.mpr ⟨_, m, e.symm⟩)
      rw [decide_eq_false n]
      exact lp_mem nd.2 m
/-- the names behind each other -/
def qp (ss : List SS2) : List (SS2 × Str) := ss.zipIdx 0 |>.map fun z => (z.1, qn z.2)
theorem qp_keys (ss : List SS2) : (qp ss).map (·.1) = ss := by
  unfold qp
  rw [List.map_map]
  show (ss.zipIdx 0).map (fun z => z.1) = ss
  simp
def nmP (ss : List SS2) (x : SS2) : Str := (lp (qp ss) x).getD "qa"
theorem nmP_of {ss : List SS2} (nd : ss.Nodup) {x : SS2} (m : x ∈ ss) : ∃ i, ss[i]? = some x ∧ i < ss.length ∧ lp (qp ss) x = some (nmP ss x) ∧ nmP ss x = qn i := by
  obtain ⟨i, hi⟩ := List.mem_iff_getElem?.mp m
  have e : lp (qp ss) x = some (qn i) := by
    refine lp_mem (by rw [qp_keys]; exact nd) ?_
    unfold qp
    refine List.mem_map.mpr ⟨(x, i), ?_, rfl⟩
    exact List.mem_iff_getElem?.mpr ⟨i, by rw [List.getElem?_zipIdx, hi]; simp⟩
  obtain ⟨hl, _⟩ := List.getElem?_eq_some_iff.mp hi
  refine ⟨i, hi, hl, ?_, ?_⟩ <;> (unfold nmP; rw [e]; rfl)
theorem nmP_inj {ss : List SS2} (nd : ss.Nodup) (hs : ss.length ≤ 24) {x y : SS2} (mx : x ∈ ss) (my : y ∈ ss) (h : nmP ss x = nmP ss y) : x = y := by
  obtain ⟨i, hi, li, _, ei⟩ := nmP_of nd mx
  obtain ⟨j, hj, lj, _, ej⟩ := nmP_of nd my
  rw [ei, ej] at h
  have := qn_inj _ _ (by omega) (by omega) h
  subst this
  rw [hi] at hj
  exact Option.some.inj hj
theorem nmP_pool {ss : List SS2} (nd : ss.Nodup) (hs : ss.length ≤ 24) {x : SS2} (m : x ∈ ss) : nmP ss x ∈ namePool := by
  obtain ⟨i, hi, li, _, ei⟩ := nmP_of nd m
  rw [ei]
  exact qn_pool _ (by omega)
/-- names that are sorted -/
theorem nmP_names {ss fs : List SS2} (nd : ss.Nodup) (hs : ss.length ≤ 24) (sub : ∀ x ∈ fs, x ∈ ss) (nf : fs.Nodup) (ne : fs ≠ []) : NamesOk (sortS (fs.map (nmP ss))) := by
  have nm : (fs.map (nmP ss)).Nodup := map_nodup2 nf fun x mx y my e => nmP_inj nd hs (sub x mx) (sub y my) e
  have pm := sortS_perm (fs.map (nmP ss))
  have lf : fs.length ≤ ss.length := by
    have key : ∀ {us vs : List SS2}, us.Nodup → (∀ x ∈ us, x ∈ vs) → us.length ≤ vs.length := fun {us vs} n s => by
      induction us generalizing vs with
      | nil => exact Nat.zero_le _
      | cons x us ih =>
        obtain ⟨h1, h2⟩ := List.nodup_cons.mp n
        have m := s x List.mem_cons_self
        have := ih (vs := vs.erase x) h2 fun y my => (List.mem_erase_of_ne fun e : y = x => h1 (e ▸ my)).mpr (s y (List.mem_cons_of_mem _ my))
        rw [List.length_erase_of_mem m] at this
        have p := List.length_pos_of_mem m
        simp
        omega
    exact key nf sub
  refine ⟨sortS_lt nm, fun x m => ?_, fun e => ?_, ?_⟩
  · obtain ⟨y, my, rfl⟩ := List.mem_map.mp (pm.subset m)
    exact nmP_pool nd hs (sub y my)
  · have := pm.length_eq
    rw [e, List.length_map] at this
    exact ne (List.length_eq_zero_iff.mp this.symm)
  · rw [pm.length_eq, List.length_map]
    omega
/-! ### made_names, the law's names, named_ends -/
end Sw
set_option Elab.async false
set_option linter.all false
set_option maxRecDepth 100000
set_option maxHeartbeats 8000000
set_option exponentiation.threshold 9000
/-! Sw, part two: the sum of two machines. -/
namespace Sw
open PySem PySem.Spec L2 Mo Lw Pw Qw Rw
def nm2 (p q : Pl) (a b : Str) : Str := nmP (prs p.states q.states) (a, b)
def mkZ (f : Str → Str → Str) (x y : Arc) : Arc := ⟨f x.a y.a, x.l, f x.b y.b, x.p + y.p⟩
def rowA (f : Str → Str → Str) (ys : List Arc) (x : Arc) : List Arc := (ys.filter fun y => decide (y.l = x.l)).map (mkZ f x)
def sumA (f : Str → Str → Str) (xs ys : List Arc) : List Arc := xs.flatMap (rowA f ys)
def sumF (p q : Pl) : List Str := sortS ((prs p.fs q.fs).map (nmP (prs p.states q.states)))
def sumL (p q : Pl) : List Str := sortS ((prs p.ls q.ls).map (nmP (prs p.states q.states)))
def sumPl (p q : Pl) (zs : List Arc) : Pl := ⟨sumF p q, sumL p q, zs⟩
theorem mem_sumA {f : Str → Str → Str} {xs ys : List Arc} {z : Arc} : z ∈ sumA f xs ys ↔ ∃ x ∈ xs, ∃ y ∈ ys, y.l = x.l ∧ z = mkZ f x y := by
  unfold sumA rowA
  rw [List.mem_flatMap]
  constructor
  · rintro ⟨x, mx, m⟩
    obtain ⟨y, my, rfl⟩ := List.mem_map.mp m
    obtain ⟨m1, m2⟩ := List.mem_filter.mp my
    exact ⟨x, mx, y, m1, of_decide_eq_true m2, rfl⟩
  · rintro ⟨x, mx, y, my, e, rfl⟩
    exact ⟨x, mx, List.mem_map.mpr ⟨y, List.mem_filter.mpr ⟨my, decide_eq_true e⟩, rfl⟩⟩
theorem rowA_len {f : Str → Str → Str} (ys : List Arc) (x : Arc) : (rowA f ys x).length ≤ ys.length := by
  unfold rowA
  rw [List.length_map]
  exact List.length_filter_le _ _
theorem sumA_len {f : Str → Str → Str} (xs ys : List Arc) : (sumA f xs ys).length ≤ xs.length * ys.length := by
  unfold sumA
  induction xs with
  | nil => simp
  | cons x xs ih =>
    have := rowA_len (f := f) ys x
    rw [List.flatMap_cons, List.length_append, List.length_cons, Nat.succ_mul]
    omega
def Inj2 (f : Str → Str → Str) (A B : List Str) : Prop := ∀ a ∈ A, ∀ b ∈ B, ∀ a' ∈ A, ∀ b' ∈ B, f a b = f a' b' → a = a' ∧ b = b'
theorem sumA_nd {f : Str → Str → Str} {xs ys : List Arc} {A B : List Str} (inj : Inj2 f A B) (hx : ∀ x ∈ xs, x.a ∈ A ∧ x.b ∈ A) (hy : ∀ y ∈ ys, y.a ∈ B ∧ y.b ∈ B) (nx : xs.Pairwise fun x y => ¬ sameA x y.a y.l y.b) (ny : ys.Pairwise fun x y => ¬ sameA x y.a y.l y.b) :
    (sumA f xs ys).Pairwise fun x y => ¬ sameA x y.a y.l y.b := by
  unfold sumA rowA
  rw [List.pairwise_flatMap]
  refine ⟨fun x mx => ?_, ?_⟩
  · rw [List.pairwise_map]
    refine (ny.filter _).imp_of_mem fun {y y'} my my' n s => n ?_
    obtain ⟨m1, l1⟩ := List.mem_filter.mp my
    obtain ⟨m2, l2⟩ := List.mem_filter.mp my'
    obtain ⟨s1, s2, s3⟩ := s
    have h1 := inj _ (hx x mx).1 _ (hy y m1).1 _ (hx x mx).1 _ (hy y' m2).1 s1
    have h2 := inj _ (hx x mx).2 _ (hy y m1).2 _ (hx x mx).2 _ (hy y' m2).2 s3
    exact ⟨h1.2, (of_decide_eq_true l1).trans (of_decide_eq_true l2).symm, h2.2⟩
  · refine nx.imp_of_mem fun {x x'} mx mx' n z mz z' mz' s => n ?_
    obtain ⟨y, my, rfl⟩ := List.mem_map.mp mz
    obtain ⟨y', my', rfl⟩ := List.mem_map.mp mz'
    obtain ⟨m1, l1⟩ := List.mem_filter.mp my
    obtain ⟨m2, l2⟩ := List.mem_filter.mp my'
    obtain ⟨s1, s2, s3⟩ := s
    have h1 := inj _ (hx x mx).1 _ (hy y m1).1 _ (hx x' mx').1 _ (hy y' m2).1 s1
    have h2 := inj _ (hx x mx).2 _ (hy y m1).2 _ (hx x' mx').2 _ (hy y' m2).2 s3
    exact ⟨h1.1, s2, h2.1⟩
structure Two (p q : Pl) (n m : Nat) : Prop where
  op : PlOk p n
  oq : PlOk q m
  st : p.states.length * q.states.length ≤ 24
  ar : p.arcs.length * q.arcs.length ≤ 1000
section
variable {p q : Pl} {n m : Nat}
theorem Two.nd (h : Two p q n m) : (prs p.states q.states).Nodup := prs_nodup sortU_nodup sortU_nodup
theorem Two.len (h : Two p q n m) : (prs p.states q.states).length ≤ 24 := by rw [prs_len]; exact h.st
theorem Two.inj (h : Two p q n m) : Inj2 (nm2 p q) p.states q.states := fun a ma b mb a' ma' b' mb' e => by
  have := nmP_inj h.nd h.len (x := (a, b)) (y := (a', b')) (mem_prs.mpr ⟨ma, mb⟩) (mem_prs.mpr ⟨ma', mb'⟩) e
  exact Prod.mk.inj this
theorem Two.names (h : Two p q n m) : NamesOk (sortS ((prs p.states q.states).map (nmP (prs p.states q.states)))) := by
  refine nmP_names h.nd h.len (fun x m => m) h.nd fun e => ?_
  have h1 : p.states ≠ [] := fun z => by
    cases f : p.fs with
    | nil => exact h.op.fs.ne f
    | cons a r =>
      have : a ∈ p.states := Rw.fs_states (by rw [f]; exact List.mem_cons_self)
      rw [z] at this
      cases this
  have h2 : q.states ≠ [] := fun z => by
    cases f : q.fs with
    | nil => exact h.oq.fs.ne f
    | cons a r =>
      have : a ∈ q.states := Rw.fs_states (by rw [f]; exact List.mem_cons_self)
      rw [z] at this
      cases this
  have := congrArg List.length e
  rw [prs_len] at this
  have a1 := List.length_pos_iff.mpr h1
  have a2 := List.length_pos_iff.mpr h2
  have := Nat.mul_pos a1 a2
  simp at *
  omega
theorem prs_ne {A B : List Str} (h1 : A ≠ []) (h2 : B ≠ []) : prs A B ≠ [] := fun e => by
  have := congrArg List.length e
  rw [prs_len] at this
  have a1 := List.length_pos_iff.mpr h1
  have a2 := List.length_pos_iff.mpr h2
  have := Nat.mul_pos a1 a2
  simp at *
  omega
theorem Two.sub (h : Two p q n m) {F G : List Str} (h1 : ∀ x ∈ F, x ∈ p.states) (h2 : ∀ x ∈ G, x ∈ q.states) : ∀ x ∈ prs F G, x ∈ prs p.states q.states := fun x m => mem_prs.mpr ⟨h1 _ (mem_prs.mp m).1, h2 _ (mem_prs.mp m).2⟩
theorem Two.fsOk (h : Two p q n m) : NamesOk (sumF p q) := nmP_names h.nd h.len (h.sub (fun _ m => Rw.fs_states m) fun _ m => Rw.fs_states m) (prs_nodup (names_nd h.op.fs) (names_nd h.oq.fs)) (prs_ne h.op.fs.ne h.oq.fs.ne)
theorem Two.lsOk (h : Two p q n m) : NamesOk (sumL p q) := nmP_names h.nd h.len (h.sub (fun _ m => Rw.ls_states m) fun _ m => Rw.ls_states m) (prs_nodup (names_nd h.op.ls) (names_nd h.oq.ls)) (prs_ne h.op.ls.ne h.oq.ls.ne)
theorem mem_sumF {s : Str} : s ∈ sumF p q ↔ ∃ a ∈ p.fs, ∃ b ∈ q.fs, s = nm2 p q a b := by
  unfold sumF
  rw [(sortS_perm _).mem_iff, List.mem_map]
  constructor
  · rintro ⟨⟨a, b⟩, m, rfl⟩
    exact ⟨a, (mem_prs.mp m).1, b, (mem_prs.mp m).2, rfl⟩
  · rintro ⟨a, ma, b, mb, rfl⟩
    exact ⟨(a, b), mem_prs.mpr ⟨ma, mb⟩, rfl⟩
theorem mem_sumL {s : Str} : s ∈ sumL p q ↔ ∃ a ∈ p.ls, ∃ b ∈ q.ls, s = nm2 p q a b := by
  unfold sumL
  rw [(sortS_perm _).mem_iff, List.mem_map]
  constructor
  · rintro ⟨⟨a, b⟩, m, rfl⟩
    exact ⟨a, (mem_prs.mp m).1, b, (mem_prs.mp m).2, rfl⟩
  · rintro ⟨a, ma, b, mb, rfl⟩
    exact ⟨(a, b), mem_prs.mpr ⟨ma, mb⟩, rfl⟩
theorem Two.zs (h : Two p q n m) {zs : List Arc} (pm : zs.Perm (sumA (nm2 p q) p.arcs q.arcs)) : zs.Pairwise fun x y => ¬ sameA x y.a y.l y.b :=
  nd_perm (sumA_nd h.inj (fun x m => Rw.arc_states m) (fun x m => Rw.arc_states m) (PlOk.nd h.op) (PlOk.nd h.oq)) pm
theorem Two.few (h : Two p q n m) {zs : List Arc} (pm : zs.Perm (sumA (nm2 p q) p.arcs q.arcs)) : zs.length ≤ 1000 := by
  rw [pm.length_eq]
  exact Nat.le_trans (sumA_len _ _) h.ar
/-- the sum is a machine where no price is too great -/
theorem Two.ok (h : Two p q n m) {zs : List Arc} (pm : zs.Perm (sumA (nm2 p q) p.arcs q.arcs)) (h9 : ∀ z ∈ sumA (nm2 p q) p.arcs q.arcs, z.p ≤ 9) : PlOk (sumPl p q zs) 24 := by
  have nn := h.names
  have memn : ∀ {a b : Str}, a ∈ p.states → b ∈ q.states → nm2 p q a b ∈ sortS ((prs p.states q.states).map (nmP (prs p.states q.states))) := fun {a b} ma mb =>
    (sortS_perm _).mem_iff.mpr (List.mem_map.mpr ⟨(a, b), mem_prs.mpr ⟨ma, mb⟩, rfl⟩)
  obtain ⟨_, _, _, _, _, okp⟩ := h.op.all
  obtain ⟨_, _, _, _, _, okq⟩ := h.oq.all
  refine ⟨h.fsOk, h.lsOk, ⟨_, nn, nn.len, fun x mx => ?_, fun x mx => ?_, h.zs pm, fun z mz => ?_⟩, h.few pm⟩
  · obtain ⟨a, ma, b, mb, rfl⟩ := mem_sumF.mp mx
    exact memn (Rw.fs_states ma) (Rw.fs_states mb)
  · obtain ⟨a, ma, b, mb, rfl⟩ := mem_sumL.mp mx
    exact memn (Rw.ls_states ma) (Rw.ls_states mb)
  · have mz' := pm.subset mz
    have z9 := h9 z mz'
    obtain ⟨x, mx, y, my, e, rfl⟩ := mem_sumA.mp mz'
    have a1 := okp.at' x mx
    have a2 := okq.at' y my
    refine ⟨memn (Rw.arc_states mx).1 (Rw.arc_states my).1, a1.2.1, memn (Rw.arc_states mx).2 (Rw.arc_states my).2, ?_, z9⟩
    show 0 ≤ x.p + y.p
    have := a1.2.2.2.1
    have := a2.2.2.2.1
    omega
end
/-! ### comprehensions over pairs -/
end Sw
set_option Elab.async false
set_option linter.all false
set_option maxRecDepth 100000
set_option maxHeartbeats 8000000
set_option exponentiation.threshold 9000
/-! Sw, part three: the law's own sum. -/
namespace Sw
open PySem PySem.Spec L2 Mo Lw Pw Qw Rw
end Sw
set_option Elab.async false
set_option linter.all false
set_option maxRecDepth 100000
set_option maxHeartbeats 8000000
set_option exponentiation.threshold 9000
/-! Sw, part four: a + b of machines, or why not. -/
namespace Sw
open PySem PySem.Spec L2 Mo Lw Pw Qw Rw
/-! ### a + b -/
end Sw
set_option Elab.async false
set_option linter.all false
set_option maxRecDepth 100000
set_option maxHeartbeats 8000000
set_option exponentiation.threshold 9000
/-! Rw, part seven: the price of a text. -/
namespace Rw
open PySem PySem.Spec L2 Mo Lw Pw Qw
end Rw
set_option Elab.async false
set_option linter.all false
set_option maxRecDepth 100000
set_option maxHeartbeats 8000000
set_option exponentiation.threshold 9000
/-! Sw, part five: what a sum takes, and how often. -/
namespace Sw
open PySem PySem.Spec L2 Mo Lw Pw Qw Rw
/-! ### the machine of one state that takes all texts -/
/-! ### how many runs -/
end Sw
set_option Elab.async false
set_option linter.all false
set_option maxRecDepth 100000
set_option maxHeartbeats 8000000
set_option exponentiation.threshold 9000
/-! Sw, part six: runs counted, by the program and by the law. -/
namespace Sw
open PySem PySem.Spec L2 Mo Lw Pw Qw Rw
/-! ### dicts whose keys are tuples of numbers -/
end Sw
set_option Elab.async false
set_option linter.all false
set_option maxRecDepth 100000
set_option maxHeartbeats 8000000
set_option exponentiation.threshold 9000
/-! Sw, part seven: runs_of, and the law's number of runs. -/
namespace Sw
open PySem PySem.Spec L2 Mo Lw Pw Qw Rw
end Sw
set_option Elab.async false
set_option linter.all false
set_option maxRecDepth 100000
set_option maxHeartbeats 8000000
set_option exponentiation.threshold 9000
/-! Rw, part nine: what the machine of pieces takes. -/
namespace Rw
open PySem PySem.Spec L2 Mo Lw Pw Qw
end Rw
set_option Elab.async false
set_option linter.all false
set_option maxRecDepth 100000
set_option maxHeartbeats 8000000
set_option exponentiation.threshold 9000
/-! Rw, part ten: all texts of some letters. -/
namespace Rw
open PySem PySem.Spec L2 Mo Lw Pw Qw
def jn (ls : List Str) : Str := ls.foldl (fun x y => x ++ y) ""
theorem signs_inj {t u : Str} (h : signsS t = signsS u) : t = u := by
  refine str_ext ?_
  unfold signsS at h
  have h2 := congrArg (fun l => l.map fun x : Str => x.cps.toList) h
  simp only [List.map_map] at h2
  have e : ((fun x : Str => x.cps.toList) ∘ fun c => (⟨#[c]⟩ : Str)) = fun c => [c] := rfl
  rw [e] at h2
  have key : ∀ xs ys : List Nat, xs.map (fun c => [c]) = ys.map (fun c => [c]) → xs = ys := fun xs => by
    induction xs with
    | nil => intro ys q; cases ys with
      | nil => rfl
      | cons y r => cases q
    | cons x xs ih => intro ys q; cases ys with
      | nil => cases q
      | cons y r =>
        rw [List.map_cons, List.map_cons, List.cons.injEq] at q
        obtain ⟨q1, q2⟩ := q
        rw [List.cons.injEq] at q1
        rw [q1.1, ih r q2]
  exact key _ _ h2
end Rw
set_option Elab.async false
set_option linter.all false
set_option maxRecDepth 100000
set_option maxHeartbeats 8000000
set_option exponentiation.threshold 9000
/-! Sw, part eight: the law's own number of runs, lower prices, prices added, texts. -/
namespace Sw
open PySem PySem.Spec L2 Mo Lw Pw Qw Rw
/-! ### lower prices -/
/-! ### all texts -/
end Sw
set_option Elab.async false
set_option linter.all false
set_option maxRecDepth 100000
set_option maxHeartbeats 16000000
set_option exponentiation.threshold 9000
/-! Sw, part nine: one pair of machines. -/
namespace Sw
open PySem PySem.Spec L2 Mo Lw Pw Qw Rw
/-! ### a machine that is written or drawn, small -/
end Sw
set_option Elab.async false
set_option linter.all false
set_option maxRecDepth 100000
set_option maxHeartbeats 16000000
set_option exponentiation.threshold 9000
/-! Sw, part ten: the law. -/
namespace Sw
open PySem PySem.Spec L2 Mo Lw Pw Qw Rw
end Sw
set_option Elab.async false
set_option linter.all false
set_option maxRecDepth 100000
set_option maxHeartbeats 8000000
set_option exponentiation.threshold 9000
/-! Tw, part one: names, whatever is asked; the items of a way; what a way costs. -/
namespace Tw
open PySem PySem.Spec L2 Mo Lw Pw Qw Rw Sw
/-! ### names -/
/-! ### what a way costs -/
end Tw
set_option Elab.async false
set_option linter.all false
set_option maxRecDepth 100000
set_option maxHeartbeats 8000000
set_option exponentiation.threshold 9000
/-! Tw, part two: the law's own walk along a way. -/
namespace Tw
open PySem PySem.Spec L2 Mo Lw Pw Qw Rw Sw
/-! ### items compared with none -/
/-! ### which items are no states -/
/-! ### a text's letters -/
theorem signs_len (t : Str) : (signsS t).length = t.length := by
  unfold signsS
  rw [List.length_map, Array.length_toList]
  rfl
end Tw
set_option Elab.async false
set_option linter.all false
set_option maxRecDepth 100000
set_option maxHeartbeats 8000000
set_option exponentiation.threshold 9000
/-! Tw, part three: is it a way, and what it costs, by the program. -/
namespace Tw
open PySem PySem.Spec L2 Mo Lw Pw Qw Rw Sw
/-! ### the places of a way -/
/-! ### is it a cheapest way -/
/-! ### the price of a way, or InvalidOperation -/
end Tw
set_option Elab.async false
set_option linter.all false
set_option maxRecDepth 100000
set_option maxHeartbeats 8000000
set_option exponentiation.threshold 9000
/-! Tw, part four: a drawn text and a way along it. -/
namespace Tw
open PySem PySem.Spec L2 Mo Lw Pw Qw Rw Sw
end Tw
set_option Elab.async false
set_option linter.all false
set_option maxRecDepth 100000
set_option maxHeartbeats 8000000
set_option exponentiation.threshold 9000
/-! Tw, part five: a value near a way. -/
namespace Tw
open PySem PySem.Spec L2 Mo Lw Pw Qw Rw Sw
end Tw
set_option Elab.async false
set_option linter.all false
set_option maxRecDepth 100000
set_option maxHeartbeats 8000000
set_option exponentiation.threshold 9000
/-! Tw, part six: the law at one machine. -/
namespace Tw
open PySem PySem.Spec L2 Mo Lw Pw Qw Rw Sw
end Tw
set_option Elab.async false
set_option linter.all false
set_option maxRecDepth 100000
set_option maxHeartbeats 8000000
set_option exponentiation.threshold 9000
/-! Tw, part seven: machines, and the law k10. -/
namespace Tw
open PySem PySem.Spec L2 Mo Lw Pw Qw Rw Sw
/-! ### at the counting machine -/
end Tw
set_option Elab.async false
set_option linter.all false
set_option maxRecDepth 100000
set_option maxHeartbeats 8000000
set_option exponentiation.threshold 9000
/-! Tx, part one: the rows along a text, one by one. -/
namespace Tx
open PySem PySem.Spec L2 Mo Lw Pw Qw Rw Sw Tw
def chain (ys : List Arc) (ss : List Str) : List Int → Int → List Str → List (List Int × Int)
  | r, f, [] => [(r, f)]
  | r, f, l :: ls => (r, f) :: chain ys ss (lowR (nextR ys ss r l)) (fallOf (nextR ys ss r l)) ls
/-! ### the rows by their places -/
end Tx
set_option Elab.async false
set_option linter.all false
set_option maxRecDepth 100000
set_option maxHeartbeats 8000000
set_option exponentiation.threshold 9000
/-! Tx, part two: back along the rows. -/
namespace Tx
open PySem PySem.Spec L2 Mo Lw Pw Qw Rw Sw Tw
end Tx
set_option Elab.async false
set_option linter.all false
set_option maxRecDepth 100000
set_option maxHeartbeats 8000000
set_option exponentiation.threshold 9000
/-! Tx, part three: the cheapest way, by the program. -/
namespace Tx
open PySem PySem.Spec L2 Mo Lw Pw Qw Rw Sw Tw
end Tx
set_option Elab.async false
set_option linter.all false
set_option maxRecDepth 100000
set_option maxHeartbeats 8000000
set_option exponentiation.threshold 9000
/-! Tx, part four: all ways along a text, one by one. -/
namespace Tx
open PySem PySem.Spec L2 Mo Lw Pw Qw Rw Sw Tw
end Tx
set_option Elab.async false
set_option linter.all false
set_option maxRecDepth 100000
set_option maxHeartbeats 8000000
set_option exponentiation.threshold 9000
/-! Tx, part five: what the ways are, and how many. -/
namespace Tx
open PySem PySem.Spec L2 Mo Lw Pw Qw Rw Sw Tw
/-! ### how many -/
def num (ws : List Way) (b : Str) : Int := ((ws.filter fun w => decide (w.b = b)).length : Nat)
end Tx
set_option Elab.async false
set_option linter.all false
set_option maxRecDepth 100000
set_option maxHeartbeats 8000000
set_option exponentiation.threshold 9000
/-! Tx, part six: what is told, what is taken, the runs, the price of a run. -/
namespace Tx
open PySem PySem.Spec L2 Mo Lw Pw Qw Rw Sw Tw
def isInt : D → Bool
  | .int _ => true
  | _ => false
end Tx
set_option Elab.async false
set_option linter.all false
set_option maxRecDepth 100000
set_option maxHeartbeats 8000000
set_option exponentiation.threshold 9000
/-! Tx, part seven: what is equal. -/
namespace Tx
open PySem PySem.Spec L2 Mo Lw Pw Qw Rw Sw Tw
/-- data that may be compared -/
def Lay (d : D) (x : PyData) : Prop := d.py = some x ∧ x.canLay0 = true ∧ x.depth ≤ 20
theorem lay_shaped {d : D} {x : PyData} (h : Lay d x) : SeqAt.shaped x = true := by
  unfold SeqAt.shaped
  rw [h.2.1, Bool.true_and]
  exact decide_eq_true (Nat.le_trans h.2.2 (by decide))
theorem fEq_lay {neg : Bool} {d e : D} {x y : PyData} (h : Lay d x) (h2 : Lay e y) : fEq neg d e = some (.bl (if neg then !PyData.eqv x y else PyData.eqv x y)) := by
  unfold fEq
  rw [h.1, h2.1]
  show (if (SeqAt.shaped x && SeqAt.shaped y) = true then _ else _) = _
  rw [lay_shaped h, lay_shaped h2]
  rfl
theorem lay_tupS {ss : List Str} (h : OkS ss) : Lay (.tup (sL ss)) (.tuple (ss.map .str)) ∧ (PyData.tuple (ss.map .str)).depth ≤ 10 := by
  have hd : (PyData.tuple (ss.map .str)).depth = 1 := by
    show PyData.depthAll (ss.map .str) + 1 = 1
    rw [dep_strs]
  refine ⟨⟨?_, lay_strs h, by rw [hd]; decide⟩, by rw [hd]; decide⟩
  show (D.pys (sL ss)).map PyData.tuple = _
  rw [pys_strs]
  rfl
end Tx
set_option Elab.async false
set_option linter.all false
set_option maxRecDepth 100000
set_option maxHeartbeats 4000000
set_option exponentiation.threshold 9000
/-! Uw, part one: costs as data; their words. -/
namespace Uw
open PySem PySem.Spec L2 Mo Lw Pw Qw Rw Sw Tw Tx
/-- rows of numbers as data -/
def ctD (rows : List (List Int)) : D := .tup (rows.map rD)
/-! ### words -/
noncomputable def mSized : M Oc := (seq (mRet (mAnd (mIsi "tuple" (mName 0)) (mChain iLe iLe (ret (.int 1)) (mCall fLen (mCons (mName 0) (ret []))) (ret (.int 24))))) (ret .nx))
def SizedS (F : FD) : Prop := ∀ xs : List D, 1 ≤ xs.length → xs.length ≤ 24 → Tr F [.tup xs]
theorem sized_spec : SizedS (runM false 1 1 mSized) := fun xs h1 h2 c => by
  refine run_pure rfl ?_
  have a1 : (1 : Int) ≤ xs.length := by omega
  have a2 : (xs.length : Int) ≤ 24 := by omega
  simp [mSized, ev_name_v, isi_tt, a1, a2]
@[simp] theorem isZ_tup {C : Addr} {Os : List Addr} {xs : List D} : fIsZ C Os (.tup xs) = some (.bl false) := rfl
@[simp] theorem isZ_non {C : Addr} {Os : List Addr} : fIsZ C Os .non = some (.bl false) := rfl
/-- costs, made -/
def cO (Cc : Addr) (rows : List (List Int)) : D := .ins Cc [("_rows", ctD rows)]
@[simp] theorem fld_cO {Cc : Addr} {rows : List (List Int)} : fldD Cc "_rows" (cO Cc rows) = some (ctD rows) := by
  unfold fldD cO
  simp [getF]
end Uw
set_option Elab.async false
set_option linter.all false
set_option maxRecDepth 100000
set_option maxHeartbeats 4000000
set_option exponentiation.threshold 9000
/-! Uw, part two: costs told, read and compared; signs. -/
namespace Uw
open PySem PySem.Spec L2 Mo Lw Pw Qw Rw Sw Tw Tx
/-! ### entries -/
/-! ### equal -/
@[simp] theorem isZ_self {Cc : Addr} {Os : List Addr} {rows : List (List Int)} : fIsZ Cc Os (cO Cc rows) = some (.bl true) := if_pos rfl
end Uw
set_option Elab.async false
set_option linter.all false
set_option maxRecDepth 100000
set_option maxHeartbeats 4000000
set_option exponentiation.threshold 9000
/-! Uw, part three: signs and squares. -/
namespace Uw
open PySem PySem.Spec L2 Mo Lw Pw Qw Rw Sw Tw Tx
/-! ### texts of single signs -/
theorem signs_joinG {ls : List Str} (h : ∀ l ∈ ls, signsS l = [l]) : signsS (Txt.join "" ls) = ls := by
  have e0 : ("" : Str) = ⟨#[]⟩ := by decide +kernel
  have e1 : Txt.join "" ls = Str.join ⟨#[]⟩ ls := by
    rw [e0]
    exact PySem.StrLaws.glued_eq_join _ _
  rw [e1]
  clear e1
  induction ls with
  | nil => rfl
  | cons l r ih =>
    rw [PyProof.Rows.join_nil_cons, signs_app, h l List.mem_cons_self, ih fun x m => h x (List.mem_cons_of_mem _ m)]
    rfl
theorem one_len {l : Str} (h : signsS l = [l]) : l.length = 1 := by
  rw [← Tw.signs_len, h]
  rfl
theorem fjoinG {ls : List Str} (h : ∀ l ∈ ls, signsS l = [l]) (hl : ls.length ≤ 1000) : fJoin (.str "") (.lst (sL ls)) = some (.str (Txt.join "" ls)) := by
  have e : (seqD (.lst (sL ls))).bind asStrs = some ls := asStrs_map ls
  have l0 : ("" : Str).length = 0 := by decide +kernel
  have sm : ∀ {ls : List Str}, (∀ l ∈ ls, signsS l = [l]) → (ls.map (·.length)).sum = ls.length := fun {ls} h => by
    induction ls with
    | nil => rfl
    | cons l r ih =>
      rw [List.map_cons, List.sum_cons, ih (fun x m => h x (List.mem_cons_of_mem _ m)), one_len (h l List.mem_cons_self), List.length_cons]
      omega
  show (match (seqD (.lst (sL ls))).bind asStrs with
    | some ys => if (ys.map fun s : Str => s.length).sum + ys.length * ("" : Str).length ≤ 16777216 then some (D.str (Txt.join "" ys)) else none
    | none => none) = _
  rw [e, l0]
  dsimp only
  rw [if_pos (by rw [sm h]; omega)]
/-- the four signs -/
def sgs : List Str := ["0", "1", "n", "."]
theorem sg_one : ∀ l ∈ sgs, signsS l = [l] := by
  have h : sgs.all (fun l => decide (signsS l = [l])) = true := by decide +kernel
  exact fun l m => of_decide_eq_true (List.all_eq_true.mp h l m)
theorem sg_low : ∀ l ∈ sgs, ∀ q, l = ⟨#[q]⟩ → (q = 48 ∨ q = 49 ∨ q = 110 ∨ q = 46) := by
  intro l m q e
  have h0 : ("0" : Str) = ⟨#[48]⟩ := by decide +kernel
  have h1 : ("1" : Str) = ⟨#[49]⟩ := by decide +kernel
  have h2 : ("n" : Str) = ⟨#[110]⟩ := by decide +kernel
  have h3 : ("." : Str) = ⟨#[46]⟩ := by decide +kernel
  unfold sgs at m
  rw [h0, h1, h2, h3] at m
  subst e
  simp at m
  omega
/-- a text of signs -/
def SgT (x : Str) : Prop := ∀ l ∈ signsS x, l ∈ sgs
theorem sgT_cps {x : Str} (h : SgT x) : ∀ q ∈ x.cps.toList, q = 48 ∨ q = 49 ∨ q = 110 ∨ q = 46 := fun q m => sg_low ⟨#[q]⟩ (h _ (List.mem_map.mpr ⟨q, m, rfl⟩)) q rfl
theorem sgT_str {x : Str} (h : SgT x) : PyData.strOk x = true := strOk_of fun q m => by
  have := sgT_cps h q m
  omega
theorem strip_sg {x : Str} (h : SgT x) : Txt.stripChars x "01n." = "" := by
  have e : ("01n." : Str).cps = #[48, 49, 110, 46] := by decide +kernel
  have h0 : (Txt.stripChars x "01n.").length = 0 := by
    unfold Txt.stripChars
    refine Lp.strip_len (a := x.cps.toList) (b := []) (by rw [List.append_nil]) (fun c hc => ?_) (fun c hc => by cases hc)
    have := sgT_cps h c hc
    rw [e]
    simp only [Array.contains_eq_mem, List.mem_toArray, decide_eq_true_eq]
    simp only [List.mem_cons, List.not_mem_nil, or_false]
    omega
  refine str_ext ?_
  have h1 : (Txt.stripChars x "01n.").cps.toList.length = 0 := by simpa [Str.length] using h0
  rw [List.length_eq_zero_iff.mp h1]
  rfl
noncomputable def mOfSigns : M Oc := (seq (mRet (mAnd (mIsi "str" (mName 0)) (mBin (fEq false) (mMs1 fStrip (mName 0) (ret (.str "01n."))) (ret (.str ""))))) (ret .nx))
def OfSignsT (F : FD) : Prop := ∀ x, SgT x → x.length ≤ 1000 → Tr F [.str x]
theorem ofSigns_spec : OfSignsT (runM false 1 1 mOfSigns) := fun x h hl c => by
  refine run_pure rfl ?_
  have e : fStrip (.str x) (.str "01n.") = some (.str "") := by
    show (if x.length ≤ sizeLine then some (D.str (Txt.stripChars x "01n.")) else none) = _
    rw [if_pos (by rw [sizeLine_eq]; omega), strip_sg h]
  have e2 : fEq false (.str "") (.str "") = some (.bl true) := by
    rw [fEq_str (by decide +kernel) (by decide +kernel)]
    rfl
  simp [mOfSigns, ev_name_v, isi_ss, e, e2]
structure SqOk (ss : List Str) : Prop where
  n1 : 1 ≤ ss.length
  n24 : ss.length ≤ 24
  sg : ∀ x ∈ ss, SgT x ∧ x.length = ss.length
noncomputable def mIsSquare (Fissized Fisofsigns : FD) : M Oc := (seq (mRet (mAnd (mFn Fissized (mCons (mName 0) (ret []))) (mCall fAll (mCons (frz (mLc [1] (mIter (mName 0)) (stName 1) (ret true) (mAnd (mFn Fisofsigns (mCons (mName 1) (ret []))) (mBin (fEq false) (mCall fLen (mCons (mName 1) (ret []))) (mCall fLen (mCons (mName 0) (ret []))))))) (ret []))))) (ret .nx))
def IsSquareT (F : FD) : Prop := ∀ ss, SqOk ss → Tr F [.tup (sL ss)]
theorem isSquare_spec {Fs Fo : FD} (hs : SizedS Fs) (ho : OfSignsT Fo) : IsSquareT (runM false 2 1 (mIsSquare Fs Fo)) := fun ss ok c => by
  have hl := ok.n24
  have h1 := hs (sL ss) (by rw [sL_len]; exact ok.n1) (by rw [sL_len]; exact hl) c
  refine run_pure rfl ?_
  simp [-List.map_map, mIsSquare, ev_name_v, h1, noOwn, plainSl]
  show Ev (lcGo _ _ _ _ (ss.map D.str) []) _ _
  refine ev_lcPure ss D.str (fun _ => true) (fun _ => .bl true) (fun x m => ⟨_, rfl, ?_⟩) (by rw [sizeLine_eq]; omega) ?_
  · obtain ⟨g1, g2⟩ := ok.sg x m
    have e := ho x g1 (by omega) c
    have e2 : fLen [.str x] = some (.int ss.length) := by
      show (if x.length ≤ sizeLine then some (D.int x.length) else none) = _
      rw [if_pos (by rw [sizeLine_eq]; omega), g2]
    simp [ev_name_v, e, e2, sL_len]
  · rw [filter_tt]
    simp [fAll_true]
/-- a square, made -/
def sO (Cq : Addr) (ss : List Str) : D := .ins Cq [("_rows", .tup (sL ss))]
noncomputable def mQInit (CSquare : Addr) (Fissquare : FD) : M Oc := (seq (mIf (mtNot (mTru (mFn Fissquare (mCons (mName 1) (ret []))))) (seq bad (ret .nx)) (ret .nx)) (seq (mFldPutD 0 CSquare "_rows" (mName 1)) (ret .nx)))
def QInitS (Cq : Addr) (F : FD) : Prop := ∀ ss, SqOk ss → F [.tup (sL ss)] (.n Cq []) = some (.non, .n Cq [("_rows", .tup (sL ss))])
theorem qinit_spec {Cq : Addr} {Fi : FD} (hi : IsSquareT Fi) : QInitS Cq (runM true 2 2 (mQInit Cq Fi)) := fun ss ok => by
  suffices hh : ∃ d c', runM true 2 2 (mQInit Cq Fi) [.tup (sL ss)] (.n Cq []) = some (d, c') ∧ d = .non ∧ c' = .n Cq [("_rows", .tup (sL ss))] by
    obtain ⟨d, c', e, rfl, rfl⟩ := hh
    exact e
  refine run_ev rfl ?_
  have e1 := hi ss ok (.n Cq [])
  simp [-List.map_map, mQInit, ev_name_v, e1]
  rfl
@[simp] theorem fld_sO {Cq : Addr} {ss : List Str} : fldD Cq "_rows" (sO Cq ss) = some (.tup (sL ss)) := by
  unfold fldD sO
  simp [getF]
noncomputable def mQRows (CSquare : Addr) : M Oc := (seq (mRet (mFld CSquare "_rows" (mName 0))) (ret .nx))
def QRowsS (Cq : Addr) (F : FD) : Prop := ∀ ss c, F [sO Cq ss] c = some (.tup (sL ss), c)
theorem qrows_spec {Cq : Addr} : QRowsS Cq (runM false 1 1 (mQRows Cq)) := fun ss c => by
  refine run_pure rfl ?_
  simp [mQRows, ev_name_v]
/-! ### the signs of costs -/
def sg (e : Int) : Str := if e < 0 then "." else if e = 0 then "0" else "1"
end Uw
set_option Elab.async false
set_option linter.all false
set_option maxRecDepth 100000
set_option maxHeartbeats 4000000
set_option exponentiation.threshold 9000
/-! Uw, part four: rows from several starts; what costs mean. -/
namespace Uw
open PySem PySem.Spec L2 Mo Lw Pw Qw Rw Sw Tw Tx
/-! ### the meaning -/
end Uw
set_option Elab.async false
set_option linter.all false
set_option maxRecDepth 100000
set_option maxHeartbeats 4000000
set_option exponentiation.threshold 9000
/-! Uw, part five: costs of a text, by the program and by the law; between; a drawn text. -/
namespace Uw
open PySem PySem.Spec L2 Mo Lw Pw Qw Rw Sw Tw Tx
theorem rng1_l {n : Nat} (h : n ≤ 1000000) : fRng1 [.int (n : Int)] = some ((List.range n).map fun a : Nat => D.int (a : Int)) := by
  rw [rng1_nat h]
  unfold rngD
  simp
/-! ### the law's own -/
/-! ### between -/
noncomputable def mChkSize : M Oc := (seq (mIf (mT2 (fEq true) (mName 0) (mName 1)) (seq bad (ret .nx)) (ret .nx)) (ret .nx))
def ChkSizeS (F : FD) : Prop := ∀ (i : Int), NonR F [.int i, .int i]
theorem chkSize_spec : ChkSizeS (runM false 2 2 mChkSize) := fun i c => by
  refine run_pure rfl ?_
  simp [mChkSize, ev_name_v]
/-! ### the least of the entries -/
end Uw
set_option Elab.async false
set_option linter.all false
set_option maxRecDepth 100000
set_option maxHeartbeats 8000000
set_option exponentiation.threshold 9000
/-! Uw, part six: drawn texts and machines; costs told right. -/
namespace Uw
open PySem PySem.Spec L2 Mo Lw Pw Qw Rw Sw Tw Tx
@[simp] theorem ev_strI {C : Addr} {F : FD} {mo : M D} {g : G} {Q : D → G → Prop} : Ev (mStrI C F mo) g Q ↔ Ev mo g fun d g1 => ∃ fs, d = .ins C fs ∧ ∃ z c', F [.ins C fs] g1.c = some (.str z, c') ∧ Q (.str z) ⟨g1.s, c'⟩ := by
  unfold mStrI
  rw [ev_bind]
  refine ⟨fun h => h.mono fun d g1 z => ?_, fun h => h.mono fun d g1 ⟨fs, e, z, c', e2, q⟩ => ?_⟩
  · cases d <;> first | exact (ev_bad.mp z).elim | skip
    rename_i C2 fs
    dsimp only at z
    rw [ev_ite] at z
    split at z
    · rename_i hC
      subst hC
      obtain ⟨d, c', e, z⟩ := ev_liftC.mp (ev_bind.mp z)
      cases d <;> first | exact (ev_bad.mp z).elim | skip
      exact ⟨fs, rfl, _, c', e, ev_ret.mp z⟩
    · exact (ev_bad.mp z).elim
  · subst e
    dsimp only
    rw [if_pos rfl]
    exact ev_bind.mpr (ev_liftC.mpr ⟨_, _, e2, ev_ret.mpr q⟩)
/-! ### drawn -/
/-! ### told right -/
theorem fEq_tupS {neg : Bool} {a b : List Str} (h : OkS a) (h2 : OkS b) : fEq neg (.tup (sL a)) (.tup (sL b)) = some (.bl (if neg then !decide (a = b) else decide (a = b))) := by
  rw [fEq_lay (lay_tupS h).1 (lay_tupS h2).1]
  show some (D.bl (if neg = true then !PyData.eqvAll (a.map .str) (b.map .str) else PyData.eqvAll (a.map .str) (b.map .str))) = _
  rw [eqv_strs]
end Uw
set_option Elab.async false
set_option linter.all false
set_option maxRecDepth 100000
set_option maxHeartbeats 16000000
set_option exponentiation.threshold 9000
/-! Uw, part seven: the law k23. -/
namespace Uw
open PySem PySem.Spec L2 Mo Lw Pw Qw Rw Sw Tw Tx
end Uw
set_option Elab.async false
set_option linter.all false
set_option maxRecDepth 100000
set_option maxHeartbeats 4000000
/-! Vw, part one: products of squares of signs, as numbers 0 to 3; walks, stable powers, repeats. -/
namespace Vw
/-! ### walks -/
section
variable {n : Nat} {R : Nat → Nat → Prop}
def W (n : Nat) (R : Nat → Nat → Prop) : Nat → Nat → Nat → Prop
  | 0, i, j => i = j
  | m + 1, i, j => ∃ k, k < n ∧ W n R m i k ∧ R k j
theorem w_add {i : Nat} (hi : i < n) : ∀ {a b j : Nat}, j < n → (W n R (a + b) i j ↔ ∃ k, k < n ∧ W n R a i k ∧ W n R b k j)
  | a, 0, j, hj => ⟨fun h => ⟨j, hj, h, rfl⟩, fun ⟨k, _, h, e⟩ => by cases e; exact h⟩
  | a, b + 1, j, hj => by
    constructor
    · rintro ⟨k, hk, h, r⟩
      obtain ⟨l, hl, h1, h2⟩ := (w_add hi (a := a) (b := b) hk).mp h
      exact ⟨l, hl, h1, k, hk, h2, r⟩
    · rintro ⟨l, hl, h1, k, hk, h2, r⟩
      exact ⟨k, hk, (w_add hi (a := a) (b := b) hk).mpr ⟨l, hl, h1, h2⟩, r⟩
theorem w_join {i j k a b : Nat} (hi : i < n) (hj : j < n) (hk : k < n) (h1 : W n R a i k) (h2 : W n R b k j) : W n R (a + b) i j := (w_add hi hj).mpr ⟨k, hk, h1, h2⟩
theorem w_one {i j : Nat} (hi : i < n) : W n R 1 i j ↔ R i j := ⟨fun ⟨k, _, e, r⟩ => by cases e; exact r, fun r => ⟨i, hi, rfl, r⟩⟩
theorem w_many {v c : Nat} (hv : v < n) (h : W n R c v v) : ∀ m, W n R (c * m) v v
  | 0 => rfl
  | m + 1 => w_join hv hv hv (w_many hv h m) h
/-- four steps with a ring of c of them -/
def S (n : Nat) (R : Nat → Nat → Prop) (c i j : Nat) : Prop := ∃ v a b, v < n ∧ a + c + b = 4 ∧ W n R a i v ∧ W n R c v v ∧ W n R b v j
theorem window (h4 : n ≤ 4) {i j : Nat} (hi : i < n) (hj : j < n) (h : W n R 4 i j) : ∃ c, 1 ≤ c ∧ c ≤ 4 ∧ S n R c i j := by
  obtain ⟨v3, h3, ⟨v2, h2, ⟨v1, h1, r1', r2⟩, r3⟩, r4⟩ := h
  have r1 : R i v1 := (w_one hi).mp r1'
  have o : ∀ {x y}, x < n → R x y → W n R 1 x y := fun hx r => (w_one hx).mpr r
  have w01 := o hi r1
  have w12 := o h1 r2
  have w23 := o h2 r3
  have w34 := o h3 r4
  have w02 : W n R 2 i v2 := w_join (a := 1) (b := 1) hi h2 h1 w01 w12
  have w13 : W n R 2 v1 v3 := w_join (a := 1) (b := 1) h1 h3 h2 w12 w23
  have w24 : W n R 2 v2 j := w_join (a := 1) (b := 1) h2 hj h3 w23 w34
  have w03 : W n R 3 i v3 := w_join (a := 2) (b := 1) hi h3 h2 w02 w23
  have w14 : W n R 3 v1 j := w_join (a := 2) (b := 1) h1 hj h3 w13 w34
  have w04 : W n R 4 i j := w_join (a := 3) (b := 1) hi hj h3 w03 w34
  have p : i = v1 ∨ i = v2 ∨ i = v3 ∨ i = j ∨ v1 = v2 ∨ v1 = v3 ∨ v1 = j ∨ v2 = v3 ∨ v2 = j ∨ v3 = j := by omega
  rcases p with e | e | e | e | e | e | e | e | e | e
  · subst e; exact ⟨1, by omega, by omega, i, 0, 3, hi, rfl, rfl, w01, w14⟩
  · subst e; exact ⟨2, by omega, by omega, i, 0, 2, hi, rfl, rfl, w02, w24⟩
  · subst e; exact ⟨3, by omega, by omega, i, 0, 1, hi, rfl, rfl, w03, w34⟩
  · subst e; exact ⟨4, by omega, by omega, i, 0, 0, hi, rfl, rfl, w04, rfl⟩
  · subst e; exact ⟨1, by omega, by omega, v1, 1, 2, h1, rfl, w01, w12, w24⟩
  · subst e; exact ⟨2, by omega, by omega, v1, 1, 1, h1, rfl, w01, w13, w34⟩
  · subst e; exact ⟨3, by omega, by omega, v1, 1, 0, h1, rfl, w01, w14, rfl⟩
  · subst e; exact ⟨1, by omega, by omega, v2, 2, 1, h2, rfl, w02, w23, w34⟩
  · subst e; exact ⟨2, by omega, by omega, v2, 2, 0, h2, rfl, w02, w24, rfl⟩
  · subst e; exact ⟨1, by omega, by omega, v3, 3, 0, h3, rfl, w03, w34, rfl⟩
def Ch (n : Nat) (R : Nat → Nat → Prop) : List Nat → Nat → Nat → Prop
  | [], i, j => i = j
  | c :: r, i, j => ∃ k, k < n ∧ S n R c i k ∧ Ch n R r k j
theorem chain (h4 : n ≤ 4) : ∀ (T : Nat) {i j : Nat}, i < n → j < n → W n R (4 * T) i j → ∃ cs : List Nat, cs.length = T ∧ (∀ c ∈ cs, 1 ≤ c ∧ c ≤ 4) ∧ Ch n R cs i j
  | 0, i, j, _, _, h => ⟨[], rfl, (fun _ m => (nomatch m)), h⟩
  | T + 1, i, j, hi, hj, h => by
    have h' : W n R (4 + 4 * T) i j := by
      rw [show 4 + 4 * T = 4 * (T + 1) by omega]
      exact h
    obtain ⟨k, hk, h1, h2⟩ := (w_add hi hj).mp h'
    obtain ⟨c, c1, c4, s⟩ := window h4 hi hk h1
    obtain ⟨cs, l, a, ch⟩ := chain h4 T hk hj h2
    exact ⟨c :: cs, by rw [List.length_cons, l], fun x m => (List.mem_cons.mp m).elim (fun z => by rw [z]; exact ⟨c1, c4⟩) (a x), k, hk, s, ch⟩
theorem s_w {c i j : Nat} (hi : i < n) (hj : j < n) (h : S n R c i j) : W n R 4 i j := by
  obtain ⟨v, a, b, hv, e, h1, h2, h3⟩ := h
  rw [← e]
  exact w_join hi hj hv (w_join hi hv hv h1 h2) h3
theorem s_cut {c i j : Nat} (hi : i < n) (hj : j < n) (h : S n R c i j) : ∃ L, L + c = 4 ∧ W n R L i j := by
  obtain ⟨v, a, b, hv, e, h1, h2, h3⟩ := h
  exact ⟨a + b, by omega, w_join hi hj hv h1 h3⟩
theorem s_more {c i j : Nat} (hi : i < n) (hj : j < n) (h : S n R c i j) (m : Nat) : W n R (4 + c * m) i j := by
  obtain ⟨v, a, b, hv, e, h1, h2, h3⟩ := h
  rw [show 4 + c * m = a + (c + c * m) + b by omega]
  exact w_join hi hj hv (w_join hi hv hv h1 (w_join hv hv hv h2 (w_many hv h2 m))) h3
theorem cut (c : Nat) : ∀ (cs : List Nat) (k : Nat) {i j : Nat}, i < n → j < n → Ch n R cs i j → k ≤ cs.count c → ∃ L, L + k * c = 4 * cs.length ∧ W n R L i j
  | [], k, i, j, _, _, h, hk => by
    have : k = 0 := by simpa using hk
    subst this
    exact ⟨0, by simp, h⟩
  | d :: r, k, i, j, hi, hj, ⟨l, hl, s, ch⟩, hk => by
    cases k with
    | zero =>
      obtain ⟨L, e, w⟩ := cut c r 0 hl hj ch (Nat.zero_le _)
      exact ⟨4 + L, by rw [List.length_cons]; omega, w_join hi hj hl (s_w hi hl s) w⟩
    | succ k =>
      by_cases e : d = c
      · subst e
        rw [List.count_cons_self] at hk
        obtain ⟨L, e, w⟩ := cut d r k hl hj ch (by omega)
        obtain ⟨L2, e2, w2⟩ := s_cut hi hl s
        exact ⟨L2 + L, by rw [List.length_cons, Nat.succ_mul]; omega, w_join hi hj hl w2 w⟩
      · rw [List.count_cons_of_ne e] at hk
        obtain ⟨L, e, w⟩ := cut c r (k + 1) hl hj ch hk
        exact ⟨4 + L, by rw [List.length_cons]; omega, w_join hi hj hl (s_w hi hl s) w⟩
theorem counts : ∀ cs : List Nat, (∀ c ∈ cs, 1 ≤ c ∧ c ≤ 4) → cs.count 1 + cs.count 2 + cs.count 3 + cs.count 4 = cs.length
  | [], _ => rfl
  | c :: r, h => by
    have ih := counts r fun x m => h x (List.mem_cons_of_mem _ m)
    have hc := h c List.mem_cons_self
    have : c = 1 ∨ c = 2 ∨ c = 3 ∨ c = 4 := by omega
    rcases this with e | e | e | e <;> subst e <;> simp [List.count_cons] <;> omega
theorem less (h4 : n ≤ 4) {i j : Nat} (hi : i < n) (hj : j < n) (h : W n R 180 i j) : W n R 168 i j := by
  obtain ⟨cs, l, a, ch⟩ := chain h4 45 hi hj h
  have q := counts cs a
  have p : 12 ≤ cs.count 1 ∨ 12 ≤ cs.count 2 ∨ 12 ≤ cs.count 3 ∨ 12 ≤ cs.count 4 := by omega
  have go : ∀ c k, k ≤ cs.count c → k * c = 12 → W n R 168 i j := fun c k hk e => by
    obtain ⟨L, e1, w⟩ := cut c cs k hi hj ch hk
    have : L = 168 := by omega
    rw [← this]
    exact w
  rcases p with p | p | p | p
  · exact go 1 12 p rfl
  · exact go 2 6 (by omega) rfl
  · exact go 3 4 (by omega) rfl
  · exact go 4 3 (by omega) rfl
theorem more (h4 : n ≤ 4) {i j : Nat} (hi : i < n) (hj : j < n) (h : W n R 168 i j) : W n R 180 i j := by
  obtain ⟨k, hk, h1, h2⟩ := (w_add (a := 4) (b := 164) hi hj).mp h
  obtain ⟨c, c1, c4, s⟩ := window h4 hi hk h1
  have go : ∀ m, c * m = 12 → W n R 180 i j := fun m e => by
    have w := s_more hi hk s m
    rw [e] at w
    exact w_join (a := 16) (b := 164) hi hj hk w h2
  have : c = 1 ∨ c = 2 ∨ c = 3 ∨ c = 4 := by omega
  rcases this with e | e | e | e <;> subst e
  · exact go 12 rfl
  · exact go 6 rfl
  · exact go 4 rfl
  · exact go 3 rfl
theorem steady (h4 : n ≤ 4) : ∀ (q : Nat) {i j : Nat}, i < n → j < n → (W n R (168 + 12 * q) i j ↔ W n R 168 i j)
  | 0, _, _, _, _ => Iff.rfl
  | q + 1, i, j, hi, hj => by
    rw [show 168 + 12 * (q + 1) = 180 + 12 * q by omega, ← steady h4 q hi hj, w_add hi hj, w_add hi hj]
    exact ⟨fun ⟨k, hk, h1, h2⟩ => ⟨k, hk, less h4 hi hk h1, h2⟩, fun ⟨k, hk, h1, h2⟩ => ⟨k, hk, more h4 hi hk h1, h2⟩⟩
theorem w_twice (h4 : n ≤ 4) {i j : Nat} (hi : i < n) (hj : j < n) : W n R (168 + 168) i j ↔ W n R 168 i j := steady h4 14 hi hj
/-- a relation that is its own square: each step goes over a ring -/
theorem ring (h4 : n ≤ 4) (hR : ∀ i j, i < n → j < n → (R i j ↔ ∃ k, k < n ∧ R i k ∧ R k j)) {i j : Nat} (hi : i < n) (hj : j < n) (h : R i j) : ∃ v, v < n ∧ R v v ∧ R i v ∧ R v j := by
  have all : ∀ m, ∀ {x y}, x < n → y < n → (W n R (m + 1) x y ↔ R x y) := fun m => by
    induction m with
    | zero => exact fun hx _ => w_one hx
    | succ m ih =>
      intro x y hx hy
      rw [hR x y hx hy]
      constructor
      · rintro ⟨k, hk, w, r⟩
        exact ⟨k, hk, (ih hx hk).mp w, r⟩
      · rintro ⟨k, hk, w, r⟩
        exact ⟨k, hk, (ih hx hk).mpr w, r⟩
  have w6 : W n R (1 + 5) i j := (all 5 hi hj).mpr h
  obtain ⟨k, hk, h1, h5⟩ := (w_add hi hj).mp w6
  obtain ⟨l, hl, w4, hlast⟩ := (w_add (a := 4) (b := 1) hk hj).mp h5
  obtain ⟨c, c1, c4, v, a, b, hv, e, q1, q2, q3⟩ := window h4 hk hl w4
  obtain ⟨c', rfl⟩ : ∃ c', c = c' + 1 := ⟨c - 1, by omega⟩
  refine ⟨v, hv, (all c' hv hv).mp q2, ?_, ?_⟩
  · have := w_join hi hv hk h1 q1
    rw [show 1 + a = a + 1 by omega] at this
    exact (all a hi hv).mp this
  · exact (all b hv hj).mp (w_join hv hj hl q3 hlast)
end
/-! ### products -/
def pr (n : Nat) (a b : Nat → Nat → Nat) : Nat → Nat → Nat := fun i j => (List.range n).foldl (fun s k => min s (max (a i k) (b k j))) 3
theorem foldl_le (f : Nat → Nat) (t : Nat) : ∀ (l : List Nat) (s : Nat), l.foldl (fun s k => min s (f k)) s ≤ t ↔ s ≤ t ∨ ∃ k ∈ l, f k ≤ t
  | [], s => by simp
  | k :: l, s => by
    rw [List.foldl_cons, foldl_le f t l]
    simp only [List.mem_cons, exists_eq_or_imp]
    rw [show min s (f k) ≤ t ↔ s ≤ t ∨ f k ≤ t by omega, or_assoc]
theorem pr_le {n : Nat} {a b : Nat → Nat → Nat} {i j t : Nat} (ht : t < 3) : pr n a b i j ≤ t ↔ ∃ k, k < n ∧ a i k ≤ t ∧ b k j ≤ t := by
  unfold pr
  rw [foldl_le (fun k => max (a i k) (b k j))]
  simp only [List.mem_range]
  constructor
  · rintro (h | ⟨k, hk, h⟩)
    · omega
    · exact ⟨k, hk, by omega, by omega⟩
  · rintro ⟨k, hk, h1, h2⟩
    exact .inr ⟨k, hk, by omega⟩
theorem pr_3 {n : Nat} {a b : Nat → Nat → Nat} {i j : Nat} : pr n a b i j ≤ 3 := (foldl_le (fun k => max (a i k) (b k j)) 3 _ _).mpr (.inl (Nat.le_refl _))
theorem eq_of {x y : Nat} (hx : x ≤ 3) (hy : y ≤ 3) (h : ∀ t, t < 3 → (x ≤ t ↔ y ≤ t)) : x = y := by
  have h0 := h 0 (by decide)
  have h1 := h 1 (by decide)
  have h2 := h 2 (by decide)
  omega
/-- the same places -/
def EqM (n : Nat) (a b : Nat → Nat → Nat) : Prop := ∀ i j, i < n → j < n → a i j = b i j
theorem pr_assoc {n : Nat} {a b c : Nat → Nat → Nat} : EqM n (pr n (pr n a b) c) (pr n a (pr n b c)) := fun i j hi hj => eq_of pr_3 pr_3 fun t ht => by
  rw [pr_le ht, pr_le ht]
  constructor
  · rintro ⟨k, hk, h, h3⟩
    obtain ⟨l, hl, h1, h2⟩ := (pr_le ht).mp h
    exact ⟨l, hl, h1, (pr_le ht).mpr ⟨k, hk, h2, h3⟩⟩
  · rintro ⟨l, hl, h1, h⟩
    obtain ⟨k, hk, h2, h3⟩ := (pr_le ht).mp h
    exact ⟨k, hk, (pr_le ht).mpr ⟨l, hl, h1, h2⟩, h3⟩
theorem EqM.symm {n : Nat} {a b : Nat → Nat → Nat} (h : EqM n a b) : EqM n b a := fun i j hi hj => (h i j hi hj).symm
theorem EqM.trans {n : Nat} {a b c : Nat → Nat → Nat} (h : EqM n a b) (h2 : EqM n b c) : EqM n a c := fun i j hi hj => (h i j hi hj).trans (h2 i j hi hj)
theorem EqM.refl {n : Nat} {a : Nat → Nat → Nat} : EqM n a a := fun _ _ _ _ => rfl
/-! ### powers -/
def pw (n : Nat) (a : Nat → Nat → Nat) : Nat → Nat → Nat → Nat
  | 0 => a
  | m + 1 => pr n (pw n a m) a
theorem pw_le {n : Nat} {a : Nat → Nat → Nat} {t : Nat} (ht : t < 3) : ∀ (m : Nat) {i j : Nat}, i < n → (pw n a m i j ≤ t ↔ W n (fun x y => a x y ≤ t) (m + 1) i j)
  | 0, i, j, hi => (w_one (R := fun x y => a x y ≤ t) hi).symm
  | m + 1, i, j, hi => by
    show pr n (pw n a m) a i j ≤ t ↔ _
    rw [pr_le ht]
    exact ⟨fun ⟨k, hk, h1, h2⟩ => ⟨k, hk, (pw_le ht m hi).mp h1, h2⟩, fun ⟨k, hk, h1, h2⟩ => ⟨k, hk, (pw_le ht m hi).mpr h1, h2⟩⟩
def M3 (n : Nat) (a : Nat → Nat → Nat) : Prop := ∀ i j, i < n → j < n → a i j ≤ 3
theorem pw_3 {n : Nat} {a : Nat → Nat → Nat} (h : M3 n a) : ∀ m, M3 n (pw n a m)
  | 0 => h
  | m + 1 => fun _ _ _ _ => pr_3
theorem stable_at {n : Nat} {a : Nat → Nat → Nat} (h4 : n ≤ 4) (h : M3 n a) : EqM n (pr n (pw n a 167) (pw n a 167)) (pw n a 167) := fun i j hi hj => eq_of pr_3 (pw_3 h 167 i j hi hj) fun t ht => by
  rw [pr_le ht, pw_le ht 167 hi, ← w_twice h4 hi hj, w_add hi hj]
  exact ⟨fun ⟨k, hk, h1, h2⟩ => ⟨k, hk, (pw_le ht 167 hi).mp h1, (pw_le ht 167 hk).mp h2⟩, fun ⟨k, hk, h1, h2⟩ => ⟨k, hk, (pw_le ht 167 hi).mpr h1, (pw_le ht 167 hk).mpr h2⟩⟩
/-! ### repeats -/
def dq (e : Nat → Nat → Nat) (v : Nat) : Nat := if e v v = 1 then 2 else e v v
def dg (e : Nat → Nat → Nat) : Nat → Nat → Nat := fun i j => if i = j then dq e i else 3
def rp (n : Nat) (e : Nat → Nat → Nat) : Nat → Nat → Nat := pr n (pr n e (dg e)) e
theorem rp_le {n : Nat} {e : Nat → Nat → Nat} {t i j : Nat} (ht : t < 3) : rp n e i j ≤ t ↔ ∃ v, v < n ∧ dq e v ≤ t ∧ e i v ≤ t ∧ e v j ≤ t := by
  unfold rp
  rw [pr_le ht]
  constructor
  · rintro ⟨k, hk, h, h3⟩
    obtain ⟨l, hl, h1, h2⟩ := (pr_le ht).mp h
    unfold dg at h2
    split at h2
    · rename_i z
      subst z
      exact ⟨l, hl, h2, h1, h3⟩
    · omega
  · rintro ⟨v, hv, h1, h2, h3⟩
    refine ⟨v, hv, (pr_le ht).mpr ⟨v, hv, h2, ?_⟩, h3⟩
    unfold dg
    rw [if_pos rfl]
    exact h1
section
variable {n : Nat} {e : Nat → Nat → Nat} {t : Nat}
/-- a stable square -/
def Stb (n : Nat) (e : Nat → Nat → Nat) : Prop := EqM n (pr n e e) e
theorem Stb.iff (s : Stb n e) (ht : t < 3) : ∀ i j, i < n → j < n → (e i j ≤ t ↔ ∃ k, k < n ∧ e i k ≤ t ∧ e k j ≤ t) := fun i j hi hj => by
  rw [← s i j hi hj, pr_le ht]
theorem dq_le (h : dq e v ≤ t) : e v v ≤ t := by
  unfold dq at h
  split at h <;> omega
theorem rp_in (s : Stb n e) (ht : t < 3) {i j : Nat} (hi : i < n) (hj : j < n) (h : rp n e i j ≤ t) : e i j ≤ t := by
  obtain ⟨v, hv, h1, h2, h3⟩ := (rp_le ht).mp h
  exact (s.iff ht i j hi hj).mpr ⟨v, hv, h2, h3⟩
theorem rp_to (s : Stb n e) (ht : t < 3) {i v : Nat} (hv : v < n) (h1 : dq e v ≤ t) (h2 : e i v ≤ t) : rp n e i v ≤ t := (rp_le ht).mpr ⟨v, hv, h1, h2, dq_le h1⟩
theorem rp_from (s : Stb n e) (ht : t < 3) {j v : Nat} (hv : v < n) (h1 : dq e v ≤ t) (h2 : e v j ≤ t) : rp n e v j ≤ t := (rp_le ht).mpr ⟨v, hv, h1, dq_le h1, h2⟩
theorem rp_stable (s : Stb n e) : Stb n (rp n e) := fun i j hi hj => eq_of pr_3 pr_3 fun t ht => by
  rw [pr_le ht]
  constructor
  · rintro ⟨k, hk, h1, h2⟩
    obtain ⟨v, hv, a1, a2, a3⟩ := (rp_le ht).mp h1
    exact (rp_le ht).mpr ⟨v, hv, a1, a2, (s.iff ht v j hv hj).mpr ⟨k, hk, a3, rp_in s ht hk hj h2⟩⟩
  · intro h
    obtain ⟨v, hv, a1, a2, a3⟩ := (rp_le ht).mp h
    exact ⟨v, hv, rp_to s ht hv a1 a2, rp_from s ht hv a1 a3⟩
theorem rp_left (s : Stb n e) : EqM n (pr n e (rp n e)) (rp n e) := fun i j hi hj => eq_of pr_3 pr_3 fun t ht => by
  rw [pr_le ht]
  constructor
  · rintro ⟨k, hk, h1, h2⟩
    obtain ⟨v, hv, a1, a2, a3⟩ := (rp_le ht).mp h2
    exact (rp_le ht).mpr ⟨v, hv, a1, (s.iff ht i v hi hv).mpr ⟨k, hk, h1, a2⟩, a3⟩
  · intro h
    obtain ⟨v, hv, a1, a2, a3⟩ := (rp_le ht).mp h
    exact ⟨v, hv, a2, rp_from s ht hv a1 a3⟩
theorem rp_right (s : Stb n e) : EqM n (pr n (rp n e) e) (rp n e) := fun i j hi hj => eq_of pr_3 pr_3 fun t ht => by
  rw [pr_le ht]
  constructor
  · rintro ⟨k, hk, h1, h2⟩
    obtain ⟨v, hv, a1, a2, a3⟩ := (rp_le ht).mp h1
    exact (rp_le ht).mpr ⟨v, hv, a1, a2, (s.iff ht v j hv hj).mpr ⟨k, hk, a3, h2⟩⟩
  · intro h
    obtain ⟨v, hv, a1, a2, a3⟩ := (rp_le ht).mp h
    exact ⟨v, hv, rp_to s ht hv a1 a2, a3⟩
theorem dq_t (h3 : e v v ≤ 3) (ht : t < 3) : dq e v ≤ t ↔ (if t = 1 then e v v = 0 else e v v ≤ t) := by
  unfold dq
  have : t = 0 ∨ t = 1 ∨ t = 2 := by omega
  rcases this with q | q | q <;> subst q <;> simp <;> split <;> omega
theorem rp_again (s : Stb n e) (h3 : M3 n e) : EqM n (rp n (rp n e)) (rp n e) := fun i j hi hj => eq_of pr_3 pr_3 fun t ht => by
  rw [rp_le ht]
  constructor
  · rintro ⟨v, hv, h1, h2, h4⟩
    exact ((rp_stable s).iff ht i j hi hj).mpr ⟨v, hv, h2, h4⟩
  · intro h
    obtain ⟨v, hv, a1, a2, a3⟩ := (rp_le ht).mp h
    refine ⟨v, hv, ?_, rp_to s ht hv a1 a2, rp_from s ht hv a1 a3⟩
    rw [dq_t (e := rp n e) (v := v) pr_3 ht]
    rw [dq_t (h3 v v hv hv) ht] at a1
    split
    · rename_i z
      rw [if_pos z] at a1
      have : rp n e v v ≤ 0 := (rp_le (by decide)).mpr ⟨v, hv, (dq_t (h3 v v hv hv) (by decide)).mpr (by simp [a1]), by omega, by omega⟩
      omega
    · rename_i z
      rw [if_neg z] at a1
      exact rp_to s ht hv ((dq_t (h3 v v hv hv) ht).mpr (by rw [if_neg z]; exact a1)) a1
/-- the free places, and those without a way, are the same -/
theorem rp_same (s : Stb n e) (h3 : M3 n e) (h4 : n ≤ 4) (ht : t < 3) (h1 : t ≠ 1) {i j : Nat} (hi : i < n) (hj : j < n) : rp n e i j ≤ t ↔ e i j ≤ t := by
  refine ⟨rp_in s ht hi hj, fun h => ?_⟩
  obtain ⟨v, hv, a1, a2, a3⟩ := ring (R := fun x y => e x y ≤ t) h4 (s.iff ht) hi hj h
  exact (rp_le ht).mpr ⟨v, hv, (dq_t (h3 v v hv hv) ht).mpr (by rw [if_neg h1]; exact a1), a2, a3⟩
end
end Vw
set_option Elab.async false
set_option linter.all false
set_option maxRecDepth 100000
set_option maxHeartbeats 4000000
set_option exponentiation.threshold 9000
/-! Vw, part two: rows of signs as texts and as octal numbers. -/
namespace Vw
open PySem PySem.Spec L2 Mo Lw Pw Qw Rw Sw Tw Tx Uw
/-! ### figures -/
def fg (r : Nat) : Nat := if r = 0 then 7 else if r = 1 then 6 else if r = 2 then 4 else 0
def cs (r : Nat) : Nat := if r = 0 then 48 else if r = 1 then 49 else if r = 2 then 110 else 46
theorem le3 {r : Nat} (h : r ≤ 3) : r = 0 ∨ r = 1 ∨ r = 2 ∨ r = 3 := by omega
theorem fg_lt (r : Nat) : fg r < 8 := by unfold fg; split <;> (try split) <;> (try split) <;> omega
theorem fg_or {a b : Nat} (ha : a ≤ 3) (hb : b ≤ 3) : fg a ||| fg b = fg (min a b) := by
  rcases le3 ha with e | e | e | e <;> rcases le3 hb with q | q | q | q <;> subst e q <;> decide
theorem fg_and {a b : Nat} (ha : a ≤ 3) (hb : b ≤ 3) : fg a &&& fg b = fg (max a b) := by
  rcases le3 ha with e | e | e | e <;> rcases le3 hb with q | q | q | q <;> subst e q <;> decide
theorem bit8 {a f : Nat} (h : f < 8) (j : Nat) : (a * 8 + f).testBit j = if j < 3 then f.testBit j else a.testBit (j - 3) := by
  rw [Nat.mul_comm]
  exact Nat.testBit_two_pow_mul_add (i := 3) a h j
theorem or8 {a b f g : Nat} (hf : f < 8) (hg : g < 8) : (a * 8 + f) ||| (b * 8 + g) = (a ||| b) * 8 + (f ||| g) := by
  have h8 : f ||| g < 8 := Nat.or_lt_two_pow (n := 3) hf hg
  refine Nat.eq_of_testBit_eq fun j => ?_
  rw [Nat.testBit_or, bit8 hf, bit8 hg, bit8 h8, Nat.testBit_or, Nat.testBit_or]
  split <;> rfl
theorem and8 {a b f g : Nat} (hf : f < 8) (hg : g < 8) : (a * 8 + f) &&& (b * 8 + g) = (a &&& b) * 8 + (f &&& g) := by
  have h8 : f &&& g < 8 := Nat.lt_of_le_of_lt Nat.and_le_left hf
  refine Nat.eq_of_testBit_eq fun j => ?_
  rw [Nat.testBit_and, bit8 hf, bit8 hg, bit8 h8, Nat.testBit_and, Nat.testBit_and]
  split <;> rfl
/-- the number of a row -/
def vf : Nat → (Nat → Nat) → Nat
  | 0, _ => 0
  | n + 1, h => vf n h * 8 + fg (h n)
theorem vf_or {h k : Nat → Nat} : ∀ n, (∀ j, j < n → h j ≤ 3 ∧ k j ≤ 3) → vf n h ||| vf n k = vf n fun j => min (h j) (k j)
  | 0, _ => by simp [vf]
  | n + 1, q => by
    unfold vf
    rw [or8 (fg_lt _) (fg_lt _), vf_or n fun j hj => q j (by omega), fg_or (q n (by omega)).1 (q n (by omega)).2]
theorem vf_and {h k : Nat → Nat} : ∀ n, (∀ j, j < n → h j ≤ 3 ∧ k j ≤ 3) → vf n h &&& vf n k = vf n fun j => max (h j) (k j)
  | 0, _ => by simp [vf]
  | n + 1, q => by
    unfold vf
    rw [and8 (fg_lt _) (fg_lt _), vf_and n fun j hj => q j (by omega), fg_and (q n (by omega)).1 (q n (by omega)).2]
theorem vf_congr {h k : Nat → Nat} : ∀ n, (∀ j, j < n → h j = k j) → vf n h = vf n k
  | 0, _ => rfl
  | n + 1, q => by
    unfold vf
    rw [vf_congr n fun j hj => q j (by omega), q n (by omega)]
theorem vf_0 : ∀ n, vf n (fun _ => 3) = 0
  | 0 => rfl
  | n + 1 => by
    unfold vf
    rw [vf_0 n]
    rfl
/-! ### texts -/
def sT (r : Nat) : Str := ⟨#[cs r]⟩
/-- a row of signs -/
def rt (n : Nat) (h : Nat → Nat) : Str := ⟨((List.range n).map fun j => cs (h j)).toArray⟩
theorem rt_len (n : Nat) (h : Nat → Nat) : (rt n h).length = n := by simp [rt, Str.length]
theorem rt_signs (n : Nat) (h : Nat → Nat) : signsS (rt n h) = (List.range n).map fun j => sT (h j) := by
  unfold signsS rt sT
  simp
theorem rt_congr {n : Nat} {h k : Nat → Nat} (e : ∀ j, j < n → h j = k j) : rt n h = rt n k := by
  unfold rt
  congr 2
  exact List.map_congr_left fun j m => by rw [e j (List.mem_range.mp m)]
theorem cs_inj {a b : Nat} (ha : a ≤ 3) (hb : b ≤ 3) (h : cs a = cs b) : a = b := by
  rcases le3 ha with e | e | e | e <;> rcases le3 hb with q | q | q | q <;> subst e q <;> first | rfl | (exact absurd h (by decide))
theorem rt_inj {n : Nat} {h k : Nat → Nat} (hh : ∀ j, j < n → h j ≤ 3) (hk : ∀ j, j < n → k j ≤ 3) (e : rt n h = rt n k) : ∀ j, j < n → h j = k j := fun j hj => by
  have e1 : (List.range n).map (fun j => cs (h j)) = (List.range n).map fun j => cs (k j) := by
    have := congrArg (fun s : Str => s.cps.toList) e
    simpa [rt] using this
  have e2 := List.map_inj_left.mp e1 j (List.mem_range.mpr hj)
  exact cs_inj (hh j hj) (hk j hj) e2
theorem sT_sgs {r : Nat} (h : r ≤ 3) : sT r ∈ sgs := by
  rcases le3 h with e | e | e | e <;> subst e <;> decide +kernel
theorem rt_sg {n : Nat} {h : Nat → Nat} (hh : ∀ j, j < n → h j ≤ 3) : SgT (rt n h) := fun l m => by
  rw [rt_signs] at m
  obtain ⟨j, mj, rfl⟩ := List.mem_map.mp m
  exact sT_sgs (hh j (List.mem_range.mp mj))
theorem rt_cps (n : Nat) (h : Nat → Nat) : (rt n h).cps.toList = (List.range n).map fun j => cs (h j) := by simp [rt]
theorem rt_ix {n : Nat} {h : Nat → Nat} {j : Nat} (hn : n ≤ 1000) (hj : j < n) : fIx (.str (rt n h)) (.int (j : Int)) = some (.str (sT (h j))) := by
  have e1 : atI (rt n h).cps.toList (j : Int) = some (cs (h j)) := by
    rw [rt_cps]
    exact atI_nat (by simp [hj])
  show (if (rt n h).length ≤ sizeLine then (atI (rt n h).cps.toList (j : Int)).map fun c => D.str ⟨#[c]⟩ else none) = _
  rw [if_pos (by rw [rt_len, sizeLine_eq]; omega), e1]
  rfl
theorem rt_join (n : Nat) (h : Nat → Nat) (hh : ∀ j, j < n → h j ≤ 3) : Txt.join "" ((List.range n).map fun j => sT (h j)) = rt n h := by
  have e := signs_joinG (ls := (List.range n).map fun j => sT (h j)) fun l m => by
    obtain ⟨j, mj, rfl⟩ := List.mem_map.mp m
    exact sg_one _ (sT_sgs (hh j (List.mem_range.mp mj)))
  refine signs_inj ?_
  rw [e, rt_signs]
/-- a square -/
def sq (n : Nat) (a : Nat → Nat → Nat) : List Str := (List.range n).map fun i => rt n (a i)
theorem sq_len (n : Nat) (a : Nat → Nat → Nat) : (sq n a).length = n := by simp [sq]
theorem sq_congr {n : Nat} {a b : Nat → Nat → Nat} (e : EqM n a b) : sq n a = sq n b := List.map_congr_left fun i m => rt_congr fun j hj => e i j (List.mem_range.mp m) hj
theorem sq_inj {n : Nat} {a b : Nat → Nat → Nat} (ha : M3 n a) (hb : M3 n b) (e : sq n a = sq n b) : EqM n a b := fun i j hi hj => by
  have := List.map_inj_left.mp e i (List.mem_range.mpr hi)
  exact rt_inj (fun j hj => ha i j hi hj) (fun j hj => hb i j hi hj) this j hj
theorem sq_ok {n : Nat} {a : Nat → Nat → Nat} (h1 : 1 ≤ n) (h2 : n ≤ 24) (ha : M3 n a) : SqOk (sq n a) := ⟨by rw [sq_len]; exact h1, by rw [sq_len]; exact h2, fun x m => by
  obtain ⟨i, mi, rfl⟩ := List.mem_map.mp m
  exact ⟨rt_sg fun j hj => ha i j (List.mem_range.mp mi) hj, by rw [rt_len, sq_len]⟩⟩
/-! ### octal texts -/
def ot (n : Nat) (h : Nat → Nat) : List Nat := (List.range n).map fun j => 48 + fg (h j)
theorem ot_succ (n : Nat) (h : Nat → Nat) : ot (n + 1) h = ot n h ++ [48 + fg (h n)] := by
  unfold ot
  rw [List.range_succ, List.map_append]
  rfl
theorem oct_snoc (l : List Nat) (c : Nat) : Oc.oct (l ++ [c]) = Oc.oct l * 8 + (c - 48) := by
  unfold Oc.oct
  rw [List.foldl_append]
  rfl
theorem oct_ot (h : Nat → Nat) : ∀ n, Oc.oct (ot n h) = vf n h
  | 0 => rfl
  | n + 1 => by
    rw [ot_succ, oct_snoc, oct_ot h n]
    show vf n h * 8 + (48 + fg (h n) - 48) = vf n h * 8 + fg (h n)
    omega
theorem dg1 {f : Nat} (h : f < 8) : (Nat.toDigits 8 f).map Char.toNat = [48 + f] := by
  have : f = 0 ∨ f = 1 ∨ f = 2 ∨ f = 3 ∨ f = 4 ∨ f = 5 ∨ f = 6 ∨ f = 7 := by omega
  rcases this with e | e | e | e | e | e | e | e <;> subst e <;> decide
theorem dg8 {a f : Nat} (ha : 0 < a) (h : f < 8) : (Nat.toDigits 8 (a * 8 + f)).map Char.toNat = (Nat.toDigits 8 a).map Char.toNat ++ [48 + f] := by
  rw [Nat.mul_comm, ← Nat.toDigits_append_toDigits (b := 8) (by decide) ha h, List.map_append, dg1 h]
/-- the figures are those of the number, filled up -/
theorem digits_ot (h : Nat → Nat) : ∀ n, ∃ k, ot (n + 1) h = List.replicate k 48 ++ (Nat.toDigits 8 (vf (n + 1) h)).map Char.toNat
  | 0 => ⟨0, by
    have e : vf 1 h = fg (h 0) := by simp [vf]
    rw [e, dg1 (fg_lt _)]
    rfl⟩
  | n + 1 => by
    obtain ⟨k, e⟩ := digits_ot h n
    rw [ot_succ, e]
    show ∃ k', _ = List.replicate k' 48 ++ (Nat.toDigits 8 (vf (n + 1) h * 8 + fg (h (n + 1)))).map Char.toNat
    by_cases z : vf (n + 1) h = 0
    · refine ⟨k + 1, ?_⟩
      rw [z, Nat.zero_mul, Nat.zero_add, dg1 (fg_lt _), dg1 (by decide), List.replicate_succ']
    · exact ⟨k, by rw [dg8 (by omega) (fg_lt _), List.append_assoc]⟩
theorem zfill_ot (h : Nat → Nat) {n : Nat} (h1 : 1 ≤ n) : Txt.zfill (figs 8 (vf n h : Nat)) (n : Nat) = ⟨(ot n h).toArray⟩ := by
  obtain ⟨m, rfl⟩ : ∃ m, n = m + 1 := ⟨n - 1, by omega⟩
  obtain ⟨k, e⟩ := digits_ot h m
  have el : (ot (m + 1) h).length = m + 1 := by simp [ot]
  have e0 : ((vf (m + 1) h : Nat) : Int).natAbs = vf (m + 1) h := by omega
  unfold figs
  rw [e0]
  obtain ⟨d, hd⟩ : ∃ d, d = (Nat.toDigits 8 (vf (m + 1) h)).map Char.toNat := ⟨_, rfl⟩
  rw [← hd] at e ⊢
  have dl : k + d.length = m + 1 := by
    rw [e, List.length_append, List.length_replicate] at el
    exact el
  have len : (⟨d.toArray⟩ : Str).length = d.length := by simp [Str.length]
  unfold Txt.zfill
  rw [len]
  by_cases c : k = 0
  · subst c
    rw [if_pos (by omega), e]
    simp
  · rw [if_neg (by omega)]
    have c0 : ∀ x, d[0]? = some x → x ≠ 43 ∧ x ≠ 45 := fun x hx => by
      have mx : x ∈ ot (m + 1) h := by
        rw [e]
        exact List.mem_append_right _ (List.mem_of_getElem? hx)
      obtain ⟨j, _, rfl⟩ := List.mem_map.mp mx
      omega
    have ez : (((m + 1 : Nat) : Int)).toNat - d.length = k := by omega
    rw [ez, e]
    unfold zfilled
    have e1 : (⟨d.toArray⟩ : Str).cps[0]? = d[0]? := by simp
    rw [e1]
    split
    · rename_i hx
      exact absurd rfl (c0 _ hx).1
    · rename_i hx
      exact absurd rfl (c0 _ hx).2
    · show (⟨Array.replicate k 48 ++ d.toArray ++ Array.replicate 0 48⟩ : Str) = _
      congr 1
      apply Array.toList_inj.mp
      simp
end Vw
set_option Elab.async false
set_option linter.all false
set_option maxRecDepth 100000
set_option maxHeartbeats 4000000
set_option exponentiation.threshold 9000
/-! Vw, part three: products, by the program. -/
namespace Vw
open PySem PySem.Spec L2 Mo Lw Pw Qw Rw Sw Tw Tx Uw
@[simp] theorem o0 : fOrd [.str "0"] = some (.int 48) := by
  have e : ("0" : Str) = ⟨#[48]⟩ := by decide +kernel
  rw [e]
  rfl
@[simp] theorem o1 : fOrd [.str "1"] = some (.int 49) := by
  have e : ("1" : Str) = ⟨#[49]⟩ := by decide +kernel
  rw [e]
  rfl
@[simp] theorem on : fOrd [.str "n"] = some (.int 110) := by
  have e : ("n" : Str) = ⟨#[110]⟩ := by decide +kernel
  rw [e]
  rfl
@[simp] theorem od : fOrd [.str "."] = some (.int 46) := by
  have e : ("." : Str) = ⟨#[46]⟩ := by decide +kernel
  rw [e]
  rfl
@[simp] theorem o7 : fOrd [.str "7"] = some (.int 55) := by
  have e : ("7" : Str) = ⟨#[55]⟩ := by decide +kernel
  rw [e]
  rfl
@[simp] theorem o6 : fOrd [.str "6"] = some (.int 54) := by
  have e : ("6" : Str) = ⟨#[54]⟩ := by decide +kernel
  rw [e]
  rfl
@[simp] theorem o4 : fOrd [.str "4"] = some (.int 52) := by
  have e : ("4" : Str) = ⟨#[52]⟩ := by decide +kernel
  rw [e]
  rfl
@[simp] theorem asKey_i (i : Int) : asKey (.int i) = some (.inl i) := rfl
def dkN : List (Key × D) := [(.inl 48, .str "7"), (.inl 49, .str "6"), (.inl 110, .str "4"), (.inl 46, .str "0")]
def dkR : List (Key × D) := [(.inl 55, .str "0"), (.inl 54, .str "1"), (.inl 52, .str "n"), (.inl 48, .str ".")]
theorem trN {r : Nat} (h : r ≤ 3) : trOne dkN (cs r) = some (48 + fg r) := by
  rcases le3 h with e | e | e | e <;> subst e <;> decide +kernel
theorem trR' {r : Nat} (h : r ≤ 3) : trOne dkR (48 + fg r) = some (cs r) := by
  rcases le3 h with e | e | e | e <;> subst e <;> decide +kernel
theorem mapM_of {f : Nat → Option Nat} {g k : Nat → Nat} : ∀ {l : List Nat}, (∀ j ∈ l, f (g j) = some (k j)) → (l.map g).mapM f = some (l.map k)
  | [], _ => rfl
  | j :: l, h => by
    rw [List.map_cons, List.mapM_cons, h j List.mem_cons_self, mapM_of fun x m => h x (List.mem_cons_of_mem _ m)]
    rfl
theorem trans_rt {n : Nat} {h : Nat → Nat} (hn : n ≤ 600) (hh : ∀ j, j < n → h j ≤ 3) : fTransl (.str (rt n h)) (.dk dkN) = some (.str ⟨(ot n h).toArray⟩) := by
  show (if (rt n h).length ≤ 1000000 then ((rt n h).cps.toList.mapM (trOne dkN)).map fun l => D.str ⟨l.toArray⟩ else none) = _
  rw [if_pos (by rw [rt_len]; omega), rt_cps, mapM_of (k := fun j => 48 + fg (h j)) fun j m => trN (hh j (List.mem_range.mp m))]
  rfl
theorem trans_ot {n : Nat} {h : Nat → Nat} (hn : n ≤ 600) (hh : ∀ j, j < n → h j ≤ 3) : fTransl (.str ⟨(ot n h).toArray⟩) (.dk dkR) = some (.str (rt n h)) := by
  have e : (⟨(ot n h).toArray⟩ : Str).cps.toList = (List.range n).map fun j => 48 + fg (h j) := by simp [ot]
  show (if (⟨(ot n h).toArray⟩ : Str).length ≤ 1000000 then ((⟨(ot n h).toArray⟩ : Str).cps.toList.mapM (trOne dkR)).map fun l => D.str ⟨l.toArray⟩ else none) = _
  rw [if_pos (by simp [Str.length, ot]; omega), e, mapM_of (k := fun j => cs (h j)) fun j m => trR' (hh j (List.mem_range.mp m))]
  rfl
theorem int8_ot {n : Nat} {h : Nat → Nat} (h1 : 1 ≤ n) (hn : n ≤ 600) : fInt8 [.str ⟨(ot n h).toArray⟩, .int 8] = some (.int (vf n h : Nat)) := by
  have e : (⟨(ot n h).toArray⟩ : Str).cps.toList = ot n h := by simp
  have el : (ot n h).length = n := by simp [ot]
  show (if (⟨(ot n h).toArray⟩ : Str).length ≤ 640 ∧ (∀ c ∈ (⟨(ot n h).toArray⟩ : Str).cps.toList, Oc.IsO c) ∧ (⟨(ot n h).toArray⟩ : Str).cps.toList ≠ [] then some (D.int ((Oc.oct (⟨(ot n h).toArray⟩ : Str).cps.toList : Nat) : Int)) else none) = _
  rw [e, if_pos, oct_ot]
  refine ⟨by simp [Str.length, ot]; omega, fun c m => ?_, fun z => by rw [z] at el; simp at el; omega⟩
  obtain ⟨j, _, rfl⟩ := List.mem_map.mp m
  have := fg_lt (h j)
  exact ⟨by omega, by omega⟩
noncomputable def m26numberof : M Oc := (seq (mRet (mCall fInt8 (mCons (mMs1 fTransl (mName 0) (frz (mDisp (mPairs (mCall fOrd (mCons (ret (.str "0")) (ret []))) (ret (.str "7")) (mPairs (mCall fOrd (mCons (ret (.str "1")) (ret []))) (ret (.str "6")) (mPairs (mCall fOrd (mCons (ret (.str "n")) (ret []))) (ret (.str "4")) (mPairs (mCall fOrd (mCons (ret (.str ".")) (ret []))) (ret (.str "0")) (ret [])))))))) (mCons (ret (.int 8)) (ret []))))) (ret .nx))
def NumS (F : FD) : Prop := ∀ (n : Nat) (h : Nat → Nat) (c : C3), 1 ≤ n → n ≤ 600 → (∀ j, j < n → h j ≤ 3) → F [.str (rt n h)] c = some (.int (vf n h : Nat), c)
theorem num_spec : NumS (runM false 1 1 m26numberof) := fun n h c h1 h2 hh => by
  refine run_pure rfl ?_
  have e0 : mergeD [] [(.inl 48, .str "7"), (.inl 49, .str "6"), (.inl 110, .str "4"), (.inl 46, .str "0")] = dkN := rfl
  simp [m26numberof, ev_name_v, e0, trans_rt h2 hh, int8_ot h1 h2]
theorem pad_ok {n : Nat} (hn : n ≤ 600) : PadOk (n : Int) = true := by
  unfold PadOk fitsSsize
  have h1 : decide ((n : Int) < -(2 ^ 63 : Int)) = false := decide_eq_false (by omega)
  have h2 : decide ((n : Int) ≥ 2 ^ 63) = false := decide_eq_false (by omega)
  have h3 : Builtin.Str.tooLong (n : Int).toNat = false := PyProof.Rows.short24 (by omega)
  rw [h1, h2, h3]
  rfl
def RowOfS (F : FD) : Prop := ∀ (n : Nat) (h : Nat → Nat) (c : C3), 1 ≤ n → n ≤ 600 → (∀ j, j < n → h j ≤ 3) → F [.int (vf n h : Nat), .int (n : Int)] c = some (.str (rt n h), c)
end Vw
set_option Elab.async false
set_option linter.all false
set_option maxRecDepth 100000
set_option maxHeartbeats 4000000
set_option exponentiation.threshold 9000
/-! Vw, part four: masks, rows of products, products. -/
namespace Vw
open PySem PySem.Spec L2 Mo Lw Pw Qw Rw Sw Tw Tx Uw
theorem rt_rep (n r : Nat) : rt n (fun _ => r) = ⟨(List.replicate n (cs r)).toArray⟩ := by
  unfold rt
  congr 2
  rw [List.map_const', List.length_range]
theorem fold_app {α : Type} : ∀ (k : Nat) (x z : Array α), (List.replicate k x).foldl (· ++ ·) z = z ++ ((List.replicate k x.toList).flatten).toArray
  | 0, x, z => by simp
  | k + 1, x, z => by
    rw [List.replicate_succ, List.foldl_cons, fold_app k x]
    apply Array.toList_inj.mp
    simp [List.replicate_succ]
theorem mul_rt (r n : Nat) : Txt.mul (sT r) (n : Nat) = rt n fun _ => r := by
  rw [rt_rep]
  unfold Txt.mul
  by_cases h0 : n = 0
  · subst h0
    rfl
  · rw [if_neg (by omega)]
    by_cases h1 : n = 1
    · subst h1
      rfl
    · have e : ((((n : Nat) : Int) == 1) || (sT r).length == 0) = false := by
        rw [Bool.or_eq_false_iff]
        refine ⟨?_, rfl⟩
        rw [beq_eq_false_iff_ne]
        omega
      rw [e, if_neg Bool.false_ne_true]
      show (⟨(List.replicate ((n : Nat) : Int).toNat (sT r).cps).foldl (· ++ ·) #[]⟩ : Str) = _
      rw [fold_app, Int.toNat_natCast]
      congr 1
      apply Array.toList_inj.mp
      have : ∀ k, ((List.replicate k [cs r]).flatten : List Nat) = List.replicate k (cs r) := fun k => by
        induction k with
        | zero => rfl
        | succ k ih => rw [List.replicate_succ, List.flatten_cons, ih, List.replicate_succ]; rfl
      simpa [sT] using this n
theorem times_rt {r n : Nat} (hn : n ≤ 600) : uTimesT (.str (sT r)) (.int (n : Int)) = some (.str (rt n fun _ => r)) := by
  have e : uTimesT (.str (sT r)) (.int (n : Int)) = if 0 ≤ (n : Int) ∧ (n : Int) < 2 ^ 40 ∧ (sT r).length * (n : Int).toNat ≤ 1000000 then some (.str (Txt.mul (sT r) (n : Int))) else none := by
    unfold uTimesT
    rfl
  have l1 : (sT r).length = 1 := rfl
  rw [e, if_pos ⟨by omega, by omega, by rw [l1]; omega⟩, mul_rt]
theorem bAnd (a b : Nat) : Builtin.bitAnd (a : Int) (b : Int) = ((a &&& b : Nat) : Int) := by
  unfold Builtin.bitAnd
  rw [decide_eq_true (show (0 : Int) ≤ a by omega), decide_eq_true (show (0 : Int) ≤ b by omega)]
  show (((a : Int).toNat &&& (b : Int).toNat : Nat) : Int) = _
  rw [Int.toNat_natCast, Int.toNat_natCast]
theorem bNot (a : Int) : Builtin.bitNot a = -a - 1 := by
  unfold Builtin.bitNot
  omega
theorem bOr (a b : Nat) : Builtin.bitOr (a : Int) (b : Int) = ((a ||| b : Nat) : Int) := by
  unfold Builtin.bitOr Builtin.bitAnd
  rw [decide_eq_false (show ¬ (0 : Int) ≤ Builtin.bitNot a by rw [bNot]; omega), decide_eq_false (show ¬ (0 : Int) ≤ Builtin.bitNot b by rw [bNot]; omega)]
  have n2 : ∀ x : Int, Builtin.bitNot (Builtin.bitNot x) = x := fun x => by rw [bNot, bNot]; omega
  show Builtin.bitNot (Builtin.bitNot (((Builtin.bitNot (Builtin.bitNot (a : Int))).toNat ||| (Builtin.bitNot (Builtin.bitNot (b : Int))).toNat : Nat) : Int)) = _
  rw [n2, n2, n2, Int.toNat_natCast, Int.toNat_natCast]
theorem pairs_map {α : Type} (f g : α → D) : ∀ l : List α, pairs (l.map f) (l.map g) = l.map fun k => D.tup [f k, g k]
  | [] => rfl
  | x :: l => by
    have := pairs_map f g l
    unfold pairs at this ⊢
    simp only [List.map_cons, List.zip_cons_cons] at this ⊢
    rw [this]
/-- the masks -/
def mskE (n r : Nat) : Key × D := (.inr (sT r), .int (vf n (fun _ => r) : Nat))
def mskD (n : Nat) : List (Key × D) := [mskE n 0, mskE n 1, mskE n 2, mskE n 3]
theorem chars_sg : chars ("01n." : Str) = [.str (sT 0), .str (sT 1), .str (sT 2), .str (sT 3)] := by
  have e : ("01n." : Str) = ⟨#[48, 49, 110, 46]⟩ := by decide +kernel
  rw [e]
  rfl
noncomputable def m26masksfor (Fnumberof : FD) : M Oc := (seq (mRet (frz (mDc (.k []) [1] (mIter (ret (.str "01n."))) (stName 1) (ret true) (mName 1) (mFn Fnumberof (mCons (mBin uTimesT (mName 1) (mName 0)) (ret [])))))) (ret .nx))
def MaskS (F : FD) : Prop := ∀ (n : Nat) (c : C3), 1 ≤ n → n ≤ 600 → F [.int (n : Int)] c = some (.dk (mskD n), c)
theorem mask_spec {Fn : FD} (hn : NumS Fn) : MaskS (runM false 2 1 (m26masksfor Fn)) := fun n c h1 h2 => by
  refine run_pure rfl ?_
  simp [m26masksfor, ev_name_v, chars_sg, noOwn, plainSl]
  obtain ⟨I, hI⟩ : ∃ I : List D → O → G → Prop, ∀ ds o g, I ds o g ↔ ∃ k, k ≤ 4 ∧ ds = [D.str (sT 0), .str (sT 1), .str (sT 2), .str (sT 3)].drop k ∧ o = .k ((mskD n).take k) ∧ g = ⟨[.v (.int (n : Int)), .un], c⟩ := ⟨_, fun _ _ _ => Iff.rfl⟩
  refine ev_dcGo I (fun d r acc g h => ?_) (fun acc g h => ?_) _ _ _ ((hI _ _ _).mpr ⟨0, by omega, rfl, rfl, rfl⟩)
  · obtain ⟨k, k4, e1, e2, e3⟩ := (hI _ _ _).mp h
    subst e2 e3
    have num : ∀ r, r ≤ 3 → Fn [.str (rt n fun _ => r)] c = some (.int (vf n (fun _ => r) : Nat), c) := fun r hr => hn n _ c h1 h2 fun _ _ => hr
    have k3 : k = 0 ∨ k = 1 ∨ k = 2 ∨ k = 3 := by
      have := congrArg List.length e1
      simp at this
      omega
    rcases k3 with z | z | z | z <;> subst z <;> cases e1 <;> refine ⟨_, rfl, ?_⟩ <;> simp [ev_name_v, times_rt h2, num]
    · exact ⟨_, rfl, (hI _ _ _).mpr ⟨1, by omega, rfl, rfl, rfl⟩⟩
    · exact ⟨_, rfl, (hI _ _ _).mpr ⟨2, by omega, rfl, rfl, rfl⟩⟩
    · exact ⟨_, rfl, (hI _ _ _).mpr ⟨3, by omega, rfl, rfl, rfl⟩⟩
    · exact ⟨_, rfl, (hI _ _ _).mpr ⟨4, by omega, rfl, rfl, rfl⟩⟩
  · obtain ⟨k, k4, e1, e2, e3⟩ := (hI _ _ _).mp h
    subst e2 e3
    have : k = 4 := by
      have := congrArg List.length e1
      simp at this
      omega
    subst this
    exact ⟨rfl, rfl⟩
theorem mask_get {n r : Nat} (h : r ≤ 3) : uIx (.dk (mskD n)) (.str (sT r)) = some (.int (vf n (fun _ => r) : Nat)) := by
  rcases le3 h with e | e | e | e <;> subst e <;> rfl
/-- the least of the first m -/
def prK (h : Nat → Nat) (b : Nat → Nat → Nat) (m : Nat) : Nat → Nat := fun j => (List.range m).foldl (fun s k => min s (max (h k) (b k j))) 3
theorem prK_succ (h : Nat → Nat) (b : Nat → Nat → Nat) (m j : Nat) : prK h b (m + 1) j = min (prK h b m j) (max (b m j) (h m)) := by
  unfold prK
  rw [List.range_succ, List.foldl_append, List.foldl_cons, List.foldl_nil, Nat.max_comm (b m j)]
theorem prK_3 (h : Nat → Nat) (b : Nat → Nat → Nat) (m j : Nat) : prK h b m j ≤ 3 := (foldl_le (fun k => max (h k) (b k j)) 3 _ _).mpr (.inl (Nat.le_refl _))
def numsD (n : Nat) (b : Nat → Nat → Nat) : D := .lst ((List.range n).map fun k => .int (vf n (b k) : Nat))
def RowBS (F : FD) : Prop := ∀ (n : Nat) (h : Nat → Nat) (b : Nat → Nat → Nat) (c : C3), 1 ≤ n → n ≤ 600 → (∀ j, j < n → h j ≤ 3) → M3 n b → F [.str (rt n h), numsD n b, .dk (mskD n)] c = some (.str (rt n (prK h b n)), c)
end Vw
set_option Elab.async false
set_option linter.all false
set_option maxRecDepth 100000
set_option maxHeartbeats 4000000
set_option exponentiation.threshold 9000
/-! Vw, part five: squares of the program. -/
namespace Vw
open PySem PySem.Spec L2 Mo Lw Pw Qw Rw Sw Tw Tx Uw
/-! ### values without a change of the state -/
def Va (m : M D) (g : G) (d : D) : Prop := Ev m g fun x g' => x = d ∧ g' = g
def Vl (m : M (List D)) (g : G) (ds : List D) : Prop := Ev m g fun x g' => x = ds ∧ g' = g
def Vt (m : M Bool) (g : G) (b : Bool) : Prop := Ev m g fun x g' => x = b ∧ g' = g
theorem ev_fun {α : Type} {m : M α} {g : G} {d : α} (h : Ev m g fun x g' => x = d ∧ g' = g) {Q : α → G → Prop} : Ev m g Q ↔ Q d g := by
  obtain ⟨x, g', e, rfl, rfl⟩ := h
  constructor
  · rintro ⟨y, g2, e2, q⟩
    rw [e] at e2
    cases e2
    exact q
  · exact fun q => ⟨_, _, e, q⟩
section
variable {s : List Sl} {c : C3} {d x y : D} {ds : List D} {m ma mb : M D} {ms : M (List D)} {C : Addr} {F : FD} {fs gs : List (Str × D)}
theorem va_name {i : Nat} (h : s[i]? = some (.v d)) : Va (mName i) ⟨s, c⟩ d := (ev_name_v h).mpr ⟨rfl, rfl⟩
theorem vl_nil : Vl (ret []) ⟨s, c⟩ [] := ev_ret.mpr ⟨rfl, rfl⟩
theorem vl_cons (h : Va m ⟨s, c⟩ d) (hs : Vl ms ⟨s, c⟩ ds) : Vl (mCons m ms) ⟨s, c⟩ (d :: ds) := ev_cons.mpr ((ev_fun h).mpr ((ev_fun hs).mpr ⟨rfl, rfl⟩))
theorem va_fn (hs : Vl ms ⟨s, c⟩ ds) (e : F ds c = some (d, c)) : Va (mFn F ms) ⟨s, c⟩ d := ev_fn.mpr ((ev_fun hs).mpr ⟨_, _, e, rfl, rfl⟩)
theorem va_make (hs : Vl ms ⟨s, c⟩ ds) (e : F ds (.n C []) = some (.non, .n C fs)) : Va (frz (mMake C F ms)) ⟨s, c⟩ (.ins C fs) := ev_frz.mpr (ev_make.mpr ((ev_fun hs).mpr ⟨fs, e, rfl, rfl⟩))
theorem va_bin (ha : Va ma ⟨s, c⟩ (.ins C fs)) (hb : Va mb ⟨s, c⟩ (.ins C gs)) (e : F [.ins C fs, .ins C gs] c = some (d, c)) : Va (mBinI C F ma mb) ⟨s, c⟩ d := ev_binI ((ev_fun ha).mpr ((ev_fun hb).mpr ⟨fs, gs, rfl, rfl, d, c, e, rfl, rfl⟩))
theorem va_prop (ha : Va ma ⟨s, c⟩ (.ins C fs)) (e : F [.ins C fs] c = some (d, c)) : Va (mProp C F ma) ⟨s, c⟩ d := ev_prop.mpr ((ev_fun ha).mpr ⟨fs, rfl, d, c, e, rfl, rfl⟩)
theorem va_meth {nm : Str} (ha : Va ma ⟨s, c⟩ (.ins C fs)) (hn : getF nm fs = none) (e : F [.ins C fs] c = some (d, c)) : Va (mMeth C nm F ma (ret [])) ⟨s, c⟩ d := ev_meth.mpr ((ev_fun ha).mpr ⟨fs, rfl, hn, ev_ret.mpr ⟨d, c, e, rfl, rfl⟩⟩)
theorem va_eqZ {Os : List Addr} {neg t : Bool} (ha : Va ma ⟨s, c⟩ (.ins C fs)) (hb : Va mb ⟨s, c⟩ y) (hz : isTZ C Os y = true) (e : F [.ins C fs, y] c = some (.bl t, c)) : Va (mEqZ neg C Os F ma mb) ⟨s, c⟩ (.bl (bif neg then !t else t)) := ev_eqZ.mpr ((ev_fun ha).mpr ((ev_fun hb).mpr ⟨fs, rfl, hz, t, c, e, rfl, rfl⟩))
theorem vt_eqZ {Os : List Addr} {neg t : Bool} (ha : Va ma ⟨s, c⟩ (.ins C fs)) (hb : Va mb ⟨s, c⟩ y) (hz : isTZ C Os y = true) (e : F [.ins C fs, y] c = some (.bl t, c)) : Vt (mtEqZ neg C Os F ma mb) ⟨s, c⟩ (bif neg then !t else t) := ev_teqZ.mpr ((ev_fun ha).mpr ((ev_fun hb).mpr ⟨fs, rfl, hz, t, c, e, rfl, rfl⟩))
theorem vt_eq {f : D → D → Option D} {b : Bool} (ha : Va ma ⟨s, c⟩ x) (hb : Va mb ⟨s, c⟩ y) (e : f x y = some (.bl b)) : Vt (mT2 f ma mb) ⟨s, c⟩ b := by
  unfold Vt
  simp [ev_fun ha, ev_fun hb, e]
theorem va_op {f : D → D → Option D} (ha : Va ma ⟨s, c⟩ x) (hb : Va mb ⟨s, c⟩ y) (e : f x y = some d) : Va (mBin f ma mb) ⟨s, c⟩ d := by
  unfold Va
  simp [ev_fun ha, ev_fun hb, e]
theorem vt_tru {b : Bool} (ha : Va ma ⟨s, c⟩ (.bl b)) : Vt (mTru ma) ⟨s, c⟩ b := by
  unfold Vt
  simp [ev_fun ha]
end
/-! ### products -/
abbrev sqD (n : Nat) (a : Nat → Nat → Nat) : D := .tup (sL (sq n a))
theorem sL_sq (n : Nat) (a : Nat → Nat → Nat) : sL (sq n a) = (List.range n).map fun i => D.str (rt n (a i)) := by
  unfold sL sq
  rw [List.map_map]
  rfl
theorem pr_row (n : Nat) (a b : Nat → Nat → Nat) (i : Nat) : prK (a i) b n = pr n a b i := rfl
noncomputable def m26productof (Fnumberof Fmasksfor Frowbehind : FD) : M Oc := (seq (mSet 2 (frz (mLc [4] (mIter (mName 1)) (stName 4) (ret true) (mFn Fnumberof (mCons (mName 4) (ret [])))))) (seq (mSet 3 (mFn Fmasksfor (mCons (mCall fLen (mCons (mName 1) (ret []))) (ret [])))) (seq (mRet (mCall fTuple (mCons (frz (mLc [4] (mIter (mName 0)) (stName 4) (ret true) (mFn Frowbehind (mCons (mName 4) (mCons (mName 2) (mCons (mName 3) (ret []))))))) (ret [])))) (ret .nx))))
def ProdS (F : FD) : Prop := ∀ (n : Nat) (a b : Nat → Nat → Nat) (c : C3), 1 ≤ n → n ≤ 600 → M3 n a → M3 n b → F [sqD n a, sqD n b] c = some (sqD n (pr n a b), c)
theorem prod_spec {Fn Fm Fr : FD} (hn : NumS Fn) (hm : MaskS Fm) (hr : RowBS Fr) : ProdS (runM false 5 2 (m26productof Fn Fm Fr)) := fun n a b c h1 h2 ha hb => by
  refine run_pure rfl ?_
  have em := hm n c h1 h2
  simp [-List.map_map, m26productof, ev_name_v, sL_sq, noOwn, plainSl]
  refine ev_lcPure (List.range n) (fun i => D.str (rt n (b i))) (fun _ => true) (fun i => .int (vf n (b i) : Nat)) (fun i m => ⟨_, rfl, ?_⟩) (by rw [List.length_range, sizeLine_eq]; omega) ?_
  · have := hn n (b i) c h1 h2 fun j hj => hb i j (List.mem_range.mp m) hj
    simp [-List.map_map, ev_name_v, this]
  · rw [filter_tt]
    have el : fLen [.tup ((List.range n).map fun i => D.str (rt n (b i)))] = some (.int (n : Int)) := by
      show some (D.int (((List.range n).map _).length : Int)) = _
      simp
    simp [-List.map_map, ev_name_v, sL_len, sq_len, sL_sq, em, noOwn, plainSl]
    refine ev_lcPure (List.range n) (fun i => D.str (rt n (a i))) (fun _ => true) (fun i => .str (rt n (pr n a b i))) (fun i m => ⟨_, rfl, ?_⟩) (by rw [List.length_range, sizeLine_eq]; omega) ?_
    · have := hr n (a i) b c h1 h2 (fun j hj => ha i j (List.mem_range.mp m) hj) hb
      rw [pr_row] at this
      have e2 : D.lst ((List.range n).map fun i => D.int (vf n (b i) : Nat)) = numsD n b := rfl
      simp [-List.map_map, ev_name_v, e2, this]
    · rw [filter_tt]
      simp [-List.map_map, fTuple]
      exact (sL_sq n _).symm
/-! ### squares as own things -/
abbrev qO (Cq : Addr) (n : Nat) (a : Nat → Nat → Nat) : D := sO Cq (sq n a)
theorem sO_ins (Cq : Addr) (ss : List Str) : sO Cq ss = .ins Cq [("_rows", .tup (sL ss))] := rfl
noncomputable def m26Squareeq (CSquare : Addr) : M Oc := (seq (mIf (mtNot (mTru (mIsZ CSquare [] (mName 1)))) (seq (mRet (ret (.bl false))) (ret .nx)) (ret .nx)) (seq (mRet (mBin (fEq false) (mFld CSquare "_rows" (mName 0)) (mFld CSquare "_rows" (mName 1)))) (ret .nx)))
def QEqS (Cq : Addr) (F : FD) : Prop := ∀ (a b : List Str) (c : C3), OkS a → OkS b → F [sO Cq a, sO Cq b] c = some (.bl (decide (a = b)), c)
theorem isZ_sO {Cq : Addr} {Os : List Addr} {ss : List Str} : fIsZ Cq Os (sO Cq ss) = some (.bl true) := if_pos rfl
theorem isTZ_sO {Cq : Addr} {Os : List Addr} {ss : List Str} : isTZ Cq Os (sO Cq ss) = true := by
  simp [isTZ, sO]
theorem qeq_spec {Cq : Addr} : QEqS Cq (runM false 2 2 (m26Squareeq Cq)) := fun a b c ha hb => by
  refine run_pure rfl ?_
  have := fEq_tupS (neg := false) ha hb
  simp [m26Squareeq, ev_name_v, isZ_sO, this]
noncomputable def m26Squaremul (CSquare : Addr) (Fchecksize FSquareinit Fproductof : FD) : M Oc := (seq (mIf (mtNot (mTru (mIsZ CSquare [] (mName 1)))) (seq (mRet bad) (ret .nx)) (ret .nx)) (seq (mExpr (mFn Fchecksize (mCons (mCall fLen (mCons (mFld CSquare "_rows" (mName 1)) (ret []))) (mCons (mCall fLen (mCons (mFld CSquare "_rows" (mName 0)) (ret []))) (ret []))))) (seq (mRet (frz (mMake CSquare FSquareinit (mCons (mFn Fproductof (mCons (mFld CSquare "_rows" (mName 0)) (mCons (mFld CSquare "_rows" (mName 1)) (ret [])))) (ret []))))) (ret .nx))))
def MulS (Cq : Addr) (F : FD) : Prop := ∀ (n : Nat) (a b : Nat → Nat → Nat) (c : C3), 1 ≤ n → n ≤ 24 → M3 n a → M3 n b → F [qO Cq n a, qO Cq n b] c = some (qO Cq n (pr n a b), c)
theorem fLen_sq (n : Nat) (a : Nat → Nat → Nat) : fLen [sqD n a] = some (.int (n : Int)) := by
  show some (D.int ((sL (sq n a)).length : Int)) = _
  rw [sL_len, sq_len]
theorem pr_m3 {n : Nat} {a b : Nat → Nat → Nat} : M3 n (pr n a b) := fun _ _ _ _ => pr_3
theorem mul_spec {Cq : Addr} {Fc Fi Fp : FD} (hc : ChkSizeS Fc) (hi : QInitS Cq Fi) (hp : ProdS Fp) : MulS Cq (runM false 2 2 (m26Squaremul Cq Fc Fi Fp)) := fun n a b c h1 h2 ha hb => by
  refine run_pure rfl ?_
  have e1 := hc (n : Int) c
  have e2 := hp n a b c h1 (by omega) ha hb
  have e3 := hi (sq n (pr n a b)) (sq_ok h1 h2 pr_m3)
  simp [m26Squaremul, ev_name_v, isZ_sO, sL_len, sq_len, e1, e2, e3]
  rfl
noncomputable def m26isstablesquare (Fproductof : FD) : M Oc := (seq (mRet (mBin (fEq false) (mFn Fproductof (mCons (mName 0) (mCons (mName 0) (ret [])))) (mName 0))) (ret .nx))
theorem sq_okS {n : Nat} {a : Nat → Nat → Nat} (ha : M3 n a) : OkS (sq n a) := fun x m => by
  obtain ⟨i, mi, rfl⟩ := List.mem_map.mp m
  exact sgT_str (rt_sg fun j hj => ha i j (List.mem_range.mp mi) hj)
def StableS (F : FD) : Prop := ∀ (n : Nat) (a : Nat → Nat → Nat) (c : C3), 1 ≤ n → n ≤ 24 → M3 n a → F [sqD n a] c = some (.bl (decide (sq n (pr n a a) = sq n a)), c)
theorem stable_spec {Fp : FD} (hp : ProdS Fp) : StableS (runM false 1 1 (m26isstablesquare Fp)) := fun n a c h1 h2 ha => by
  refine run_pure rfl ?_
  have e1 := hp n a a c h1 (by omega) ha ha
  have e2 := fEq_tupS (neg := false) (sq_okS (pr_m3 (n := n) (a := a) (b := a))) (sq_okS ha)
  simp [m26isstablesquare, ev_name_v, e1, e2]
noncomputable def m26Squareisstable (CSquare : Addr) (Fisstablesquare : FD) : M Oc := (seq (mRet (mFn Fisstablesquare (mCons (mFld CSquare "_rows" (mName 0)) (ret [])))) (ret .nx))
def QStS (Cq : Addr) (F : FD) : Prop := ∀ (n : Nat) (a : Nat → Nat → Nat) (c : C3), 1 ≤ n → n ≤ 24 → M3 n a → F [qO Cq n a] c = some (.bl (decide (sq n (pr n a a) = sq n a)), c)
theorem qst_spec {Cq : Addr} {Fs : FD} (hs : StableS Fs) : QStS Cq (runM false 1 1 (m26Squareisstable Cq Fs)) := fun n a c h1 h2 ha => by
  refine run_pure rfl ?_
  have e1 := hs n a c h1 h2 ha
  simp [m26Squareisstable, ev_name_v, e1]
/-! ### repeats -/
theorem dq_3 {e : Nat → Nat → Nat} {v : Nat} (h : e v v ≤ 3) : dq e v ≤ 3 := by
  unfold dq
  split <;> omega
theorem dg_m3 {n : Nat} {e : Nat → Nat → Nat} (h : M3 n e) : M3 n (dg e) := fun i j hi hj => by
  unfold dg
  split
  · exact dq_3 (h i i hi hi)
  · exact Nat.le_refl _
theorem repl_sT {r : Nat} (h : r ≤ 3) : Txt.replace (sT r) "1" "n" = sT (if r = 1 then 2 else r) := by
  rcases le3 h with e | e | e | e <;> subst e <;> decide +kernel
theorem replIx {n : Nat} {h : Nat → Nat} {j : Nat} (hn : n ≤ 600) (hj : j < n) (hh : h j ≤ 3) : fReplIx "1" "n" (.str (rt n h)) (.int (j : Int)) = some (.str (sT (if h j = 1 then 2 else h j))) := by
  have e1 : (rt n h).cps[j]? = some (cs (h j)) := by
    rw [← Array.getElem?_toList, rt_cps]
    simp [hj]
  have l1 : ("n" : Str).length = 1 := by decide +kernel
  have e : fReplIx "1" "n" (.str (rt n h)) (.int (j : Int)) = if 0 ≤ (j : Int) ∧ (j : Int) < 2 ^ 63 ∧ (j : Int) < (rt n h).length ∧ ("n" : Str).length ≤ 1000 then ((rt n h).cps[(j : Int).toNat]?).map fun c => D.str (Txt.replace ⟨#[c]⟩ "1" "n") else none := rfl
  rw [e, if_pos ⟨by omega, by omega, by rw [rt_len]; omega, by rw [l1]; omega⟩, Int.toNat_natCast, e1]
  show some (D.str (Txt.replace (sT (h j)) "1" "n")) = _
  rw [repl_sT hh]
def DiagS (F : FD) : Prop := ∀ (n : Nat) (d : Nat → Nat) (c : C3), n ≤ 600 → (∀ i, i < n → d i ≤ 3) → F [.lst ((List.range n).map fun i => D.str (sT (d i)))] c = some (sqD n fun i j => if i = j then d i else 3, c)
theorem sT3 : sT 3 = "." := by decide +kernel
theorem enum_t (xs : List D) : fEnum [.tup xs] = some (pairs (rngD 0 xs.length) xs) := rfl
theorem enum_map (n : Nat) (f : Nat → D) : pairs (rngD 0 ((List.range n).map f).length) ((List.range n).map f) = (List.range n).map fun i : Nat => D.tup [.int (i : Int), f i] := by
  have : rngD 0 ((List.range n).map f).length = (List.range n).map fun i : Nat => D.int (i : Int) := by
    unfold rngD
    simp
  rw [this, pairs_map]
noncomputable def m26repeatof (Fproductof Fdiagonal : FD) : M Oc := (seq (mSet 1 (frz (mLc [2, 3] (mWk fEnum (mCons (mName 0) (ret []))) (stTup 2 (stCons (stName 2) (stCons (stName 3) stNil))) (ret true) (mBin (fReplIx "1" "n") (mName 3) (mName 2))))) (seq (mRet (mFn Fproductof (mCons (mFn Fproductof (mCons (mName 0) (mCons (mFn Fdiagonal (mCons (mName 1) (ret []))) (ret [])))) (mCons (mName 0) (ret []))))) (ret .nx)))
def RepS (F : FD) : Prop := ∀ (n : Nat) (a : Nat → Nat → Nat) (c : C3), 1 ≤ n → n ≤ 24 → M3 n a → F [sqD n a] c = some (sqD n (rp n a), c)
theorem rep_spec {Fp Fd : FD} (hp : ProdS Fp) (hd : DiagS Fd) : RepS (runM false 4 1 (m26repeatof Fp Fd)) := fun n a c h1 h2 ha => by
  refine run_pure rfl ?_
  have en := enum_t ((List.range n).map fun i => D.str (rt n (a i)))
  rw [enum_map, ← sL_sq] at en
  have d3 : ∀ i, i < n → dq a i ≤ 3 := fun i hi => dq_3 (ha i i hi hi)
  have e1 := hd n (dq a) c (by omega) d3
  have e2 := hp n a (dg a) c h1 (by omega) ha (dg_m3 ha)
  have e3 := hp n (pr n a (dg a)) a c h1 (by omega) pr_m3 ha
  have e1' : Fd [.lst ((List.range n).map fun i => D.str (sT (dq a i)))] c = some (sqD n (dg a), c) := e1
  simp [-List.map_map, -List.length_map, m26repeatof, ev_name_v, en, noOwn, plainSl]
  refine ev_lcPure (List.range n) (fun i : Nat => D.tup [.int (i : Int), .str (rt n (a i))]) (fun _ => true) (fun i => .str (sT (dq a i))) (fun i m => ⟨_, rfl, ?_⟩) (by rw [List.length_range, sizeLine_eq]; omega) ?_
  · have hi := List.mem_range.mp m
    have := replIx (n := n) (h := a i) (j := i) (by omega) hi (ha i i hi hi)
    simp [-List.map_map, ev_name_v, this]
    rfl
  · rw [filter_tt]
    simp [-List.map_map, ev_name_v, e1', e2, e3]
    rfl
noncomputable def m26Squarerepeated (CSquare : Addr) (FSquareisstable FSquareinit Frepeatof : FD) : M Oc := (seq (mIf (mtNot (mTru (mProp CSquare FSquareisstable (mName 0)))) (seq bad (ret .nx)) (ret .nx)) (seq (mRet (frz (mMake CSquare FSquareinit (mCons (mFn Frepeatof (mCons (mFld CSquare "_rows" (mName 0)) (ret []))) (ret []))))) (ret .nx)))
def QRepS (Cq : Addr) (F : FD) : Prop := ∀ (n : Nat) (a : Nat → Nat → Nat) (c : C3), 1 ≤ n → n ≤ 24 → M3 n a → Stb n a → F [qO Cq n a] c = some (qO Cq n (rp n a), c)
theorem rp_m3 {n : Nat} {a : Nat → Nat → Nat} : M3 n (rp n a) := pr_m3
theorem qrep_spec {Cq : Addr} {Fs Fi Fr : FD} (hs : QStS Cq Fs) (hi : QInitS Cq Fi) (hr : RepS Fr) : QRepS Cq (runM false 1 1 (m26Squarerepeated Cq Fs Fi Fr)) := fun n a c h1 h2 ha st => by
  refine run_pure rfl ?_
  have e1 := hs n a c h1 h2 ha
  rw [decide_eq_true (sq_congr st)] at e1
  have e2 := hr n a c h1 h2 ha
  have e3 := hi (sq n (rp n a)) (sq_ok h1 h2 rp_m3)
  simp [m26Squarerepeated, ev_name_v, sO_ins]
  refine ⟨_, _, e1, ?_⟩
  have f1 : fldD Cq "_rows" (.ins Cq [("_rows", .tup (sL (sq n a)))]) = some (.tup (sL (sq n a))) := fld_sO
  simp [ev_name_v, f1, e2, e3]
noncomputable def m26Squarestr (CSquare : Addr) : M Oc := (seq (mRet (mMs1 fJoin (ret (.str "/")) (mFld CSquare "_rows" (mName 0)))) (ret .nx))
def QStrS (Cq : Addr) (F : FD) : Prop := ∀ (ss : List Str) (c : C3), (ss.map (·.length)).sum + ss.length ≤ 1000 → F [sO Cq ss] c = some (.str (Txt.join "/" ss), c)
theorem qstr_spec {Cq : Addr} : QStrS Cq (runM false 1 1 (m26Squarestr Cq)) := fun ss c hl => by
  refine run_pure rfl ?_
  have l1 : ("/" : Str).length = 1 := by decide +kernel
  have e : fJoin (.str "/") (.tup (sL ss)) = some (.str (Txt.join "/" ss)) := by
    have ea : (seqD (.tup (sL ss))).bind asStrs = some ss := asStrs_map ss
    show (match (seqD (.tup (sL ss))).bind asStrs with
      | some ys => if (ys.map fun s : Str => s.length).sum + ys.length * ("/" : Str).length ≤ 16777216 then some (D.str (Txt.join "/" ys)) else none
      | none => none) = _
    rw [ea, l1]
    dsimp only
    rw [if_pos (by omega)]
  simp [m26Squarestr, ev_name_v, e]
end Vw
set_option Elab.async false
set_option linter.all false
set_option maxRecDepth 100000
set_option maxHeartbeats 4000000
set_option exponentiation.threshold 9000
/-! Vw, part six: the law's own products and repeats; least signs. -/
namespace Vw
open PySem PySem.Spec L2 Mo Lw Pw Qw Rw Sw Tw Tx Uw
theorem ev_lput {i : Nat} {mk mv : M D} {g : G} {Q : Oc → G → Prop} (h : Ev mv g fun v g1 => (∃ o, g1.s[i]? = some (.o o)) ∧ Ev mk g1 fun k g2 => ∃ xs n j, g2.s[i]? = some (.o (.l xs)) ∧ k = .int n ∧ ixN xs.length n = some j ∧ Q .nx (g2.set i (.o (.l (xs.set j v))))) : Ev (mLPut i mk mv) g Q := by
  unfold mLPut
  refine ev_bind.mpr (h.mono fun v g1 h => ?_)
  obtain ⟨⟨o, ho⟩, k, g2, ek, xs, n, j, h1, rfl, h3, h4⟩ := h
  refine ⟨.nx, _, ?_, h4⟩
  unfold onO
  rw [ho]
  show (mk.bind _) g1 = _
  unfold M.bind
  rw [ek]
  dsimp only
  rw [h1]
  show (match ixN xs.length n with
    | some j => some (R.ok Oc.nx (g2.set i (.o (.l (xs.set j v)))))
    | none => none) = _
  rw [h3]
theorem sT_ok {r : Nat} (h : r ≤ 3) : PyData.strOk (sT r) = true := by
  rcases le3 h with e | e | e | e <;> subst e <;> decide +kernel
theorem sT_inj {a b : Nat} (ha : a ≤ 3) (hb : b ≤ 3) : sT a = sT b ↔ a = b := ⟨fun e => cs_inj ha hb (by
  have := congrArg (fun s : Str => s.cps.toList) e
  simpa [sT] using this), fun e => by rw [e]⟩
theorem fEq_sT {neg : Bool} {a b : Nat} (ha : a ≤ 3) (hb : b ≤ 3) : fEq neg (.str (sT a)) (.str (sT b)) = some (.bl (if neg then !decide (a = b) else decide (a = b))) := by
  rw [fEq_str (sT_ok ha) (sT_ok hb)]
  have : (sT a == sT b) = decide (a = b) := by
    by_cases h : a = b
    · rw [decide_eq_true h, h]
      exact beq_self_eq_true _
    · rw [decide_eq_false h]
      exact beq_eq_false_iff_ne.mpr fun e => h ((sT_inj ha hb).mp e)
  rw [this]
theorem ix_law {r : Nat} (h : r ≤ 3) : fIndex (.str ".n10") (.str (sT r)) = some (.int (3 - r : Nat)) := by
  have : Txt.index0 ".n10" (sT r) = some (3 - r) := by rcases le3 h with e | e | e | e <;> subst e <;> decide +kernel
  show (Txt.index0 ".n10" (sT r)).map (fun k => D.int (k : Nat)) = _
  rw [this]
  rfl
theorem ix_own {r : Nat} (h : r ≤ 3) : fIndex (.str "01n.") (.str (sT r)) = some (.int (r : Nat)) := by
  have : Txt.index0 "01n." (sT r) = some r := by rcases le3 h with e | e | e | e <;> subst e <;> decide +kernel
  show (Txt.index0 "01n." (sT r)).map (fun k => D.int (k : Nat)) = _
  rw [this]
  rfl
noncomputable def m26lesser : M Oc := (seq (mRet (mIf (mT2 iGt (mMs1 fIndex (ret (.str ".n10")) (mName 0)) (mMs1 fIndex (ret (.str ".n10")) (mName 1))) (mName 0) (mName 1))) (ret .nx))
def LessS (F : FD) : Prop := ∀ (a b : Nat) (c : C3), a ≤ 3 → b ≤ 3 → F [.str (sT a), .str (sT b)] c = some (.str (sT (min a b)), c)
theorem less_spec : LessS (runM false 2 2 m26lesser) := fun a b c ha hb => by
  refine run_pure rfl ?_
  have e1 := ix_law ha
  have e2 := ix_law hb
  by_cases h : a < b
  · have : ((3 - a : Nat) : Int) > ((3 - b : Nat) : Int) := by omega
    have hm : min a b = a := by omega
    simp [m26lesser, ev_name_v, e1, e2, this, hm]
  · have : ¬ ((3 - a : Nat) : Int) > ((3 - b : Nat) : Int) := by omega
    have hm : min a b = b := by omega
    simp [m26lesser, ev_name_v, e1, e2, this, hm]
noncomputable def m26greater (Flesser : FD) : M Oc := (seq (mRet (mIf (mT2 (fEq false) (mFn Flesser (mCons (mName 0) (mCons (mName 1) (ret [])))) (mName 0)) (mName 1) (mName 0))) (ret .nx))
def MoreS (F : FD) : Prop := ∀ (a b : Nat) (c : C3), a ≤ 3 → b ≤ 3 → F [.str (sT a), .str (sT b)] c = some (.str (sT (max a b)), c)
theorem more_spec {Fl : FD} (hl : LessS Fl) : MoreS (runM false 2 2 (m26greater Fl)) := fun a b c ha hb => by
  refine run_pure rfl ?_
  have e1 := hl a b c ha hb
  have e2 := fEq_sT (neg := false) (a := min a b) (b := a) (by omega) ha
  by_cases h : a ≤ b
  · have h1 : min a b = a := by omega
    have h2 : max a b = b := by omega
    rw [h1] at e1
    rw [h1, decide_eq_true rfl] at e2
    simp [m26greater, ev_name_v, e1, e2, h2]
  · have h1 : min a b = b := by omega
    have h2 : max a b = a := by omega
    have h3 : ¬ b = a := by omega
    rw [h1] at e1
    rw [h1, decide_eq_false h3] at e2
    simp [m26greater, ev_name_v, e1, e2, h2]
noncomputable def m26product (Flesser Fgreater : FD) : M Oc := (seq (mSetO 2 (mLst (ret []))) (seq (mFor (stName 3) (mIter (mName 0)) (seq (mSetO 4 (mLst (ret []))) (seq (mFor (stName 5) (mWk fRng1 (mCons (mCall fLen (mCons (mName 0) (ret []))) (ret []))) (seq (mSet 6 (ret (.str "."))) (seq (mFor (stName 7) (mWk fRng1 (mCons (mCall fLen (mCons (mName 0) (ret []))) (ret []))) (seq (mSet 6 (mFn Flesser (mCons (mName 6) (mCons (mFn Fgreater (mCons (mBin uIx (mName 3) (mName 7)) (mCons (mBin uIx (mBin uIx (mName 1) (mName 7)) (mName 5)) (ret [])))) (ret []))))) (ret .nx))) (seq (mExpr (mLm1 4 fApp (mName 6))) (ret .nx))))) (seq (mExpr (mLm1 2 fApp (mMs1 fJoin (ret (.str "")) (mName 4)))) (ret .nx))))) (seq (mRet (mCall fTuple (mCons (mName 2) (ret [])))) (ret .nx))))
def LProdS (F : FD) : Prop := ∀ (n : Nat) (a b : Nat → Nat → Nat) (c : C3), 1 ≤ n → n ≤ 24 → M3 n a → M3 n b → F [sqD n a, sqD n b] c = some (sqD n (pr n a b), c)
theorem range_drop {n m : Nat} {α : Type} {f : Nat → α} {d : α} {r : List α} (h : d :: r = ((List.range n).drop m).map f) : m < n ∧ d = f m ∧ r = ((List.range n).drop (m + 1)).map f := by
  have lt : m < n := by
    have := congrArg List.length h
    simp at this
    omega
  have ed : (List.range n).drop m = m :: (List.range n).drop (m + 1) := by
    rw [List.drop_eq_getElem_cons (by simpa using lt)]
    simp
  rw [ed, List.map_cons] at h
  injection h with h1 h2
  exact ⟨lt, h1, h2⟩
theorem range_snoc {α : Type} (f : Nat → α) {j : Nat} : (List.range j).map f ++ [f j] = (List.range (j + 1)).map f := by
  rw [List.range_succ, List.map_append]
  rfl
theorem range_end {n m : Nat} {α : Type} {f : Nat → α} (hm : m ≤ n) (h : [] = ((List.range n).drop m).map f) : m = n := by
  have := congrArg List.length h
  simp at this
  omega
theorem sq_ix {n : Nat} {a : Nat → Nat → Nat} {i : Nat} (hi : i < n) : fIx (sqD n a) (.int (i : Int)) = some (.str (rt n (a i))) := by
  show atI (sL (sq n a)) (i : Int) = _
  rw [sL_sq]
  exact atI_nat (by simp [hi])
theorem uIx_sq {n : Nat} {a : Nat → Nat → Nat} {i : Nat} (hi : i < n) : uIx (sqD n a) (.int (i : Int)) = some (.str (rt n (a i))) := by
  rw [show uIx (sqD n a) (.int (i : Int)) = fIx (sqD n a) (.int (i : Int)) from rfl]
  exact sq_ix hi
theorem uIx_rt {n : Nat} {h : Nat → Nat} {i : Nat} (hn : n ≤ 1000) (hi : i < n) : uIx (.str (rt n h)) (.int (i : Int)) = some (.str (sT (h i))) := by
  rw [show uIx (.str (rt n h)) (.int (i : Int)) = fIx (.str (rt n h)) (.int (i : Int)) from rfl]
  exact rt_ix hn hi
theorem rt_fjoin {n : Nat} {h : Nat → Nat} (hn : n ≤ 600) (hh : ∀ j, j < n → h j ≤ 3) : fJoin (.str "") (.lst ((List.range n).map fun j => D.str (sT (h j)))) = some (.str (rt n h)) := by
  have e := fjoinG (ls := (List.range n).map fun j => sT (h j)) (fun l m => by
    obtain ⟨j, mj, rfl⟩ := List.mem_map.mp m
    exact sg_one _ (sT_sgs (hh j (List.mem_range.mp mj)))) (by simp; omega)
  rw [rt_join n h hh] at e
  have e2 : sL ((List.range n).map fun j => sT (h j)) = (List.range n).map fun j => D.str (sT (h j)) := by
    unfold sL
    rw [List.map_map]
    rfl
  rw [e2] at e
  exact e
theorem lprod_spec {Fl Fg : FD} (hl : LessS Fl) (hg : MoreS Fg) : LProdS (runM false 8 2 (m26product Fl Fg)) := fun n a b c h1 h2 ha hb => by
  refine run_pure rfl ?_
  have rk := rng1_l (n := n) (by omega)
  simp [-List.map_map, m26product, ev_name_v, sL_sq]
  obtain ⟨I, hI⟩ : ∃ I : List D → G → Prop, ∀ ds g, I ds g ↔ ∃ i z3 z4 z5 z6 z7, i ≤ n ∧ ds = ((List.range n).drop i).map (fun k => D.str (rt n (a k))) ∧
      g = ⟨[.v (sqD n a), .v (sqD n b), .o (.l ((List.range i).map fun k => D.str (rt n (pr n a b k)))), z3, z4, z5, z6, z7], c⟩ := ⟨_, fun _ _ => Iff.rfl⟩
  refine ev_loop I (fun d r g hgi => ?_) (fun g hgi => ?_) _ _ ((hI _ _).mpr ⟨0, _, _, _, _, _, by omega, rfl, by simp [sL_sq]; exact ⟨rfl, rfl, rfl, rfl, rfl⟩⟩)
  · obtain ⟨i, z3, z4, z5, z6, z7, hi, e1, rfl⟩ := (hI _ _).mp hgi
    obtain ⟨lt, rfl, rfl⟩ := range_drop e1
    refine ⟨_, rfl, ?_⟩
    have el : fLen [sqD n a] = some (.int (n : Int)) := fLen_sq n a
    simp [-List.map_map, ev_name_v, sL_len, sq_len, rk]
    obtain ⟨I2, hI2⟩ : ∃ I2 : List D → G → Prop, ∀ ds g, I2 ds g ↔ ∃ j z5 z6 z7, j ≤ n ∧ ds = ((List.range n).drop j).map (fun k : Nat => D.int (k : Int)) ∧
      g = ⟨[.v (sqD n a), .v (sqD n b), .o (.l ((List.range i).map fun k => D.str (rt n (pr n a b k)))), .v (.str (rt n (a i))), .o (.l ((List.range j).map fun k => D.str (sT (pr n a b i k)))), z5, z6, z7], c⟩ := ⟨_, fun _ _ => Iff.rfl⟩
    refine ev_loop I2 (fun d r g hg2 => ?_) (fun g hg2 => ?_) _ _ ((hI2 _ _).mpr ⟨0, _, _, _, by omega, rfl, rfl⟩)
    · obtain ⟨j, y5, y6, y7, hj, e2, rfl⟩ := (hI2 _ _).mp hg2
      obtain ⟨ltj, rfl, rfl⟩ := range_drop e2
      refine ⟨_, rfl, ?_⟩
      simp [-List.map_map, ev_name_v, sL_len, sq_len, rk]
      obtain ⟨I3, hI3⟩ : ∃ I3 : List D → G → Prop, ∀ ds g, I3 ds g ↔ ∃ m z7, m ≤ n ∧ ds = ((List.range n).drop m).map (fun k : Nat => D.int (k : Int)) ∧
        g = ⟨[.v (sqD n a), .v (sqD n b), .o (.l ((List.range i).map fun k => D.str (rt n (pr n a b k)))), .v (.str (rt n (a i))), .o (.l ((List.range j).map fun k => D.str (sT (pr n a b i k)))), .v (.int (j : Int)), .v (.str (sT (prK (a i) b m j))), z7], c⟩ := ⟨_, fun _ _ => Iff.rfl⟩
      refine ev_loop I3 (fun d r g hg3 => ?_) (fun g hg3 => ?_) _ _ ((hI3 _ _).mpr ⟨0, y7, by omega, rfl, ?_⟩)
      · obtain ⟨m, x7, hm, e3, rfl⟩ := (hI3 _ _).mp hg3
        obtain ⟨ltm, rfl, rfl⟩ := range_drop e3
        refine ⟨_, rfl, ?_⟩
        have u1 := uIx_rt (n := n) (h := a i) (by omega) ltm
        have u2 := uIx_sq (n := n) (a := b) ltm
        have u3 := uIx_rt (n := n) (h := b m) (by omega) ltj
        have g1 := hg (a i m) (b m j) c (ha i m lt ltm) (hb m j ltm ltj)
        have g2 := hl (prK (a i) b m j) (max (a i m) (b m j)) c (prK_3 _ _ _ _) (by have := ha i m lt ltm; have := hb m j ltm ltj; omega)
        rw [Nat.max_comm (a i m), ← prK_succ] at g2
        rw [Nat.max_comm (a i m)] at g1
        simp [-List.map_map, ev_name_v, u1, u2, u3, g1, g2]
        exact (hI3 _ _).mpr ⟨m + 1, _, ltm, by rw [List.map_drop], rfl⟩
      · obtain ⟨m, x7, hm, e3, rfl⟩ := (hI3 _ _).mp hg3
        cases range_end hm e3
        simp [-List.map_map, ev_name_v, fApp, sizeLine_eq]
        exact ⟨_, ⟨by omega, (range_snoc fun k => D.str (sT (pr n a b i k)))⟩, (hI2 _ _).mpr ⟨j + 1, _, _, _, ltj, by rw [List.map_drop], rfl⟩⟩
      · rw [← sT3]
        rfl
    · obtain ⟨j, y5, y6, y7, hj, e2, rfl⟩ := (hI2 _ _).mp hg2
      cases range_end hj e2
      have fj := rt_fjoin (n := n) (h := pr n a b i) (by omega) fun j hj => pr_3
      simp [-List.map_map, ev_name_o, O.d, fj, fApp, sizeLine_eq]
      exact ⟨_, ⟨by omega, (range_snoc fun k => D.str (rt n (pr n a b k)))⟩, (hI _ _).mpr ⟨i + 1, _, _, _, _, _, lt, by rw [List.map_drop], rfl⟩⟩
  · obtain ⟨i, z3, z4, z5, z6, z7, hi, e1, rfl⟩ := (hI _ _).mp hgi
    cases range_end hi e1
    simp [-List.map_map, ev_name_o, fTuple, sL_sq, O.d]
noncomputable def m26repeat (Fproduct : FD) : M Oc := (seq (mSetO 1 (mLst (ret []))) (seq (mFor (stName 2) (mWk fRng1 (mCons (mCall fLen (mCons (mName 0) (ret []))) (ret []))) (seq (mSet 3 (mIf (mT2 (fEq false) (mBin uIx (mBin uIx (mName 0) (mName 2)) (mName 2)) (ret (.str "1"))) (ret (.str "n")) (mBin uIx (mBin uIx (mName 0) (mName 2)) (mName 2)))) (seq (mSetO 4 (mBinO fTimesL (frz (mLst (mCons (ret (.str ".")) (ret [])))) (mCall fLen (mCons (mName 0) (ret []))))) (seq (mLPut 4 (mName 2) (mName 3)) (seq (mExpr (mLm1 1 fApp (mMs1 fJoin (ret (.str "")) (mName 4)))) (ret .nx)))))) (seq (mRet (mFn Fproduct (mCons (mFn Fproduct (mCons (mName 0) (mCons (mCall fTuple (mCons (mName 1) (ret []))) (ret [])))) (mCons (mName 0) (ret []))))) (ret .nx))))
def LRepS (F : FD) : Prop := ∀ (n : Nat) (a : Nat → Nat → Nat) (c : C3), 1 ≤ n → n ≤ 24 → M3 n a → F [sqD n a] c = some (sqD n (rp n a), c)
theorem rep_flat {α : Type} (x : α) : ∀ k, (List.replicate k [x]).flatten = List.replicate k x
  | 0 => rfl
  | k + 1 => by
    rw [List.replicate_succ, List.flatten_cons, rep_flat x k, List.replicate_succ]
    rfl
theorem times_dots {n : Nat} (hn : n ≤ 600) : fTimesL (.lst [.str "."]) (.int (n : Int)) = some (.l (List.replicate n (D.str "."))) := by
  have e : fTimesL (.lst [.str "."]) (.int (n : Int)) = if 0 ≤ (n : Int) ∧ (n : Int) < 2 ^ 40 ∧ [D.str "."].length * (n : Int).toNat ≤ sizeLine then some (.l (List.replicate (n : Int).toNat [D.str "."]).flatten) else none := by
    unfold fTimesL
    rfl
  have l1 : [D.str "."].length = 1 := rfl
  rw [e, if_pos ⟨by omega, by omega, by rw [l1, sizeLine_eq]; omega⟩, Int.toNat_natCast, rep_flat]
theorem set_diag {n i r : Nat} (hi : i < n) : ((List.replicate n (D.str ".")).set i (.str (sT r))) = (List.range n).map fun j => D.str (sT (if i = j then r else 3)) := by
  apply List.ext_getElem?
  intro k
  rw [List.getElem?_set]
  by_cases h : i = k
  · subst h
    simp [hi]
  · by_cases hk : k < n
    · simp [h, hk, sT3]
    · simp [h, hk]
theorem lrep_spec {Fp : FD} (hp : LProdS Fp) : LRepS (runM false 5 1 (m26repeat Fp)) := fun n a c h1 h2 ha => by
  refine run_pure rfl ?_
  have rk := rng1_l (n := n) (by omega)
  have d3 : ∀ i, i < n → dq a i ≤ 3 := fun i hi => dq_3 (ha i i hi hi)
  have e2 := hp n a (dg a) c h1 h2 ha (dg_m3 ha)
  have e3 := hp n (pr n a (dg a)) a c h1 h2 pr_m3 ha
  simp [-List.map_map, m26repeat, ev_name_v, sL_len, sq_len, rk]
  obtain ⟨I, hI⟩ : ∃ I : List D → G → Prop, ∀ ds g, I ds g ↔ ∃ i z2 z3 z4, i ≤ n ∧ ds = ((List.range n).drop i).map (fun k : Nat => D.int (k : Int)) ∧
      g = ⟨[.v (sqD n a), .o (.l ((List.range i).map fun k => D.str (rt n (dg a k)))), z2, z3, z4], c⟩ := ⟨_, fun _ _ => Iff.rfl⟩
  refine ev_loop I (fun d r g hgi => ?_) (fun g hgi => ?_) _ _ ((hI _ _).mpr ⟨0, .un, .un, .un, by omega, rfl, rfl⟩)
  · obtain ⟨i, z2, z3, z4, hi, e1, rfl⟩ := (hI _ _).mp hgi
    obtain ⟨lt, rfl, rfl⟩ := range_drop e1
    refine ⟨_, rfl, ?_⟩
    have u1 := uIx_sq (n := n) (a := a) lt
    have u2 := uIx_rt (n := n) (h := a i) (by omega) lt
    have s1 : ("1" : Str) = sT 1 := by decide +kernel
    have s2 : ("n" : Str) = sT 2 := by decide +kernel
    have f1 := fEq_sT (neg := false) (a := a i i) (b := 1) (ha i i lt lt) (by omega)
    rw [← s1] at f1
    have ft := times_dots (n := n) (by omega)
    have fj : fJoin (.str "") (.lst ((List.range n).map fun j => D.str (sT (if i = j then dq a i else 3)))) = some (.str (rt n (dg a i))) := rt_fjoin (n := n) (h := dg a i) (by omega) fun j hj => dg_m3 ha i j lt hj
    have sd := set_diag (n := n) (i := i) (r := dq a i) lt
    have ixl : ixN n (i : Int) = some i := by
      unfold ixN
      simp
      omega
    by_cases q : a i i = 1
    · have dv : dq a i = 2 := if_pos q
      rw [q, decide_eq_true rfl] at f1
      rw [dv, ← s2] at sd
      have fj' := fj
      rw [dv] at fj'
      simp [-List.map_map, ev_name_v, ev_name_o, u1, u2, q, f1, ft, sL_len, sq_len, sizeLine_eq]
      refine ev_lput ?_
      simp [-List.map_map, ev_name_v, ev_name_o, ixl, sd, fj', O.d, fApp, sizeLine_eq]
      exact ⟨_, ⟨by omega, (range_snoc fun k => D.str (rt n (dg a k)))⟩, (hI _ _).mpr ⟨i + 1, _, _, _, lt, by rw [List.map_drop], rfl⟩⟩
    · have dv : dq a i = a i i := if_neg q
      rw [decide_eq_false q] at f1
      rw [dv] at sd fj
      simp [-List.map_map, ev_name_v, ev_name_o, u1, u2, f1, ft, sL_len, sq_len, sizeLine_eq]
      refine ev_lput ?_
      simp [-List.map_map, ev_name_v, ev_name_o, ixl, sd, fj, O.d, fApp, sizeLine_eq]
      exact ⟨_, ⟨by omega, (range_snoc fun k => D.str (rt n (dg a k)))⟩, (hI _ _).mpr ⟨i + 1, _, _, _, lt, by rw [List.map_drop], rfl⟩⟩
  · obtain ⟨i, z2, z3, z4, hi, e1, rfl⟩ := (hI _ _).mp hgi
    cases range_end hi e1
    have e4 : fTuple [.lst ((List.range n).map fun k => D.str (rt n (dg a k)))] = some (sqD n (dg a)) := by
      rw [show sqD n (dg a) = .tup ((List.range n).map fun k => D.str (rt n (dg a k))) from congrArg D.tup (sL_sq n _)]
      rfl
    simp [-List.map_map, ev_name_v, ev_name_o, O.d, e4, e2, e3]
    rfl
end Vw
set_option Elab.async false
set_option linter.all false
set_option maxRecDepth 100000
set_option maxHeartbeats 4000000
set_option exponentiation.threshold 9000
/-! Vw, part seven: no lesser signs; drawn squares; stable powers; repeats judged. -/
namespace Vw
open PySem PySem.Spec L2 Mo Lw Pw Qw Rw Sw Tw Tx Uw
noncomputable def m26ranks (Fisofsigns : FD) : M Oc := (seq (mIf (mT2 (fEq false) (mCall fLen (mCons (mName 0) (ret []))) (ret (.int 0))) (seq bad (ret .nx)) (ret .nx)) (seq (mIf (mtNot (mTru (mCall fAll (mCons (frz (mLc [1] (mIter (mName 0)) (stName 1) (ret true) (mAnd (mFn Fisofsigns (mCons (mName 1) (ret []))) (mBin (fEq false) (mCall fLen (mCons (mName 1) (ret []))) (ret (.int 1)))))) (ret []))))) (seq bad (ret .nx)) (ret .nx)) (seq (mRet (frz (mLc [1] (mIter (mName 0)) (stName 1) (ret true) (mMs1 fIndex (ret (.str "01n.")) (mName 1))))) (ret .nx))))
def RankS (F : FD) : Prop := ∀ (a b : Nat) (c : C3), a ≤ 3 → b ≤ 3 → F [.tup [.str (sT a), .str (sT b)]] c = some (.lst [.int (a : Nat), .int (b : Nat)], c)
theorem sgT_sT {r : Nat} (h : r ≤ 3) : SgT (sT r) := fun l m => by
  have : signsS (sT r) = [sT r] := rfl
  rw [this, List.mem_singleton] at m
  rw [m]
  exact sT_sgs h
theorem rank_spec {Fo : FD} (ho : OfSignsT Fo) : RankS (runM false 2 1 (m26ranks Fo)) := fun a b c ha hb => by
  refine run_pure rfl ?_
  have l1 : ∀ r, (sT r).length = 1 := fun r => rfl
  have o1 := ho (sT a) (sgT_sT ha) (by rw [l1]; omega) c
  have o2 := ho (sT b) (sgT_sT hb) (by rw [l1]; omega) c
  have lf : ∀ r, fLen [.str (sT r)] = some (.int 1) := fun r => rfl
  have i1 := ix_own ha
  have i2 := ix_own hb
  have L : List.map (fun r => D.str (sT r)) [a, b] = [D.str (sT a), D.str (sT b)] := rfl
  simp [m26ranks, ev_name_v, noOwn, plainSl]
  rw [← L]
  refine ev_lcPure [a, b] (fun r => D.str (sT r)) (fun _ => true) (fun r => .bl true) (fun r m => ⟨_, rfl, ?_⟩) (by rw [sizeLine_eq]; simp) ?_
  · have hr : r = a ∨ r = b := by simpa using m
    rcases hr with e | e <;> subst e <;> simp [ev_name_v, o1, o2, lf]
  · have fa : fAll [.lst [.bl true, .bl true]] = some (.bl true) := rfl
    simp [ev_name_v, fa, noOwn, plainSl]
    rw [← L]
    refine ev_lcPure [a, b] (fun r => D.str (sT r)) (fun _ => true) (fun r => .int (r : Nat)) (fun r m => ⟨_, rfl, ?_⟩) (by rw [sizeLine_eq]; simp) ?_
    · have hr : r = a ∨ r = b := by simpa using m
      rcases hr with e | e <;> subst e <;> simp [ev_name_v, i1, i2]
    · simp
noncomputable def m26leastsign (Franks : FD) : M Oc := (seq (mRet (mBin uIx (ret (.str "01n.")) (mCall fMinL (mCons (mFn Franks (mCons (mName 0) (ret []))) (ret []))))) (ret .nx))
def LeastS (F : FD) : Prop := ∀ (a b : Nat) (c : C3), a ≤ 3 → b ≤ 3 → F [.tup [.str (sT a), .str (sT b)]] c = some (.str (sT (min a b)), c)
theorem least_spec {Fr : FD} (hr : RankS Fr) : LeastS (runM false 1 1 (m26leastsign Fr)) := fun a b c ha hb => by
  refine run_pure rfl ?_
  have e1 := hr a b c ha hb
  have e2 : fMinL [.lst [.int (a : Nat), .int (b : Nat)]] = some (.int (min a b : Nat)) := by
    show some (D.int (minI (a : Int) [(b : Int)])) = _
    congr 2
    simp only [minI, List.foldl_cons, List.foldl_nil]
    split <;> omega
  have e3 : uIx (.str "01n.") (.int ((min a b : Nat) : Int)) = some (.str (sT (min a b))) := by
    have e : ("01n." : Str) = rt 4 fun j => j := by decide +kernel
    rw [e]
    exact uIx_rt (n := 4) (h := fun j => j) (by omega) (by omega)
  simp [m26leastsign, ev_name_v, e1, e2, e3]
noncomputable def m26noless (CSquare : Addr) (FSquarerows Fleastsign : FD) : M Oc := (seq (mFor (stTup 2 (stCons (stName 2) (stCons (stName 3) stNil))) (mWk fZipS (mCons (mMs1 fJoin (ret (.str "")) (mProp CSquare FSquarerows (mName 0))) (mCons (mMs1 fJoin (ret (.str "")) (mProp CSquare FSquarerows (mName 1))) (ret [])))) (seq (mIf (mtOr (mT2 (fEq true) (mFnS 0 Fleastsign (mCons (mName 2) (mCons (mName 3) (ret [])))) (mName 3)) (mtOr (mT2 (fEq true) (mBin (uIn false) (mName 2) (ret (.str "0."))) (mBin (uIn false) (mName 3) (ret (.str "0.")))) (mtAnd (mT2 (uIn false) (mName 2) (ret (.str "0."))) (mT2 (fEq true) (mName 2) (mName 3))))) (seq (mRet (ret (.bl false))) (ret .nx)) (ret .nx)) (ret .nx))) (seq (mRet (ret (.bl true))) (ret .nx)))
def NoLessS (Cq : Addr) (F : FD) : Prop := ∀ (n : Nat) (a b : Nat → Nat → Nat) (c : C3), 1 ≤ n → n ≤ 24 → M3 n a → M3 n b → (∀ i j, i < n → j < n → b i j ≤ a i j ∧ (a i j = 0 ↔ b i j = 0) ∧ (a i j = 3 ↔ b i j = 3)) → F [qO Cq n a, qO Cq n b] c = some (.bl true, c)
/-- all places -/
def plc (n : Nat) : List (Nat × Nat) := (List.range n).flatMap fun i => (List.range n).map fun j => (i, j)
theorem plc_lt {n : Nat} {p : Nat × Nat} (m : p ∈ plc n) : p.1 < n ∧ p.2 < n := by
  obtain ⟨i, mi, m2⟩ := List.mem_flatMap.mp m
  obtain ⟨j, mj, rfl⟩ := List.mem_map.mp m2
  exact ⟨List.mem_range.mp mi, List.mem_range.mp mj⟩
theorem join_sq (n : Nat) (a : Nat → Nat → Nat) : (Txt.join "" (sq n a)).cps.toList = (plc n).map fun p => cs (a p.1 p.2) := by
  have e0 : ("" : Str) = ⟨#[]⟩ := by decide +kernel
  have e1 : Txt.join "" (sq n a) = Str.join ⟨#[]⟩ (sq n a) := by
    rw [e0]
    exact PySem.StrLaws.glued_eq_join _ _
  have gen : ∀ l : List Nat, (Str.join ⟨#[]⟩ (l.map fun i => rt n (a i))).cps.toList = (l.flatMap fun i => (List.range n).map fun j => (i, j)).map fun p => cs (a p.1 p.2) := fun l => by
    induction l with
    | nil => rfl
    | cons i l ih =>
      rw [List.map_cons, PyProof.Rows.join_nil_cons, List.flatMap_cons, List.map_append, ← ih]
      show ((rt n (a i)).cps ++ _).toList = _
      rw [Array.toList_append, rt_cps, List.map_map]
      rfl
  rw [e1]
  exact gen (List.range n)
theorem sum_rep (m : Nat) : ∀ k, (List.replicate k m).sum = k * m
  | 0 => by simp
  | k + 1 => by rw [List.replicate_succ, List.sum_cons, sum_rep m k, Nat.succ_mul]; omega
theorem fjoin_sq {n : Nat} {a : Nat → Nat → Nat} (hn : n ≤ 24) : fJoin (.str "") (sqD n a) = some (.str (Txt.join "" (sq n a))) := by
  have ea : (seqD (sqD n a)).bind asStrs = some (sq n a) := asStrs_map (sq n a)
  have l0 : ("" : Str).length = 0 := by decide +kernel
  have sm : ((sq n a).map fun s : Str => s.length).sum = n * n := by
    have : (sq n a).map (fun s : Str => s.length) = List.replicate n n := by
      unfold sq
      rw [List.map_map]
      have : (fun s : Str => s.length) ∘ (fun i => rt n (a i)) = fun _ => n := funext fun i => rt_len n (a i)
      rw [this, List.map_const', List.length_range]
    rw [this, sum_rep]
  show (match (seqD (sqD n a)).bind asStrs with
    | some ys => if (ys.map fun s : Str => s.length).sum + ys.length * ("" : Str).length ≤ 16777216 then some (D.str (Txt.join "" ys)) else none
    | none => none) = _
  rw [ea, l0]
  dsimp only
  rw [if_pos (by
    rw [sm]
    have := Nat.mul_le_mul hn hn
    omega)]
theorem in_free {r : Nat} (h : r ≤ 3) : uIn false (.str (sT r)) (.str "0.") = some (.bl (decide (r = 0 ∨ r = 3))) := by
  have : Txt.index0 "01n." (sT r) = some r := by rcases le3 h with e | e | e | e <;> subst e <;> decide +kernel
  have k : ∀ r, r ≤ 3 → (!(Builtin.Str.occurrences ("0." : Str) (sT r) 0 ("0." : Str).length 1).isEmpty) = decide (r = 0 ∨ r = 3) := fun r h => by
    rcases le3 h with e | e | e | e <;> subst e <;> decide +kernel
  rw [← k r h]
  rfl
theorem fEq_bl {a b : Bool} : fEq true (.bl a) (.bl b) = some (.bl (a != b)) := by
  cases a <;> cases b <;> rfl
theorem noless_spec {Cq : Addr} {Fr Fl : FD} (hr : QRowsS Cq Fr) (hl : LeastS Fl) : NoLessS Cq (runM false 4 2 (m26noless Cq Fr Fl)) := fun n a b c h1 h2 ha hb hq => by
  refine run_pure rfl ?_
  have e1 := hr (sq n a) c
  have e2 := hr (sq n b) c
  have j1 := fjoin_sq (n := n) (a := a) h2
  have j2 := fjoin_sq (n := n) (a := b) h2
  have ez : fZipS [.str (Txt.join "" (sq n a)), .str (Txt.join "" (sq n b))] = some ((plc n).map fun p => D.tup [.str (sT (a p.1 p.2)), .str (sT (b p.1 p.2))]) := by
    have c1 : ∀ x : Nat → Nat → Nat, chD (Txt.join "" (sq n x)) = (plc n).map fun p => D.str (sT (x p.1 p.2)) := fun x => by
      unfold chD
      rw [join_sq, List.map_map]
      rfl
    show some (pairs (chD _) (chD _)) = _
    rw [c1, c1, pairs_map]
  have p1 : Va (mProp Cq Fr (mName 0)) ⟨[.v (qO Cq n a), .v (qO Cq n b), .un, .un], c⟩ (sqD n a) := va_prop (va_name rfl) e1
  have p2 : Va (mProp Cq Fr (mName 1)) ⟨[.v (qO Cq n a), .v (qO Cq n b), .un, .un], c⟩ (sqD n b) := va_prop (va_name rfl) e2
  simp [-List.map_map, -ev_prop, m26noless, ev_fun p1, ev_fun p2, j1, j2, ez]
  obtain ⟨I, hI⟩ : ∃ I : List D → G → Prop, ∀ ds g, I ds g ↔ ∃ k z2 z3, ds = ((plc n).drop k).map (fun p => D.tup [.str (sT (a p.1 p.2)), .str (sT (b p.1 p.2))]) ∧ g = ⟨[.v (qO Cq n a), .v (qO Cq n b), z2, z3], c⟩ := ⟨_, fun _ _ => Iff.rfl⟩
  refine ev_loop I (fun d r g hg => ?_) (fun g hg => ?_) _ _ ((hI _ _).mpr ⟨0, .un, .un, rfl, rfl⟩)
  · obtain ⟨k, z2, z3, e, rfl⟩ := (hI _ _).mp hg
    cases ed : (plc n).drop k with
    | nil => rw [ed] at e; cases e
    | cons p rest =>
      rw [ed, List.map_cons] at e
      injection e with e3 e4
      subst e3 e4
      have mp : p ∈ plc n := List.mem_of_mem_drop (by rw [ed]; exact List.mem_cons_self)
      obtain ⟨l1, l2⟩ := plc_lt mp
      obtain ⟨q1, q2, q3⟩ := hq p.1 p.2 l1 l2
      have ha' := ha p.1 p.2 l1 l2
      have hb' := hb p.1 p.2 l1 l2
      have edr : rest = (plc n).drop (k + 1) := by
        rw [← List.drop_drop, ed]
        rfl
      have s1 := hl (a p.1 p.2) (b p.1 p.2) c ha' hb'
      have hm : min (a p.1 p.2) (b p.1 p.2) = b p.1 p.2 := by omega
      rw [hm] at s1
      have f1 := fEq_sT (neg := true) hb' hb' (a := b p.1 p.2)
      have f2 := fEq_sT (neg := true) ha' hb'
      have i1 := in_free ha'
      have i2 := in_free hb'
      have q4 : decide (a p.1 p.2 = 0 ∨ a p.1 p.2 = 3) = decide (b p.1 p.2 = 0 ∨ b p.1 p.2 = 3) := decide_eq_decide.mpr (or_congr q2 q3)
      refine ⟨_, rfl, ?_⟩
      simp [-List.map_map, mFnS, ev_name_v, sizeLine_eq, s1, f1, f2, i1, i2, fEq_bl, q4]
      have nx := (hI (rest.map (fun p => D.tup [.str (sT (a p.1 p.2)), .str (sT (b p.1 p.2))])) ⟨[.v (qO Cq n a), .v (qO Cq n b), .v (.str (sT (a p.1 p.2))), .v (.str (sT (b p.1 p.2)))], c⟩).mpr ⟨k + 1, _, _, by rw [edr], rfl⟩
      split
      · rename_i hz
        rw [if_pos (by
          rcases hz with z | z
          · rw [z]; exact q2.mpr z
          · rw [z]; exact q3.mpr z)]
        exact nx
      · exact nx
  · obtain ⟨k, z2, z3, e, rfl⟩ := (hI _ _).mp hg
    simp
end Vw
set_option Elab.async false
set_option linter.all false
set_option maxRecDepth 100000
set_option maxHeartbeats 4000000
set_option exponentiation.threshold 9000
/-! Vw, part eight: drawn squares; stable powers; repeats judged; the law. -/
namespace Vw
open PySem PySem.Spec L2 Mo Lw Pw Qw Rw Sw Tw Tx Uw
/-! ### drawn -/
def PickX (F : FD) : Prop := ∀ (x : Str) (c : C3) (N : Nat), Di c N → N ≤ 1000000 → 1 ≤ x.length → x.length ≤ 1000 → ∃ l c', F [.str x] c = some (.str l, c') ∧ l ∈ signsS x ∧ Di c' (N + 1)
theorem pickX_spec {Fr : FD} (hr : RollS Fr) : PickX (runM true 2 2 (mPick Fr)) := fun x c N h hN h1 h2 => by
  suffices hh : ∃ d c', runM true 2 2 (mPick Fr) [.str x] c = some (d, c') ∧ ∃ l, d = .str l ∧ l ∈ signsS x ∧ Di c' (N + 1) by
    obtain ⟨d, c', e, l, rfl, q⟩ := hh
    exact ⟨l, c', e, q⟩
  refine run_ev rfl ?_
  obtain ⟨r, c', e, r0, r1, hd⟩ := hr c N (x.length : Int) h hN (by omega) (by omega)
  have el : fLen [.str x] = some (.int (x.length : Int)) := if_pos (by rw [sizeLine_eq]; omega)
  have hx : x.cps.toList.length = x.length := by simp [Str.length]
  obtain ⟨k, rfl⟩ : ∃ k : Nat, r = k := ⟨r.toNat, by omega⟩
  have hk : k < x.cps.toList.length := by omega
  have e2 : uIx (.str x) (.int (k : Int)) = some (.str ⟨#[x.cps.toList[k]]⟩) := by
    have e1 : atI x.cps.toList (k : Int) = some (x.cps.toList[k]) := atI_nat (List.getElem?_eq_getElem hk)
    show (fDGet (.str x) (.int (k : Int))).or (if x.length ≤ sizeLine then (atI x.cps.toList (k : Int)).map fun c => D.str ⟨#[c]⟩ else none) = _
    rw [if_pos (by rw [sizeLine_eq]; omega), e1]
    rfl
  simp [mPick, ev_name_v, el, e, e2]
  exact ⟨List.mem_map.mpr ⟨_, List.getElem_mem hk, rfl⟩, hd⟩
theorem sgs_sT {l : Str} (h : l ∈ sgs) : ∃ r, r ≤ 3 ∧ l = sT r := by
  have e0 : ("0" : Str) = sT 0 := by decide +kernel
  have e1 : ("1" : Str) = sT 1 := by decide +kernel
  have e2 : ("n" : Str) = sT 2 := by decide +kernel
  unfold sgs at h
  rw [e0, e1, e2, ← sT3] at h
  simp only [List.mem_cons, List.not_mem_nil, or_false] at h
  rcases h with e | e | e | e
  · exact ⟨0, by omega, e⟩
  · exact ⟨1, by omega, e⟩
  · exact ⟨2, by omega, e⟩
  · exact ⟨3, by omega, e⟩
noncomputable def m26drawnsquare (Fpick : FD) : M Oc := (seq (mSet 2 (isDi 0 (mFn Fpick (mCons (frz (mLst (mCons (ret (.str "01n.")) (mCons (ret (.str "01.")) (mCons (ret (.str "0.")) (mCons (ret (.str "1n.")) (mCons (ret (.str "0..1")) (mCons (ret (.str "0n")) (ret []))))))))) (ret []))))) (seq (mSetO 3 (mLst (ret []))) (seq (mFor (stName 4) (mWk fRng1 (mCons (mName 1) (ret []))) (seq (mExpr (mLm1 3 fApp (mMs1 fJoin (ret (.str "")) (frz (mLc [5] (mWk fRng1 (mCons (mName 1) (ret []))) (stName 5) (ret true) (isDi 0 (mFn Fpick (mCons (mName 2) (ret []))))))))) (ret .nx))) (seq (mRet (mCall fTuple (mCons (mName 3) (ret [])))) (ret .nx)))))
def pools : List Str := ["01n.", "01.", "0.", "1n.", "0..1", "0n"]
theorem pool_ok : ∀ x ∈ pools, SgT x ∧ 1 ≤ x.length ∧ x.length ≤ 1000 := by
  have h : pools.all (fun x => (signsS x).all (fun l => decide (l ∈ sgs)) && decide (1 ≤ x.length) && decide (x.length ≤ 1000)) = true := by decide +kernel
  intro x m
  have := List.all_eq_true.mp h x m
  simp only [Bool.and_eq_true, decide_eq_true_eq, List.all_eq_true] at this
  exact ⟨fun l ml => this.1.1 l ml, this.1.2, this.2⟩
theorem upd_map {α : Type} (h : Nat → Nat) (f : Nat → α) (r j : Nat) : (List.range j).map (fun k => f ((fun k => if k = j then r else h k) k)) = (List.range j).map fun k => f (h k) := List.map_congr_left fun k m => by
  have := List.mem_range.mp m
  simp [show ¬ k = j by omega]
def DrawSqS (F : FD) : Prop := ∀ (n : Nat) (c : C3) (N : Nat), Di c N → N ≤ 900000 → 1 ≤ n → n ≤ 24 → ∃ a c', F [.int (n : Int)] c = some (sqD n a, c') ∧ M3 n a ∧ Di c' (N + 1 + n * n)
theorem drawSq_spec {Fp : FD} (hp : PickS Fp) (hx : PickX Fp) : DrawSqS (runM true 6 2 (m26drawnsquare Fp)) := fun n c N h hN h1 h2 => by
  suffices hh : ∃ d c', runM true 6 2 (m26drawnsquare Fp) [.int (n : Int)] c = some (d, c') ∧ ∃ a, d = sqD n a ∧ M3 n a ∧ Di c' (N + 1 + n * n) by
    obtain ⟨d, c', e, a, rfl, q⟩ := hh
    exact ⟨a, c', e, q⟩
  refine run_ev rfl ?_
  have nn : n * n ≤ 576 := Nat.mul_le_mul h2 h2
  obtain ⟨x, c1, e1, mx, d1⟩ := hp c N (sL pools) h (by omega) (by simp [sL, pools]) (by simp [sL, pools])
  obtain ⟨P, mP, rfl⟩ := List.mem_map.mp mx
  obtain ⟨pg, p1, p2⟩ := pool_ok P mP
  have e1' : Fp [.lst [.str "01n.", .str "01.", .str "0.", .str "1n.", .str "0..1", .str "0n"]] c = some (.str P, c1) := e1
  have rk := Uw.rng1_l (n := n) (by omega)
  simp [-List.map_map, m26drawnsquare, ev_name_v, e1', rk, sizeLine_eq]
  obtain ⟨I, hI⟩ : ∃ I : List D → G → Prop, ∀ ds g, I ds g ↔ ∃ (i : Nat) (a : Nat → Nat → Nat) (z4 : Sl) (c' : C3), i ≤ n ∧ ds = ((List.range n).drop i).map (fun k : Nat => D.int (k : Int)) ∧ (∀ k j, k < i → j < n → a k j ≤ 3) ∧ Di c' (N + 1 + i * n) ∧
      g = ⟨[.di, .v (.int (n : Int)), .v (.str P), .o (.l ((List.range i).map fun k => D.str (rt n (a k)))), z4, .un], c'⟩ := ⟨_, fun _ _ => Iff.rfl⟩
  refine ev_loop I (fun d r g hg => ?_) (fun g hg => ?_) _ _ ((hI _ _).mpr ⟨0, fun _ _ => 3, .un, c1, by omega, rfl, fun k j hk => by omega, by simpa using d1, rfl⟩)
  · obtain ⟨i, a, z4, c', hi, e2, ha, hd, rfl⟩ := (hI _ _).mp hg
    obtain ⟨lt, rfl, rfl⟩ := range_drop e2
    refine ⟨_, rfl, ?_⟩
    have bnd : i * n + n ≤ n * n := by
      have := Nat.mul_le_mul_right n (show i + 1 ≤ n by omega)
      rw [Nat.succ_mul] at this
      exact this
    simp [-List.map_map, ev_name_v, rk, noOwn, plainSl]
    obtain ⟨I2, hI2⟩ : ∃ I2 : List D → List D → G → Prop, ∀ ds acc g, I2 ds acc g ↔ ∃ (j : Nat) (h : Nat → Nat) (c2 : C3), j ≤ n ∧ ds = ((List.range n).drop j).map (fun k : Nat => D.int (k : Int)) ∧ acc = (List.range j).map (fun k => D.str (sT (h k))) ∧ (∀ k, k < j → h k ≤ 3) ∧ Di c2 (N + 1 + i * n + j) ∧
        g = ⟨[.di, .v (.int (n : Int)), .v (.str P), .o (.l ((List.range i).map fun k => D.str (rt n (a k)))), .v (.int (i : Int)), .un], c2⟩ := ⟨_, fun _ _ _ => Iff.rfl⟩
    refine ev_lcGo I2 (fun d r acc g hg2 => ?_) (fun acc g hg2 => ?_) _ _ _ ((hI2 _ _ _).mpr ⟨0, fun _ => 3, c', by omega, rfl, rfl, fun k hk => by omega, hd, rfl⟩)
    · obtain ⟨j, hh, c2, hj, e3, e4, h3, hd2, rfl⟩ := (hI2 _ _ _).mp hg2
      obtain ⟨ltj, rfl, rfl⟩ := range_drop e3
      subst e4
      obtain ⟨l, c3, e5, ml, d3⟩ := hx P c2 _ hd2 (by omega) p1 p2
      obtain ⟨r, r3, rfl⟩ := sgs_sT (pg l ml)
      refine ⟨_, rfl, ?_⟩
      simp [-List.map_map, ev_name_v, e5, sizeLine_eq]
      refine ⟨by omega, (hI2 _ _ _).mpr ⟨j + 1, fun k => if k = j then r else hh k, c3, ltj, by rw [List.map_drop], ?_, fun k hk => ?_, d3, rfl⟩⟩
      · rw [← range_snoc, upd_map hh (fun r => D.str (sT r)) r j]
        simp
      · dsimp only
        split
        · exact r3
        · exact h3 k (by omega)
    · obtain ⟨j, hh, c2, hj, e3, e4, h3, hd2, rfl⟩ := (hI2 _ _ _).mp hg2
      cases range_end hj e3
      subst e4
      have fj := rt_fjoin (n := n) (h := hh) (by omega) h3
      simp [-List.map_map, ev_name_v, fj, fApp, sizeLine_eq]
      have e6 : (List.range i).map (fun k => D.str (rt n (a k))) ++ [D.str (rt n hh)] = (List.range (i + 1)).map fun k => D.str (rt n ((fun k => if k = i then hh else a k) k)) := by
        have e7 : (List.range i).map (fun k => D.str (rt n ((fun k => if k = i then hh else a k) k))) = (List.range i).map fun k => D.str (rt n (a k)) := List.map_congr_left fun k m => by
          have := List.mem_range.mp m
          simp [show ¬ k = i by omega]
        rw [List.range_succ, List.map_append, e7]
        simp
      refine ⟨_, ⟨by omega, e6⟩, (hI _ _).mpr ⟨i + 1, fun k => if k = i then hh else a k, .v (.int (i : Int)), c2, lt, by rw [List.map_drop], fun k j hk hj => ?_, by rw [Nat.succ_mul]; exact hd2.mono (by omega), rfl⟩⟩
      dsimp only
      split
      · exact h3 j hj
      · exact ha k j (by omega) hj
  · obtain ⟨i, a, z4, c', hi, e2, ha, hd, rfl⟩ := (hI _ _).mp hg
    cases range_end hi e2
    have e4 : fTuple [.lst ((List.range n).map fun k => D.str (rt n (a k)))] = some (sqD n a) := by
      rw [show sqD n a = .tup ((List.range n).map fun k => D.str (rt n (a k))) from congrArg D.tup (sL_sq n _)]
      rfl
    simp [-List.map_map, ev_name_v, ev_name_o, O.d, e4]
    exact ⟨a, rfl, fun i j hi hj => ha i j hi hj, hd⟩
/-! ### stable powers -/
noncomputable def m26stableof (Fproduct : FD) : M Oc := (seq (mSet 1 (mName 0)) (seq (mFor (stName 2) (mWk fRng1 (mCons (ret (.int 600)) (ret []))) (seq (mIf (mT2 (fEq false) (mFn Fproduct (mCons (mName 1) (mCons (mName 1) (ret [])))) (mName 1)) (seq (ret .bk) (ret .nx)) (ret .nx)) (seq (mSet 1 (mFn Fproduct (mCons (mName 1) (mCons (mName 0) (ret []))))) (ret .nx)))) (seq (mRet (mName 1)) (ret .nx))))
def StabS (F : FD) : Prop := ∀ (n : Nat) (a : Nat → Nat → Nat) (c : C3), 1 ≤ n → n ≤ 4 → M3 n a → ∃ e, F [sqD n a] c = some (sqD n e, c) ∧ M3 n e ∧ Stb n e
theorem stab_spec {Fp : FD} (hp : LProdS Fp) : StabS (runM false 3 1 (m26stableof Fp)) := fun n a c h1 h4 ha => by
  suffices hh : ∃ d c', runM false 3 1 (m26stableof Fp) [sqD n a] c = some (d, c') ∧ ∃ e, d = sqD n e ∧ M3 n e ∧ Stb n e ∧ c' = c by
    obtain ⟨d, c', e, e', rfl, q1, q2, rfl⟩ := hh
    exact ⟨e', e, q1, q2⟩
  refine run_ev rfl ?_
  have rk := Uw.rng1_l (n := 600) (by omega)
  have rk' : fRng1 [.int 600] = some ((List.range 600).map fun a : Nat => D.int (a : Int)) := rk
  simp [-List.map_map, m26stableof, ev_name_v, rk']
  obtain ⟨I, hI⟩ : ∃ I : List D → G → Prop, ∀ ds g, I ds g ↔ ∃ (m : Nat) (z2 : Sl), ds.length + m = 600 ∧ (∀ k, k < m → ¬ Stb n (pw n a k)) ∧ g = ⟨[.v (sqD n a), .v (sqD n (pw n a m)), z2], c⟩ := ⟨_, fun _ _ => Iff.rfl⟩
  have fin : ∀ m z2, Stb n (pw n a m) → Ev (mName 1) ⟨[.v (sqD n a), .v (sqD n (pw n a m)), z2], c⟩ fun x g => ∃ e, x = sqD n e ∧ M3 n e ∧ Stb n e ∧ g.c = c := fun m z2 s => (ev_name_v rfl).mpr ⟨_, rfl, pw_3 ha m, s, rfl⟩
  refine ev_loop I (fun d r g hg => ?_) (fun g hg => ?_) _ _ ((hI _ _).mpr ⟨0, .un, by simp, fun k hk => by omega, rfl⟩)
  · obtain ⟨m, z2, hm, no, rfl⟩ := (hI _ _).mp hg
    refine ⟨_, rfl, ?_⟩
    have e1 := hp n (pw n a m) (pw n a m) c h1 (by omega) (pw_3 ha m) (pw_3 ha m)
    have e2 := hp n (pw n a m) a c h1 (by omega) (pw_3 ha m) ha
    have e3 := fEq_tupS (neg := false) (sq_okS (pr_m3 (n := n) (a := pw n a m) (b := pw n a m))) (sq_okS (pw_3 ha m))
    by_cases s : Stb n (pw n a m)
    · rw [decide_eq_true (sq_congr s)] at e3
      simp [ev_name_v, e1, e3]
      show After (seq (mRet (mName 1)) (ret .nx)) _ .nx _
      simp [ev_name_v]
      exact ⟨_, rfl, pw_3 ha m, s⟩
    · rw [decide_eq_false (fun z => s (sq_inj pr_m3 (pw_3 ha m) z))] at e3
      simp [ev_name_v, e1, e2, e3]
      refine (hI _ _).mpr ⟨m + 1, _, by simp at hm; omega, fun k hk => ?_, rfl⟩
      by_cases q : k = m
      · rw [q]; exact s
      · exact no k (by omega)
  · obtain ⟨m, z2, hm, no, rfl⟩ := (hI _ _).mp hg
    have : m = 600 := by simpa using hm
    exact absurd (stable_at h4 ha) (no 167 (by omega))
end Vw
set_option Elab.async false
set_option linter.all false
set_option maxRecDepth 100000
set_option maxHeartbeats 4000000
set_option exponentiation.threshold 9000
/-! Vw, part nine: repeats judged; the law. -/
namespace Vw
open PySem PySem.Spec L2 Mo Lw Pw Qw Rw Sw Tw Tx Uw
structure Q26 (Cq : Addr) (Fi Fp Fr Fl Fs Fe Fm Fn : FD) : Prop where
  ini : QInitS Cq Fi
  rep : QRepS Cq Fp
  rows : QRowsS Cq Fr
  lrep : LRepS Fl
  st : QStS Cq Fs
  eq : QEqS Cq Fe
  mul : MulS Cq Fm
  nol : NoLessS Cq Fn
noncomputable def m26repeatsright (CSquare : Addr) (FSquareinit FSquarerepeated FSquarerows Frepeat FSquareisstable FSquareeq FSquaremul Fnoless : FD) : M Oc := (seq (mSet 1 (frz (mMake CSquare FSquareinit (mCons (mName 0) (ret []))))) (seq (mSet 2 (mMeth CSquare "repeated" FSquarerepeated (mName 1) (ret []))) (seq (mIf (mtOr (mT2 (fEq true) (mProp CSquare FSquarerows (mName 2)) (mFn Frepeat (mCons (mName 0) (ret [])))) (mtOr (mtNot (mTru (mProp CSquare FSquareisstable (mName 2)))) (mtEqZ true CSquare [] FSquareeq (mMeth CSquare "repeated" FSquarerepeated (mName 2) (ret [])) (mName 2)))) (seq (mRet (ret (.bl false))) (ret .nx)) (ret .nx)) (seq (mIf (mtOr (mtEqZ true CSquare [] FSquareeq (mBinI CSquare FSquaremul (mName 1) (mName 2)) (mName 2)) (mtOr (mtEqZ true CSquare [] FSquareeq (mBinI CSquare FSquaremul (mName 2) (mName 1)) (mName 2)) (mtEqZ true CSquare [] FSquareeq (mBinI CSquare FSquaremul (mName 2) (mName 2)) (mName 2)))) (seq (mRet (ret (.bl false))) (ret .nx)) (ret .nx)) (seq (mRet (mAnd (mFn Fnoless (mCons (mName 2) (mCons (mName 1) (ret [])))) (mAnd (mBin (fEq false) (mProp CSquare FSquarerows (mName 1)) (mName 0)) (mEqZ false CSquare [] FSquareeq (mBinI CSquare FSquaremul (mName 1) (mName 1)) (mName 1))))) (ret .nx))))))
def RepR (F : FD) : Prop := ∀ (n : Nat) (e : Nat → Nat → Nat) (c : C3), 1 ≤ n → n ≤ 4 → M3 n e → Stb n e → F [sqD n e] c = some (.bl true, c)
theorem fEq_sq {neg : Bool} {n : Nat} {a b : Nat → Nat → Nat} (ha : M3 n a) (hb : M3 n b) (e : EqM n a b) : fEq neg (sqD n a) (sqD n b) = some (.bl (!decide (neg = false) != true)) := by
  rw [fEq_tupS (sq_okS ha) (sq_okS hb), decide_eq_true (sq_congr e)]
  cases neg <;> rfl
theorem eq_sq {Cq : Addr} {F : FD} (h : QEqS Cq F) {n : Nat} {a b : Nat → Nat → Nat} {c : C3} (ha : M3 n a) (hb : M3 n b) (e : EqM n a b) : F [qO Cq n a, qO Cq n b] c = some (.bl true, c) := by
  rw [h _ _ c (sq_okS ha) (sq_okS hb), decide_eq_true (sq_congr e)]
theorem repR_spec {Cq : Addr} {Fi Fp Fr Fl Fs Fe Fm Fn : FD} (q : Q26 Cq Fi Fp Fr Fl Fs Fe Fm Fn) : RepR (runM false 3 1 (m26repeatsright Cq Fi Fp Fr Fl Fs Fe Fm Fn)) := fun n e c h1 h4 he hs => by
  refine run_pure rfl ?_
  have h24 : n ≤ 24 := by omega
  have r3 : M3 n (rp n e) := rp_m3
  have i1 := q.ini (sq n e) (sq_ok h1 h24 he)
  have g0 : ⟨[.v (sqD n e), .un, .un], c⟩ = (⟨[.v (sqD n e), .un, .un], c⟩ : G) := rfl
  have v1 : Va (frz (mMake Cq Fi (mCons (mName 0) (ret [])))) ⟨[.v (sqD n e), .un, .un], c⟩ (qO Cq n e) := va_make (vl_cons (va_name rfl) vl_nil) i1
  have v2 : Va (mMeth Cq "repeated" Fp (mName 1) (ret [])) ⟨[.v (sqD n e), .v (qO Cq n e), .un], c⟩ (qO Cq n (rp n e)) := va_meth (va_name rfl) rfl (q.rep n e c h1 h24 he hs)
  obtain ⟨S, hS⟩ : ∃ S : List Sl, S = [.v (sqD n e), .v (qO Cq n e), .v (qO Cq n (rp n e))] := ⟨_, rfl⟩
  have n0 : Va (mName 0) ⟨S, c⟩ (sqD n e) := va_name (by rw [hS]; rfl)
  have n1 : Va (mName 1) ⟨S, c⟩ (qO Cq n e) := va_name (by rw [hS]; rfl)
  have n2 : Va (mName 2) ⟨S, c⟩ (qO Cq n (rp n e)) := va_name (by rw [hS]; rfl)
  have w1 : Va (mProp Cq Fr (mName 2)) ⟨S, c⟩ (sqD n (rp n e)) := va_prop n2 (q.rows _ c)
  have w2 : Va (mFn Fl (mCons (mName 0) (ret []))) ⟨S, c⟩ (sqD n (rp n e)) := va_fn (vl_cons n0 vl_nil) (q.lrep n e c h1 h24 he)
  have t1 : Vt (mT2 (fEq true) (mProp Cq Fr (mName 2)) (mFn Fl (mCons (mName 0) (ret [])))) ⟨S, c⟩ false := vt_eq w1 w2 (fEq_sq r3 r3 .refl)
  have t2 : Vt (mTru (mProp Cq Fs (mName 2))) ⟨S, c⟩ true := vt_tru (va_prop n2 (by
    have := q.st n (rp n e) c h1 h24 r3
    rw [decide_eq_true (sq_congr (rp_stable hs))] at this
    exact this))
  have w3 : Va (mMeth Cq "repeated" Fp (mName 2) (ret [])) ⟨S, c⟩ (qO Cq n (rp n (rp n e))) := va_meth n2 rfl (q.rep n (rp n e) c h1 h24 r3 (rp_stable hs))
  have t3 : Vt (mtEqZ true Cq [] Fe (mMeth Cq "repeated" Fp (mName 2) (ret [])) (mName 2)) ⟨S, c⟩ false := vt_eqZ w3 n2 isTZ_sO (eq_sq q.eq rp_m3 r3 (rp_again hs he))
  have t4 : Vt (mtEqZ true Cq [] Fe (mBinI Cq Fm (mName 1) (mName 2)) (mName 2)) ⟨S, c⟩ false := vt_eqZ (va_bin n1 n2 (q.mul n e (rp n e) c h1 h24 he r3)) n2 isTZ_sO (eq_sq q.eq pr_m3 r3 (rp_left hs))
  have t5 : Vt (mtEqZ true Cq [] Fe (mBinI Cq Fm (mName 2) (mName 1)) (mName 2)) ⟨S, c⟩ false := vt_eqZ (va_bin n2 n1 (q.mul n (rp n e) e c h1 h24 r3 he)) n2 isTZ_sO (eq_sq q.eq pr_m3 r3 (rp_right hs))
  have t6 : Vt (mtEqZ true Cq [] Fe (mBinI Cq Fm (mName 2) (mName 2)) (mName 2)) ⟨S, c⟩ false := vt_eqZ (va_bin n2 n2 (q.mul n (rp n e) (rp n e) c h1 h24 r3 r3)) n2 isTZ_sO (eq_sq q.eq pr_m3 r3 (rp_stable hs))
  have u1 : Va (mFn Fn (mCons (mName 2) (mCons (mName 1) (ret [])))) ⟨S, c⟩ (.bl true) := va_fn (vl_cons n2 (vl_cons n1 vl_nil)) (q.nol n (rp n e) e c h1 h24 r3 he fun i j hi hj => by
    have a0 := rp_same hs he h4 (t := 0) (by omega) (by omega) hi hj
    have a2 := rp_same hs he h4 (t := 2) (by omega) (by omega) hi hj
    have a1 := rp_in hs (t := 1) (by omega) hi hj
    have b3 := r3 i j hi hj
    have c3 := he i j hi hj
    refine ⟨?_, ?_, ?_⟩ <;> omega)
  have u2 : Va (mBin (fEq false) (mProp Cq Fr (mName 1)) (mName 0)) ⟨S, c⟩ (.bl true) := va_op (va_prop n1 (q.rows _ c)) n0 (fEq_sq he he .refl)
  have u3 : Va (mEqZ false Cq [] Fe (mBinI Cq Fm (mName 1) (mName 1)) (mName 1)) ⟨S, c⟩ (.bl true) := va_eqZ (va_bin n1 n1 (q.mul n e e c h1 h24 he he)) n1 isTZ_sO (eq_sq q.eq pr_m3 he hs)
  simp [-ev_make, -ev_meth, -ev_frz, -ev_prop, -ev_fn, -ev_eqZ, -ev_teqZ, -ev_t2, -ev_tru, -ev_bin, m26repeatsright, ev_fun v1, ev_fun v2]
  rw [← hS]
  simp [-ev_make, -ev_meth, -ev_frz, -ev_prop, -ev_fn, -ev_eqZ, -ev_teqZ, -ev_t2, -ev_tru, -ev_bin, ev_fun t1, ev_fun t2, ev_fun t3, ev_fun t4, ev_fun t5, ev_fun t6, ev_fun u1, ev_fun u2, ev_fun u3]
end Vw
set_option Elab.async false
set_option linter.all false
set_option maxRecDepth 100000
set_option maxHeartbeats 4000000
set_option exponentiation.threshold 9000
/-! Vw, part ten: the law. -/
namespace Vw
open PySem PySem.Spec L2 Mo Lw Pw Qw Rw Sw Tw Tx Uw
noncomputable def m26right (CSquare : Addr) (Froll Fdrawnsquare FSquaremul FSquareinit FSquarerows Fproduct FSquareeq Frepeatsright Fstableof : FD) : M Oc := (seq (mSet 1 (mBin uPlus (ret (.int 1)) (isDi 0 (mFn Froll (mCons (ret (.int 4)) (ret [])))))) (seq (mAsg (stLst 3 (stCons (stName 2) (stCons (stName 3) (stCons (stName 4) stNil)))) (frz (mLc [7] (mWk fRng1 (mCons (ret (.int 3)) (ret []))) (stName 7) (ret true) (isDi 0 (mFn Fdrawnsquare (mCons (mName 1) (ret []))))))) (seq (mPar 5 6 (mXd (mBinI CSquare FSquaremul (frz (mMake CSquare FSquareinit (mCons (mName 2) (ret [])))) (frz (mMake CSquare FSquareinit (mCons (mName 3) (ret [])))))) (mXd (mBinI CSquare FSquaremul (frz (mMake CSquare FSquareinit (mCons (mName 3) (ret [])))) (frz (mMake CSquare FSquareinit (mCons (mName 4) (ret []))))))) (seq (mIf (mtOr (mT2 (fEq true) (mProp CSquare FSquarerows (mName 5)) (mFn Fproduct (mCons (mName 2) (mCons (mName 3) (ret []))))) (mtEqZ true CSquare [] FSquareeq (mBinI CSquare FSquaremul (mName 5) (frz (mMake CSquare FSquareinit (mCons (mName 4) (ret []))))) (mBinI CSquare FSquaremul (frz (mMake CSquare FSquareinit (mCons (mName 2) (ret [])))) (mName 6)))) (seq (mRet (ret (.bl false))) (ret .nx)) (ret .nx)) (seq (mRet (mAnd (mFn Frepeatsright (mCons (mFn Fstableof (mCons (mName 2) (ret []))) (ret []))) (mFn Frepeatsright (mCons (mFn Fstableof (mCons (mFn Fproduct (mCons (mName 3) (mCons (mName 4) (ret [])))) (ret []))) (ret []))))) (ret .nx))))))
def Right26 (F : FD) : Prop := ∀ (c : C3) (N : Nat), Di c N → N ≤ 800000 → ∃ c', F [] c = some (.bl true, c') ∧ Di c' (N + 100)
theorem right26_spec {Cq : Addr} {Fo Fd Fm Fi Fr Fp Fe Fj Fs : FD} (ho : RollS Fo) (hd : DrawSqS Fd) (hm : MulS Cq Fm) (hi : QInitS Cq Fi) (hr : QRowsS Cq Fr) (hp : LProdS Fp) (he : QEqS Cq Fe) (hj : RepR Fj) (hs : StabS Fs) :
    Right26 (runM true 8 1 (m26right Cq Fo Fd Fm Fi Fr Fp Fe Fj Fs)) := fun c N h hN => by
  suffices hh : ∃ d c', runM true 8 1 (m26right Cq Fo Fd Fm Fi Fr Fp Fe Fj Fs) [] c = some (d, c') ∧ d = .bl true ∧ Di c' (N + 100) by
    obtain ⟨d, c', e, rfl, q⟩ := hh
    exact ⟨c', e, q⟩
  refine run_ev rfl ?_
  obtain ⟨r, c1, e1, r0, r1, d1⟩ := ho c N 4 h (by omega) (by omega) (by omega)
  obtain ⟨n, hn⟩ : ∃ n : Nat, 1 + r = (n : Int) := ⟨(1 + r).toNat, by omega⟩
  have h1 : 1 ≤ n := by omega
  have h4 : n ≤ 4 := by omega
  have h24 : n ≤ 24 := by omega
  have nn : n * n ≤ 16 := Nat.mul_le_mul h4 h4
  obtain ⟨a, c2, e2, a3, d2⟩ := hd n c1 (N + 1) d1 (by omega) h1 h24
  obtain ⟨b, c3, e3, b3, d3⟩ := hd n c2 _ d2 (by omega) h1 h24
  obtain ⟨k, c4, e4, k3, d4⟩ := hd n c3 _ d3 (by omega) h1 h24
  have rk3 : fRng1 [.int 3] = some [.int 0, .int 1, .int 2] := by
    have := rng1_l (n := 3) (by omega)
    exact this
  have eu : uPlus (.int 1) (.int r) = some (.int (n : Int)) := by
    rw [← hn]
    rfl
  simp [-List.map_map, -ev_make, -ev_meth, -ev_prop, -ev_eqZ, -ev_teqZ, -ev_t2, m26right, ev_name_v, e1, eu, rk3, noOwn, plainSl]
  obtain ⟨I, hI⟩ : ∃ I : List D → List D → G → Prop, ∀ ds acc g, I ds acc g ↔ ∃ z cc, g = ⟨[.di, .v (.int (n : Int)), .un, .un, .un, .un, .un, .un], cc⟩ ∧
      ((z = 0 ∧ ds = [.int 0, .int 1, .int 2] ∧ acc = [] ∧ cc = c1) ∨ (z = 1 ∧ ds = [.int 1, .int 2] ∧ acc = [sqD n a] ∧ cc = c2) ∨ (z = 2 ∧ ds = [.int 2] ∧ acc = [sqD n a, sqD n b] ∧ cc = c3) ∨ (z = 3 ∧ ds = [] ∧ acc = [sqD n a, sqD n b, sqD n k] ∧ cc = c4)) := ⟨_, fun _ _ _ => Iff.rfl⟩
  refine ev_lcGo I (fun d r acc g hg => ?_) (fun acc g hg => ?_) _ _ _ ((hI _ _ _).mpr ⟨0, c1, rfl, .inl ⟨rfl, rfl, rfl, rfl⟩⟩)
  · obtain ⟨z, cc, rfl, hz⟩ := (hI _ _ _).mp hg
    rcases hz with ⟨_, e, rfl, rfl⟩ | ⟨_, e, rfl, rfl⟩ | ⟨_, e, rfl, rfl⟩ | ⟨_, e, _⟩
    · cases e
      refine ⟨_, rfl, ?_⟩
      simp [ev_name_v, e2, sizeLine_eq]
      exact (hI _ _ _).mpr ⟨1, c2, rfl, .inr (.inl ⟨rfl, rfl, rfl, rfl⟩)⟩
    · cases e
      refine ⟨_, rfl, ?_⟩
      simp [ev_name_v, e3, sizeLine_eq]
      exact (hI _ _ _).mpr ⟨2, c3, rfl, .inr (.inr (.inl ⟨rfl, rfl, rfl, rfl⟩))⟩
    · cases e
      refine ⟨_, rfl, ?_⟩
      simp [ev_name_v, e4, sizeLine_eq]
      exact (hI _ _ _).mpr ⟨3, c4, rfl, .inr (.inr (.inr ⟨rfl, rfl, rfl, rfl⟩))⟩
    · cases e
  · obtain ⟨z, cc, rfl, hz⟩ := (hI _ _ _).mp hg
    rcases hz with ⟨_, e, _⟩ | ⟨_, e, _⟩ | ⟨_, e, _⟩ | ⟨_, _, ea, ec⟩
    · cases e
    · cases e
    · cases e
    rw [ea, ec]
    refine ⟨⟨[.di, .v (.int (n : Int)), .v (sqD n a), .v (sqD n b), .v (sqD n k), .un, .un, .un], c4⟩, rfl, ?_⟩
    have mk : ∀ (x : Nat → Nat → Nat), M3 n x → ∀ (i : Nat) (s : List Sl) (c : C3), s[i]? = some (.v (sqD n x)) → Va (frz (mMake Cq Fi (mCons (mName i) (ret [])))) ⟨s, c⟩ (qO Cq n x) := fun x x3 i s c hi' => va_make (vl_cons (va_name hi') vl_nil) (hi (sq n x) (sq_ok h1 h24 x3))
    have b1 : Va (mBinI Cq Fm (frz (mMake Cq Fi (mCons (mName 2) (ret [])))) (frz (mMake Cq Fi (mCons (mName 3) (ret []))))) ⟨[.di, .v (.int (n : Int)), .v (sqD n a), .v (sqD n b), .v (sqD n k), .un, .un, .un], c4⟩ (qO Cq n (pr n a b)) := va_bin (mk a a3 2 _ _ rfl) (mk b b3 3 _ _ rfl) (hm n a b c4 h1 h24 a3 b3)
    have b2 : Va (mBinI Cq Fm (frz (mMake Cq Fi (mCons (mName 3) (ret [])))) (frz (mMake Cq Fi (mCons (mName 4) (ret []))))) ⟨[.di, .v (.int (n : Int)), .v (sqD n a), .v (sqD n b), .v (sqD n k), .un, .un, .un], c4⟩ (qO Cq n (pr n b k)) := va_bin (mk b b3 3 _ _ rfl) (mk k k3 4 _ _ rfl) (hm n b k c4 h1 h24 b3 k3)
    obtain ⟨S, hS⟩ : ∃ S : List Sl, S = [.di, .v (.int (n : Int)), .v (sqD n a), .v (sqD n b), .v (sqD n k), .v (qO Cq n (pr n a b)), .v (qO Cq n (pr n b k)), .un] := ⟨_, rfl⟩
    have n2 : Va (mName 2) ⟨S, c4⟩ (sqD n a) := va_name (by rw [hS]; rfl)
    have n3 : Va (mName 3) ⟨S, c4⟩ (sqD n b) := va_name (by rw [hS]; rfl)
    have n4 : Va (mName 4) ⟨S, c4⟩ (sqD n k) := va_name (by rw [hS]; rfl)
    have n5 : Va (mName 5) ⟨S, c4⟩ (qO Cq n (pr n a b)) := va_name (by rw [hS]; rfl)
    have n6 : Va (mName 6) ⟨S, c4⟩ (qO Cq n (pr n b k)) := va_name (by rw [hS]; rfl)
    have t1 : Vt (mT2 (fEq true) (mProp Cq Fr (mName 5)) (mFn Fp (mCons (mName 2) (mCons (mName 3) (ret []))))) ⟨S, c4⟩ false := vt_eq (va_prop n5 (hr _ c4)) (va_fn (vl_cons n2 (vl_cons n3 vl_nil)) (hp n a b c4 h1 h24 a3 b3)) (fEq_sq pr_m3 pr_m3 .refl)
    have t2 : Vt (mtEqZ true Cq [] Fe (mBinI Cq Fm (mName 5) (frz (mMake Cq Fi (mCons (mName 4) (ret []))))) (mBinI Cq Fm (frz (mMake Cq Fi (mCons (mName 2) (ret [])))) (mName 6))) ⟨S, c4⟩ false :=
      vt_eqZ (va_bin n5 (mk k k3 4 _ _ (by rw [hS]; rfl)) (hm n (pr n a b) k c4 h1 h24 pr_m3 k3)) (va_bin (mk a a3 2 _ _ (by rw [hS]; rfl)) n6 (hm n a (pr n b k) c4 h1 h24 a3 pr_m3)) isTZ_sO (eq_sq he pr_m3 pr_m3 pr_assoc)
    obtain ⟨x, s1, x3, xs⟩ := hs n a c4 h1 h4 a3
    have j1 := hj n x c4 h1 h4 x3 xs
    have p1 := hp n b k c4 h1 h24 b3 k3
    obtain ⟨y, s2, y3, ys⟩ := hs n (pr n b k) c4 h1 h4 pr_m3
    have j2 := hj n y c4 h1 h4 y3 ys
    refine (ev_fun b1).mpr ((ev_fun b2).mpr ?_)
    show Ev _ ⟨[.di, .v (.int (n : Int)), .v (sqD n a), .v (sqD n b), .v (sqD n k), .v (qO Cq n (pr n a b)), .v (qO Cq n (pr n b k)), .un], c4⟩ _
    rw [← hS]
    refine (ev_fun t1).mpr ⟨rfl, (ev_fun t2).mpr ⟨rfl, (ev_fun n2).mpr ⟨_, _, s1, _, _, j1, rfl, (ev_fun n3).mpr ((ev_fun n4).mpr ⟨_, _, p1, _, _, s2, _, _, j2, rfl, ?_⟩)⟩⟩⟩
    exact d4.mono (by omega)
/-! ### the law -/
def mkM (l : List (List Nat)) : Nat → Nat → Nat := fun i j => (l.getD i []).getD j 3
def five : List (Nat × List (List Nat)) := [(1, [[1]]), (2, [[1, 0], [3, 0]]), (2, [[1, 3], [3, 1]]), (2, [[0, 2], [3, 0]]), (2, [[0, 1], [3, 1]])]
theorem five_ok : ∀ p ∈ five, 1 ≤ p.1 ∧ p.1 ≤ 4 ∧ M3 p.1 (mkM p.2) ∧ Stb p.1 (mkM p.2) ∧ ((sq p.1 (rp p.1 (mkM p.2))).map (·.length)).sum + (sq p.1 (rp p.1 (mkM p.2))).length ≤ 1000 := by
  have h : five.all (fun p => decide (1 ≤ p.1) && decide (p.1 ≤ 4) && ((List.range p.1).all fun i => (List.range p.1).all fun j => decide (mkM p.2 i j ≤ 3)) && ((List.range p.1).all fun i => (List.range p.1).all fun j => decide (pr p.1 (mkM p.2) (mkM p.2) i j = mkM p.2 i j)) && decide (((sq p.1 (rp p.1 (mkM p.2))).map (·.length)).sum + (sq p.1 (rp p.1 (mkM p.2))).length ≤ 1000)) = true := by decide +kernel
  intro p m
  have := List.all_eq_true.mp h p m
  simp only [Bool.and_eq_true, decide_eq_true_eq, List.all_eq_true, List.mem_range] at this
  exact ⟨this.1.1.1.1, this.1.1.1.2, fun i j hi hj => this.1.1.2 i hi j hj, fun i j hi hj => this.1.2 i hi j hj, this.2⟩
theorem five_in : [D.tup [.str "1"], .tup [.str "10", .str ".0"], .tup [.str "1.", .str ".1"], .tup [.str "0n", .str ".0"], .tup [.str "01", .str ".1"]] = five.map fun p => sqD p.1 (mkM p.2) := by
  have h : five.map (fun p => sq p.1 (mkM p.2)) = ([["1"], ["10", ".0"], ["1.", ".1"], ["0n", ".0"], ["01", ".1"]] : List (List Str)) := by decide +kernel
  have : (five.map fun p => sqD p.1 (mkM p.2)) = (five.map fun p => sq p.1 (mkM p.2)).map fun ss => D.tup (sL ss) := by rw [List.map_map]; rfl
  rw [this, h]
  rfl
theorem five_out : (five.map fun p => D.str (Txt.join "/" (sq p.1 (rp p.1 (mkM p.2))))) = sL (["n", "n0/.0", "n./.n", "0n/.0", "01/.n"] : List Str) := by
  have h : five.map (fun p => Txt.join "/" (sq p.1 (rp p.1 (mkM p.2)))) = (["n", "n0/.0", "n./.n", "0n/.0", "01/.n"] : List Str) := by decide +kernel
  have : (five.map fun p => D.str (Txt.join "/" (sq p.1 (rp p.1 (mkM p.2))))) = (five.map fun p => Txt.join "/" (sq p.1 (rp p.1 (mkM p.2)))).map .str := by rw [List.map_map]; rfl
  rw [this, h]
  rfl
noncomputable def m26Law (CSquare : Addr) (Fdice : FO) (Fright FSquarestr FSquarerepeated FSquareinit : FD) : M Oc := (seq (mFor (stName 1) (mWk fRng1 (mCons (mCall fMax2 (mCons (ret (.int 1)) (mCons (mCall fMin2 (mCons (ret (.int 5)) (mCons (mCall fLen (mCons (mName 0) (ret []))) (ret [])))) (ret [])))) (ret []))) (seq (mSetO 3 (mFnO Fdice (mCons (mName 0) (mCons (mName 1) (ret []))))) (seq (mFor (stName 4) (mWk fRng1 (mCons (ret (.int 5)) (ret []))) (seq (mIf (mtNot (mTru (mFnQ 3 Fright (ret [])))) (seq (mRet (ret (.bl false))) (ret .nx)) (ret .nx)) (ret .nx))) (ret .nx)))) (seq (mSet 2 (frz (mLc [5] (mIter (frz (mLst (mCons (mTup (mCons (ret (.str "1")) (ret []))) (mCons (mTup (mCons (ret (.str "10")) (mCons (ret (.str ".0")) (ret [])))) (mCons (mTup (mCons (ret (.str "1.")) (mCons (ret (.str ".1")) (ret [])))) (mCons (mTup (mCons (ret (.str "0n")) (mCons (ret (.str ".0")) (ret [])))) (mCons (mTup (mCons (ret (.str "01")) (mCons (ret (.str ".1")) (ret [])))) (ret []))))))))) (stName 5) (ret true) (mStrI CSquare FSquarestr (mMeth CSquare "repeated" FSquarerepeated (frz (mMake CSquare FSquareinit (mCons (mName 5) (ret [])))) (ret [])))))) (seq (mRet (mBin (fEq false) (mName 2) (frz (mLst (mCons (ret (.str "n")) (mCons (ret (.str "n0/.0")) (mCons (ret (.str "n./.n")) (mCons (ret (.str "0n/.0")) (mCons (ret (.str "01/.n")) (ret [])))))))))) (ret .nx))))
theorem law26_spec {Cq : Addr} {Fd : FO} {Fr Fs Fp Fi : FD} (hd : DiceS Fd) (hr : Right26 Fr) (hs : QStrS Cq Fs) (hp : QRepS Cq Fp) (hi : QInitS Cq Fi) :
    ∀ ns : List Int, ns.length ≤ 63 → ∃ c', runM false 6 1 (m26Law Cq Fd Fr Fs Fp Fi) [.lst (ns.map .int)] (.l []) = some (.bl true, c') := fun ns hnl => by
  suffices hh : ∃ d c', runM false 6 1 (m26Law Cq Fd Fr Fs Fp Fi) [.lst (ns.map .int)] (.l []) = some (d, c') ∧ d = .bl true by
    obtain ⟨d, c', e, rfl⟩ := hh
    exact ⟨c', e⟩
  refine run_ev rfl ?_
  obtain ⟨k, hk, k3⟩ : ∃ k : Nat, (if 1 < (if (ns.length : Int) < 5 then (ns.length : Int) else 5) then (if (ns.length : Int) < 5 then (ns.length : Int) else 5) else 1) = (k : Int) ∧ k ≤ 5 := by
    refine ⟨max 1 (min 5 ns.length), ?_, by omega⟩
    split <;> split at * <;> omega
  have rk := rng1_nat (n := k) (by omega)
  have rk5 : fRng1 [.int 5] = some [.int 0, .int 1, .int 2, .int 3, .int 4] := rng1_l (n := 5) (by omega)
  simp [-List.map_map, m26Law, ev_name_v, hk, rk]
  obtain ⟨I, hI'⟩ : ∃ I : List D → G → Prop, ∀ ds g, I ds g ↔ ∃ (x1 x3 x4 : Sl) (c' : C3), g = ⟨[.v (.lst (ns.map .int)), x1, .un, x3, x4, .un], c'⟩ ∧ (∀ e ∈ ds, ∃ i : Int, e = .int i ∧ 0 ≤ i ∧ i < 100) := ⟨_, fun _ _ => Iff.rfl⟩
  refine ev_loop I ?_ ?_ _ _ ((hI' _ _).mpr ⟨.un, .un, .un, _, rfl, fun e m => ?_⟩)
  · intro e r g hi
    obtain ⟨x1, x3, x4, c', rfl, hm⟩ := (hI' _ _).mp hi
    obtain ⟨i, rfl, i0, i1⟩ := hm e List.mem_cons_self
    refine ⟨_, rfl, ?_⟩
    obtain ⟨o, c2, f1, hdo⟩ := hd ns i c' i0 i1
    simp [-List.map_map, ev_name_v, f1, rk5]
    obtain ⟨I2, hI2⟩ : ∃ I2 : List D → G → Prop, ∀ ds g, I2 ds g ↔ ∃ (m : Nat) (x4 : Sl) (o : O), ds.length + m = 5 ∧ Di o (m * 100) ∧ g = ⟨[.v (.lst (ns.map .int)), .v (.int i), .un, .o o, x4, .un], c2⟩ := ⟨_, fun _ _ => Iff.rfl⟩
    refine ev_loop I2 (fun d r2 g hg => ?_) (fun g hg => ?_) _ _ ((hI2 _ _).mpr ⟨0, _, o, rfl, hdo, rfl⟩)
    · obtain ⟨m, y4, o1, hm2, hdo1, rfl⟩ := (hI2 _ _).mp hg
      simp at hm2
      obtain ⟨o2, f2, hd2⟩ := hr o1 _ hdo1 (by omega)
      refine ⟨_, rfl, ?_⟩
      simp [-List.map_map, ev_name_v, f2]
      exact (hI2 _ _).mpr ⟨m + 1, _, o2, by omega, by rw [Nat.succ_mul]; exact hd2, rfl⟩
    · obtain ⟨m, y4, o1, hm2, hdo1, rfl⟩ := (hI2 _ _).mp hg
      simp
      exact (hI' _ _).mpr ⟨_, _, _, _, rfl, fun e m => hm e (List.mem_cons_of_mem _ m)⟩
  · intro g hi'
    obtain ⟨x1, x3, x4, c, rfl, hmm⟩ := (hI' _ _).mp hi'
    have hz : ∀ {k : Nat}, k ≤ 1000 → k ≤ sizeLine := fun {k} h => by rw [sizeLine_eq]; omega
    have okn : OkS (["n", "n0/.0", "n./.n", "0n/.0", "01/.n"] : List Str) := fun x m => by
      have h : (["n", "n0/.0", "n./.n", "0n/.0", "01/.n"] : List Str).all (fun x => PyData.strOk x) = true := by decide +kernel
      exact List.all_eq_true.mp h x m
    have fq := fEq_strs (neg := false) okn okn
    simp [-List.map_map, -ev_make, -ev_meth, ev_name_v, hz, O.d, five_in, noOwn, plainSl]
    refine ev_lcPure five (fun p => sqD p.1 (mkM p.2)) (fun _ => true) (fun p => .str (Txt.join "/" (sq p.1 (rp p.1 (mkM p.2))))) (fun p m => ⟨_, rfl, ?_⟩) (by rw [sizeLine_eq]; decide) ?_
    · obtain ⟨q1, q4, q3, qs, ql⟩ := five_ok p m
      have i1 := hi (sq p.1 (mkM p.2)) (sq_ok q1 (by omega) q3)
      have v1 : Va (mMeth Cq "repeated" Fp (frz (mMake Cq Fi (mCons (mName 5) (ret [])))) (ret [])) ⟨[.v (.lst (ns.map .int)), x1, .un, x3, x4, .v (sqD p.1 (mkM p.2))], c⟩ (qO Cq p.1 (rp p.1 (mkM p.2))) := va_meth (va_make (vl_cons (va_name rfl) vl_nil) i1) rfl (hp p.1 (mkM p.2) c q1 (by omega) q3 qs)
      have e2 := hs (sq p.1 (rp p.1 (mkM p.2))) c ql
      refine ev_ret.mpr ⟨rfl, ?_⟩
      rw [if_pos rfl]
      refine ev_strI.mpr ((ev_fun v1).mpr ⟨_, rfl, _, _, e2, rfl, rfl⟩)
    · rw [filter_tt, five_out]
      refine (ev_name_v rfl).mpr ?_
      exact ev_lift fq rfl
  · obtain ⟨i, mi, rfl⟩ := List.mem_map.mp m
    have := List.mem_range.mp mi
    exact ⟨0 + (i : Int), rfl, by omega, by omega⟩
end Vw
set_option Elab.async false
set_option linter.all false
set_option maxRecDepth 100000
set_option maxHeartbeats 4000000
set_option exponentiation.threshold 9000
/-! Zv: products, repeats and what is stable, by numbers (4300c93). -/
namespace Zv
open PySem PySem.Spec L2 Mo Lw Pw Qw Rw Sw Tw Tx Uw Vw
def tN : List (Nat × Nat) := [(48, 55), (49, 54), (110, 52), (46, 48)]
def tR : List (Nat × Nat) := [(55, 48), (54, 49), (52, 110), (48, 46)]
theorem trN' {r : Nat} (h : r ≤ 3) : trC tN (cs r) = some (48 + fg r) := by
  rcases le3 h with e | e | e | e <;> subst e <;> decide +kernel
theorem trR'' {r : Nat} (h : r ≤ 3) : trC tR (48 + fg r) = some (cs r) := by
  rcases le3 h with e | e | e | e <;> subst e <;> decide +kernel
theorem trans_rt {a : Addr} {n : Nat} {h : Nat → Nat} (hn : n ≤ 600) (hh : ∀ j, j < n → h j ≤ 3) : fTranslC a tN (.str (rt n h)) (.cl a) = some (.str ⟨(ot n h).toArray⟩) := by
  show (if a = a ∧ (rt n h).length ≤ 1000000 then ((rt n h).cps.toList.mapM (trC tN)).map fun l => D.str ⟨l.toArray⟩ else none) = _
  rw [if_pos ⟨rfl, by rw [rt_len]; omega⟩, rt_cps, mapM_of (k := fun j => 48 + fg (h j)) fun j m => trN' (hh j (List.mem_range.mp m))]
  rfl
theorem trans_ot {a : Addr} {n : Nat} {h : Nat → Nat} (hn : n ≤ 600) (hh : ∀ j, j < n → h j ≤ 3) : fTranslC a tR (.str ⟨(ot n h).toArray⟩) (.cl a) = some (.str (rt n h)) := by
  have e : (⟨(ot n h).toArray⟩ : Str).cps.toList = (List.range n).map fun j => 48 + fg (h j) := by simp [ot]
  show (if a = a ∧ (⟨(ot n h).toArray⟩ : Str).length ≤ 1000000 then ((⟨(ot n h).toArray⟩ : Str).cps.toList.mapM (trC tR)).map fun l => D.str ⟨l.toArray⟩ else none) = _
  rw [if_pos ⟨rfl, by simp [Str.length, ot]; omega⟩, e, mapM_of (k := fun j => cs (h j)) fun j m => trR'' (hh j (List.mem_range.mp m))]
  rfl
noncomputable def mNum (a : Addr) : M Oc := (seq (mRet (mCall fInt8 (mCons (mMs1 (fTranslC a [(48, 55), (49, 54), (110, 52), (46, 48)]) (mName 0) (ret (.cl a))) (mCons (ret (.int 8)) (ret []))))) (ret .nx))
theorem num_spec {a : Addr} : NumS (runM false 1 1 (mNum a)) := fun n h c h1 h2 hh => by
  refine run_pure rfl ?_
  have e := trans_rt (a := a) h2 hh
  unfold tN at e
  simp [mNum, ev_name_v, e, int8_ot h1 h2]
noncomputable def mWrit (a : Addr) : M Oc := (seq (mRet (mMs1 (fTranslC a [(55, 48), (54, 49), (52, 110), (48, 46)]) (mMs1 fZfill (mBin fFmtB (mName 0) (ret (.str "o"))) (mName 1)) (ret (.cl a)))) (ret .nx))
theorem writ_spec {a : Addr} : RowOfS (runM false 2 2 (mWrit a)) := fun n h c h1 h2 hh => by
  refine run_pure rfl ?_
  have e1 : fFmtB (.int (vf n h : Nat)) (.str "o") = some (.str (figs 8 (vf n h : Nat))) := by
    have eo : ("o" : Str) = ⟨#[111]⟩ := by decide +kernel
    rw [eo]
    refine if_pos ⟨by omega, rfl, ?_⟩
    obtain ⟨m, rfl⟩ : ∃ m, n = m + 1 := ⟨n - 1, by omega⟩
    obtain ⟨k, e⟩ := digits_ot h m
    have := congrArg List.length e
    rw [List.length_append, List.length_replicate] at this
    have el : (ot (m + 1) h).length = m + 1 := by simp [ot]
    have e0 : ((vf (m + 1) h : Nat) : Int).natAbs = vf (m + 1) h := by omega
    unfold figs
    rw [e0, sizeLine_eq]
    show ((Nat.toDigits 8 (vf (m + 1) h)).map Char.toNat).toArray.size ≤ _
    rw [List.size_toArray]
    omega
  have e2 : fZfill (.str (figs 8 (vf n h : Nat))) (.int (n : Int)) = some (.str ⟨(ot n h).toArray⟩) := by
    show (if PadOk (n : Int) = true then some (D.str (Txt.zfill (figs 8 (vf n h : Nat)) (n : Int))) else none) = _
    rw [if_pos (pad_ok h2), zfill_ot h h1]
  have e3 := trans_ot (a := a) h2 hh
  unfold tR at e3
  simp [mWrit, ev_name_v, e1, e2, e3]
/-! masks -/
theorem vf_const (r : Nat) : ∀ n, 7 * vf n (fun _ => r) = fg r * (8 ^ n - 1)
  | 0 => by simp [vf]
  | n + 1 => by
    have ih := vf_const r n
    have hp : 1 ≤ 8 ^ n := Nat.pos_of_ne_zero (by simp)
    show 7 * (vf n (fun _ => r) * 8 + fg r) = fg r * (8 ^ (n + 1) - 1)
    obtain ⟨m, hm⟩ : ∃ m, 8 ^ n = m + 1 := ⟨8 ^ n - 1, by omega⟩
    rw [hm] at ih
    have e : 8 ^ (n + 1) - 1 = m * 8 + 7 := by rw [Nat.pow_succ, hm]; omega
    have em : m + 1 - 1 = m := by omega
    rw [em] at ih
    rw [e, Nat.mul_add, Nat.mul_add, ← Nat.mul_assoc, ← Nat.mul_assoc, ih, Nat.mul_comm 7 (fg r)]
theorem units_dvd (n : Nat) : 7 * ((8 ^ n - 1) / 7) = 8 ^ n - 1 := by
  have h := vf_const 0 n
  have h0 : fg 0 = 7 := rfl
  rw [h0] at h
  have : 8 ^ n - 1 = vf n fun _ => 0 := by omega
  have h6 := vf_const 1 n
  have h1 : fg 1 = 6 := rfl
  rw [h1] at h6
  omega
theorem vf_units (r n : Nat) : fg r * ((8 ^ n - 1) / 7) = vf n fun _ => r := by
  have h := vf_const r n
  have h7 := units_dvd n
  obtain ⟨u, hu⟩ : ∃ u, (8 ^ n - 1) / 7 = u := ⟨_, rfl⟩
  rw [hu] at h7 ⊢
  rw [← h7] at h
  have : fg r * (7 * u) = 7 * (fg r * u) := by rw [Nat.mul_left_comm]
  omega
noncomputable def mMask : M Oc := (seq (mSet 1 (mBin uDiv (mBin uSub (mBin uShl (ret (.int 1)) (mBin uMul (ret (.int 3)) (mName 0))) (ret (.int 1))) (ret (.int 7)))) (seq (mRet (frz (mDisp (mPairs (ret (.str "0")) (mBin uMul (ret (.int 7)) (mName 1)) (mPairs (ret (.str "1")) (mBin uMul (ret (.int 6)) (mName 1)) (mPairs (ret (.str "n")) (mBin uMul (ret (.int 4)) (mName 1)) (mPairs (ret (.str ".")) (ret (.int 0)) (ret [])))))))) (ret .nx)))
theorem small_log {k n : Nat} (h : k < 2 ^ n) (h0 : 0 < n) : k.log2 < n := by
  by_cases z : k = 0
  · subst z
    simpa using h0
  · exact (Nat.log2_lt z).mpr h
theorem mask_spec : MaskS (runM false 2 1 mMask) := fun n c h1 h2 => by
  refine run_pure rfl ?_
  obtain ⟨u, hu⟩ : ∃ u, (8 ^ n - 1) / 7 = u := ⟨_, rfl⟩
  have hp : 1 ≤ 8 ^ n := Nat.pos_of_ne_zero (by simp)
  have p8 : (2 : Nat) ^ (3 * n) = 8 ^ n := by rw [Nat.pow_mul]
  have hlt : u < 2 ^ (3 * n) := by rw [p8]; omega
  have e1 : uMul (.int 3) (.int (n : Int)) = some (.int (3 * (n : Int))) := by
    have hc : cMul 3 (n : Int) = true := by
      unfold cMul
      refine decide_eq_true ?_
      have a1 : (3 : Int).natAbs.log2 = 1 := by decide
      have a2 : ((n : Int).natAbs).log2 < 10 := small_log (by omega) (by decide)
      omega
    show (if cMul 3 (n : Int) = true then some (D.int (3 * (n : Int))) else none) = _
    rw [if_pos hc]
  obtain ⟨w, hw⟩ : ∃ w, 8 ^ n = w := ⟨_, rfl⟩
  obtain ⟨w7, hw7⟩ : ∃ w7, w - 1 = w7 := ⟨_, rfl⟩
  have e2 : uShl (.int 1) (.int (3 * (n : Int))) = some (.int (w : Int)) := by
    show (if decide (0 ≤ (3 * (n : Int)) ∧ (3 * (n : Int)) ≤ 1000000 ∧ (1 : Int).natAbs < 2 ^ 64) = true then some (D.int (1 * 2 ^ (3 * (n : Int)).toNat)) else none) = _
    have e0 : (3 * (n : Int)).toNat = 3 * n := by omega
    rw [if_pos (decide_eq_true ⟨by omega, by omega, by decide⟩), e0, Int.one_mul, ← hw, ← p8]
    simp
  have e3 : uSub (.int (w : Int)) (.int 1) = some (.int (w7 : Int)) := by
    show some (D.int ((w : Int) - 1)) = _
    congr 2
    omega
  have e4 : uDiv (.int (w7 : Int)) (.int 7) = some (.int (u : Int)) := by
    have hc : cDiv (w7 : Int) 7 = true := by
      unfold cDiv
      exact decide_eq_true ⟨by decide, by decide⟩
    show (if cDiv (w7 : Int) 7 = true then some (D.int ((w7 : Int) / 7)) else none) = _
    rw [if_pos hc, ← hu, hw, hw7]
    congr 2
  have mul : ∀ k : Nat, k ≤ 7 → uMul (.int (k : Int)) (.int (u : Int)) = some (.int ((k * u : Nat) : Int)) := fun k hk => by
    have hc : cMul (k : Int) (u : Int) = true := by
      unfold cMul
      refine decide_eq_true ?_
      have a1 : ((k : Int).natAbs).log2 < 3 := small_log (by omega) (by decide)
      have a2 : ((u : Int).natAbs).log2 < 3 * n := small_log (by simpa using hlt) (by omega)
      omega
    show (if cMul (k : Int) (u : Int) = true then some (D.int ((k : Int) * (u : Int))) else none) = _
    rw [if_pos hc]
    congr 2
  have m7 : uMul (.int 7) (.int (u : Int)) = some (.int ((vf n fun _ => 0 : Nat) : Int)) := by
    have := mul 7 (by decide)
    rw [show 7 * u = vf n fun _ => 0 by rw [← hu]; exact vf_units 0 n] at this
    exact this
  have m6 : uMul (.int 6) (.int (u : Int)) = some (.int ((vf n fun _ => 1 : Nat) : Int)) := by
    have := mul 6 (by decide)
    rw [show 6 * u = vf n fun _ => 1 by rw [← hu]; exact vf_units 1 n] at this
    exact this
  have m4 : uMul (.int 4) (.int (u : Int)) = some (.int ((vf n fun _ => 2 : Nat) : Int)) := by
    have := mul 4 (by decide)
    rw [show 4 * u = vf n fun _ => 2 by rw [← hu]; exact vf_units 2 n] at this
    exact this
  have s0 : ("0" : Str) = sT 0 := by decide +kernel
  have s1 : ("1" : Str) = sT 1 := by decide +kernel
  have s2 : ("n" : Str) = sT 2 := by decide +kernel
  have ak : ∀ x : Str, asKey (.str x) = some (.inr x) := fun _ => rfl
  have fin : mergeD [] [((.inr (sT 0) : Key), D.int (vf n (fun _ => 0) : Nat)), (.inr (sT 1), .int (vf n (fun _ => 1) : Nat)), (.inr (sT 2), .int (vf n (fun _ => 2) : Nat)), (.inr (sT 3), .int 0)] = mskD n := by
    unfold mskD mskE
    rw [vf_0]
    rfl
  simp [mMask, ev_name_v, e1, e2, e3, e4, m7, m6, m4, s0, s1, s2, ← sT3, ak, fin, O.d]
/-! least_behind -/
noncomputable def mLeastB : M Oc := (seq (mSet 3 (ret (.int 0))) (seq (mFor (stTup 2 (stCons (stName 4) (stCons (stName 5) stNil))) (mWk fZipS (mCons (mName 0) (mCons (mName 1) (ret [])))) (seq (mSet 3 (mBin uOr (mName 3) (mBin uAnd (mName 5) (mBin uIx (mName 2) (mName 4))))) (ret .nx))) (seq (mRet (mName 3)) (ret .nx))))
def LeastBS (F : FD) : Prop := ∀ (n : Nat) (h : Nat → Nat) (b : Nat → Nat → Nat) (c : C3), 1 ≤ n → n ≤ 600 → (∀ j, j < n → h j ≤ 3) → M3 n b → F [.str (rt n h), numsD n b, .dk (mskD n)] c = some (.int (vf n (prK h b n) : Nat), c)
theorem leastB_spec : LeastBS (runM false 6 3 mLeastB) := fun n h b c h1 h2 hh hb => by
  refine run_pure rfl ?_
  have ez : fZipS [.str (rt n h), numsD n b] = some ((List.range n).map fun k => D.tup [.str (sT (h k)), .int (vf n (b k) : Nat)]) := by
    have e1 : chD (rt n h) = (List.range n).map fun k => D.str (sT (h k)) := by
      unfold chD
      rw [rt_cps, List.map_map]
      rfl
    show (match some (chD (rt n h)), some ((List.range n).map fun k => D.int (vf n (b k) : Nat)) with
      | some xs, some ys => some (pairs xs ys)
      | _, _ => none) = _
    rw [e1]
    show some (pairs _ _) = _
    rw [pairs_map]
  simp [-List.map_map, mLeastB, ev_name_v, ez]
  obtain ⟨I, hI⟩ : ∃ I : List D → G → Prop, ∀ ds g, I ds g ↔ ∃ m z4 z5, m ≤ n ∧ ds = ((List.range n).drop m).map (fun k => D.tup [.str (sT (h k)), .int (vf n (b k) : Nat)]) ∧ g = ⟨[.v (.str (rt n h)), .v (numsD n b), .v (.dk (mskD n)), .v (.int (vf n (prK h b m) : Nat)), z4, z5], c⟩ := ⟨_, fun _ _ => Iff.rfl⟩
  refine ev_loop I (fun d r g hg => ?_) (fun g hg => ?_) _ _ ((hI _ _).mpr ⟨0, .un, .un, by omega, rfl, ?_⟩)
  · obtain ⟨m, z4, z5, hm, e1, rfl⟩ := (hI _ _).mp hg
    have lt : m < n := by
      have := congrArg List.length e1
      simp at this
      omega
    have ed : (List.range n).drop m = m :: (List.range n).drop (m + 1) := by
      rw [List.drop_eq_getElem_cons (by simpa using lt)]
      simp
    rw [ed, List.map_cons] at e1
    cases e1
    have est : vf n (prK h b m) ||| (vf n (b m) &&& vf n fun _ => h m) = vf n (prK h b (m + 1)) := by
      rw [vf_and n fun j hj => ⟨hb m j lt hj, hh m lt⟩, vf_or n fun j hj => ⟨prK_3 h b m j, by have := hb m j lt hj; have := hh m lt; omega⟩]
      exact vf_congr n fun j hj => (prK_succ h b m j).symm
    have eo : uOr (.int (vf n (prK h b m) : Nat)) (.int ((vf n (b m) &&& vf n fun _ => h m : Nat) : Int)) = some (.int (vf n (prK h b (m + 1)) : Nat)) := by
      show some (D.int (Builtin.bitOr _ _)) = _
      rw [bOr, est]
    have ea : uAnd (.int (vf n (b m) : Nat)) (.int (vf n (fun _ => h m) : Nat)) = some (.int ((vf n (b m) &&& vf n fun _ => h m : Nat) : Int)) := by
      show some (D.int (Builtin.bitAnd _ _)) = _
      rw [bAnd]
    refine ⟨_, rfl, ?_⟩
    simp [-List.map_map, ev_name_v, mask_get (hh m lt), ea, eo]
    exact (hI _ _).mpr ⟨m + 1, _, _, lt, by rw [List.map_drop], rfl⟩
  · obtain ⟨m, z4, z5, hm, e1, rfl⟩ := (hI _ _).mp hg
    have : m = n := by
      have := congrArg List.length e1
      simp at this
      omega
    subst this
    simp [-List.map_map, ev_name_v]
  · have : vf n (prK h b 0) = 0 := vf_0 n
    rw [this]
    rfl
end Zv
set_option Elab.async false
set_option linter.all false
set_option maxRecDepth 100000
set_option maxHeartbeats 4000000
set_option exponentiation.threshold 9000
/-! Zv: the defs over them. -/
namespace Zv
open PySem PySem.Spec L2 Mo Lw Pw Qw Rw Sw Tw Tx Uw Vw
noncomputable def mProd (Frownumber Fmasksfor Fwrittenrow Fleastbehind : FD) : M Oc := (seq (mSet 2 (frz (mLc [4] (mIter (mName 1)) (stName 4) (ret true) (mFn Frownumber (mCons (mName 4) (ret [])))))) (seq (mSet 3 (mFn Fmasksfor (mCons (mCall fLen (mCons (mName 1) (ret []))) (ret [])))) (seq (mRet (mCall fTuple (mCons (frz (mLc [4] (mIter (mName 0)) (stName 4) (ret true) (mFn Fwrittenrow (mCons (mFn Fleastbehind (mCons (mName 4) (mCons (mName 2) (mCons (mName 3) (ret []))))) (mCons (mCall fLen (mCons (mName 1) (ret []))) (ret [])))))) (ret [])))) (ret .nx))))
theorem prod_spec {Fn Fm Fw Fl : FD} (hn : NumS Fn) (hm : MaskS Fm) (hw : RowOfS Fw) (hl : LeastBS Fl) : ProdS (runM false 5 2 (mProd Fn Fm Fw Fl)) := fun n a b c h1 h2 ha hb => by
  refine run_pure rfl ?_
  have em := hm n c h1 h2
  simp [-List.map_map, mProd, ev_name_v, sL_sq, noOwn, plainSl]
  refine ev_lcPure (List.range n) (fun i => D.str (rt n (b i))) (fun _ => true) (fun i => .int (vf n (b i) : Nat)) (fun i m => ⟨_, rfl, ?_⟩) (by rw [List.length_range, sizeLine_eq]; omega) ?_
  · have := hn n (b i) c h1 h2 fun j hj => hb i j (List.mem_range.mp m) hj
    simp [-List.map_map, ev_name_v, this]
  · rw [filter_tt]
    have el : fLen [.tup ((List.range n).map fun i => D.str (rt n (b i)))] = some (.int (n : Int)) := by
      show some (D.int (((List.range n).map _).length : Int)) = _
      simp
    simp [-List.map_map, ev_name_v, sL_len, sq_len, sL_sq, em, noOwn, plainSl]
    refine ev_lcPure (List.range n) (fun i => D.str (rt n (a i))) (fun _ => true) (fun i => .str (rt n (pr n a b i))) (fun i m => ⟨_, rfl, ?_⟩) (by rw [List.length_range, sizeLine_eq]; omega) ?_
    · have e1 := hl n (a i) b c h1 h2 (fun j hj => ha i j (List.mem_range.mp m) hj) hb
      rw [pr_row] at e1
      have e3 := hw n (pr n a b i) c h1 h2 fun _ _ => pr_3
      have e2 : D.lst ((List.range n).map fun i => D.int (vf n (b i) : Nat)) = numsD n b := rfl
      simp [-List.map_map, ev_name_v, e2, e1, e3, el, sL_len, sq_len]
    · rw [filter_tt]
      simp [-List.map_map, fTuple]
      exact (sL_sq n _).symm
/-! repeats -/
theorem pr_dg {n : Nat} {a : Nat → Nat → Nat} (ha : M3 n a) {i j : Nat} (hi : i < n) (hj : j < n) : pr n a (dg a) i j = max (a i j) (dq a j) := by
  have h3 : max (a i j) (dq a j) ≤ 3 := Nat.max_le.mpr ⟨ha i j hi hj, dq_3 (ha j j hj hj)⟩
  have key : ∀ t, pr n a (dg a) i j ≤ t ↔ max (a i j) (dq a j) ≤ t := fun t => by
    unfold pr
    rw [foldl_le]
    constructor
    · rintro (h | ⟨k, mk, h⟩)
      · exact Nat.le_trans h3 h
      · by_cases e : k = j
        · subst e
          unfold dg at h
          rw [if_pos rfl] at h
          exact h
        · unfold dg at h
          rw [if_neg e] at h
          have : 3 ≤ t := Nat.le_trans (Nat.le_max_right _ _) h
          exact Nat.le_trans h3 this
    · intro h
      refine .inr ⟨j, List.mem_range.mpr hj, ?_⟩
      unfold dg
      rw [if_pos rfl]
      exact h
  exact Nat.le_antisymm ((key _).mpr (Nat.le_refl _)) ((key _).mp (Nat.le_refl _))
noncomputable def mRepN (Fmasksfor Frownumber Fwrittenrow Fleastbehind : FD) : M Oc := (seq (mSet 2 (mCall fLen (mCons (mName 0) (ret [])))) (seq (mSet 3 (mFn Fmasksfor (mCons (mName 2) (ret [])))) (seq (mSet 4 (mFn Frownumber (mCons (mMs1 fJoin (ret (.str "")) (frz (mLc [6, 7] (mWk fEnum (mCons (mName 0) (ret []))) (stTup 2 (stCons (stName 6) (stCons (stName 7) stNil))) (ret true) (mBin (fReplIx "1" "n") (mName 7) (mName 6))))) (ret [])))) (seq (mSet 5 (frz (mLc [6] (mIter (mName 1)) (stName 6) (ret true) (mFn Fwrittenrow (mCons (mBin uAnd (mName 6) (mName 4)) (mCons (mName 2) (ret []))))))) (seq (mRet (mCall fTuple (mCons (frz (mLc [7] (mIter (mName 5)) (stName 7) (ret true) (mFn Fwrittenrow (mCons (mFn Fleastbehind (mCons (mName 7) (mCons (mName 1) (mCons (mName 3) (ret []))))) (mCons (mName 2) (ret [])))))) (ret [])))) (ret .nx))))))
def RepNS (F : FD) : Prop := ∀ (n : Nat) (a : Nat → Nat → Nat) (c : C3), 1 ≤ n → n ≤ 24 → M3 n a → F [sqD n a, numsD n a] c = some (sqD n (rp n a), c)
theorem asStrs_sT (n : Nat) (d : Nat → Nat) : (seqD (.lst ((List.range n).map fun i => D.str (sT (d i))))).bind asStrs = some ((List.range n).map fun i => sT (d i)) := by
  have := asStrs_map ((List.range n).map fun i => sT (d i))
  rw [List.map_map] at this
  exact this
theorem sum1 : ∀ k : Nat, (List.replicate k 1).sum = k
  | 0 => rfl
  | k + 1 => by rw [List.replicate_succ, List.sum_cons, sum1 k, Nat.add_comm]
theorem join_sT {n : Nat} {d : Nat → Nat} (hn : n ≤ 600) (hd : ∀ j, j < n → d j ≤ 3) : fJoin (.str "") (.lst ((List.range n).map fun i => D.str (sT (d i)))) = some (.str (rt n d)) := by
  have l0 : ("" : Str).length = 0 := rfl
  have sm : (((List.range n).map fun i => sT (d i)).map fun s : Str => s.length).sum = n := by
    rw [List.map_map]
    have : (fun s : Str => s.length) ∘ (fun i => sT (d i)) = fun _ => 1 := rfl
    rw [this, List.map_const', List.length_range, sum1]
  show (match (seqD (.lst ((List.range n).map fun i => D.str (sT (d i))))).bind asStrs with
    | some ys => if (ys.map fun s : Str => s.length).sum + ys.length * ("" : Str).length ≤ 16777216 then some (D.str (Txt.join "" ys)) else none
    | none => none) = _
  rw [asStrs_sT]
  dsimp only
  rw [if_pos (by rw [sm, l0]; omega), rt_join n d hd]
theorem repN_spec {Fm Fn Fw Fl : FD} (hm : MaskS Fm) (hn : NumS Fn) (hw : RowOfS Fw) (hl : LeastBS Fl) : RepNS (runM false 8 2 (mRepN Fm Fn Fw Fl)) := fun n a c h1 h2 ha => by
  refine run_pure rfl ?_
  have el : fLen [.tup ((List.range n).map fun i => D.str (rt n (a i)))] = some (.int (n : Int)) := by
    show some (D.int (((List.range n).map _).length : Int)) = _
    simp
  have em := hm n c h1 (by omega)
  have en := enum_t ((List.range n).map fun i => D.str (rt n (a i)))
  rw [enum_map, ← sL_sq] at en
  have d3 : ∀ i, i < n → dq a i ≤ 3 := fun i hi => dq_3 (ha i i hi hi)
  have ej := join_sT (n := n) (d := dq a) (by omega) d3
  have er := hn n (dq a) c h1 (by omega) d3
  simp [-List.map_map, mRepN, ev_name_v, sL_len, sq_len, em, en, noOwn, plainSl]
  refine ev_lcPure (List.range n) (fun i : Nat => D.tup [.int (i : Int), .str (rt n (a i))]) (fun _ => true) (fun i => .str (sT (dq a i))) (fun i m => ⟨_, rfl, ?_⟩) (by rw [List.length_range, sizeLine_eq]; omega) ?_
  · have hi := List.mem_range.mp m
    have := replIx (n := n) (h := a i) (j := i) (by omega) hi (ha i i hi hi)
    simp [-List.map_map, ev_name_v, this]
    rfl
  · rw [filter_tt]
    simp [-List.map_map, -List.length_map, ev_name_v, ej, er, noOwn, plainSl, numsD]
    refine ev_lcPure (List.range n) (fun i : Nat => D.int (vf n (a i) : Nat)) (fun _ => true) (fun i => .str (rt n (pr n a (dg a) i))) (fun i m => ⟨_, rfl, ?_⟩) (by rw [List.length_range, sizeLine_eq]; omega) ?_
    · have hi := List.mem_range.mp m
      have ea : uAnd (.int (vf n (a i) : Nat)) (.int (vf n (dq a) : Nat)) = some (.int (vf n (pr n a (dg a) i) : Nat)) := by
        show some (D.int (Builtin.bitAnd _ _)) = _
        rw [bAnd, vf_and n fun j hj => ⟨ha i j hi hj, d3 j hj⟩, vf_congr n fun j hj => (pr_dg ha hi hj).symm]
      have e3 := hw n (pr n a (dg a) i) c h1 (by omega) fun _ _ => pr_3
      simp [-List.map_map, ev_name_v, ea, e3]
    · rw [filter_tt]
      simp [-List.map_map, -List.length_map, ev_name_v, noOwn, plainSl]
      refine ev_lcPure (List.range n) (fun i : Nat => D.str (rt n (pr n a (dg a) i))) (fun _ => true) (fun i => .str (rt n (rp n a i))) (fun i m => ⟨_, rfl, ?_⟩) (by rw [List.length_range, sizeLine_eq]; omega) ?_
      · have e1 := hl n (pr n a (dg a) i) a c h1 (by omega) (fun j hj => pr_3) ha
        have e2 : D.lst ((List.range n).map fun i => D.int (vf n (a i) : Nat)) = numsD n a := rfl
        have e4 : prK (pr n a (dg a) i) a n = rp n a i := rfl
        rw [e4] at e1
        have e3 := hw n (rp n a i) c h1 (by omega) fun _ _ => pr_3
        simp [-List.map_map, ev_name_v, e2, e1, e3]
      · rw [filter_tt]
        simp [-List.map_map, fTuple]
        exact (sL_sq n _).symm
noncomputable def mRep (Frepeatbynumbers Frownumber : FD) : M Oc := (seq (mRet (mFn Frepeatbynumbers (mCons (mName 0) (mCons (frz (mLc [1] (mIter (mName 0)) (stName 1) (ret true) (mFn Frownumber (mCons (mName 1) (ret []))))) (ret []))))) (ret .nx))
theorem rep_spec {Fr Fn : FD} (hr : RepNS Fr) (hn : NumS Fn) : RepS (runM false 2 1 (mRep Fr Fn)) := fun n a c h1 h2 ha => by
  refine run_pure rfl ?_
  have e1 := hr n a c h1 h2 ha
  simp [-List.map_map, mRep, ev_name_v, noOwn, plainSl]
  rw [sL_sq]
  refine ev_lcPure (List.range n) (fun i => D.str (rt n (a i))) (fun _ => true) (fun i => .int (vf n (a i) : Nat)) (fun i m => ⟨_, rfl, ?_⟩) (by rw [List.length_range, sizeLine_eq]; omega) ?_
  · have := hn n (a i) c h1 (by omega) fun j hj => ha i j (List.mem_range.mp m) hj
    simp [-List.map_map, ev_name_v, this]
  · rw [filter_tt]
    have e2 : D.lst ((List.range n).map fun i => D.int (vf n (a i) : Nat)) = numsD n a := rfl
    simp [-List.map_map, e2, e1]
end Zv
set_option Elab.async false
set_option linter.all false
set_option maxRecDepth 100000
set_option maxHeartbeats 4000000
set_option exponentiation.threshold 9000
/-! Zv: what is stable. -/
namespace Zv
open PySem PySem.Spec L2 Mo Lw Pw Qw Rw Sw Tw Tx Uw Vw
theorem fg_inj {a b : Nat} (ha : a ≤ 3) (hb : b ≤ 3) (h : fg a = fg b) : a = b := by
  rcases le3 ha with e | e | e | e <;> rcases le3 hb with q | q | q | q <;> subst e q <;> first | rfl | (exact absurd h (by decide))
theorem vf_inj {h k : Nat → Nat} : ∀ n, (∀ j, j < n → h j ≤ 3 ∧ k j ≤ 3) → vf n h = vf n k → ∀ j, j < n → h j = k j
  | 0, _, _, j, hj => absurd hj (Nat.not_lt_zero _)
  | n + 1, q, e, j, hj => by
    unfold vf at e
    have f1 := fg_lt (h n)
    have f2 := fg_lt (k n)
    have e1 : vf n h = vf n k := by omega
    have e2 : fg (h n) = fg (k n) := by omega
    by_cases z : j = n
    · subst z
      exact fg_inj (q j hj).1 (q j hj).2 e2
    · exact vf_inj n (fun i hi => q i (by omega)) e1 j (by omega)
noncomputable def mStN (Fleastbehind : FD) : M Oc := (seq (mFor (stTup 2 (stCons (stName 3) (stCons (stName 4) stNil))) (mWk fZip (mCons (mName 0) (mCons (mName 1) (ret [])))) (seq (mIf (mT2 (fEq true) (mFn Fleastbehind (mCons (mName 3) (mCons (mName 1) (mCons (mName 2) (ret []))))) (mName 4)) (seq (mRet (ret (.bl false))) (ret .nx)) (ret .nx)) (ret .nx))) (seq (mRet (ret (.bl true))) (ret .nx)))
def StNS (F : FD) : Prop := ∀ (n : Nat) (a : Nat → Nat → Nat) (c : C3), 1 ≤ n → n ≤ 24 → M3 n a → F [sqD n a, numsD n a, .dk (mskD n)] c = some (.bl (decide (sq n (pr n a a) = sq n a)), c)
theorem stN_spec {Fl : FD} (hl : LeastBS Fl) : StNS (runM false 5 3 (mStN Fl)) := fun n a c h1 h2 ha => by
  refine run_pure rfl ?_
  have ez : fZip [sqD n a, numsD n a] = some ((List.range n).map fun i => D.tup [.str (rt n (a i)), .int (vf n (a i) : Nat)]) := by
    have e1 : sqD n a = .tup ((List.range n).map fun i => D.str (rt n (a i))) := congrArg D.tup (sL_sq n a)
    rw [e1]
    show some (pairs _ _) = _
    rw [pairs_map]
  simp [-List.map_map, mStN, ev_name_v, ez]
  obtain ⟨I, hI⟩ : ∃ I : List D → G → Prop, ∀ ds g, I ds g ↔ ∃ m z3 z4, m ≤ n ∧ (∀ i, i < m → ∀ j, j < n → pr n a a i j = a i j) ∧ ds = ((List.range n).drop m).map (fun i => D.tup [.str (rt n (a i)), .int (vf n (a i) : Nat)]) ∧ g = ⟨[.v (sqD n a), .v (numsD n a), .v (.dk (mskD n)), z3, z4], c⟩ := ⟨_, fun _ _ => Iff.rfl⟩
  refine ev_loop I (fun d r g hg => ?_) (fun g hg => ?_) _ _ ((hI _ _).mpr ⟨0, .un, .un, by omega, fun i hi => absurd hi (Nat.not_lt_zero _), rfl, rfl⟩)
  · obtain ⟨m, z3, z4, hm, hq, e1, rfl⟩ := (hI _ _).mp hg
    have lt : m < n := by
      have := congrArg List.length e1
      simp at this
      omega
    have ed : (List.range n).drop m = m :: (List.range n).drop (m + 1) := by
      rw [List.drop_eq_getElem_cons (by simpa using lt)]
      simp
    rw [ed, List.map_cons] at e1
    cases e1
    have e2 := hl n (a m) a c h1 (by omega) (fun j hj => ha m j lt hj) ha
    rw [pr_row] at e2
    refine ⟨_, rfl, ?_⟩
    by_cases ev : vf n (pr n a a m) = vf n (a m)
    · simp [-List.map_map, ev_name_v, e2, ev]
      refine (hI _ _).mpr ⟨m + 1, _, _, lt, fun i hi j hj => ?_, by rw [List.map_drop], rfl⟩
      by_cases z : i = m
      · subst z
        exact vf_inj n (fun j hj => ⟨pr_3, ha i j lt hj⟩) ev j hj
      · exact hq i (by omega) j hj
    · have ni : ¬ ((vf n (pr n a a m) : Int) = (vf n (a m) : Int)) := fun z => ev (by omega)
      have nq : ¬ (sq n (pr n a a) = sq n a) := fun z => ev (vf_congr n fun j hj => sq_inj (pr_m3 (n := n) (a := a) (b := a)) ha z m j lt hj)
      simp [-List.map_map, ev_name_v, e2, nq]
      rw [if_neg ni]
      exact ⟨rfl, rfl⟩
  · obtain ⟨m, z3, z4, hm, hq, e1, rfl⟩ := (hI _ _).mp hg
    have : m = n := by
      have := congrArg List.length e1
      simp at this
      omega
    subst this
    have yq : sq m (pr m a a) = sq m a := sq_congr fun i j hi hj => hq i hi j hj
    simp [-List.map_map, ev_name_v, yq]
noncomputable def mSt (Fisstablebynumbers Frownumber Fmasksfor : FD) : M Oc := (seq (mRet (mFn Fisstablebynumbers (mCons (mName 0) (mCons (frz (mLc [1] (mIter (mName 0)) (stName 1) (ret true) (mFn Frownumber (mCons (mName 1) (ret []))))) (mCons (mFn Fmasksfor (mCons (mCall fLen (mCons (mName 0) (ret []))) (ret []))) (ret [])))))) (ret .nx))
theorem stable_spec {Fs Fn Fm : FD} (hs : StNS Fs) (hn : NumS Fn) (hm : MaskS Fm) : StableS (runM false 2 1 (mSt Fs Fn Fm)) := fun n a c h1 h2 ha => by
  refine run_pure rfl ?_
  have e1 := hs n a c h1 h2 ha
  have em := hm n c h1 (by omega)
  simp [-List.map_map, mSt, ev_name_v, noOwn, plainSl]
  rw [sL_sq]
  refine ev_lcPure (List.range n) (fun i => D.str (rt n (a i))) (fun _ => true) (fun i => .int (vf n (a i) : Nat)) (fun i m => ⟨_, rfl, ?_⟩) (by rw [List.length_range, sizeLine_eq]; omega) ?_
  · have := hn n (a i) c h1 (by omega) fun j hj => ha i j (List.mem_range.mp m) hj
    simp [-List.map_map, ev_name_v, this]
  · rw [filter_tt]
    have e2 : D.lst ((List.range n).map fun i => D.int (vf n (a i) : Nat)) = numsD n a := rfl
    simp [-List.map_map, ev_name_v, e2, sL_len, sq_len, em, e1]
end Zv
set_option Elab.async false
set_option linter.all false
set_option maxRecDepth 100000
set_option maxHeartbeats 4000000
set_option exponentiation.threshold 9000
/-! K426: the law's def, from its parts. -/
namespace K426
open PySem PySem.Spec L2 Mo Lw Pw Qw Rw Sw Tw Tx Uw Vw
theorem lawT (c : CA) : ∀ ns : List Int, ns.length ≤ 63 → ∃ c', F_law c [.lst (ns.map .int)] (.l []) = some (.bl true, c') := by
  have roll : RollS (F__law_roll c) := roll_spec
  have dice : DiceS (F__law_dice c) := dice_spec
  have pick : PickS (F__law_pick c) := pick_spec roll
  have pickX : PickX (F__law_pick c) := pickX_spec roll
  have sized : SizedS (F_is_sized c) := sized_spec
  have ofSigns : OfSignsT (F__is_of_signs c) := ofSigns_spec
  have isSq : IsSquareT (F_is_square c) := isSquare_spec sized ofSigns
  have qinit : QInitS c.Square (F_Square_init c) := qinit_spec isSq
  have qrows : QRowsS c.Square (F_Square_rows c) := qrows_spec
  have chkZ : ChkSizeS (F_check_size c) := chkSize_spec
  have num : NumS (F_row_number c) := Zv.num_spec
  have mask : MaskS (F_masks_for c) := Zv.mask_spec
  have writ : RowOfS (F_written_row c) := Zv.writ_spec
  have leastB : Zv.LeastBS (F_least_behind c) := Zv.leastB_spec
  have prod : ProdS (F_product_of c) := Zv.prod_spec num mask writ leastB
  have qeq : QEqS c.Square (F_Square_eq c) := qeq_spec
  have mul : MulS c.Square (F_Square_mul c) := mul_spec chkZ qinit prod
  have stN : Zv.StNS (F_is_stable_by_numbers c) := Zv.stN_spec leastB
  have stable : StableS (F_is_stable_square c) := Zv.stable_spec stN num mask
  have qst : QStS c.Square (F_Square_is_stable c) := qst_spec stable
  have repN : Zv.RepNS (F_repeat_by_numbers c) := Zv.repN_spec mask num writ leastB
  have rep : RepS (F_repeat_of c) := Zv.rep_spec repN num
  have qrep : QRepS c.Square (F_Square_repeated c) := qrep_spec qst qinit rep
  have qstr : QStrS c.Square (F_Square_str c) := qstr_spec
  have less : LessS (F__law_lesser c) := less_spec
  have grt : MoreS (F__law_greater c) := more_spec less
  have lprod : LProdS (F__law_product c) := lprod_spec less grt
  have lrep : LRepS (F__law_repeat c) := lrep_spec lprod
  have rank : RankS (F__ranks c) := rank_spec ofSigns
  have least : Vw.LeastS (F_least_sign c) := least_spec rank
  have noless : NoLessS c.Square (F__law_no_less c) := noless_spec qrows least
  have drawn : DrawSqS (F__law_drawn_square c) := drawSq_spec pick pickX
  have stab : StabS (F__law_stable_of c) := stab_spec lprod
  have repR : RepR (F__law_repeats_right c) := repR_spec ⟨qinit, qrep, qrows, lrep, qst, qeq, mul, noless⟩
  have right : Right26 (F__law_right c) := right26_spec roll drawn mul qinit qrows lprod qeq repR stab
  exact law26_spec dice right qstr qrep qinit
end K426
set_option Elab.async false
set_option linter.all false
set_option maxRecDepth 100000
set_option maxHeartbeats 0
open PySem PySem.W PySem.Calls PyProof.Rows
theorem PySem.Challenge.cw_lastprices_k26_whole_repeats_holds : PySem.Challenge.rw_lastprices_k26_whole_repeats.Holds := by
  w_on; o_law
  refine HandSHeadRun.head_any (r := OpenLaw.row PySem.Challenge.rw_lastprices_k26_whole_repeats) (q := view (PySem.W.OpenLaw.row PySem.Challenge.rw_lastprices_k26_whole_repeats).prog [46]) (H := Mh.hookA K426.hAs K426.hCs K426.hDs) (ob := Mh.obS K426.hAs K426.hCs K426.hDs) (M := 60000) (loose := K426.hNs) (d := HandSHeadRun.topDef (PySem.W.OpenLaw.row PySem.Challenge.rw_lastprices_k26_whole_repeats).prog 46) (kwd := []) Mh.obS_eq
    (by kernel_rfl) (fun s => by kernel_rfl) K426.hRun (by kernel_rfl) (by kernel_rfl) (by kernel_rfl) (by rfl) (by first | assumption | decide +kernel) (by decide +kernel) ⟨rfl, rfl, rfl, rfl, rfl, by decide +kernel⟩ ?hw ?hc
  case hw => w_witness2
  case hc =>
    refine Mh.walkH (l := PySem.Challenge.rw_lastprices_k26_whole_repeats) (n := 63) (k := 9) (x := "_law_script") (cs := K426.hCs) (ds := K426.hDs) (fun _ _ h => h) rfl (by decide) (by kernel_rfl) ⟨rfl, by decide, by decide⟩ ?F
    intro w mg fa h K KX c G hmg0
    have hmg : mg ("law" : PySem.Str) = some (.ref fa) := by
      have e : (HandSHeadRun.topDef (PySem.W.OpenLaw.row PySem.Challenge.rw_lastprices_k26_whole_repeats).prog 46).name = ("law" : PySem.Str) := by kernel_rfl
      rw [← e]
      exact hmg0
    have e := hmg.symm.trans (K426.facts KX G c w).m_law
    have e2 : fa = (K426.facts KX G c w).f_law := by cases e; rfl
    subst e2
    exact ⟨_, Mo.spLaw K, Mh.bindsLaw (K426.facts KX G c w).F_law fun _ _ _ _ _ _ _ => rfl, fun J a ns hl _ hS => ⟨a, ns, rfl, hS, hl, fun _ => rfl⟩, fun b0 X0 G0 => Mo.law_end (K426.ok_law (K426.facts KX G c w)) (K426.lawT _)⟩
