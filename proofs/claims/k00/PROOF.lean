import PyProof.Rows.All
import Wide.All
import OpenK.AllK
import Wide.FinOn
import HandS.ForMost
import HandS.Exc
import HandS.ExcInit
import HandS.Defaults
import KE.KExcIs
import HandS.WordsExc
import HandS.ExcOwn
import HandS.ExcValue
import HandS.ExcField
import HandS.HeadHook1
import HandS.MakeKwOnly
import HandS.ExcIs
import HandS.IsInst
import HandS.Lambda
import KE.KStateDown
import KE.KNestM
import HandS.EndTab
import HandS.Head0
import HandS.Head1
import HandS.Head2
import HandS.HeadEnd
import HandS.HeadHook2
import PySem.Challenge.RW_meettasks_k00_errors_made
import HandS.Comp
import HandS.DeepEq
import HandS.Wide
import HandS.Codes
import PyProof.ReprRoads
import PyProof.RowDictHeap
import HandS.Walk
import HandS.TryOnly
import HandS.EndBits
import HandS.HeadWalk
set_option Elab.async false
set_option linter.all false
set_option maxRecDepth 100000
set_option maxHeartbeats 0
namespace K00
open PySem PySem.Spec PyProof.Rows L2
abbrev pw : Program := PySem.Challenge.pw_meettasks_k00_errors_made
abbrev tp (i : Nat) : Stmt := pw.main.body.getD i (.Pass ⟨0, 0, 0, 0⟩)

/-- the error classes in the order of the law, each with its fields and its place in the text -/
def ec0 : List (Str × List Str × Nat) := [("BadValues", ["index"], 2), ("BadStart", ["thing"], 3), ("BadDeeds", ["name"], 4), ("BadEntries", ["name"], 5), ("BadThings", ["name"], 6), ("BadBody", ["task", "path"], 7), ("NoTask", ["task"], 8), ("NoPath", ["path"], 9), ("NoThing", ["thing"], 10), ("BadOrder", ["index"], 11), ("NoStand", ["number"], 12), ("BadSpots", ["thing"], 13)]
def ec1 : List (Str × List Str × Nat) := [("Endless", ["order"], 14), ("BadEvents", ["thing"], 15), ("NoDeed", ["thing"], 16), ("BadStretch", ["thing"], 17), ("BadKind", ["kind"], 18), ("BadMany", ["thing"], 19), ("NotClosing", ["task"], 20), ("BadTasks", ["index"], 21), ("BadOffers", ["index"], 22), ("BadSentence", ["name"], 23), ("BadTruth", ["thing"], 24), ("BadMarks", ["index"], 25)]
def ec2 : List (Str × List Str × Nat) := [("NoEntryName", ["entry"], 26), ("BadNames", ["index"], 27), ("BadNumber", ["number"], 28), ("BadCalls", ["index"], 29), ("BadServers", ["task", "path"], 31), ("BadLike", ["path"], 32), ("BadWanted", ["thing"], 33), ("NoSpot", ["thing"], 34), ("BadStep", ["index"], 35), ("Restless", ["task", "path"], 36), ("BadRow", ["index"], 37), ("BadLot", ["thing"], 38)]
def ec3 : List (Str × List Str × Nat) := [("BadStates", ["index"], 39), ("BadMachine", ["thing"], 41), ("NoEntry", ["owner", "entry"], 42), ("BadJobs", ["job"], 43), ("NoJob", ["job"], 44), ("BadComings", ["job"], 45), ("BadCeiling", ["ceiling"], 46), ("BadEnds", ["job"], 47), ("BadTimed", ["task", "path"], 48), ("BadFates", ["thing"], 49), ("NoNote", ["word"], 50), ("NoComing", ["pair"], 51)]
def ec4 : List (Str × List Str × Nat) := [("BadCourse", ["thing"], 52), ("BadCode", ["task", "number"], 53), ("Silent", ["task", "spot"], 54), ("BadCuts", ["index"], 55), ("NoRow", ["number"], 56), ("BadLog", ["index"], 57), ("BadGap", ["number"], 58), ("BadEvent", ["event"], 59), ("BadApart", ["task"], 60), ("BadLine", ["thing"], 61), ("BadKinds", ["index"], 62), ("BadText", ["index"], 63)]
def ec5 : List (Str × List Str × Nat) := [("BadOpen", ["index"], 64), ("BadFilling", ["task"], 65), ("BadAsk", ["thing"], 66), ("BadName", ["name"], 67), ("BadThing", ["thing"], 68), ("Lacks", ["name"], 69), ("NotOf", ["name"], 70), ("NoName", ["name"], 71), ("Needed", ["name", "by"], 72), ("UnlikeNames", [], 30), ("UnlikeEntries", [], 40), ("Nothing", [], 73)]
def ecs : List (Str × List Str × Nat) := ec0 ++ ec1 ++ ec2 ++ ec3 ++ ec4 ++ ec5
def lo0 : List Str := ["TaskError", "BadValues", "BadStart", "BadDeeds", "BadEntries", "BadThings", "BadBody", "NoTask", "NoPath", "NoThing", "BadOrder", "NoStand", "BadSpots", "Endless", "BadEvents", "NoDeed", "BadStretch", "BadKind", "BadMany", "NotClosing", "BadTasks", "BadOffers", "BadSentence", "BadTruth", "BadMarks", "NoEntryName", "BadNames", "BadNumber", "BadCalls", "UnlikeNames"]
def lo1 : List Str := ["BadServers", "BadLike", "BadWanted", "NoSpot", "BadStep", "Restless", "BadRow", "BadLot", "BadStates", "UnlikeEntries", "BadMachine", "NoEntry", "BadJobs", "NoJob", "BadComings", "BadCeiling", "BadEnds", "BadTimed", "BadFates", "NoNote", "NoComing", "BadCourse", "BadCode", "Silent", "BadCuts", "NoRow", "BadLog", "BadGap", "BadEvent", "BadApart"]
def lo2 : List Str := ["BadLine", "BadKinds", "BadText", "BadOpen", "BadFilling", "BadAsk", "BadName", "BadThing", "Lacks", "NotOf", "NoName", "Needed", "Nothing", "_law_pool", "_law_take", "_law_mixed", "_law_made_a", "_law_made_b", "_law_made_c", "_law_kinds_a", "_law_kinds_b", "_law_kinds_c", "_law_is_own", "_law_same"]
def loose : List Str := lo0 ++ lo1 ++ lo2

/-! ### what the module's names lead to, off the heap g -/
abbrev G : Type := Addr → Option Obj
def nmG (g : G) (x : Str) : Addr := match g mainGlobals with
  | some o => (match PySem.W.lookIn x o with
    | some (some (.ref a)) => a
    | _ => 0)
  | none => 0
def nsG (g : G) (C : Addr) : Addr := match g C with
  | some ⟨_, _, .cls cd, _⟩ => cd.ns
  | _ => 0
def iniG (g : G) (C : Addr) : Addr := match g (nsG g C) with
  | some o => (match PySem.W.lookIn "__init__" o with
    | some (some (.ref a)) => a
    | _ => 0)
  | none => 0
def cdG (g : G) (f : Addr) : Addr := match g f with
  | some ⟨_, _, .func fd, _⟩ => (match fd.code with
    | .ref c => c
    | _ => 0)
  | _ => 0
def tbG (g : G) (f : Addr) : Addr := match g (cdG g f) with
  | some ⟨_, _, .fields vs, _⟩ => (match vs.getD 11 .none with
    | .ref p => p
    | _ => 0)
  | _ => 0
def veTl : List Value := [.type "ValueError", .type "Exception", .type "BaseException", .type "object"]
def nsNo (g : G) (N : Addr) (n : Str) : Bool := match g N with
  | some ⟨_, _, .dict es k, sl⟩ => He.eqO (PySem.W.lookIn n ⟨.none, none, .dict es k, sl⟩) (some none)
  | _ => false
def baseNames : List Str := ["__setattr__", "__getattribute__", "__getattr__", "__class__"]
/-- the class object at C says: called x, its line of bases, its own names -/
def clsG (g : G) (x : Str) (C : Addr) (line : List Value) (no : List Str) : Bool := match g C with
  | some ⟨.type "type", _, .cls cd, sl⟩ => (match sl.toList with
    | [_, _, _, _, some (.builtin n), _] => n == "ValueError.__new__" && (!cd.hasDel && (cd.hasDict && (decide (cd.name = x) && (decide (cd.mro = line) && no.all fun n => nsNo g cd.ns n))))
    | _ => false)
  | _ => false
def fldNames : List Str := ["index", "thing", "name", "task", "path", "number", "order", "kind", "entry", "owner", "job", "ceiling", "word", "pair", "spot", "event", "by"]
def oneG (g : G) (c : Str × List Str × Nat) : Bool := clsG g c.1 (nmG g c.1) (.ref (nmG g c.1) :: .ref (nmG g "TaskError") :: veTl) (c.2.1 ++ baseNames)
def baseG (g : G) : Bool := clsG g "TaskError" (nmG g "TaskError") (.ref (nmG g "TaskError") :: veTl) ("__init__" :: (fldNames ++ baseNames))
abbrev FnW : Type := Option (Str × Str × Arguments × FuncBody × Scope × Addr × List (Str × Addr) × Addr)
def fnWG (g : G) (f : Addr) : FnW := match g f with
  | some ⟨_, _, .func fd, _⟩ => some (fd.name, fd.qualname, fd.params, fd.body, fd.scope, fd.globals, fd.closure, fd.builtins)
  | _ => none
/-- its code object is named q, it has no defaults -/
def fnOkG (g : G) (f : Addr) (q : Str) : Bool := match g f with
  | some ⟨_, _, .func fd, _⟩ => (match fd.defaults with
    | .none => true
    | _ => false) && (match fd.code with
    | .ref c => (match g c with
      | some ⟨_, _, .fields vs, _⟩ => (match vs.toList with
        | _ :: .str n _ :: _ => decide (n = q)
        | _ => false)
      | _ => false)
    | _ => false)
  | _ => false
structure Dd where
  name : Str
  qual : Str
  st : Stmt
def Dd.val (d : Dd) : FnW := some (d.name, d.qual, defArgs d.st, .stmts (defBody d.st), defScope d.st, mainGlobals, [], builtinsNs)
def dIni (c : Str × List Str × Nat) : Dd := ⟨"__init__", ⟨c.1.cps ++ (".__init__" : Str).cps⟩, inClass (tp c.2.2) 0⟩
def dFn (p : Str × Nat) : Dd := ⟨p.1, p.1, tp p.2⟩

def fnN : List (Str × Nat) := [("_law_pool", 75), ("_law_take", 76), ("_law_mixed", 77), ("_law_made_a", 78), ("_law_made_b", 79), ("_law_made_c", 80), ("_law_kinds_a", 81), ("_law_kinds_b", 82), ("_law_kinds_c", 83), ("_law_is_own", 84), ("_law_same", 85), ("law", 86)]
def mks : List Str := ["_law_made_a", "_law_made_b", "_law_made_c"]
def frees : List Str := ["isinstance", "repr", "enumerate", "range", "len", "list", "sum", "int", "abs", "ValueError", "LookupError"]
def withIni : List (Str × List Str × Nat) := ecs.filter fun c => !c.2.1.isEmpty
def noIni : List (Str × List Str × Nat) := ecs.filter fun c => c.2.1.isEmpty
def emptyTab : Option Obj → Bool
  | some ⟨.none, none, .fields a, sl⟩ => a.size == 0 && sl.size == 0
  | _ => false
def adrs (g : G) : List Addr := mainGlobals :: nmG g "TaskError" :: nsG g (nmG g "TaskError") ::
  ((ecs.flatMap fun c => [nmG g c.1, nsG g (nmG g c.1), iniG g (nmG g c.1), cdG g (iniG g (nmG g c.1))]) ++ fnN.flatMap fun p => [nmG g p.1, cdG g (nmG g p.1)])
def freeG (g : G) (x : Str) : Bool := nsNo g mainGlobals x
def tabG (g : G) (f : Addr) : Bool := (match g (cdG g f) with
  | some ⟨.type "code", _, .fields vs, _⟩ => (match (vs[11]? : Option Value) with | some (.ref P') => P' == tbG g f | _ => false) &&
      (match vs.getD 18 .none with | .str _ _ => true | _ => false) && (match vs.getD 7 .none with | .int _ _ => true | _ => false) &&
      (match vs.getD 9 .none with | .bool _ => true | _ => false) && (match vs.getD 10 .none with | .int _ _ => true | _ => false) && cdG g f != tbG g f
  | _ => false) && (emptyTab (g (tbG g f)) && !(adrs g).contains (tbG g f))
/-! ### the facts, in four looks -/
def lookA (g : G) : Bool := (ecs.take 36).all fun c => oneG g c
def nsOkG (g : G) (N : Addr) : Bool := match g N with
  | some ⟨_, _, .dict es _, _⟩ => es.all fun e => match e.key with | .str _ _ => true | _ => false
  | _ => false
def lookB (g : G) : Bool := ((ecs.drop 36).all fun c => oneG g c) && (baseG g && ((frees.all fun x => freeG g x) && (nsOkG g (nsG g (nmG g "TaskError")) && noIni.all fun c => nsOkG g (nsG g (nmG g c.1)) && nsNo g (nsG g (nmG g c.1)) "__init__")))
/-- the names that the module has of classes and functions -/
def glG (g : G) (x : Str) : Bool := match g mainGlobals with
  | some ⟨_, _, .dict es k, sl⟩ => He.eqO (PySem.W.lookIn x ⟨.none, none, .dict es k, sl⟩) (some (some (.ref (nmG g x))))
  | _ => false
def lookE (g : G) : Bool := (ecs.all fun c => glG g c.1) && (glG g "TaskError" && (fnN.all fun p => glG g p.1))
def lookC (g : G) : Bool × List FnW := ((fnN.all fun p => fnOkG g (nmG g p.1) p.1) && (mks.all fun x => tabG g (nmG g x)), fnN.map fun p => fnWG g (nmG g p.1))
def lookD (g : G) : Bool × List FnW := (withIni.all fun c => fnOkG g (iniG g (nmG g c.1)) (dIni c).qual, withIni.map fun c => fnWG g (iniG g (nmG g c.1)))
abbrev R : PySem.W.OpenRow := PySem.W.OpenLaw.row PySem.Challenge.rw_meettasks_k00_errors_made
abbrev q86 : Program := PySem.W.view R.prog [86]
noncomputable abbrev endS (w : World) (os : OsState) : Option PySem.W.SharedT := HandSHeadRun.endF (HandSHeadRun.stepQ (HandSHeadRun.denQ HandSHeadRun.tabQ) R.prog w) 20000 R.prog w os

end K00
set_option Elab.async false
set_option linter.all false
set_option maxRecDepth 100000
set_option maxHeartbeats 0
namespace K00
open PySem PySem.Spec PyProof.Rows L2
theorem run1 (w : World) : ∀ os : OsState, (endS w os).map (fun s => HandSHeadRun.looksF R.prog (PySem.W.boot_heap w.params) s.abs) = some true := by
  intro os
  kernel_rfl
end K00
set_option Elab.async false
set_option linter.all false
set_option maxRecDepth 100000
set_option maxHeartbeats 0
namespace K00
open PySem PySem.Spec PyProof.Rows L2
theorem run2 (w : World) : ∀ os : OsState, (endS w os).map (fun s => HandSHeadRun.seenQ q86 loose (importedModules R.prog.main.body) (fun s => PySem.W.xlAt q86 [] s && PySem.W.recOk R.toRowW.records s) s.abs) = some (PySem.W.openGood q86 loose) := by
  intro os
  kernel_rfl
end K00
set_option Elab.async false
set_option linter.all false
set_option maxRecDepth 100000
set_option maxHeartbeats 0
namespace K00
open PySem PySem.Spec PyProof.Rows L2
theorem runA (w : World) : ∀ os : OsState, (endS w os).map (fun s => lookA (HandSHeadRun.getT s)) = some (true) := by
  intro os
  kernel_rfl
end K00
set_option Elab.async false
set_option linter.all false
set_option maxRecDepth 100000
set_option maxHeartbeats 0
namespace K00
open PySem PySem.Spec PyProof.Rows L2
theorem runB (w : World) : ∀ os : OsState, (endS w os).map (fun s => lookB (HandSHeadRun.getT s)) = some (true) := by
  intro os
  kernel_rfl
end K00
set_option Elab.async false
set_option linter.all false
set_option maxRecDepth 100000
set_option maxHeartbeats 0
namespace K00
open PySem PySem.Spec PyProof.Rows L2
theorem runC (w : World) : ∀ os : OsState, (endS w os).map (fun s => lookC (HandSHeadRun.getT s)) = some ((true, fnN.map fun p => (dFn p).val)) := by
  intro os
  kernel_rfl
end K00
set_option Elab.async false
set_option linter.all false
set_option maxRecDepth 100000
set_option maxHeartbeats 0
namespace K00
open PySem PySem.Spec PyProof.Rows L2
def lookD1 (g : G) : Bool × List FnW := ((withIni.take 35).all fun c => fnOkG g (iniG g (nmG g c.1)) (dIni c).qual, (withIni.take 35).map fun c => fnWG g (iniG g (nmG g c.1)))
theorem runD1 (w : World) : ∀ os : OsState, (endS w os).map (fun s => lookD1 (HandSHeadRun.getT s)) = some ((true, (withIni.take 35).map fun c => (dIni c).val)) := by
  intro os
  kernel_rfl
end K00
set_option Elab.async false
set_option linter.all false
set_option maxRecDepth 100000
set_option maxHeartbeats 0
namespace K00
open PySem PySem.Spec PyProof.Rows L2
def lookD2 (g : G) : Bool × List FnW := ((withIni.drop 35).all fun c => fnOkG g (iniG g (nmG g c.1)) (dIni c).qual, (withIni.drop 35).map fun c => fnWG g (iniG g (nmG g c.1)))
theorem runD2 (w : World) : ∀ os : OsState, (endS w os).map (fun s => lookD2 (HandSHeadRun.getT s)) = some ((true, (withIni.drop 35).map fun c => (dIni c).val)) := by
  intro os
  kernel_rfl
end K00
set_option Elab.async false
set_option linter.all false
set_option maxRecDepth 100000
set_option maxHeartbeats 0
namespace K00
open PySem PySem.Spec PyProof.Rows L2
theorem lookD_of {g : G} (h1 : lookD1 g = (true, (withIni.take 35).map fun c => (dIni c).val)) (h2 : lookD2 g = (true, (withIni.drop 35).map fun c => (dIni c).val)) : lookD g = (true, withIni.map fun c => (dIni c).val) := by
  have a1 : ((withIni.take 35).all fun c => fnOkG g (iniG g (nmG g c.1)) (dIni c).qual) = true := congrArg Prod.fst h1
  have a2 : ((withIni.drop 35).all fun c => fnOkG g (iniG g (nmG g c.1)) (dIni c).qual) = true := congrArg Prod.fst h2
  have b1 : ((withIni.take 35).map fun c => fnWG g (iniG g (nmG g c.1))) = (withIni.take 35).map fun c => (dIni c).val := congrArg Prod.snd h1
  have b2 : ((withIni.drop 35).map fun c => fnWG g (iniG g (nmG g c.1))) = (withIni.drop 35).map fun c => (dIni c).val := congrArg Prod.snd h2
  have e : withIni = withIni.take 35 ++ withIni.drop 35 := (List.take_append_drop 35 withIni).symm
  unfold lookD
  refine Prod.ext ?_ ?_
  · show (withIni.all fun c => fnOkG g (iniG g (nmG g c.1)) (dIni c).qual) = true
    rw [e, List.all_append, a1, a2]
    rfl
  · show (withIni.map fun c => fnWG g (iniG g (nmG g c.1))) = withIni.map fun c => (dIni c).val
    rw [e, List.map_append, List.map_append, b1, b2]
theorem runD (w : World) : ∀ os : OsState, (endS w os).map (fun s => lookD (HandSHeadRun.getT s)) = some ((true, withIni.map fun c => (dIni c).val)) := by
  intro os
  have h1 := runD1 w os
  have h2 := runD2 w os
  cases q : endS w os with
  | none =>
    rw [q] at h1
    cases h1
  | some s =>
    rw [q, Option.map_some] at h1 h2
    rw [Option.map_some, lookD_of (Option.some.inj h1) (Option.some.inj h2)]
end K00
set_option Elab.async false
set_option linter.all false
set_option maxRecDepth 100000
set_option maxHeartbeats 0
namespace K00
open PySem PySem.Spec PyProof.Rows L2
theorem runE (w : World) : ∀ os : OsState, (endS w os).map (fun s => lookE (HandSHeadRun.getT s)) = some (true) := by
  intro os
  kernel_rfl
end K00
set_option Elab.async false
set_option linter.all false
set_option maxRecDepth 100000
set_option maxHeartbeats 0
namespace K00
open PySem PySem.Spec PyProof.Rows L2
def lookF (g : G) : Bool := (match g sysModules with
  | some ⟨.type "dict", _, .dict _ _, _⟩ => true
  | _ => false) && !(adrs g).contains sysModules
theorem runF (w : World) : ∀ os : OsState, (endS w os).map (fun s => lookF (HandSHeadRun.getT s)) = some (true) := by
  intro os
  kernel_rfl
end K00
set_option Elab.async false
set_option linter.all false
set_option maxRecDepth 100000
set_option maxHeartbeats 0
namespace K00
open PySem PySem.Spec PyProof.Rows L2
def iniOk (g : G) (C : Addr) : Bool := (match g (nsG g C) with
  | some ⟨_, _, .dict es k, sl⟩ => He.eqO (PySem.W.lookIn "__init__" ⟨.none, none, .dict es k, sl⟩) (some (some (.ref (iniG g C))))
  | _ => false) && match g (iniG g C) with
  | some ⟨.type "function", _, .func _, _⟩ => true
  | _ => false
def lookG (g : G) : Bool := withIni.all fun c => iniOk g (nmG g c.1)
theorem runG (w : World) : ∀ os : OsState, (endS w os).map (fun s => lookG (HandSHeadRun.getT s)) = some (true) := by
  intro os
  kernel_rfl
end K00
set_option Elab.async false
set_option linter.all false
set_option maxRecDepth 100000
set_option maxHeartbeats 0
namespace K00
open PySem PySem.Spec PyProof.Rows L2
def lookH (g : G) : Bool := tbG g (nmG g "_law_made_a") != tbG g (nmG g "_law_made_b") && (tbG g (nmG g "_law_made_a") != tbG g (nmG g "_law_made_c") && tbG g (nmG g "_law_made_b") != tbG g (nmG g "_law_made_c"))
theorem runH (w : World) : ∀ os : OsState, (endS w os).map (fun s => lookH (HandSHeadRun.getT s)) = some (true) := by
  intro os
  kernel_rfl
end K00
set_option Elab.async false
set_option linter.all false
set_option maxRecDepth 100000
set_option maxHeartbeats 4000000
namespace K00
open PySem PySem.HandSPX PySem.Builtin PySem.Builtin.ObjectAttr
section
variable {prog : Program} {w : World} {A : Around} {R : Result → Shared → Prop} {h : Heap} {g : Array GenState} {d : Drawn} {t : Nat} {os : OsState}
variable {nm q : Str} {C N : Addr} {bs bm bmB : List Value} {hdct : Bool} {sn : List Str} {sub : List Value} {ab : Bool} {col : Option Bool} {dd : Option Addr} {k0 k1 k2 k3 k5 : Option Value} {B newId initId : String}
theorem kw_check {M : Model} {E : Value → Shared → Prop} (F : ExcBaseFacts B newId initId bmB) (hT : ∀ T : String, bm.contains (.type T) = bmB.contains (.type T)) {us : List Value} {kw : List (Str × Value)} {Q : Unit → Shared → Prop}
    (hC : h.get? C = some (excClassObj nm q C N bs bm hdct sn sub ab col dd k0 k1 k2 k3 k5 newId)) (z : Q () ⟨h, g, d, t, os⟩) :
    wpAny M A (checkBuiltinCall newId ⟨.ref C :: us, kw⟩) Q E ⟨h, g, d, t, os⟩ := by
  have hb : (Value.ref C :: bm).contains (.type B) = true := by
    rw [List.contains_cons, hT, F.hasB, Bool.or_true]
  have hs := F.noStar
  simp only [checkBuiltinCall, F.newKind, F.newSplit, F.newRow]
  repeat (first
    | refine wpAny_loadPart_at hC ?_
    | (refine wpAny_isSubtype_exc hC ?_; rw [hb])
    | refine wpAny_staticBase_exc hC ?_
    | refine wpAny_madeBy_exc hC ?_
    | simp only [bne_self_eq_false, Bool.false_eq_true, if_false]
    | wp_step)
  exact z
theorem kw_new (F : ExcBaseFacts B newId initId bmB) (hT : ∀ T : String, bm.contains (.type T) = bmB.contains (.type T)) {us : List Value} {kw : List (Str × Value)}
    (hC : h.get? C = some (excClassObj nm q C N bs bm hdct sn sub ab col dd k0 k1 k2 k3 k5 newId))
    (z : R (.ok (.ret (.ref (h.objs.size + 1)))) ⟨(h.push { cls := .type "tuple", data := .seq us.toArray }).push (excO C h.objs.size), g, d, t, os⟩) (hl : us.length ≤ sizeLine) :
    codeAny (model prog w) A (.builtin newId ⟨.ref C :: us, kw⟩) R ⟨h, g, d, t, os⟩ := by
  have he := F.ends
  have h1 : (Value.ref C :: bm).contains (.type B) = true := by
    rw [List.contains_cons, hT, F.hasB, Bool.or_true]
  have h2 : (Value.ref C :: bm).contains (.type "AttributeError") = false := by
    rw [List.contains_cons, hT, F.noAttr] <;> rfl
  have h3 : (Value.ref C :: bm).contains (.type "NameError") = false := by
    rw [List.contains_cons, hT, F.noName] <;> rfl
  refine codeAny_builtinAt F.entry ?_
  unfold Builtin.«BaseException.__new__»
  refine PySem.wpAt_bind ?_
  show wpAt _ _ _ (stack >>= _) _ _ _
  refine PySem.wpAt_bind (wpAt_stack fun p below => wpAt_of_wpAny ?_)
  wp_walk
  refine wpAt_of_wpAny ?_
  rw [F.owner]
  repeat (first
    | with_reducible refine wpAny_madeHere_exc F.canon hC ?_
    | with_reducible refine wpAny_loadPart_at hC ?_
    | (with_reducible refine wpAny_isSubtype_exc hC ?_; first | rw [h1] | rw [h2] | rw [h3])
    | wp_step)
  show R _ _
  rw [Heap.size_push]
  exact z
theorem kw_made (F : ExcBaseFacts B newId initId bmB) (hT : ∀ T : String, bm.contains (.type T) = bmB.contains (.type T)) {us : List Value} {kw : List (Str × Value)} {fI : Addr} {E : Value → Shared → Prop} {Q : Fin → Shared → Prop}
    (hC : h.get? C = some (excClassObj nm q C N bs bm hdct sn sub ab col dd k0 k1 k2 k3 k5 newId))
    (hi : W.Looks (model prog w) h (typeLookup (.ref C) "__init__") (some (.ref fI))) (hb : ∀ me, W.Looks (model prog w) h (bindSpecial (.ref fI) me) (.ref fI, [me])) (hl : us.length ≤ sizeLine)
    (z : codeAny (model prog w) A (.call (.ref fI) ⟨.ref (h.objs.size + 1) :: us, kw⟩)
      (fun r s' => match r with
        | .ok (.ret v) => v = .none ∧ Q (.done (.ret (.ref (h.objs.size + 1)))) s'
        | .ok _ => False
        | .error e => E e s')
      ⟨(h.push (W.kdv_tup us)).push (excO C h.objs.size), g, d, t, os⟩) :
    wpAny (model prog w) A (Builtin.«type.__call__» ⟨.ref C :: us, kw⟩) Q E ⟨h, g, d, t, os⟩ := by
  repeat (first
    | with_reducible refine wpAny_loadPart_at hC ?_
    | with_reducible refine wpAny_madeBy_exc hC ?_
    | wp_step)
  refine codeAny_call_builtin_code (Code.quiet_builtin _ F.quiet) (kw_check F hT hC ?_)
  refine kw_new F hT hC ?_ hl
  show wpAny _ _ _ _ _ _
  have k : ∀ b o, h.get? b = some o → ((h.push (W.kdv_tup us)).push (excO C h.objs.size)).get? b = some o := fun b o e => Heap.get?_push_of_some _ (Heap.get?_push_of_some _ e)
  have hC1 := k _ _ hC
  have hg : ((h.push (W.kdv_tup us)).push (excO C h.objs.size)).get? (h.objs.size + 1) = some (excO C h.objs.size) := by heap_get
  have hc : (Value.ref C :: bm).contains (.ref C) = true := by simp
  have i1 := hi.keeps k
  have b1 := (hb (.ref (h.objs.size + 1))).keeps k
  unfold isInstance
  repeat (first
    | with_reducible refine wpAny_loadPart_at hg ?_
    | (with_reducible refine wpAny_isSubtype_exc hC1 ?_; rw [hc])
    | wp_step)
  show wpAny _ _ (typeLookup (.ref C) _) _ _ _
  refine i1.at ?_
  refine wpAny_holding (wpAny_bind (b1.at ?_))
  refine wpAny_bind (wpAny_call (codeAny_mono z fun r s' y => ?_))
  rcases r with e | (v | _ | _ | _) <;> first | exact y | exact y.elim | skip
  obtain ⟨rfl, y⟩ := y
  first
    | exact wpAny_pure (wpAny_pure y)
    | (wp_walk; exact y)
theorem kw_call (F : ExcBaseFacts B newId initId bmB) (hT : ∀ T : String, bm.contains (.type T) = bmB.contains (.type T)) {us : List Value} {kw : List (Str × Value)} {fI : Addr}
    (hC : h.get? C = some (excClassObj nm q C N bs bm hdct sn sub ab col dd k0 k1 k2 k3 k5 newId))
    (hi : W.Looks (model prog w) h (typeLookup (.ref C) "__init__") (some (.ref fI))) (hb : ∀ me, W.Looks (model prog w) h (bindSpecial (.ref fI) me) (.ref fI, [me])) (hl : us.length ≤ sizeLine)
    (z : codeAny (model prog w) (A.under (.builtin "type.__call__" ⟨.ref C :: us, kw⟩)) (.call (.ref fI) ⟨.ref (h.objs.size + 1) :: us, kw⟩) (W.InitBack (h.objs.size + 1) R)
      ⟨(h.push (W.kdv_tup us)).push (excO C h.objs.size), g, d, t, os⟩) :
    codeAny (model prog w) A (.call (.ref C) ⟨us, kw⟩) R ⟨h, g, d, t, os⟩ := by
  have f1 := tc_lookup
  have f2 := tc_bind (.ref C)
  have hTy : (⟨h, g, d, t, os⟩ : Shared).TypeIs (.ref C) "type" := ⟨_, hC, rfl⟩
  refine codeAny_of_tree ?_
  show wpAny _ _ (callAny (.ref C) _) _ _ _
  repeat (any_goals (first
    | assumption
    | with_reducible refine wpAny_loadPart_at hC ?_
    | wp_step))
  refine ⟨rfl, ?_⟩
  refine codeAny_call_builtin_at (Code.quiet_builtin _ (by decide +kernel)) entry_typeCall (wpAny_check_type_call_sub hC (kw_made F hT hC hi hb hl ?_))
  refine codeAny_mono z fun r s' y => ?_
  rcases r with e | (v | _ | _ | _) <;> exact y
end
end K00
set_option Elab.async false
set_option linter.all false
set_option maxRecDepth 100000
set_option maxHeartbeats 4000000
/-! Own errors as values: made by place and by names, their fields read, isinstance. -/
namespace X1
open PySem L2
/-- at e an error of the class at C that has these fields -/
def ExcAt (H : Hp) (e C : Addr) (L : List (Str × V)) : Prop := ∃ d, H e = some (exo e C (some d)) ∧ H d = some (exd d L)
/-- all but a stays -/
def Keep (a : Addr) (H H' : Hp) : Prop := ∀ b o, b ≠ a → H b = some o → H' b = some o
theorem ExcAt.up {H H' : Hp} {e C : Addr} {L : List (Str × V)} (x : ExcAt H e C L) (k : ∀ b o, H b = some o → H' b = some o) : ExcAt H' e C L := by
  obtain ⟨d, h1, h2⟩ := x
  exact ⟨d, k _ _ h1, k _ _ h2⟩
/-- __init__ of an error: the fields as L tells, from the values -/
def spIni (C : Addr) (L : List V → List (Str × V)) (n : Nat) : Sp := fun vs H Q _ => ∃ (a : Addr) (us : List V), vs = .ref a :: us ∧ us.length = n ∧ H a = some (exo a C none) ∧
  ∀ (H' : Hp) (dx : Addr), H dx = none → Keep a H H' → H' a = some (exo a C (some dx)) → H' dx = some (exd dx (L us)) → Q .non H'
section
variable {P : Program} {w : World} {K : PySem.W.Frag} {mg : Str → Option Value} {base : Heap}
def L1 (f : Str) : List V → List (Str × V) := fun us => [(f, us.getD 0 .non)]
def L2' (f g : Str) : List V → List (Str × V) := fun us => [(g, us.getD 1 .non), (f, us.getD 0 .non)]
/-- one field -/
theorem ok_ini1 {x q f : Str} {st : Stmt} {fI C : Addr} {fd : FuncData} (F : Fun K x q st fI fd) (S : FnScope ["self", f] ["self", f] (defScope st)) (hb : ∃ p1 p2 p3 p4 : Pos, defBody st = [.Assign [.Attribute (.Name "self" p1) f p2] (.Name f p3) p4])
    (T : OexC K C) (no : PySem.W.findIn K (.ref C) f = some none) (d1 : (f == ("__debug__" : Str)) = false) (d2 : (f == ("__classdict__" : Str)) = false) : FnOk P w K mg base CX0 1 fI fd ["self", f] (spIni C (L1 f) 1) := by
  refine F.ok S (fun vs H Q E h => ?_) (fun cdv A outer s H vs Q E hr h => ?_)
  · obtain ⟨a, us, rfl, hl, _⟩ := h
    simp [hl]
  · obtain ⟨a, us, rfl, hl, ha, k⟩ := h
    obtain ⟨v, rfl⟩ : ∃ v, us = [v] := by
      match us, hl with
      | [v], _ => exact ⟨v, rfl⟩
    obtain ⟨p1, p2, p3, p4, e⟩ := hb
    rw [e]
    have vis : ∀ y ∈ (["self", f] : List Str), Vis (defScope st) y := fun y hy => by
      rcases S.par y hy with z | z
      · exact .inl z
      · exact .inr (.inl z)
    refine ⟨_, pss_one (ps_ost (pe_var (i := 0) rfl (vis _ (by simp))) (pe_var (i := 1) rfl (vis _ (by simp)) d1 d2)), ?_⟩
    refine ⟨v, rfl, _, rfl, a, C, rfl, T, no, .inl ⟨ha, fun dx n ne => k _ dx n (fun b o hb e => ?_) upd_same ?_⟩⟩
    · rw [upd_ne hb, upd_ne (ne_of_none e n)]
      exact e
    · rw [upd_ne ne, upd_same]
      rfl
/-- two fields -/
theorem ok_ini2 {x q f g : Str} {st : Stmt} {fI C : Addr} {fd : FuncData} (F : Fun K x q st fI fd) (S : FnScope ["self", f, g] ["self", f, g] (defScope st))
    (hb : ∃ p1 p2 p3 p4 r1 r2 r3 r4 : Pos, defBody st = [.Assign [.Attribute (.Name "self" p1) f p2] (.Name f p3) p4, .Assign [.Attribute (.Name "self" r1) g r2] (.Name g r3) r4])
    (T : OexC K C) (no : PySem.W.findIn K (.ref C) f = some none) (no2 : PySem.W.findIn K (.ref C) g = some none) (d1 : (f == ("__debug__" : Str)) = false) (d2 : (f == ("__classdict__" : Str)) = false)
    (d3 : (g == ("__debug__" : Str)) = false) (d4 : (g == ("__classdict__" : Str)) = false) : FnOk P w K mg base CX0 1 fI fd ["self", f, g] (spIni C (L2' f g) 2) := by
  refine F.ok S (fun vs H Q E h => ?_) (fun cdv A outer s H vs Q E hr h => ?_)
  · obtain ⟨a, us, rfl, hl, _⟩ := h
    simp [hl]
  · obtain ⟨a, us, rfl, hl, ha, k⟩ := h
    obtain ⟨v, u, rfl⟩ : ∃ v u, us = [v, u] := by
      match us, hl with
      | [v, u], _ => exact ⟨v, u, rfl⟩
    obtain ⟨p1, p2, p3, p4, r1, r2, r3, r4, e⟩ := hb
    rw [e]
    have vis : ∀ y ∈ (["self", f, g] : List Str), Vis (defScope st) y := fun y hy => by
      rcases S.par y hy with z | z
      · exact .inl z
      · exact .inr (.inl z)
    refine ⟨_, pss_cons (ps_ost (pe_var (i := 0) rfl (vis _ (by simp))) (pe_var (i := 1) rfl (vis _ (by simp)) d1 d2)) (pss_one (ps_ost (pe_var (i := 0) rfl (vis _ (by simp))) (pe_var (i := 2) rfl (vis _ (by simp)) d3 d4))), ?_⟩
    refine ⟨v, rfl, _, rfl, a, C, rfl, T, no, .inl ⟨ha, fun dx n ne => ?_⟩⟩
    refine ⟨u, rfl, _, rfl, a, C, rfl, T, no2, .inr ⟨dx, [(f, v)], upd_same, (by rw [upd_ne ne, upd_same]), (show 1 ≤ 900 by decide), k _ dx n (fun b o hb e => ?_) ?_ upd_same⟩⟩
    · rw [upd_ne (ne_of_none e n), upd_ne hb, upd_ne (ne_of_none e n)]
      exact e
    · rw [upd_ne ne.symm, upd_same]
end
/-- an error class: called x, at C; its __init__ takes n values -/
structure Err (P : Program) (w : World) (K : PySem.W.Frag) (mg : Str → Option Value) (base : Heap) (x : Str) (C : Addr) (ps : List Str) (L : List V → List (Str × V)) (fI : Addr) (fd : FuncData) : Prop where
  oex : OexC K C
  gC : mg x = some (.ref C)
  iC : PySem.W.findIn K (.ref C) "__init__" = some (some (.ref fI))
  tI : PySem.W.typeIn K (.ref fI) = some (.type "function")
  ok : FnOk P w K mg base CX0 1 fI fd (("self" : Str) :: ps) (spIni C L ps.length)
section
variable {X : Cx} {x : Str} {C : Addr} {ps : List Str} {L : List V → List (Str × V)} {fI : Addr} {fd : FuncData} {e : Expr} {es : List Expr} {kws : List Keyword} {ta tk : TA} {p pos : Pos}
/-- the run of the call, the values being there -/
theorem run_err {pins : List (Addr × Obj)} {σ : St} {H1 : Hp} {s1 : Shared} {Q : VK} {us ws : List Value} {vs : List V} {ks : List Str} {gs : List Value} (T : Err X.prog X.w X.K X.mg X.base x C ps L fI fd) (hr : Room 2 X.A) (I1 : Inv X pins σ H1 s1)
    (hl : us.length ≤ 1000) (hb : ∀ (s : Shared) (a : Addr), X.K.In s.heap → BindsTo s fd ⟨Value.ref a :: us, ks.zip ws⟩ ((("self" : Str) :: ps).zip (Value.ref a :: gs))) (rv : Vals vs gs) (hn : vs.length = ps.length)
    (h : ∀ e H', H1 e = none → (∀ b o, H1 b = some o → H' b = some o) → ExcAt H' e C (L vs) → Q (.ref e) H') : wpAny (model X.prog X.w) X.A (call (.ref C) us (ks.zip ws)) (EP X pins σ Q) X.xe s1 := by
  obtain ⟨nm, q, N, bs, bm, sn, sub, ab, col, dd, k0, k1, k2, k3, k5, hC, hbm⟩ := T.oex.cls
  obtain ⟨hp, g, dr, tk', os⟩ := s1
  have hsz : hp.objs.size ≤ hp.objs.size + 1 := Nat.le_succ _
  have hnn : H1 (hp.objs.size + 1) = none := I1.hok.fresh hsz
  have kk : ∀ b o, hp.get? b = some o → ((hp.push (PySem.W.kdv_tup us)).push (PySem.HandSPX.excO C hp.objs.size)).get? b = some o := fun b o z => Heap.get?_push_of_some _ (Heap.get?_push_of_some _ z)
  have hget : ((hp.push (PySem.W.kdv_tup us)).push (PySem.HandSPX.excO C hp.objs.size)).get? (hp.objs.size + 1) = some (PySem.HandSPX.excO C hp.objs.size) := by heap_get
  have I2 : Inv X pins σ (upd H1 (hp.objs.size + 1) (exo (hp.objs.size + 1) C none)) ⟨(hp.push (PySem.W.kdv_tup us)).push (PySem.HandSPX.excO C hp.objs.size), g, dr, tk', os⟩ :=
    I1.laid (t' := tk') kk hsz (exo_ok hget)
  have hq : spIni C L ps.length (.ref (hp.objs.size + 1) :: vs) (upd H1 (hp.objs.size + 1) (exo (hp.objs.size + 1) C none)) (fun v H' => v = .non ∧ Q (.ref (hp.objs.size + 1)) H') (fun _ _ _ => False) := by
    refine ⟨_, vs, rfl, hn, upd_same, fun H' dx nd kp h1 h2 => ⟨rfl, h _ H' hnn (fun b o z => kp b o (ne_of_none z hnn) (by rw [upd_ne (ne_of_none z hnn)]; exact z)) ⟨dx, h1, h2⟩⟩⟩
  have hus : us.length ≤ sizeLine := Nat.le_trans hl (by decide)
  refine wpAny_call (K00.kw_call PySem.F.excBase_ValueError (fun Y => PySem.HandSPX.refsVE_contains Y bm hbm) (I1.kIn _ _ hC) (PySem.W.looks_findIn I1.kIn T.iC) (fun self => PySem.W.bind_fn I1.kIn self T.tI) hus
    (codeAny_mono (T.ok.run _ X.stack _ _ ⟨Value.ref (hp.objs.size + 1) :: us, ks.zip ws⟩ (Value.ref (hp.objs.size + 1) :: gs) _ _ (fun _ _ _ => False) (hr.make C us (ks.zip ws)) (I2.env0.make C us (ks.zip ws)) (hb _ _ I2.kIn) (.cons (show RelV (V.ref (hp.objs.size + 1)) (Value.ref (hp.objs.size + 1)) from rfl) rv) hq) fun r s' hq' => ?_))
  cases r with
  | error er => exact (pass0 (X := X) pins σ _ _ er s' I2 hq')
  | ok fl =>
    cases fl with
    | ret u =>
      obtain ⟨v, H', I3, rv', ev, q3⟩ := I2.after hq'
      subst ev
      exact ⟨rv', .ref (hp.objs.size + 1), H', I3, rfl, q3⟩
    | next => exact False.elim hq'
    | brk => exact False.elim hq'
    | cont => exact False.elim hq'
end
end X1
set_option Elab.async false
set_option linter.all false
set_option maxRecDepth 100000
set_option maxHeartbeats 4000000
namespace X1
open PySem L2
section
variable {X : Cx} {x : Str} {C : Addr} {ps : List Str} {L : List V → List (Str × V)} {fI : Addr} {fd : FuncData} {e : Expr} {es : List Expr} {kws : List Keyword} {ta tk : TA} {p pos : Pos}
/-- what is asked behind the values: a new error with these fields -/
def NewErr (C : Addr) (fs : List (Str × V)) (Q : VK) (H1 : Hp) : Prop := ∀ e H', H1 e = none → (∀ b o, H1 b = some o → H' b = some o) → ExcAt H' e C fs → Q (.ref e) H'
/-- X(e, ..) by place -/
theorem pe_err (T : Err X.prog X.w X.K X.mg X.base x C ps L fI fd) (hb : Binds X.K fd (("self" : Str) :: ps) []) (hr : Room 2 X.A) (hn : ps.length ≤ 1000) (ha : PA X (e :: es) ta) (hg : Gl X x := by rfl) (hdb : (x == ("__debug__" : Str)) = false := by decide)
    (hs : starEach (e :: es) X.env = (false, eval e X.env) :: starEach es X.env := by rfl) (hpl : (backTo pos (starEach es X.env)).any (·.1) = false := by rfl) :
    PE X (.Call (.Name x p) (e :: es) [] pos) (fun σ H Q => ta σ H fun vs H1 => vs.length = ps.length ∧ NewErr C (L vs) Q H1) := by
  refine ⟨fun pins s σ H Q I h => ?_⟩
  refine wpAny_Call_Name_kw (ld_glob I hg T.gC ?_ hdb)
  refine PySem.W.callWith_K (h₀ := X.base) I.ok.mod.kin T.oex.kC (thn (ha.run pos pins s σ H _ I h) fun us s1 ⟨vs, H1, I1, r1, hv, q⟩ => ⟨I1.kIn, ?_⟩) hs hpl
  have hu : us.length = ps.length := r1.length.symm.trans hv
  exact run_err (ks := []) (ws := []) (gs := us) T hr I1 (show us.length ≤ 1000 by omega) (fun s a K1 => by
    have z := hb s (.ref a :: us) K1 (by simp [hu])
    rw [List.append_nil] at z
    exact z) r1 hv q
/-- X(f = e, ..) by names alone; gs: the values in the order of the parameters -/
theorem pe_errK {ks : List Str} {g : {α : Type} → List α → List α} (T : Err X.prog X.w X.K X.mg X.base x C ps L fI fd) (hr : Room 2 X.A)
    (hb : ∀ (s : Shared) (a : Addr) (ws : List Value), X.K.In s.heap → ws.length = ks.length → BindsTo s fd ⟨[.ref a], ks.zip ws⟩ ((("self" : Str) :: ps).zip (.ref a :: g ws))) (hrel : ∀ {zs : List V} {ws : List Value}, zs.length = ks.length → Vals zs ws → Vals (g zs) (g ws))
    (hlen : ∀ {zs : List V}, zs.length = ks.length → (g zs).length = ps.length) (hkw : PK X kws tk)
    (hall : (backToKw pos (keywordEach kws X.env)).all (·.1.isSome) = true := by rfl) (hks : (backToKw pos (keywordEach kws X.env)).filterMap (·.1) = ks := by rfl) (hg : Gl X x := by rfl) (hdb : (x == ("__debug__" : Str)) = false := by decide)
    (hpl : ((backTo pos (starEach [] X.env)).any (·.1) || (backToKw pos (keywordEach kws X.env)).any (·.1.isNone)) = false := by rfl) :
    PE X (.Call (.Name x p) [] kws pos) (fun σ H Q => tk σ H fun zs H1 => zs.length = ks.length ∧ NewErr C (L (g zs)) Q H1) := by
  refine ⟨fun pins s σ H Q I h => ?_⟩
  refine wpAny_Call_Name_kw (ld_glob I hg T.gC ?_ hdb)
  refine PySem.W.callWith_KW0 (h₀ := X.base) I.ok.mod.kin T.oex.kC hall ?_ hpl
  refine thn (hkw.run pos pins s σ H _ I h) fun ws s2 ⟨zs, H2, I2, rz, l2, q2⟩ => ⟨I2.kIn, ?_⟩
  rw [hks]
  exact run_err (us := []) (gs := g ws) T hr I2 (Nat.zero_le _) (fun s a K1 => hb s a ws K1 (rz.length.symm.trans l2)) (hrel l2 rz) (hlen l2) q2
/-- X(), a class without an __init__ -/
theorem pe_err0 (gC : X.mg x = some (.ref C)) (kC : PySem.W.keepIn X.K (.ref C) = true) (q : PySem.W.excIn X.K C He.veBase "ValueError.__new__" = true) (hg : Gl X x := by rfl) (hdb : (x == ("__debug__" : Str)) = false := by decide) :
    PE X (.Call (.Name x p) [] [] pos) (fun _ H Q => ∀ a, H a = none → Q (.ref a) (upd H a (exo a C none))) := by
  refine ⟨fun pins s σ H Q I h => ?_⟩
  refine wpAny_Call_Name_kw (ld_glob I hg gC ?_ hdb)
  refine PySem.W.callWith_K0 I.kIn kC ?_
  obtain ⟨bm, N, nm, qn, bs, hdct, sn, sub, ab, col, dd, k0, k1, k2, k3, k5, mN, hC, hN, hni, T⟩ := exc_obj I.kIn q
  obtain ⟨hp, gg, d, tk, os⟩ := s
  show wpAny _ _ (call (.ref C) []) _ _ _
  refine wpAny_call_exc_subT PySem.F.excBase_ValueError T hC hN hni (fun h' a hm => ?_) (Nat.zero_le _)
  have hn : H a = none := I.hok.gone hm.new
  obtain ⟨t, ht, _, _⟩ := hm.there
  exact ⟨.ref a, upd H a (exo a C none), I.laidN (t' := tk) hm.keeps hm.new hn (exo_ok ht), rfl, h a hn⟩
end
end X1
set_option Elab.async false
set_option linter.all false
set_option maxRecDepth 100000
set_option maxHeartbeats 4000000
namespace X1
open PySem L2
/-- an error at a, of the class at C: with fields or without any -/
def ErrAt (H : Hp) (a C : Addr) : Prop := (∃ L, ExcAt H a C L) ∨ H a = some (exo a C none)
section
variable {X : Cx} {e : Expr} {te : TE} {pos : Pos} {n : Str}
/-- e.n of an error that is held -/
theorem pe_exf (he : PE X e te) (hb : attributeBase e n X.env (eval e X.env) = eval e X.env := by rfl) :
    PE X (.Attribute e n pos) (fun σ H Q => te σ H fun x H1 => ∃ (a C : Addr) (L : List (Str × V)) (v : V), x = .ref a ∧ ExcAt H1 a C L ∧ XfC X.K C ∧ PySem.W.findIn X.K (.ref C) n = some none ∧ L.lookup n = some v ∧ Q v H1) := by
  refine ⟨fun pins s σ H Q I h => ?_⟩
  refine attr_of hb (thn (he.run pins s σ H _ I h) fun u s1 hh => ?_)
  obtain ⟨x, H1, I1, rx, a, C, L, v, ex, ⟨d, h1, h2⟩, T, no, l, q⟩ := hh
  subst ex
  obtain rfl : u = Value.ref a := rx
  obtain ⟨t1, ho⟩ := exo_at I1.hok h1
  obtain ⟨mA, hns, hr⟩ := exd_at I1.hok h2
  obtain ⟨od, hod, hl⟩ := lookIn_ns hns
  obtain ⟨u, hu, ru⟩ := RelO.some_of (v := v) (o := mA n) (by rw [← l]; exact hr n)
  have J : PySem.W.InstAt s1.heap a { cls := .ref C, dict := some d, data := .fields #[.ref t1, .none, .none, .none, .bool false, .none] } C (some od) := ⟨ho, rfl, rfl, hod⟩
  exact PySem.HandSPX.exc_get I1.kIn J T.ga T.gg T.exC (PySem.W.findObj_own T.hdC no rfl (by rw [hl, hu])) (handed_of ru) ⟨v, H1, I1.tok _, ru, q⟩
/-- isinstance(e, c), e an error that is held -/
def rIsX (K : PySem.W.Frag) : List V → Hp → VK → Prop := fun xs H Q => ∃ (a C : Addr) (c : V) (u : Value) (b : Bool), xs = [.ref a, c] ∧ ClsV c u ∧ ErrAt H a C ∧ ExcC K C ∧ PySem.W.kitOne K (.ref C) u = some b ∧ Q (.bl b) H
theorem call_isX : CallR X (.builtin "isinstance") (rIsX X.K) := by
  intro pins s σ H xs us Q I r h
  obtain ⟨a, C, c, w', b, rfl, k, at_, T, e, q⟩ := h
  obtain ⟨u1, u2, rfl, r1, r2⟩ := vals2 r
  cases (show u1 = Value.ref a from r1)
  have e2 := k.eq r2
  subst e2
  have hcl : (PySem.W.clsIn X.K C).isSome = true := by
    obtain ⟨cd, hc, _⟩ := PySem.W.any_some T.hd
    rw [hc] <;> rfl
  rcases at_ with ⟨L, d, h1, h2⟩ | h1
  · obtain ⟨t1, ho⟩ := exo_at I.hok h1
    obtain ⟨mA, hns, hr⟩ := exd_at I.hok h2
    obtain ⟨od, hod, hl⟩ := lookIn_ns hns
    have J : PySem.W.InstAt s.heap a { cls := .ref C, dict := some d, data := .fields #[.ref t1, .none, .none, .none, .bool false, .none] } C (some od) := ⟨ho, rfl, rfl, hod⟩
    exact PySem.W.kia_one (PySem.W.kitx_exc hcl T.hg T.hk T.hs T.ha T.hn T.ht T.hm) I.kIn J e (fun z => nomatch z) fun tk => ⟨.bl b, H, I.tok tk, rfl, q⟩
  · obtain ⟨t1, ho⟩ := exo_at I.hok h1
    have J : PySem.W.InstAt s.heap a { cls := .ref C, dict := none, data := .fields #[.ref t1, .none, .none, .none, .bool false, .none] } C none := ⟨ho, rfl, rfl, trivial⟩
    exact PySem.W.kia_one (PySem.W.kitx_exc hcl T.hg T.hk T.hs T.ha T.hn T.ht T.hm) I.kIn J e (fun z => nomatch z) fun tk => ⟨.bl b, H, I.tok tk, rfl, q⟩
end
end X1
set_option Elab.async false
set_option linter.all false
set_option maxRecDepth 100000
set_option maxHeartbeats 4000000
/-! Lambdas of one parameter, without captured names, as values; called by a local name. -/
namespace X2
open PySem L2
abbrev lamQ (q : Str) : Str := q ++ "<lambda>"
/-- at f such a lambda, its code object at c -/
def LamO (f c : Addr) (q : Str) (params : Arguments) (body : Expr) (scope : Scope) : HO := .ext fun h => ∃ pm ctv : Value, h.get? f = some (PySem.W.kla_obj "<lambda>" q params body scope [] pm c ctv)
def LamAt (H : Hp) (f : Addr) (q : Str) (params : Arguments) (body : Expr) (scope : Scope) : Prop := ∃ c, H f = some (LamO f c q params body scope) ∧ H c = some (LamX.CodeO c q)
theorem LamAt.up {H H' : Hp} {f : Addr} {q : Str} {params : Arguments} {body : Expr} {scope : Scope} (x : LamAt H f q params body scope) (k : ∀ b o, (∀ ps, o ≠ .tbl ps) → H b = some o → H' b = some o) : LamAt H' f q params body scope := by
  obtain ⟨c, h1, h2⟩ := x
  refine ⟨c, k _ _ (fun ps z => ?_) h1, k _ _ LamX.codeO_ne h2⟩
  have z' : HO.ext _ = HO.tbl ps := z
  cases z'
theorem lamO_ok {P : Program} {w : World} {H : Hp} {h : Heap} {f c : Addr} {q : Str} {params : Arguments} {body : Expr} {scope : Scope} {pm ctv : Value} (e : h.get? f = some (PySem.W.kla_obj "<lambda>" q params body scope [] pm c ctv)) : ObjOk P w H h f (LamO f c q params body scope) :=
  ⟨⟨pm, ctv, e⟩, ⟨_, e⟩, fun h1 h2 ⟨p, t, z⟩ k => ⟨p, t, k _ z⟩⟩
section
variable {X : Cx} {params : Arguments} {body : Expr} {scope : Scope} {pos : Pos} {c P : Addr}
/-- the lambda as a value: new, but for the maker's table all stays -/
theorem pe_lamV (TB : LamX.TabB X.base X.mg c P) (hcode : X.env.code = .ref c) (hdef : defaultsOf params X.env = ([], []) := by rfl) (hcl : closureFor scope X.env = pure [] := by rfl) :
    PE X (.Lambda params body scope pos) (fun σ H Q => LamX.TabS H P (lamQ X.env.qual) ∧ ∀ f H', H f = none → (∀ b o, b ≠ P → H b = some o → H' b = some o) → LamX.TabS H' P (lamQ X.env.qual) → LamAt H' f (lamQ X.env.qual) params body scope → Q (.ref f) H') := by
  refine ⟨fun pins s σ H Q I h => ?_⟩
  obtain ⟨⟨ps, hP, ht, ha⟩, k⟩ := h
  refine PySem.W.kla_eval hdef ?_
  have bP : s.heap.BuiltinsAt X.mg P := TB.bm.keeps I.bk
  have hP' : s.heap.get? P = some { cls := .none, data := .fields ps } := I.hok P _ hP
  cases hc : codeAmong pos ps.toList with
  | none =>
    refine PySem.W.kla_makeFunction (mg := X.mg) (c := c) (P := P) (ps := ps) hcl I.ok.glob (I.mod.glob.keeps I.bk) hcode (TB.code.keeps I.bk) hP' ht hc TB.gP bP fun c' ctv h' tk hx hge hlt hrec htb => ?_
    obtain ⟨c2, oc, vs, t, e2, hoc, hd, hv⟩ := hrec
    cases e2
    have nC : H c' = none := I.hok.fresh hge
    have nPc : P ≠ c' := ne_of_none hP nC
    have hsz : s.heap.objs.size ≤ h'.objs.size := Nat.le_trans hge (Nat.le_of_lt hlt)
    have I1 := LamX.inv_table (t' := tk) (more := #[rawInt pos.line, rawInt pos.col, .ref c']) (h' := h') I hP (fun b o hb e => hx b o hb e) htb hge ⟨oc, vs, t, hoc, hd, hv⟩
    have nF : upd (upd H P (.tbl (ps ++ #[rawInt pos.line, rawInt pos.col, .ref c']))) c' (LamX.CodeO c' (lamQ X.env.qual)) h'.objs.size = none := I1.hok.fresh (Nat.le_refl _)
    have I2 := I1.laid (t' := tk) (a := h'.objs.size) (o := LamO h'.objs.size c' (lamQ X.env.qual) params body scope) (h' := h'.push (PySem.W.kla_obj "<lambda>" (lamQ X.env.qual) params body scope [] ((X.mg "__name__").getD .none) c' ctv))
      (fun b o e => Heap.get?_push_of_some _ e) (Nat.le_refl _) (lamO_ok (Heap.get?_push_size _ rfl))
    have nPf : P ≠ h'.objs.size := fun z => by
      rw [← z, upd_ne nPc, upd_same] at nF
      cases nF
    have nCf : c' ≠ h'.objs.size := Nat.ne_of_lt hlt
    have eL : (ps ++ #[rawInt pos.line, rawInt pos.col, .ref c']).toList = ps.toList ++ [rawInt pos.line, rawInt pos.col, .ref c'] := by simp
    have hE : ∀ b o, b ≠ P → H b = some o → upd (upd (upd H P (.tbl (ps ++ #[rawInt pos.line, rawInt pos.col, .ref c']))) c' (LamX.CodeO c' (lamQ X.env.qual))) h'.objs.size (LamO h'.objs.size c' (lamQ X.env.qual) params body scope) b = some o := fun b o hb e => by
      have nb : b ≠ h'.objs.size := fun z => by
        have q := I.hok.fresh (H := H) hsz
        rw [z, q] at e
        cases e
      rw [upd_ne nb, upd_ne (ne_of_none e nC), upd_ne hb]
      exact e
    refine ⟨.ref h'.objs.size, _, I2, rfl, k _ _ (I.hok.fresh hsz) hE ⟨ps ++ #[rawInt pos.line, rawInt pos.col, .ref c'], ?_, ?_, fun p' cv hcv => ?_⟩ ⟨c', upd_same, ?_⟩⟩
    · rw [upd_ne nPf, upd_ne nPc, upd_same]
    · rw [eL]
      exact PySem.TriplesOk_snoc _ _ _ _ ht
    · rw [eL] at hcv
      rcases LamX.among_app _ ht hcv with z | z
      · obtain ⟨c0, e1, e2⟩ := ha p' cv z
        have n0 : c0 ≠ P := fun y => by
          rw [y, hP] at e2
          exact LamX.codeO_ne ps (Option.some.inj e2).symm
        exact ⟨c0, e1, hE _ _ n0 e2⟩
      · exact ⟨c', z, by rw [upd_ne nCf, upd_same]⟩
    · rw [upd_ne nCf, upd_same]
  | some cv =>
    obtain ⟨c', e, hco⟩ := ha pos cv hc
    subst e
    refine PySem.W.kla_makeFunctionHit (mg := X.mg) (c := c) (P := P) (ps := ps) hcl I.ok.glob (I.mod.glob.keeps I.bk) hcode (TB.code.keeps I.bk) hP' ht hc bP fun ctv h' tk hx hsz => ?_
    have I1 : Inv X pins σ H { s with heap := h', toks := tk } := I.kept hx
    have I2 := I1.laid (t' := tk) (a := h'.objs.size) (o := LamO h'.objs.size c' (lamQ X.env.qual) params body scope) (h' := h'.push (PySem.W.kla_obj "<lambda>" (lamQ X.env.qual) params body scope [] ((X.mg "__name__").getD .none) c' ctv))
      (fun b o e => Heap.get?_push_of_some _ e) (Nat.le_refl _) (lamO_ok (Heap.get?_push_size _ rfl))
    have nf : H h'.objs.size = none := I.hok.fresh hsz
    have hE : ∀ b o, H b = some o → upd H h'.objs.size (LamO h'.objs.size c' (lamQ X.env.qual) params body scope) b = some o := fun b o e => by
      rw [upd_ne (ne_of_none e nf)]
      exact e
    exact ⟨.ref h'.objs.size, _, I2, rfl, k _ _ nf (fun b o _ e => hE b o e) (LamX.TabS.ext ⟨ps, hP, ht, ha⟩ hE) ⟨c', upd_same, hE _ _ hco⟩⟩
end
end X2
set_option Elab.async false
set_option linter.all false
set_option maxRecDepth 100000
set_option maxHeartbeats 4000000
namespace X2
open PySem PySem.Spec PyProof.Rows L2
/-- what the call of such a lambda is worth: a value, the heap, what is wanted -/
abbrev SpL : Type := V → Hp → VK → Prop
structure LamOk (P : Program) (w : World) (K : PySem.W.Frag) (mg : Str → Option Value) (base : Heap) (k : Nat) (q : Str) (params : Arguments) (body : Expr) (scope : Scope) (sp : SpL) : Prop where
  run : ∀ (A : Around) (outer : List Env) (s : Shared) (H : Hp) (f c : Addr) (pm ctv u : Value) (v : V) (Q : VK), Room k A → Env0 P w K mg base A outer s H → s.heap.get? f = some (PySem.W.kla_obj "<lambda>" q params body scope [] pm c ctv) →
    (∃ (oc : Obj) (vs : Array Value) (t : Tok), s.heap.get? c = some oc ∧ oc.data = .fields vs ∧ vs[1]? = some (.str q t)) → RelV v u → sp v H Q → codeAny (model P w) A (.call (.ref f) ⟨[u], []⟩) (CR CX0 outer P w H s Q E0) s
section
variable {P : Program} {w : World} {K : PySem.W.Frag} {mg : Str → Option Value} {base : Heap} {k : Nat} {q : Str} {params : Arguments} {body : Expr} {scope : Scope} {sp : SpL} {N : List Str} {x : Str}
theorem lamOk_of (S : FnScope N [x] scope) (hb : ∀ (pm cv ctv u : Value), bindArgs (PySem.W.kla_fn "<lambda>" q params body scope [] pm cv ctv) ⟨[u], []⟩ = pure [(x, u)])
    (hbody : ∀ (A : Around) (outer : List Env) (s : Shared) (H : Hp) (f : Addr) (cv : Value) (v : V) (Q : VK), Room k (A.deeper (PyProof.Rows.envOfC q scope s.heap.objs.size f cv)) → sp v H Q →
      ∃ t, PE (cxOf CX0 P w K mg base N q scope f cv A outer s H E0) body t ∧ t (L2.start N [v]) H Q) : LamOk P w K mg base (k + 1) q params body scope sp := by
  refine ⟨fun A outer s H f c pm ctv u v Q hr e0 of cr rv hsp => ?_⟩
  obtain ⟨oc, vs, t, hoc, hdc, hvc⟩ := cr
  have lim : s.heap.NoLimit := e0.mod.nolimit.keeps fun b o e => (e0.bs b o e).1
  have hkind : ∀ y ∈ [(x, u)], scope.names.lookup y.1 = some .local ∨ (scope.names.lookup y.1 = some .cell ∧ ((cellsFrom (s.heap.objs.size + 1) scope.names []).lookup y.1).isSome = true) := fun y hy => by
    obtain rfl := List.mem_singleton.mp hy
    rcases S.par x List.mem_cons_self with z | z
    · exact .inl z
    · exact .inr ⟨z, PySem.W.cellsFrom_some _ _ _ (.inl z)⟩
  refine PySem.W.kla_callFunE hr.depth of rfl S.co S.gen rfl ⟨c, oc, vs, t, rfl, hoc, hdc, hvc⟩ ?_
  rw [hb]
  refine wpAny_pure ?_
  refine wpAny_newFunctionEnv_cells S.kind hkind fun env he s1 y => ?_
  subst he
  refine ⟨lim.keeps y.toInCall.keep, PySem.W.kla_codeExpr ?_⟩
  obtain ⟨te, hte, hq⟩ := hbody A outer s H f (.ref c) v Q (hr.deeper _) hsp
  have I : Inv (cxOf CX0 P w K mg base N q scope f (.ref c) A outer s H E0) [] (L2.start N [v]) H s1 := inv_start S hr.hd e0 rfl (.cons rv .nil) y
  refine wpAny_mono (hte.run [] s1 (L2.start N [v]) H Q I hq) (fun u' s' hs => ?_) fun e s' hs => hs
  obtain ⟨v', H', J, rv', q'⟩ := hs
  exact ⟨v', H', J.os, J.bare, J.base, J.hok, rv', q'⟩
end
section
variable {X : Cx} {i k : Nat} {x : Str} {e : Expr} {te : TE} {p pos : Pos}
/-- x(e), x a local name that holds such a lambda -/
theorem pe_lamC {ta : TA} (hN : X.N[i]? = some x) (hv : Vis X.env.scope x) (hr : Room k X.A) (ha : PA X [e] ta) (hdb : (x == ("__debug__" : Str)) = false := by decide) (hcd : (x == ("__classdict__" : Str)) = false := by decide)
    (hs : starEach [e] X.env = (false, eval e X.env) :: starEach [] X.env := by rfl) (hpl : (backTo pos (starEach ([] : List Expr) X.env)).any (·.1) = false := by rfl) :
    PE X (.Call (.Name x p) [e] [] pos) (fun σ H Q => ∃ (f : Addr) (q : Str) (params : Arguments) (body : Expr) (scope : Scope) (sp : SpL), σ[i]? = some (some (.ref f)) ∧ LamAt H f q params body scope ∧ LamOk X.prog X.w X.K X.mg X.base k q params body scope sp ∧
      ta σ H fun vs H1 => ∃ v, vs = [v] ∧ LamAt H1 f q params body scope ∧ sp v H1 Q) := by
  refine ⟨fun pins s σ H Q I h => ?_⟩
  obtain ⟨f, q, params, body, scope, sp, hs1, at0, L, h⟩ := h
  refine wpAny_Call_Name_kw (thn ((pe_var (pos := p) (i := i) hN hv hdb hcd).run pins s σ H (fun v H1 => v = .ref f ∧ H1 = H) I ⟨.ref f, hs1, rfl, rfl⟩) fun u s1 ⟨v, H1, I1, r1, q1⟩ => ?_)
  obtain ⟨ev, eH⟩ := q1
  subst ev
  rw [eH] at I1
  obtain rfl : u = Value.ref f := r1
  have obj : ∀ {H2 : Hp} {s2 : Shared}, Inv X pins σ H2 s2 → LamAt H2 f q params body scope → (∃ pm c ctv, s2.heap.get? f = some (PySem.W.kla_obj "<lambda>" q params body scope [] pm c ctv) ∧ ∃ (oc : Obj) (vs : Array Value) (t : Tok), s2.heap.get? c = some oc ∧ oc.data = .fields vs ∧ vs[1]? = some (.str q t)) := fun {H2 s2} J ⟨c, l1, l2⟩ => by
    obtain ⟨⟨pm, ctv, e1⟩, _, _⟩ := J.hok f _ l1
    obtain ⟨e2, _, _⟩ := J.hok c _ l2
    exact ⟨pm, c, ctv, e1, e2⟩
  obtain ⟨pm0, c0, ct0, of0, _⟩ := obj I1 at0
  refine PySem.W.callWith_F (q := f) ⟨_, _, _, _, of0⟩ ?_ hs hpl
  refine thn (ha.run pos pins s1 σ H (fun vs H2 => ∃ v, vs = [v] ∧ LamAt H2 f q params body scope ∧ sp v H2 Q) I1 h) fun us s2 ⟨vs, H2, I2, rv, v, ev, at2, hsp⟩ => ?_
  subst ev
  obtain ⟨u1, rfl, ru⟩ := vals1 rv
  obtain ⟨pm, c, ctv, e1, e2⟩ := obj I2 at2
  refine ⟨⟨_, _, _, _, e1⟩, wpAny_call (codeAny_mono (L.run X.A X.stack s2 H2 f c pm ctv u1 v Q hr I2.env0 e1 e2 ru hsp) fun r s' hq => ?_)⟩
  cases r with
  | error er => exact (pass0 (X := X) pins σ _ _ er s' I2 hq)
  | ok fl =>
    cases fl with
    | ret u => exact I2.after hq
    | next => exact False.elim hq
    | brk => exact False.elim hq
    | cont => exact False.elim hq
end
end X2
set_option Elab.async false
set_option linter.all false
set_option maxRecDepth 100000
set_option maxHeartbeats 4000000
/-! The makers: rows of two like errors, a lambda that reads the fields, the fields due. -/
namespace X4
open PySem L2 X1 X2
abbrev Row := Str × List Str
def Lf : List Str → List V → List (Str × V)
  | [f] => L1 f
  | [f, g] => L2' f g
  | _ => fun _ => []
def dueOf : List Str → V → V → List V
  | [_], x, _ => [x]
  | [_, _], x, y => [x, y]
  | _, _, _ => []
/-- an error class with fields fs: all that is asked of it -/
structure Kind (P : Program) (w : World) (K : PySem.W.Frag) (mg : Str → Option Value) (base : Heap) (c : Str) (fs : List Str) (C : Addr) : Prop where
  ex : ∃ fI fd, Err P w K mg base c C fs (Lf fs) fI fd ∧ Binds K fd (("self" : Str) :: fs) [] ∧
    ∀ (s : Shared) (a : Addr) (ws : List Value), K.In s.heap → ws.length = fs.reverse.length → BindsTo s fd ⟨[.ref a], fs.reverse.zip ws⟩ ((("self" : Str) :: fs).zip (.ref a :: ws.reverse))
  xf : XfC K C
  ec : ExcC K C
  no : ∀ f ∈ fs, PySem.W.findIn K (.ref C) f = some none
/-- the lambda's worth: the fields of the error, in a new list -/
def spFld (K : PySem.W.Frag) (C : Addr) (fs : List Str) : SpL := fun v H Q => ∃ (a : Addr) (L : List (Str × V)) (vs : List V), v = .ref a ∧ ExcAt H a C L ∧ (fs.map fun f => L.lookup f) = vs.map some ∧ ∀ d, H d = none → Q (.ref d) (upd H d (.lst vs))
def lamSc : Scope := { kind := .function, names := [("e", .local)], isGenerator := false, isCoroutine := false }
def lamPs (p : Pos) : Arguments := { posonlyargs := [], args := [{ arg := "e", annotation := none, pos := p }], vararg := none, kwonlyargs := [], kw_defaults := [], kwarg := none, defaults := [] }
theorem len2 {α : Type} {l : List α} (h : l.length = 2) : ∃ a b, l = [a, b] := by
  rcases l with _ | ⟨a, _ | ⟨b, _ | ⟨c, r⟩⟩⟩
  · cases h
  · cases h
  · exact ⟨a, b, rfl⟩
  · simp at h
theorem vals_reverse : ∀ {xs : List V} {us : List Value}, Vals xs us → Vals xs.reverse us.reverse
  | _, _, .nil => .nil
  | _, _, .cons r t => by
    rw [List.reverse_cons, List.reverse_cons]
    exact (vals_reverse t).append (.cons r .nil)
theorem paired_snoc {α β : Type} {R : α → β → Prop} {a : α} {b : β} (h : R a b) : ∀ {xs : List α} {ys : List β}, Paired R xs ys → Paired R (xs ++ [a]) (ys ++ [b])
  | _, _, .nil => .cons h .nil
  | _, _, .cons r t => .cons r (paired_snoc h t)
theorem paired_mono {α β : Type} {R S : α → β → Prop} (h : ∀ a b, R a b → S a b) : ∀ {xs : List α} {ys : List β}, Paired R xs ys → Paired S xs ys
  | _, _, .nil => .nil
  | _, _, .cons r t => .cons (h _ _ r) (paired_mono h t)
theorem exo_nt {e C : Addr} {d : Option Addr} (ps : Array Value) : exo e C d ≠ .tbl ps := fun z => nomatch (show HO.ext _ = HO.tbl ps from z)
theorem exo_nl {e C : Addr} {d : Option Addr} (ps : List V) : exo e C d ≠ .lst ps := fun z => nomatch (show HO.ext _ = HO.lst ps from z)
theorem exd_nt {d : Addr} {L : List (Str × V)} (ps : Array Value) : exd d L ≠ .tbl ps := fun z => nomatch (show HO.ext _ = HO.tbl ps from z)
theorem exd_nl {d : Addr} {L : List (Str × V)} (ps : List V) : exd d L ≠ .lst ps := fun z => nomatch (show HO.ext _ = HO.lst ps from z)
theorem scLam : FnScope ["e"] ["e"] lamSc := ⟨rfl, rfl, rfl, by decide, rfl, by decide, by decide⟩
/-- what a row is, behind its making -/
def RowAt (P : Program) (w : World) (K : PySem.W.Frag) (mg : Str → Option Value) (base : Heap) (q : Str) (F : Addr) (x y : V) (H : Hp) (r : Row) (v : V) : Prop :=
  ∃ (t m tw l d C : Addr) (ps : Arguments) (body : Expr), v = .ref t ∧ H t = some (.tup [.ref m, .ref tw, .ref l, .ref d]) ∧ mg r.1 = some (.ref C) ∧ ExcAt H m C (Lf r.2 (dueOf r.2 x y)) ∧ ExcAt H tw C (Lf r.2 (dueOf r.2 x y)) ∧
    LamAt H l (lamQ q) ps body lamSc ∧ LamOk P w K mg base 1 (lamQ q) ps body lamSc (spFld K C r.2) ∧ H d = some (.lst (dueOf r.2 x y)) ∧ d ≠ F
theorem RowAt.up {P : Program} {w : World} {K : PySem.W.Frag} {mg : Str → Option Value} {base : Heap} {q : Str} {F Pt : Addr} {x y : V} {H H' : Hp} {r : Row} {v : V} (h : RowAt P w K mg base q F x y H r v)
    (hP : ∃ ps, H Pt = some (.tbl ps)) (hF : ∃ ts, H F = some (.lst ts)) (k : ∀ b o, b ≠ Pt → b ≠ F → H b = some o → H' b = some o) : RowAt P w K mg base q F x y H' r v := by
  obtain ⟨t, m, tw, l, d, C, ps, body, e, h1, h2, h3, h4, h5, h6, h7, h8⟩ := h
  obtain ⟨tp, hP⟩ := hP
  obtain ⟨ts, hF⟩ := hF
  have kx : ∀ b o, (∀ ps, o ≠ .tbl ps) → (∀ ps, o ≠ .lst ps) → H b = some o → H' b = some o := fun b o n1 n2 e => k b o (fun z => by rw [z, hP] at e; exact n1 _ (Option.some.inj e).symm) (fun z => by rw [z, hF] at e; exact n2 _ (Option.some.inj e).symm) e
  have ke : ∀ {a : Addr} {L : List (Str × V)}, ExcAt H a C L → ExcAt H' a C L := fun {a L} ⟨d, a1, a2⟩ => ⟨d, kx _ _ (fun _ z => nomatch z) (fun _ z => nomatch z) a1, kx _ _ (fun _ z => nomatch z) (fun _ z => nomatch z) a2⟩
  have kl : LamAt H' l (lamQ q) ps body lamSc := by
    obtain ⟨c, c1, c2⟩ := h5
    exact ⟨c, kx _ _ (fun _ z => nomatch z) (fun _ z => nomatch z) c1, kx _ _ LamX.codeO_ne (fun _ z => nomatch z) c2⟩
  exact ⟨t, m, tw, l, d, C, ps, body, e, kx _ _ (fun _ z => nomatch z) (fun _ z => nomatch z) h1, h2, ke h3, ke h4, kl, h6, k _ _ (fun z => by rw [z, hP] at h7; cases h7) h8 h7, h8⟩
/-- so much is made: the rows done stand in the list at F -/
def MkAt (P : Program) (w : World) (K : PySem.W.Frag) (mg : Str → Option Value) (base : Heap) (q : Str) (Pt F : Addr) (x y : V) (H0 : Hp) (done : List Row) (H : Hp) : Prop :=
  ∃ ts, H F = some (.lst ts) ∧ Paired (RowAt P w K mg base q F x y H) done ts ∧ LamX.TabS H Pt (lamQ q) ∧ (∀ b o, b ≠ Pt → H0 b = some o → H b = some o) ∧ H0 F = none
section
variable {X : Cx} {c : Str} {f g : Str} {C Pt cc : Addr} {x y : V} {q : Str}
/-- the lambda for one field -/
theorem lamOk1 {P : Program} {w : World} {K : PySem.W.Frag} {mg : Str → Option Value} {base : Heap} (xf : XfC K C) (no : PySem.W.findIn K (.ref C) f = some none) (p1 p2 p3 p4 : Pos) : LamOk P w K mg base 1 q (lamPs p1) (.List [.Attribute (.Name "e" p2) f p3] p4) lamSc (spFld K C [f]) := by
  refine lamOk_of (N := ["e"]) (x := "e") (k := 0) scLam (fun _ _ _ _ => rfl) fun A outer s H fa cv v Q hr h => ?_
  obtain ⟨a, L, vs, rfl, ea, el, k⟩ := h
  refine ⟨_, pe_lst (pa_cons (pe_exf (pe_var (i := 0) rfl (.inl rfl))) pa_nil), ?_⟩
  obtain ⟨v0, rfl⟩ : ∃ v0, vs = [v0] := by
    have z := congrArg List.length el
    exact List.length_eq_one_iff.mp (by simpa using z.symm)
  have e0 : L.lookup f = some v0 := by simpa using el
  exact ⟨_, rfl, a, C, L, v0, rfl, ea, xf, no, e0, (show 1 ≤ sizeLine by decide), k⟩
theorem lamOk2 {P : Program} {w : World} {K : PySem.W.Frag} {mg : Str → Option Value} {base : Heap} (xf : XfC K C) (no : PySem.W.findIn K (.ref C) f = some none) (no2 : PySem.W.findIn K (.ref C) g = some none) (p1 p2 p3 p4 p5 p6 : Pos) :
    LamOk P w K mg base 1 q (lamPs p1) (.List [.Attribute (.Name "e" p2) f p3, .Attribute (.Name "e" p4) g p5] p6) lamSc (spFld K C [f, g]) := by
  refine lamOk_of (N := ["e"]) (x := "e") (k := 0) scLam (fun _ _ _ _ => rfl) fun A outer s H fa cv v Q hr h => ?_
  obtain ⟨a, L, vs, rfl, ea, el, k⟩ := h
  refine ⟨_, pe_lst (pa_cons (pe_exf (pe_var (i := 0) rfl (.inl rfl))) (pa_cons (pe_exf (pe_var (i := 0) rfl (.inl rfl))) pa_nil)), ?_⟩
  obtain ⟨v0, v1, rfl⟩ : ∃ v0 v1, vs = [v0, v1] := by
    have z := congrArg List.length el
    exact len2 (by simpa using z.symm)
  have e0 : L.lookup f = some v0 ∧ L.lookup g = some v1 := by simpa using el
  exact ⟨_, rfl, a, C, L, v0, rfl, ea, xf, no, e0.1, _, rfl, a, C, L, v1, rfl, ea, xf, no2, e0.2, (show 2 ≤ sizeLine by decide), k⟩
/-- the statement of a row of one field -/
def row1 (c f : Str) (p0 p1 p2 p3 p4 p5 p6 p7 p8 p9 p10 p11 p12 p13 p14 p15 p16 p17 p18 : Pos) : Stmt :=
  .Expr (.Call (.Attribute (.Name "found" p0) "append" p1) [.Tuple [.Call (.Name c p2) [.Name "x" p3] [] p4, .Call (.Name c p5) [] [⟨some f, .Name "x" p6, p7⟩] p8, .Lambda (lamPs p9) (.List [.Attribute (.Name "e" p10) f p11] p12) lamSc p13, .List [.Name "x" p14] p15] 0 p16] [] p17) p18
/-- where the maker stands -/
structure InMk (X : Cx) (cc Pt : Addr) : Prop where
  n0 : X.N[0]? = some ("x" : Str)
  n1 : X.N[1]? = some ("y" : Str)
  n2 : X.N[2]? = some ("found" : Str)
  v0 : Vis X.env.scope "x"
  v1 : Vis X.env.scope "y"
  v2 : Vis X.env.scope "found"
  tb : LamX.TabB X.base X.mg cc Pt
  code : X.env.code = .ref cc
  clo : closureFor lamSc X.env = pure []
  hr : Room 2 X.A
theorem row_end {P : Program} {w : World} {K : PySem.W.Frag} {mg : Str → Option Value} {base : Heap} {F m tw l d t : Addr} {H0 H H1 H2 H3 : Hp} {done : List Row} {r : Row} {ps : Arguments} {body : Expr} (mk : MkAt P w K mg base q Pt F x y H0 done H) (hl : done.length ≤ 100)
    (e1 : ∀ b o, H b = some o → H1 b = some o) (a1 : ExcAt H1 m C (Lf r.2 (dueOf r.2 x y))) (e2 : ∀ b o, H1 b = some o → H2 b = some o) (a2 : ExcAt H2 tw C (Lf r.2 (dueOf r.2 x y))) (e3 : ∀ b o, b ≠ Pt → H2 b = some o → H3 b = some o)
    (t3 : LamX.TabS H3 Pt (lamQ q)) (l3 : LamAt H3 l (lamQ q) ps body lamSc) (lo : LamOk P w K mg base 1 (lamQ q) ps body lamSc (spFld K C r.2)) (nd : H3 d = none) (nt : upd H3 d (.lst (dueOf r.2 x y)) t = none) (gC : mg r.1 = some (.ref C)) :
    ∃ ts, upd (upd H3 d (.lst (dueOf r.2 x y))) t (.tup [.ref m, .ref tw, .ref l, .ref d]) F = some (.lst ts) ∧ ts.length < sizeLine ∧
      MkAt P w K mg base q Pt F x y H0 (done ++ [r]) (upd (upd (upd H3 d (.lst (dueOf r.2 x y))) t (.tup [.ref m, .ref tw, .ref l, .ref d])) F (.lst (ts ++ [.ref t]))) := by
  obtain ⟨ts, hF, pr, tb, fr, nF⟩ := mk
  have hPt : ∃ ps, H Pt = some (.tbl ps) := by
    obtain ⟨ps, z, _⟩ := tb
    exact ⟨ps, z⟩
  obtain ⟨tps, hPt'⟩ := hPt
  have hP2 : H2 Pt = some (.tbl tps) := e2 _ _ (e1 _ _ hPt')
  have k3 : ∀ b o, b ≠ Pt → H b = some o → H3 b = some o := fun b o hb e => e3 b o hb (e2 _ _ (e1 _ _ e))
  have FP : F ≠ Pt := fun z => by
    rw [z, hPt'] at hF
    cases hF
  have hF3 : H3 F = some (.lst ts) := k3 _ _ FP hF
  have dF : d ≠ F := (ne_of_none hF3 nd).symm
  have dt : d ≠ t := ne_of_none upd_same nt
  have nt3 : H3 t = none := by
    rw [upd_ne dt.symm] at nt
    exact nt
  have tF : F ≠ t := ne_of_none hF3 nt3
  have k5 : ∀ b o, H3 b = some o → upd (upd H3 d (.lst (dueOf r.2 x y))) t (.tup [.ref m, .ref tw, .ref l, .ref d]) b = some o := fun b o e => by
    rw [upd_ne (ne_of_none e nt3), upd_ne (ne_of_none e nd)]
    exact e
  have k6 : ∀ b o, b ≠ F → H3 b = some o → upd (upd (upd H3 d (.lst (dueOf r.2 x y))) t (.tup [.ref m, .ref tw, .ref l, .ref d])) F (.lst (ts ++ [.ref t])) b = some o := fun b o hb e => by
    rw [upd_ne hb]
    exact k5 b o e
  have xF : ∀ {H' : Hp} {a : Addr} {L : List (Str × V)} (_ : ∀ b o, b ≠ Pt → H' b = some o → H3 b = some o) (_ : H' Pt = some (.tbl tps)), ExcAt H' a C L → ExcAt (upd (upd (upd H3 d (.lst (dueOf r.2 x y))) t (.tup [.ref m, .ref tw, .ref l, .ref d])) F (.lst (ts ++ [.ref t]))) a C L := fun {H' a L} hh hp ⟨dd, z1, z2⟩ => by
    have nP : ∀ b o, (∀ ps, o ≠ .tbl ps) → (∀ ps, o ≠ .lst ps) → H' b = some o → H3 b = some o ∧ b ≠ F := fun b o n1 n2 e => by
      have z3 := hh b o (fun z => by rw [z, hp] at e; exact n1 _ (Option.some.inj e).symm) e
      exact ⟨z3, fun z => by rw [z, hF3] at z3; exact n2 _ (Option.some.inj z3).symm⟩
    have q1 := nP _ _ exo_nt exo_nl z1
    have q2 := nP _ _ exd_nt exd_nl z2
    exact ⟨dd, k6 _ _ q1.2 q1.1, k6 _ _ q2.2 q2.1⟩
  refine ⟨ts, k5 _ _ hF3, ?_, ts ++ [.ref t], upd_same, paired_snoc ?_ (paired_mono (fun a b h => ?_) pr), ?_, fun b o hb e => ?_, nF⟩
  · have z := Paired.length pr
    exact Nat.lt_of_le_of_lt (show ts.length ≤ 100 by omega) (by decide)
  · refine ⟨t, m, tw, l, d, C, ps, body, rfl, ?_, gC, xF (fun b o hb e => e3 b o hb (e2 _ _ e)) (e1 _ _ hPt') a1, xF e3 hP2 a2, ?_, lo, ?_, dF⟩
    · rw [upd_ne tF.symm, upd_same]
    · obtain ⟨c, c1, c2⟩ := l3
      refine ⟨c, k6 _ _ (fun z => ?_) c1, k6 _ _ (fun z => ?_) c2⟩
      · rw [z, hF3] at c1
        cases c1
      · rw [z, hF3] at c2
        cases c2
    · rw [upd_ne dF, upd_ne dt, upd_same]
  · exact h.up ⟨tps, hPt'⟩ ⟨ts, hF⟩ fun b o b1 b2 e => k6 b o b2 (k3 b o b1 e)
  · obtain ⟨ps3, z1, z2, z3⟩ := t3
    refine ⟨ps3, k6 _ _ FP.symm z1, z2, fun pos cv hc => ?_⟩
    obtain ⟨c, c1, c2⟩ := z3 pos cv hc
    refine ⟨c, c1, k6 _ _ (fun z => ?_) c2⟩
    rw [z, hF3] at c2
    cases c2
  · exact k6 b o (fun z => by rw [z, nF] at e; cases e) (k3 b o hb (fr b o hb e))
def tRow (X : Cx) (Pt F : Addr) (x y : V) (H0 : Hp) (r : Row) : TS := fun D σ H => σ = [some x, some y, some (.ref F)] ∧ ∃ done, done.length ≤ 100 ∧ MkAt X.prog X.w X.K X.mg X.base X.env.qual Pt F x y H0 done H ∧
  ∀ H', MkAt X.prog X.w X.K X.mg X.base X.env.qual Pt F x y H0 (done ++ [r]) H' → D.nx σ H'
theorem ps_row1 {F : Addr} {H0 : Hp} (M : InMk X cc Pt) (B : Kind X.prog X.w X.K X.mg X.base c [f] C) (hg : Gl X c) (hd : (c == ("__debug__" : Str)) = false) (p0 p1 p2 p3 p4 p5 p6 p7 p8 p9 p10 p11 p12 p13 p14 p15 p16 p17 p18 : Pos) (hp : (p1.endLine == p17.line) = true) :
    PS X (row1 c f p0 p1 p2 p3 p4 p5 p6 p7 p8 p9 p10 p11 p12 p13 p14 p15 p16 p17 p18) (tRow X Pt F x y H0 (c, [f])) := by
  obtain ⟨fI, fd, T, b1, b2⟩ := B.ex
  have px : ∀ p, PE X (.Name "x" p) (tVar 0) := fun p => pe_var M.n0 M.v0
  have pf : ∀ p, PE X (.Name "found" p) (tVar 2) := fun p => pe_var M.n2 M.v2
  have h := ps_expr (X := X) (pos := p18) (pe_bm PySem.F.plainAttrs_list PySem.F.slot_list_append PySem.F.type_list_append mt_append (apos := p1) (cpos := p17) (pf p0)
    (pa_cons (pe_tup (x1 := 0) (pos := p16) (pa_cons (pe_err (p := p2) (pos := p4) T b1 M.hr (by simp) (pa_cons (px p3) pa_nil) hg hd)
      (pa_cons (pe_errK (p := p5) (pos := p8) (ks := [f]) (g := List.reverse) T M.hr b2 (fun _ r => vals_reverse r) (fun h => by simpa using h) (pk_cons (nm := some f) (kpos := p7) (px p6) pk_nil) rfl rfl hg hd)
      (pa_cons (pe_lamV (params := lamPs p9) (body := .List [.Attribute (.Name "e" p10) f p11] p12) (scope := lamSc) (pos := p13) M.tb M.code rfl M.clo) (pa_cons (pe_lst (pos := p15) (pa_cons (px p14) pa_nil)) pa_nil))))) pa_nil) rfl rfl hp)
  refine ⟨fun pins s σ H D I ht => h.run pins s σ H D I ?_⟩
  obtain ⟨rfl, done, hl, mk, k⟩ := ht
  have hF : ∃ ts, H F = some (.lst ts) := ⟨_, mk.choose_spec.1⟩
  obtain ⟨ts, hF⟩ := hF
  refine ⟨_, rfl, .inl ⟨rfl, _, SqL.of hF⟩, _, rfl, rfl, fun m H1 n1 e1 a1 => ?_⟩
  refine ⟨_, rfl, rfl, fun tw H2 n2 e2 a2 => ?_⟩
  obtain ⟨_, _, _, tb, _⟩ := id mk
  refine ⟨(tb.ext e1).ext e2, fun l H3 n3 e3 t3 l3 => ⟨_, rfl, (show 1 ≤ sizeLine by decide), fun d nd => ⟨(show 4 ≤ sizeLine by decide), fun t nt => ?_⟩⟩⟩
  obtain ⟨ts', z1, z2, z3⟩ := row_end (C := C) (r := (c, [f])) (tw := tw) mk hl e1 a1 e2 a2 e3 t3 l3 (lamOk1 B.xf (B.no f (by simp)) _ _ _ _) nd nt T.gC
  exact ⟨F, ts', _, rfl, rfl, z1, z2, k _ z3⟩
/-- .. of two -/
def row2 (c f g : Str) (p0 p1 p2 p3 p4 p5 p6 p7 p8 p9 p10 p11 p12 p13 p14 p15 p16 p17 p18 r1 r2 r3 r4 r5 r6 : Pos) : Stmt :=
  .Expr (.Call (.Attribute (.Name "found" p0) "append" p1) [.Tuple [.Call (.Name c p2) [.Name "x" p3, .Name "y" r1] [] p4, .Call (.Name c p5) [] [⟨some g, .Name "y" r2, r3⟩, ⟨some f, .Name "x" p6, p7⟩] p8,
    .Lambda (lamPs p9) (.List [.Attribute (.Name "e" p10) f p11, .Attribute (.Name "e" r4) g r5] p12) lamSc p13, .List [.Name "x" p14, .Name "y" r6] p15] 0 p16] [] p17) p18
theorem ps_row2 {F : Addr} {H0 : Hp} (M : InMk X cc Pt) (B : Kind X.prog X.w X.K X.mg X.base c [f, g] C) (hg : Gl X c) (hd : (c == ("__debug__" : Str)) = false) (p0 p1 p2 p3 p4 p5 p6 p7 p8 p9 p10 p11 p12 p13 p14 p15 p16 p17 p18 r1 r2 r3 r4 r5 r6 : Pos) (hp : (p1.endLine == p17.line) = true) :
    PS X (row2 c f g p0 p1 p2 p3 p4 p5 p6 p7 p8 p9 p10 p11 p12 p13 p14 p15 p16 p17 p18 r1 r2 r3 r4 r5 r6) (tRow X Pt F x y H0 (c, [f, g])) := by
  obtain ⟨fI, fd, T, b1, b2⟩ := B.ex
  have px : ∀ p, PE X (.Name "x" p) (tVar 0) := fun p => pe_var M.n0 M.v0
  have py : ∀ p, PE X (.Name "y" p) (tVar 1) := fun p => pe_var M.n1 M.v1
  have pf : ∀ p, PE X (.Name "found" p) (tVar 2) := fun p => pe_var M.n2 M.v2
  have h := ps_expr (X := X) (pos := p18) (pe_bm PySem.F.plainAttrs_list PySem.F.slot_list_append PySem.F.type_list_append mt_append (apos := p1) (cpos := p17) (pf p0)
    (pa_cons (pe_tup (x1 := 0) (pos := p16) (pa_cons (pe_err (p := p2) (pos := p4) T b1 M.hr (by simp) (pa_cons (px p3) (pa_cons (py r1) pa_nil)) hg hd)
      (pa_cons (pe_errK (p := p5) (pos := p8) (ks := [g, f]) (g := List.reverse) T M.hr b2 (fun _ r => vals_reverse r) (fun h => by simpa using h) (pk_cons (nm := some g) (kpos := r3) (py r2) (pk_cons (nm := some f) (kpos := p7) (px p6) pk_nil)) rfl rfl hg hd)
      (pa_cons (pe_lamV (params := lamPs p9) (body := .List [.Attribute (.Name "e" p10) f p11, .Attribute (.Name "e" r4) g r5] p12) (scope := lamSc) (pos := p13) M.tb M.code rfl M.clo) (pa_cons (pe_lst (pos := p15) (pa_cons (px p14) (pa_cons (py r6) pa_nil))) pa_nil))))) pa_nil) rfl rfl hp)
  refine ⟨fun pins s σ H D I ht => h.run pins s σ H D I ?_⟩
  obtain ⟨rfl, done, hl, mk, k⟩ := ht
  have hF : ∃ ts, H F = some (.lst ts) := ⟨_, mk.choose_spec.1⟩
  obtain ⟨ts, hF⟩ := hF
  refine ⟨_, rfl, .inl ⟨rfl, _, SqL.of hF⟩, _, rfl, _, rfl, rfl, fun m H1 n1 e1 a1 => ?_⟩
  refine ⟨_, rfl, _, rfl, rfl, fun tw H2 n2 e2 a2 => ?_⟩
  obtain ⟨_, _, _, tb, _⟩ := id mk
  refine ⟨(tb.ext e1).ext e2, fun l H3 n3 e3 t3 l3 => ⟨_, rfl, _, rfl, (show 2 ≤ sizeLine by decide), fun d nd => ⟨(show 4 ≤ sizeLine by decide), fun t nt => ?_⟩⟩⟩
  obtain ⟨ts', z1, z2, z3⟩ := row_end (C := C) (r := (c, [f, g])) (tw := tw) mk hl e1 a1 e2 a2 e3 t3 l3 (lamOk2 B.xf (B.no f (by simp)) (B.no g (by simp)) _ _ _ _ _ _) nd nt T.gC
  exact ⟨F, ts', _, rfl, rfl, z1, z2, k _ z3⟩
end
end X4
set_option Elab.async false
set_option linter.all false
set_option maxRecDepth 100000
set_option maxHeartbeats 1000000
/-! A maker as a whole; the kinds of an error told one by one. -/
namespace X4
open PySem L2 X1 X2
/-- a statement that appends the row r -/
inductive IsRow : Stmt → Row → Prop
  | one {c f : Str} (p0 p1 p2 p3 p4 p5 p6 p7 p8 p9 p10 p11 p12 p13 p14 p15 p16 p17 p18 : Pos) (hp : (p1.endLine == p17.line) = true) : IsRow (row1 c f p0 p1 p2 p3 p4 p5 p6 p7 p8 p9 p10 p11 p12 p13 p14 p15 p16 p17 p18) (c, [f])
  | two {c f g : Str} (p0 p1 p2 p3 p4 p5 p6 p7 p8 p9 p10 p11 p12 p13 p14 p15 p16 p17 p18 r1 r2 r3 r4 r5 r6 : Pos) (hp : (p1.endLine == p17.line) = true) : IsRow (row2 c f g p0 p1 p2 p3 p4 p5 p6 p7 p8 p9 p10 p11 p12 p13 p14 p15 p16 p17 p18 r1 r2 r3 r4 r5 r6) (c, [f, g])
/-- a class name of the text, of use where the maker stands -/
structure Known (P : Program) (w : World) (K : PySem.W.Frag) (mg : Str → Option Value) (base : Heap) (sc : Scope) (r : Row) : Prop where
  ki : ∃ C, Kind P w K mg base r.1 r.2 C
  gl : sc.names.lookup r.1 = some .globalImplicit
  nd : (r.1 == ("__debug__" : Str)) = false
section
variable {X : Cx} {cc Pt F : Addr} {x y : V} {H0 : Hp}
theorem ps_row (M : InMk X cc Pt) {st : Stmt} {r : Row} (h : IsRow st r) (k : Known X.prog X.w X.K X.mg X.base X.env.scope r) : PS X st (tRow X Pt F x y H0 r) := by
  obtain ⟨C, B⟩ := k.ki
  cases h with
  | one _ _ _ _ _ _ _ _ _ _ _ _ _ _ _ _ _ _ _ hp => exact ps_row1 M B k.gl k.nd _ _ _ _ _ _ _ _ _ _ _ _ _ _ _ _ _ _ _ hp
  | two _ _ _ _ _ _ _ _ _ _ _ _ _ _ _ _ _ _ _ _ _ _ _ _ _ hp => exact ps_row2 M B k.gl k.nd _ _ _ _ _ _ _ _ _ _ _ _ _ _ _ _ _ _ _ _ _ _ _ _ _ hp
/-- all the rows, then the rest -/
theorem pss_rows (M : InMk X cc Pt) {rest : List Stmt} {tr : TS} (hr : PSs X rest tr) : ∀ {sts : List Stmt} {rows : List Row}, Paired IsRow sts rows → (∀ r ∈ rows, Known X.prog X.w X.K X.mg X.base X.env.scope r) →
    PSs X (sts ++ rest) (fun D σ H => σ = [some x, some y, some (.ref F)] ∧ ∃ done, done.length + rows.length ≤ 100 ∧ MkAt X.prog X.w X.K X.mg X.base X.env.qual Pt F x y H0 done H ∧
      ∀ H', MkAt X.prog X.w X.K X.mg X.base X.env.qual Pt F x y H0 (done ++ rows) H' → tr D σ H')
  | _, _, .nil, _ => ⟨fun pins s σ H D I ⟨_, done, _, mk, k⟩ => hr.run pins s σ H D I (k H (by rw [List.append_nil]; exact mk))⟩
  | st :: sts, r :: rows, .cons h t, hk => by
    have h1 := ps_row (F := F) (x := x) (y := y) (H0 := H0) M h (hk r List.mem_cons_self)
    have h2 := pss_rows M hr t fun r' hr' => hk r' (List.mem_cons_of_mem _ hr')
    refine ⟨fun pins s σ H D I ht => (pss_cons h1 h2).run pins s σ H D I ?_⟩
    obtain ⟨rfl, done, hl, mk, k⟩ := ht
    rw [List.length_cons] at hl
    exact ⟨rfl, done, by omega, mk, fun H' mk' => ⟨rfl, done ++ [r], by rw [List.length_append, List.length_singleton]; omega, mk', fun H2 mk2 => k H2 (by rw [List.append_assoc] at mk2; exact mk2)⟩⟩
end
abbrev inQ (q : Str) : Str := q ++ ".<locals>."
/-- what a maker gives -/
def spMk (P : Program) (w : World) (K : PySem.W.Frag) (mg : Str → Option Value) (base : Heap) (q : Str) (Pt : Addr) (rows : List Row) : Sp := fun vs H Q _ => ∃ x y, vs = [x, y] ∧ LamX.TabS H Pt (lamQ (inQ q)) ∧
  ∀ (H' : Hp) (F : Addr), MkAt P w K mg base (inQ q) Pt F x y H rows H' → Q (.ref F) H'
/-- the text of a maker -/
structure MkText (st : Stmt) (rows : List Row) : Prop where
  body : ∃ (a1 a2 a3 a4 a5 : Pos) (sts : List Stmt), defBody st = .Assign [.Name "found" a1] (.List [] a2) a3 :: (sts ++ [.Return (some (.Name "found" a4)) a5]) ∧ Paired IsRow sts rows
  sc : FnScope ["x", "y", "found"] ["x", "y"] (defScope st)
  l0 : (defScope st).names.lookup ("x" : Str) = some .local
  l1 : (defScope st).names.lookup ("y" : Str) = some .local
  l2 : (defScope st).names.lookup ("found" : Str) = some .local
  len : rows.length ≤ 100
theorem ok_mk {P : Program} {w : World} {K : PySem.W.Frag} {mg : Str → Option Value} {base : Heap} {q : Str} {st : Stmt} {rows : List Row} {f cc Pt : Addr} {fd : FuncData} (F : Fun K q q st f fd) (hc : fd.code = .ref cc) (T : MkText st rows) (TB : LamX.TabB base mg cc Pt)
    (hk : ∀ r ∈ rows, Known P w K mg base (defScope st) r) : FnOk P w K mg base CX0 3 f fd ["x", "y"] (spMk P w K mg base q Pt rows) := by
  obtain ⟨oc, od, kV, doc, pm, an, cdv, ct, osl, rfl, lk, hcd⟩ := F.ex
  have e : cdv = .ref cc := hc
  subst e
  refine fn_of lk hcd T.sc (fun vs H Q E h => ?_) fun A outer s H vs Q E hr h => ?_
  · obtain ⟨x, y, rfl, _⟩ := h
    rfl
  · obtain ⟨x, y, rfl, tb, k⟩ := h
    obtain ⟨a1, a2, a3, a4, a5, sts, eb, pr⟩ := T.body
    rw [eb]
    have rest : PSs (cxOf CX0 P w K mg base ["x", "y", "found"] q (defScope st) f (.ref cc) A outer s H E) (sts ++ [.Return (some (.Name "found" a4)) a5])
        (fun D σ H1 => ∃ F, σ = [some x, some y, some (.ref F)] ∧ MkAt P w K mg base (inQ q) Pt F x y H [] H1 ∧ ∀ H2, MkAt P w K mg base (inQ q) Pt F x y H rows H2 → D.rt (.ref F) H2) := by
      refine ⟨fun pins s' σ H1 D I ht => ?_⟩
      obtain ⟨Fa, e1, mk, k'⟩ := ht
      have M : InMk (cxOf CX0 P w K mg base ["x", "y", "found"] q (defScope st) f (.ref cc) A outer s H E) cc Pt := ⟨rfl, rfl, rfl, .inl T.l0, .inl T.l1, .inl T.l2, TB, rfl, rfl, hr⟩
      have pr1 : PSs (cxOf CX0 P w K mg base ["x", "y", "found"] q (defScope st) f (.ref cc) A outer s H E) [.Return (some (.Name "found" a4)) a5] _ := pss_one (ps_ret (pe_var (i := 2) M.n2 M.v2))
      have r2 := pss_rows (F := Fa) (x := x) (y := y) (H0 := H) M pr1 pr hk
      have l0 : ([] : List Row).length + rows.length ≤ 100 := by rw [List.length_nil, Nat.zero_add]; exact T.len
      refine r2.run pins s' σ H1 D I ⟨e1, [], l0, mk, fun H2 mk2 => ?_⟩
      subst e1
      exact ⟨_, rfl, k' H2 mk2⟩
    refine ⟨_, pss_cons (ps_set (i := 2) T.sc.nd rfl (.inl T.l2) (pe_lst pa_nil) rfl (.inr T.l2)) rest, ?_⟩
    refine ⟨Nat.zero_le _, fun Fa nF => ?_⟩
    refine ⟨Fa, rfl, ⟨[], upd_same, .nil, ?_, fun b o hb e => ?_, nF⟩, fun H2 mk2 => k H2 Fa mk2⟩
    · exact tb.ext fun b o e => by
        rw [upd_ne (ne_of_none e nF)]
        exact e
    · rw [upd_ne (ne_of_none e nF)]
      exact e
end X4
set_option Elab.async false
set_option linter.all false
set_option maxRecDepth 100000
set_option maxHeartbeats 1000000
/-! The kinds of an error, told name by name. -/
namespace X4
open PySem L2 X1 X2
/-- found = found + [isinstance(e, c1), isinstance(e, c2)] -/
def kn2 (c1 c2 : Str) (p0 p1 p2 p3 p4 p5 p6 p7 p8 p9 p10 p11 p12 : Pos) : Stmt :=
  .Assign [.Name "found" p0] (.BinOp (.Name "found" p1) .Add (.List [.Call (.Name "isinstance" p2) [.Name "e" p3, .Name c1 p4] [] p5, .Call (.Name "isinstance" p6) [.Name "e" p7, .Name c2 p8] [] p9] p10) p11) p12
inductive IsKn : Stmt → Str × Str → Prop
  | mk {c1 c2 : Str} (p0 p1 p2 p3 p4 p5 p6 p7 p8 p9 p10 p11 p12 : Pos) : IsKn (kn2 c1 c2 p0 p1 p2 p3 p4 p5 p6 p7 p8 p9 p10 p11 p12) (c1, c2)
/-- n is a class of the text, and an error of the class at C is one of it or not -/
def IsOf (K : PySem.W.Frag) (mg : Str → Option Value) (C : Addr) (n : Str) (b : Bool) : Prop := ∃ Cn : Addr, mg n = some (.ref Cn) ∧ PySem.W.kitOne K (.ref C) (.ref Cn) = some b
def KnAt (a F : Addr) (C : Addr) (H0 : Hp) (bs : List Bool) (σ : St) (H : Hp) : Prop := σ = [some (.ref a), some (.ref F)] ∧ ErrAt H a C ∧ H F = some (.lst (bs.map V.bl)) ∧ (∀ b o, H0 b = some o → H b = some o) ∧ H0 F = none
structure KnNm (sc : Scope) (n : Str) : Prop where
  gl : sc.names.lookup n = some .globalImplicit
  nd : (n == ("__debug__" : Str)) = false
theorem nw {H : Hp} {p b : Addr} {o u : HO} (n : H p = none) (e : H b = some u) : upd H p o b = some u := by
  rw [upd_ne (ne_of_none e n)]
  exact e
structure InKn (X : Cx) : Prop where
  n : X.N = (["e", "found"] : List Str)
  v0 : X.env.scope.names.lookup ("e" : Str) = some .local
  v1 : X.env.scope.names.lookup ("found" : Str) = some .local
  g : Gl X "isinstance"
  m : X.mg "isinstance" = none
theorem ErrAt.up {H H' : Hp} {a C : Addr} (h : ErrAt H a C) (k : ∀ b o, H b = some o → H' b = some o) : ErrAt H' a C := by
  rcases h with ⟨L, d, h1, h2⟩ | h
  · exact .inl ⟨L, d, k _ _ h1, k _ _ h2⟩
  · exact .inr (k _ _ h)
section
variable {X : Cx} {a C : Addr} {H0 : Hp}
theorem ps_kn (M : InKn X) (hC : ExcC X.K C) {c1 c2 : Str} {b1 b2 : Bool} (k1 : KnNm X.env.scope c1) (k2 : KnNm X.env.scope c2) (o1 : IsOf X.K X.mg C c1 b1) (o2 : IsOf X.K X.mg C c2 b2) {st : Stmt} (h : IsKn st (c1, c2)) :
    PS X st (fun D σ H => ∃ F bs, KnAt a F C H0 bs σ H ∧ bs.length ≤ 100 ∧ ∀ F' σ' H', KnAt a F' C H0 (bs ++ [b1, b2]) σ' H' → D.nx σ' H') := by
  obtain ⟨C1, m1, e1⟩ := o1
  obtain ⟨C2, m2, e2⟩ := o2
  cases h with
  | mk p0 p1 p2 p3 p4 p5 p6 p7 p8 p9 p10 p11 p12 =>
    have n0 : X.N[0]? = some ("e" : Str) := by rw [M.n] <;> rfl
    have n1 : X.N[1]? = some ("found" : Str) := by rw [M.n] <;> rfl
    have pe : ∀ p, PE X (.Name "e" p) (tVar 0) := fun p => pe_var n0 (.inl M.v0)
    have pf : ∀ p, PE X (.Name "found" p) (tVar 1) := fun p => pe_var n1 (.inl M.v1)
    have q1 : PE X (.Name c1 p4) (tC (.ref C1)) := pe_glob (v := .ref C1) k1.gl m1 rfl k1.nd
    have q2 : PE X (.Name c2 p8) (tC (.ref C2)) := pe_glob (v := .ref C2) k2.gl m2 rfl k2.nd
    have nd : X.N.Nodup := by rw [M.n]; decide
    have h := ps_set (X := X) (pos' := p0) (pos := p12) nd n1 (.inl M.v1) (pe_op (pos := p11) op_cat (pf p1) (pe_lst (pos := p10) (pa_cons (pe_callB (p := p2) (pos := p5) call_isX M.g M.m PyProof.Rows.boot_isinstance (pa_cons (pe p3) (pa_cons q1 pa_nil)))
      (pa_cons (pe_callB (p := p6) (pos := p9) call_isX M.g M.m PyProof.Rows.boot_isinstance (pa_cons (pe p7) (pa_cons q2 pa_nil))) pa_nil)))) rfl (.inr M.v1)
    refine ⟨fun pins s σ H D I ht => h.run pins s σ H D I ?_⟩
    obtain ⟨F, bs, ⟨rfl, ea, hF, ex, nF⟩, hl, k⟩ := ht
    have hF' : ∀ p, H p = none → upd H p (.lst [.bl b1, .bl b2]) F = some (.lst (bs.map V.bl)) := fun p np => nw np hF
    refine ⟨_, rfl, _, rfl, a, C, _, _, b1, rfl, .own C1, ea, hC, e1, _, rfl, a, C, _, _, b2, rfl, .own C2, ea, hC, e2, (show 2 ≤ sizeLine by decide), fun p np => ⟨F, p, bs.map V.bl, [.bl b1, .bl b2], rfl, rfl, hF' p np, upd_same, ?_, fun p2 np2 => ?_⟩⟩
    · rw [List.length_map]
      exact Nat.le_trans (show bs.length + 2 ≤ 102 by omega) (by decide)
    · have e : bs.map V.bl ++ [.bl b1, .bl b2] = (bs ++ [b1, b2]).map V.bl := by rw [List.map_append] <;> rfl
      rw [e]
      have kk : ∀ b o, H b = some o → upd (upd H p (.lst [.bl b1, .bl b2])) p2 (.lst ((bs ++ [b1, b2]).map V.bl)) b = some o := fun b o z => nw np2 (nw np z)
      refine k p2 _ _ ⟨rfl, X4.ErrAt.up ea kk, upd_same, fun b o z => kk b o (ex b o z), ?_⟩
      cases z : H0 p2 with
      | none => rfl
      | some o =>
        have z2 := nw np (o := .lst [.bl b1, .bl b2]) (ex _ _ z)
        rw [np2] at z2
        cases z2
/-- all of them, then the rest -/
theorem pss_kn (M : InKn X) (hC : ExcC X.K C) {rest : List Stmt} {tr : TS} (hr : PSs X rest tr) : ∀ {sts : List Stmt} {ns : List (Str × Str)} {bs : List (Bool × Bool)}, Paired IsKn sts ns → Paired (fun n b => IsOf X.K X.mg C n.1 b.1 ∧ IsOf X.K X.mg C n.2 b.2) ns bs →
    (∀ n ∈ ns, KnNm X.env.scope n.1 ∧ KnNm X.env.scope n.2) →
    PSs X (sts ++ rest) (fun D σ H => ∃ F ds, KnAt a F C H0 ds σ H ∧ ds.length + 2 * ns.length ≤ 100 ∧ ∀ F' σ' H', KnAt a F' C H0 (ds ++ bs.flatMap fun b => [b.1, b.2]) σ' H' → tr D σ' H')
  | _, _, _, .nil, .nil, _ => ⟨fun pins s σ H D I ⟨F, ds, kn, _, k⟩ => hr.run pins s σ H D I (k F σ H (by rw [List.flatMap_nil, List.append_nil]; exact kn))⟩
  | st :: sts, n :: ns, b :: bs, .cons h t, .cons hb tb, hk => by
    have k1 := hk n List.mem_cons_self
    have h1 := ps_kn (a := a) (H0 := H0) M hC k1.1 k1.2 hb.1 hb.2 h
    have h2 := pss_kn M hC hr t tb fun m hm => hk m (List.mem_cons_of_mem _ hm)
    refine ⟨fun pins s σ H D I ht => (pss_cons h1 h2).run pins s σ H D I ?_⟩
    obtain ⟨F, ds, kn, hl, k⟩ := ht
    rw [List.length_cons] at hl
    refine ⟨F, ds, kn, by omega, fun F' σ' H' kn' => ⟨F', ds ++ [b.1, b.2], kn', ?_, fun F2 σ2 H2 kn2 => k F2 σ2 H2 ?_⟩⟩
    · rw [List.length_append]
      show ds.length + 2 + 2 * ns.length ≤ 100
      omega
    · rw [List.append_assoc] at kn2
      exact kn2
end
def spKn (K : PySem.W.Frag) (mg : Str → Option Value) (ns : List (Str × Str)) : Sp := fun vs H Q _ => ∃ (a C : Addr) (bs : List (Bool × Bool)), vs = [.ref a] ∧ ErrAt H a C ∧ ExcC K C ∧ Paired (fun n b => IsOf K mg C n.1 b.1 ∧ IsOf K mg C n.2 b.2) ns bs ∧
  ∀ (H' : Hp) (F : Addr), H F = none → (∀ b o, H b = some o → H' b = some o) → H' F = some (.lst ((bs.flatMap fun b => [b.1, b.2]).map V.bl)) → Q (.ref F) H'
structure KnText (st : Stmt) (ns : List (Str × Str)) : Prop where
  body : ∃ (a1 a2 a3 a4 a5 : Pos) (sts : List Stmt), defBody st = .Assign [.Name "found" a1] (.List [] a2) a3 :: (sts ++ [.Return (some (.Name "found" a4)) a5]) ∧ Paired IsKn sts ns
  sc : FnScope ["e", "found"] ["e"] (defScope st)
  l0 : (defScope st).names.lookup ("e" : Str) = some .local
  l1 : (defScope st).names.lookup ("found" : Str) = some .local
  g : (defScope st).names.lookup ("isinstance" : Str) = some .globalImplicit
  len : ns.length ≤ 50
  nm : ∀ n ∈ ns, KnNm (defScope st) n.1 ∧ KnNm (defScope st) n.2
theorem ok_kn {P : Program} {w : World} {K : PySem.W.Frag} {mg : Str → Option Value} {base : Heap} {q : Str} {st : Stmt} {ns : List (Str × Str)} {f : Addr} {fd : FuncData} (F : Fun K q q st f fd) (T : KnText st ns) (gI : mg "isinstance" = none) :
    FnOk P w K mg base CX0 1 f fd ["e"] (spKn K mg ns) := by
  obtain ⟨oc, od, kV, doc, pm, an, cdv, ct, osl, rfl, lk, hcd⟩ := F.ex
  refine fn_of lk hcd T.sc (fun vs H Q E h => ?_) fun A outer s H vs Q E hr h => ?_
  · obtain ⟨a, C, bs, rfl, _⟩ := h
    rfl
  · obtain ⟨a, C, bs, rfl, ea, hC, hb, k⟩ := h
    obtain ⟨a1, a2, a3, a4, a5, sts, eb, pr⟩ := T.body
    rw [eb]
    have rest : PSs (cxOf CX0 P w K mg base ["e", "found"] q (defScope st) f cdv A outer s H E) (sts ++ [.Return (some (.Name "found" a4)) a5])
        (fun D σ H1 => ∃ F, KnAt a F C H [] σ H1 ∧ ∀ F' H2, H F' = none → (∀ b o, H b = some o → H2 b = some o) → H2 F' = some (.lst ((bs.flatMap fun b => [b.1, b.2]).map V.bl)) → D.rt (.ref F') H2) := by
      refine ⟨fun pins s' σ H1 D I ht => ?_⟩
      obtain ⟨Fa, kn, k'⟩ := ht
      have M : InKn (cxOf CX0 P w K mg base ["e", "found"] q (defScope st) f cdv A outer s H E) := ⟨rfl, T.l0, T.l1, T.g, gI⟩
      have pr1 : PSs (cxOf CX0 P w K mg base ["e", "found"] q (defScope st) f cdv A outer s H E) [.Return (some (.Name "found" a4)) a5] _ := pss_one (ps_ret (pe_var (i := 1) rfl (.inl M.v1)))
      have r2 := pss_kn (a := a) (H0 := H) M hC pr1 pr hb T.nm
      have l0 : ([] : List Bool).length + 2 * ns.length ≤ 100 := by
        have := T.len
        rw [List.length_nil]
        omega
      refine r2.run pins s' σ H1 D I ⟨Fa, [], kn, l0, fun F2 σ2 H2 kn2 => ?_⟩
      obtain ⟨rfl, _, z1, z2, z3⟩ := kn2
      exact ⟨_, rfl, k' F2 H2 z3 z2 z1⟩
    refine ⟨_, pss_cons (ps_set (i := 1) T.sc.nd rfl (.inl T.l1) (pe_lst pa_nil) rfl (.inr T.l1)) rest, ?_⟩
    refine ⟨Nat.zero_le _, fun Fa nF => ?_⟩
    exact ⟨Fa, ⟨rfl, X4.ErrAt.up ea fun b o e => nw nF e, upd_same, fun b o e => nw nF e, nF⟩, fun F' H2 n2 e2 z2 => k H2 F' n2 e2 z2⟩
end X4
set_option Elab.async false
set_option linter.all false
set_option maxRecDepth 100000
set_option maxHeartbeats 1000000
namespace K00
open PySem L2 X1 X2 X4
abbrev s84 : Stmt := tp 84
theorem pair_bl {K : PySem.W.Frag} {H : Hp} : ∀ (bs : List Bool), Paired (EqV K H 1) (bs.map V.bl) (bs.map V.bl)
  | [] => .nil
  | b :: bs => .cons (.inl ⟨rfl, rfl⟩) (pair_bl bs)
abbrev Kns (K : PySem.W.Frag) (mg : Str → Option Value) (C : Addr) (ns : List (Str × Str)) (bs : List (Bool × Bool)) : Prop := Paired (fun n b => IsOf K mg C n.1 b.1 ∧ IsOf K mg C n.2 b.2) ns bs
abbrev fl2 (bs : List (Bool × Bool)) : List Bool := bs.flatMap fun b => [b.1, b.2]
theorem tyes {A B : Hp → Prop} {σ : St} {H : Hp} (h : A H) : tYes σ H (fun b H3 => if b = true then A H3 else B H3) := by
  show if true = true then A H else B H
  rw [if_pos rfl]
  exact h
def rowB (i : Int) (n : Nat) : List Bool := (List.range n).map fun (k : Nat) => decide ((k : Int) = i)
def spOwn (K : PySem.W.Frag) (mg : Str → Option Value) (na nb nc : List (Str × Str)) : Sp := fun vs H Q _ => ∃ (a C : Addr) (i : Int) (ba bb bc : List (Bool × Bool)), vs = [.ref a, .int i] ∧ ErrAt H a C ∧ ExcC K C ∧ IsOf K mg C "TaskError" true ∧
  PySem.W.kitOne K (.ref C) (.type "ValueError") = some true ∧ PySem.W.kitOne K (.ref C) (.type "LookupError") = some false ∧ Kns K mg C na ba ∧ Kns K mg C nb bb ∧ Kns K mg C nc bc ∧ fl2 ba ++ fl2 bb ++ fl2 bc = rowB i 72 ∧
  ∀ H' : Hp, (∀ b o, H b = some o → H' b = some o) → Q (.bl true) H'
theorem sc84 : FnScope ["e", "at", "k"] ["e", "at"] (defScope s84) := ⟨rfl, rfl, rfl, by decide +kernel, rfl, by decide +kernel, by decide +kernel⟩
theorem ok84 {P : Program} {w : World} {K : PySem.W.Frag} {mg : Str → Option Value} {base : Heap} {f fa fb fc : Addr} {fd da db dc : FuncData} {na nb nc : List (Str × Str)} (F : Fun K "_law_is_own" "_law_is_own" s84 f fd)
    (Fa : FnOk P w K mg base CX0 1 fa da ["e"] (spKn K mg na)) (Fb : FnOk P w K mg base CX0 1 fb db ["e"] (spKn K mg nb)) (Fc : FnOk P w K mg base CX0 1 fc dc ["e"] (spKn K mg nc)) (ka : PySem.W.keepIn K (.ref fa) = true) (kb : PySem.W.keepIn K (.ref fb) = true) (kc : PySem.W.keepIn K (.ref fc) = true)
    (ba : Binds K da ["e"] []) (bb : Binds K db ["e"] []) (bc : Binds K dc ["e"] []) (ga : mg "_law_kinds_a" = some (.ref fa)) (gb : mg "_law_kinds_b" = some (.ref fb)) (gc : mg "_law_kinds_c" = some (.ref fc))
    (gI : mg "isinstance" = none) (gV : mg "ValueError" = none) (gL : mg "LookupError" = none) (gR : mg "range" = none) {TE : Addr} (gT : mg "TaskError" = some (.ref TE)) : FnOk P w K mg base CX0 2 f fd ["e", "at"] (spOwn K mg na nb nc) := by
  obtain ⟨oc, od, kV, doc, pm, an, cdv, ct, osl, rfl, lk, hcd⟩ := F.ex
  refine fn_of lk hcd sc84 (fun vs H Q E h => ?_) fun A outer s H vs Q E hr h => ?_
  · obtain ⟨a, C, i, b1, b2, b3, rfl, _⟩ := h
    rfl
  · obtain ⟨a, C, i, b1, b2, b3, rfl, ea, hC, hT, hV, hL, h1, h2, h3, hb, k⟩ := h
    obtain ⟨TE', gT', hT⟩ := hT
    obtain rfl : TE = TE' := by rw [gT] at gT'; cases gT'; rfl
    refine ⟨_, pss_cons (ps_if (PW.pt (pw_or (pt_not (pt_val (pe_callB call_isX (by rfl) gI PyProof.Rows.boot_isinstance (pa_cons (pv 0) (pa_cons (pe_glob (v := .ref TE) (by rfl) gT rfl) pa_nil)))))
        (pw_or (pt_not (pt_val (pe_callB call_isX (by rfl) gI PyProof.Rows.boot_isinstance (pa_cons (pv 0) (pa_cons (pe_bltn (v := .ty "ValueError") (by rfl) gV (by decide +kernel) rfl) pa_nil)))))
          (pw_or1 (pt_val (pe_callB call_isX (by rfl) gI PyProof.Rows.boot_isinstance (pa_cons (pv 0) (pa_cons (pe_bltn (v := .ty "LookupError") (by rfl) gL (by decide +kernel) rfl) pa_nil))))))))
        (pss_one (ps_ret pe_bl)) pss_nil)
      (pss_one (ps_ret (pe_cmpR (op_eqV (Room.units hr)) (pe_op op_cat (pe_op op_cat (pe_call Fa hr rfl ga ka ba .nil pass0 (pa_cons (pv 0) pa_nil)) (pe_call Fb hr rfl gb kb bb .nil pass0 (pa_cons (pv 0) pa_nil))) (pe_call Fc hr rfl gc kc bc .nil pass0 (pa_cons (pv 0) pa_nil)))
        (pe_lc (own := [("k", 2)]) (g := gName 2) (by rfl) sc84.nd (pi_range1 (by rfl) gR (pa_cons pe_int pa_nil)) (blkOk_by (own := [("k", 2)]) (N := ["e", "at", "k"]) (sc := defScope s84) (by decide +kernel)) (fun _ _ _ _ _ => pg_name (i := 2) sc84.nd rfl (Or.inl rfl)) (fun _ _ _ _ _ => pts_nil)
          (fun _ _ _ _ _ => pe_cmp (pc_eqI (pv 2) (pv 1)))) (nomark _)))), ?_⟩
    refine ⟨_, rfl, a, C, _, _, true, rfl, .own TE, ea, hC, hT, true, rfl, iteF ?_⟩
    refine ⟨_, rfl, a, C, _, _, true, rfl, .ty _, ea, hC, hV, true, rfl, iteF ?_⟩
    refine ⟨_, rfl, a, C, _, _, false, rfl, .ty _, ea, hC, hL, false, rfl, iteF ?_⟩
    have len : (fl2 b1).length + (fl2 b2).length + (fl2 b3).length = 72 := by
      have z := congrArg List.length hb
      rw [List.length_append, List.length_append] at z
      rw [z, rowB, List.length_map, List.length_range]
    refine ⟨_, rfl, a, C, b1, rfl, ea, hC, h1, fun H1 l1 n1 e1 z1 => ?_⟩
    refine ⟨_, rfl, a, C, b2, rfl, X4.ErrAt.up ea e1, hC, h2, fun H2 l2 n2 e2 z2 => ?_⟩
    refine ⟨l1, l2, (fl2 b1).map V.bl, (fl2 b2).map V.bl, rfl, rfl, e2 _ _ z1, z2, ?_, fun p np => ?_⟩
    · rw [List.length_map, List.length_map]
      exact Nat.le_trans (show _ ≤ 72 by omega) (by decide)
    refine ⟨_, rfl, a, C, b3, rfl, X4.ErrAt.up ea fun b o z => nw np (e2 _ _ (e1 _ _ z)), hC, h3, fun H3 l3 n3 e3 z3 => ?_⟩
    refine ⟨p, l3, (fl2 b1).map V.bl ++ (fl2 b2).map V.bl, (fl2 b3).map V.bl, rfl, rfl, e3 _ _ upd_same, z3, ?_, fun p2 np2 => ?_⟩
    · rw [List.length_append, List.length_map, List.length_map, List.length_map]
      exact Nat.le_trans (show _ ≤ 72 by omega) (by decide)
    refine ⟨72, rfl, by decide, by decide, fun D nD => ?_⟩
    have eL : (fl2 b1).map V.bl ++ (fl2 b2).map V.bl ++ (fl2 b3).map V.bl = (rowB i 72).map V.bl := by rw [← hb, List.map_append, List.map_append]
    rw [eL] at nD ⊢
    have hS : ∀ b o, H b = some o → upd H3 p2 (.lst ((rowB i 72).map V.bl)) b = some o := fun b o z => nw np2 (e3 _ _ (nw np (e2 _ _ (e1 _ _ z))))
    have hp2 : upd H3 p2 (.lst ((rowB i 72).map V.bl)) p2 = some (.lst ((rowB i 72).map V.bl)) := upd_same
    generalize upd H3 p2 (.lst ((rowB i 72).map V.bl)) = HS at nD hS hp2 ⊢
    refine lc_range (lo := 0) (n := 72) (fun j H' => (∀ b o, HS b = some o → H' b = some o) ∧ H' D = some (.lst ((rowB i j).map V.bl))) ⟨fun b o z => nw nD z, upd_same⟩ (fun j H' hj pj => ?_) (fun H' pj => ?_)
    · refine ⟨rfl, ?_⟩
      refine tyes ?_
      refine ⟨_, rfl, _, rfl, _, _, rfl, rfl, _, pj.2, ?_, fun b o z => ?_, ?_⟩
      · rw [List.length_map, rowB, List.length_map, List.length_range]
        exact Nat.lt_of_lt_of_le hj (by decide)
      · rw [upd_ne (ne_of_none z nD)]
        exact pj.1 b o z
      · rw [upd_same]
        refine congrArg (fun l => some (HO.lst l)) ?_
        show _ ++ [V.bl (decide (0 + (j : Int) = i))] = _
        rw [rowB, rowB, List.range_succ, List.map_append, List.map_append, Int.zero_add]
        rfl
    · refine ⟨1, by decide, .inl ⟨p2, D, _, _, rfl, rfl, SqL.of (pj.1 _ _ hp2), SqL.of pj.2, pair_bl _⟩, ?_⟩
      exact k H' fun b o z => pj.1 _ _ (hS _ _ z)
end K00
set_option Elab.async false
set_option linter.all false
set_option maxRecDepth 100000
set_option maxHeartbeats 4000000
namespace K00
open PySem L2
abbrev sPool : Stmt := tp 75
abbrev sTake : Stmt := tp 76
abbrev sMixed : Stmt := tp 77
/-! ### the spring of draws -/
/-- a pool at p: what is left of a great cell, a seed, how many were drawn (n at most) -/
structure Spring (H : Hp) (p : Addr) (n : Nat) where
  at_ : ∃ a b c : Int, H p = some (.lst [.int a, .int b, .int c]) ∧ 0 ≤ a ∧ 0 ≤ b ∧ b < 2147483647 ∧ 0 ≤ c ∧ c ≤ n
theorem Spring.more {H : Hp} {p : Addr} {n m : Nat} (x : Spring H p n) (h : n ≤ m) : Spring H p m := by
  obtain ⟨a, b, c, e, h1, h2, h3, h4, h5⟩ := x.at_
  exact ⟨a, b, c, e, h1, h2, h3, h4, by omega⟩
theorem Spring.to {H H' : Hp} {p : Addr} {n : Nat} (x : Spring H p n) (e : H' p = H p) : Spring H' p n := by
  obtain ⟨a, b, c, q, h⟩ := x.at_
  exact ⟨a, b, c, e.trans q, h⟩
/-- but for the object at p nothing is changed -/
def But (p : Addr) (H H' : Hp) : Prop := ∀ b, b ≠ p → H' b = H b

/-- one step of a reading -/
local macro_rules | `(tactic| walk_at "rd") => `(tactic| first
  | refine ⟨_, rfl, ?_⟩
  | refine ⟨_, _, rfl, rfl, ((by first | decide | omega | assumption) : (_ : Prop)), ?_⟩
  | refine ⟨_, _, rfl, rfl, (Or.inl ⟨(by omega), (by omega)⟩), ?_⟩
  | refine ⟨_, _, rfl, rfl, And.intro (by omega) (And.intro (by omega) (by omega)), ?_⟩
  | refine ⟨_, _, _, _, rfl, rfl, ((by assumption) : (_ : Prop)), ((by first | rfl | assumption) : (_ : Prop)), ?_⟩
  | refine Or.inl ⟨_, rfl, ?_⟩
  | refine ⟨_, _, rfl, rfl, ?_⟩)
def spTake : Sp := fun vs H Q _ => ∃ (p : Addr) (m : Int) (n : Nat), vs = [.ref p, .int m] ∧ Spring H p n ∧ n ≤ 10000 ∧ 0 < m ∧ m < 2 ^ 30 ∧
  ∀ (H' : Hp) (r : Int), 0 ≤ r → r < m → But p H H' → Spring H' p (n + 1) → Q (.int r) H'
section
variable {P : Program} {w : World} {K : PySem.W.Frag} {mg : Str → Option Value} {base : Heap} {f : Addr} {fd : FuncData}
theorem scTake : FnScope ["pool", "many", "draw", "mixed"] ["pool", "many"] (defScope sTake) := ⟨rfl, rfl, rfl, by decide +kernel, rfl, by decide +kernel, by decide +kernel⟩
theorem ok_take (F : Fun K "_law_take" "_law_take" sTake f fd) (gI : mg "int" = none) : FnOk P w K mg base CX0 1 f fd ["pool", "many"] spTake := by
  refine F.ok scTake (fun vs H Q E h => ?_) (fun cdv A outer s H vs Q E hr h => ?_)
  · obtain ⟨p, m, n, rfl, _⟩ := h
    rfl
  · obtain ⟨p, m, n, rfl, hp, hn, m0, m1, k⟩ := h
    obtain ⟨a, b, c, ep, a0, b0, b1, c0, c1⟩ := hp.at_
    refine ⟨_, pss_cons (ps_if (pt_cmpR op_gt (pe_ix ix_list (pv 0) pe_int (fun _ _ => rfl)) pe_int (nomark _))
        (pss_cons (ps_set (i := 2) scTake.nd rfl (Or.inl rfl) (pe_op op_mod (pe_callTy call_int1 (by rfl) gI (by decide +kernel) (pa_cons (pe_ix ix_list (pv 0) pe_int (fun _ _ => rfl)) pa_nil)) (pv 1)))
          (pss_cons (ps_asg (pe_op op_fdivW (pe_ix ix_list (pv 0) pe_int (fun _ _ => rfl)) (pv 1)) (pg_sub (pv 0) pe_int set_list)) (pss_one (ps_ret (pv 2)))))
        pss_nil)
      (pss_cons (ps_asg (pe_op op_add (pe_ix ix_list (pv 0) pe_int (fun _ _ => rfl)) pe_int) (pg_sub (pv 0) pe_int set_list))
      (pss_cons (ps_set (i := 3) scTake.nd rfl (Or.inl rfl) (pe_op op_mod (pe_callTy call_int1 (by rfl) gI (by decide +kernel) (pa_cons (pe_op op_pow (pe_op op_add (pe_op op_add (pe_ix ix_list (pv 0) pe_int (fun _ _ => rfl)) (pe_op op_mul pe_int (pe_ix ix_list (pv 0) pe_int (fun _ _ => rfl)))) pe_int) pe_int) pa_nil)) pe_int))
      (pss_one (ps_ret (pe_op op_mod (pe_op op_mod (pe_callTy call_int1 (by rfl) gI (by decide +kernel) (pa_cons (pe_op op_mul (pe_op op_add (pv 3) (pe_ix ix_list (pv 0) pe_int (fun _ _ => rfl))) pe_int) pa_nil)) pe_int) (pv 1)))))), ?_⟩
    have g0 : SqL K H p [.int a, .int b, .int c] := SqL.of ep
    repeat walk_at "rd"
    refine ite2 (fun q => ?_) (fun q => ?_)
    · have a1 : 0 < a := of_decide_eq_true q
      repeat walk_at "rd"
      refine ⟨wide_div (b := 31) m0 (by omega) (by decide) (by decide), ?_⟩
      repeat walk_at "rd"
      exact k _ _ (Int.emod_nonneg _ (by omega)) (Int.emod_lt_of_pos _ m0) (fun x hx => upd_ne hx) ⟨⟨a / m, b, c, upd_same, Int.ediv_nonneg a0 (by omega), b0, b1, c0, by omega⟩⟩
    · repeat walk_at "rd"
      have e1 : upd H p (.lst [.int a, .int b, .int (c + 1)]) p = some (.lst [.int a, .int b, .int (c + 1)]) := upd_same
      have g1 : SqL K (upd H p (.lst [.int a, .int b, .int (c + 1)])) p [.int a, .int b, .int (c + 1)] := SqL.of upd_same
      repeat walk_at "rd"
      exact k _ _ (Int.emod_nonneg _ (by omega)) (Int.emod_lt_of_pos _ m0) (fun x hx => upd_ne hx) ⟨⟨a, b, c + 1, upd_same, a0, b0, b1, by omega, by omega⟩⟩
theorem sq_at {K : PySem.W.Frag} {H H' : Hp} {q : Addr} {xs : List V} (e : H' q = H q) (h : SqL K H q xs) : SqL K H' q xs := by
  rcases h with (h | ⟨o, h⟩) | h
  · exact .inl (.inl (e.trans h))
  · exact .inl (.inr ⟨o, e.trans h⟩)
  · exact .inr h
theorem cut_to {xs : List V} {j : Nat} (h : j ≤ xs.length) : cutV xs none (some (j : Int)) = xs.take j := by
  unfold cutV
  rw [HT.sIx_none, HT.sIx_nat, Nat.min_eq_left h]
  simp
theorem cut_from {xs : List V} {j : Nat} (h : j + 1 ≤ xs.length) : cutV xs (some ((j : Int) + 1)) none = xs.drop (j + 1) := by
  unfold cutV
  have e : ((j : Int) + 1) = ((j + 1 : Nat) : Int) := by omega
  rw [e, HT.sIx_none, HT.sIx_nat, Nat.min_eq_left h]
  exact List.take_of_length_le (by rw [List.length_drop]; omega)
theorem up_new {H : Hp} {p b : Addr} {o u : HO} (n : H p = none) (e : H b = some u) : upd H p o b = some u := by
  rw [upd_ne (ne_of_none e n)]
  exact e
theorem perm_at {rest : List V} (got : List V) {j : Nat} (h : j < rest.length) : (got ++ [rest[j]] ++ (rest.take j ++ rest.drop (j + 1))).Perm (got ++ rest) := by
  have e : rest = rest.take j ++ rest[j] :: rest.drop (j + 1) := by
    rw [← List.drop_eq_getElem_cons h, List.take_append_drop]
  rw [List.append_assoc]
  refine List.Perm.append_left got ?_
  have q : (rest[j] :: (rest.take j ++ rest.drop (j + 1))).Perm (rest.take j ++ rest[j] :: rest.drop (j + 1)) := List.perm_middle.symm
  rw [← e] at q
  exact q
/-- all but p stays that was there -/
def Ext (p : Addr) (H H' : Hp) : Prop := ∀ b o, b ≠ p → H b = some o → H' b = some o
def spMixed (K : PySem.W.Frag) : Sp := fun vs H Q _ => ∃ (p q : Addr) (xs : List V) (n : Nat), vs = [.ref p, .ref q] ∧ Spring H p n ∧ n + xs.length ≤ 10000 ∧ SqL K H q xs ∧ q ≠ p ∧ xs.length ≤ 1000 ∧
  ∀ (H' : Hp) (l : Addr) (ys : List V), ys.Perm xs → H l = none → Ext p H H' → H' l = some (.lst ys) → Spring H' p (n + xs.length) → Q (.ref l) H'
theorem scMixed : FnScope ["pool", "things", "left", "found", "k", "at"] ["pool", "things"] (defScope sMixed) := ⟨rfl, rfl, rfl, by decide +kernel, rfl, by decide +kernel, by decide +kernel⟩
theorem ok_mixed {fT : Addr} {fdT : FuncData} (F : Fun K "_law_mixed" "_law_mixed" sMixed f fd) (FT : Fun K "_law_take" "_law_take" sTake fT fdT) (bT : Binds K fdT ["pool", "many"] []) (gT : mg "_law_take" = some (.ref fT))
    (gI : mg "int" = none) (gL : mg "len" = none) (gS : mg "list" = none) (gR : mg "range" = none) : FnOk P w K mg base CX0 2 f fd ["pool", "things"] (spMixed K) := by
  have GT : FnOk P w K mg base CX0 1 fT fdT ["pool", "many"] spTake := ok_take FT gI
  refine F.ok scMixed (fun vs H Q E h => ?_) (fun cdv A outer s H vs Q E hr h => ?_)
  · obtain ⟨p, q, xs, n, rfl, _⟩ := h
    rfl
  · obtain ⟨p, q, xs, n, rfl, hp, hn, hx, hne, x1, k⟩ := h
    refine ⟨_, pss_cons (ps_par (by rfl) scMixed.nd (i := 2) (j := 3) rfl rfl (by decide) rfl rfl (pa_cons (pe_callTy call_list_of (by rfl) gS (by decide +kernel) (pa_cons (pv 1) pa_nil)) (pa_cons (pe_lst pa_nil) pa_nil)) (by rfl))
      (pss_cons (ps_for PassesOwn.never rfl (pi_range1 rfl gR (pa_cons (pe_callB call_len_seq (by rfl) gL PySem.boot_len (pa_cons (pv 1) pa_nil)) pa_nil)) (pg_name (i := 4) scMixed.nd rfl (Or.inl rfl))
        (pss_cons (ps_set (i := 5) scMixed.nd rfl (Or.inl rfl) (pe_call GT hr rfl gT FT.kp bT .nil pass0 (pa_cons (pv 0) (pa_cons (pe_callB call_len_seq (by rfl) gL PySem.boot_len (pa_cons (pv 2) pa_nil)) pa_nil))))
        (pss_cons (ps_expr (pe_bm PySem.F.plainAttrs_list PySem.F.slot_list_append PySem.F.type_list_append mt_append (pv 3) (pa_cons (pe_ix ix_list (pv 2) (pv 5) (fun _ _ => rfl)) pa_nil)))
        (pss_one (ps_set (i := 2) scMixed.nd rfl (Or.inl rfl) (pe_op op_cat (pe_slice sl_list (pv 2) po_none (po_some (pv 5))) (pe_slice sl_list (pv 2) (po_some (pe_op op_add (pv 5) pe_int)) po_none)))))))
      (pss_one (ps_ret (pv 3)))), ?_⟩
    refine ⟨_, rfl, q, xs, rfl, .inl hx, fun lf nlf => ?_⟩
    refine ⟨Nat.zero_le _, fun fo nfo => ?_⟩
    have npf : fo ≠ p := fun z => by
      obtain ⟨a, b, c, e, _⟩ := hp.at_
      have nl : p ≠ lf := ne_of_none e nlf
      rw [z, upd_ne nl, e] at nfo
      cases nfo
    have npl : lf ≠ p := fun z => by
      obtain ⟨a, b, c, e, _⟩ := hp.at_
      rw [z, e] at nlf
      cases nlf
    have nlo : lf ≠ fo := fun z => by
      rw [← z, upd_same] at nfo
      cases nfo
    have nfo0 : H fo = none := by
      rw [upd_ne nlo.symm] at nfo
      exact nfo
    have hq0 : SqL K (upd (upd H lf (.lst xs)) fo (.lst [])) q xs := by
      rcases hx with (h | ⟨o, h⟩) | h
      · exact .inl (.inl (by rw [upd_ne (ne_of_none h nfo0), upd_ne (ne_of_none h nlf)]; exact h))
      · exact .inl (.inr ⟨o, by rw [upd_ne (ne_of_none h nfo0), upd_ne (ne_of_none h nlf)]; exact h⟩)
      · exact .inr h
    refine ⟨_, _, rfl, _, rfl, q, xs, rfl, .inl hq0, (xs.length : Int), rfl, by omega, by omega,
      for_range (lo := 0) (n := xs.length) (fun i σ H' => ∃ (l : Addr) (rest got : List V) (kv av : Option V), σ = [some (.ref p), some (.ref q), some (.ref l), some (.ref fo), kv, av] ∧ H' l = some (.lst rest) ∧ H' fo = some (.lst got) ∧
        (got ++ rest).Perm xs ∧ got.length = i ∧ Ext p H H' ∧ Spring H' p (n + i) ∧ l ≠ fo ∧ l ≠ p) ?_ ?_ ?_⟩
    · refine ⟨lf, xs, [], none, none, rfl, ?_, upd_same, List.Perm.refl _, rfl, fun b o hb e => ?_, hp.to ?_, nlo, npl⟩
      · rw [upd_ne nlo, upd_same]
      · rw [upd_ne (ne_of_none e nfo0), upd_ne (ne_of_none e nlf)]
        exact e
      · rw [upd_ne npf.symm, upd_ne npl.symm]
    · rintro i σ H1 hi ⟨l, rest, got, kv, av, rfl, hl, hf, pm, gi, ex, sp, n1, n2⟩
      have len : got.length + rest.length = xs.length := by
        rw [← List.length_append]
        exact pm.length_eq
      refine ⟨_, rfl, _, rfl, l, rest, rfl, .inl (SqL.of hl), p, _, n + i, rfl, sp, by omega, by omega, by omega, fun H2 r r0 r1 bt sp2 => ?_⟩
      obtain ⟨j, rfl⟩ := Int.eq_ofNat_of_zero_le r0
      have hj : j < rest.length := by omega
      have ej : rest[j]? = some rest[j] := List.getElem?_eq_getElem hj
      have hl2 : H2 l = some (.lst rest) := (bt l n2).trans hl
      have hf2 : H2 fo = some (.lst got) := (bt fo npf).trans hf
      refine ⟨_, rfl, .inl ⟨rfl, _, SqL.of hf2⟩, _, rfl, _, rfl, l, rest, _, _, rfl, rfl, SqL.of hl2, atI_nat ej, fo, got, _, rfl, rfl, hf2, Nat.lt_of_le_of_lt (show got.length ≤ 1000 by omega) (by decide), ?_⟩
      have hl3 : upd H2 fo (.lst (got ++ [rest[j]])) l = some (.lst rest) := by
        rw [upd_ne n1]
        exact hl2
      refine ⟨_, rfl, _, rfl, _, rfl, l, rest, rfl, SqL.of hl3, fun p1 np1 => ?_⟩
      have l1 : l ≠ p1 := ne_of_none hl3 np1
      have hl4 : upd (upd H2 fo (.lst (got ++ [rest[j]]))) p1 (.lst (cutV rest none (some (j : Int)))) l = some (.lst rest) := by
        rw [upd_ne l1]
        exact hl3
      refine ⟨_, rfl, _, rfl, _, _, rfl, rfl, _, rfl, l, rest, rfl, SqL.of hl4, fun p2 np2 => ?_⟩
      have p12 : p1 ≠ p2 := fun z => by
        rw [← z, upd_same] at np2
        cases np2
      refine ⟨p1, p2, _, _, rfl, rfl, (by rw [upd_ne p12, upd_same]), upd_same, ?_, fun p3 np3 => ?_⟩
      · have c1 := cutV_length rest none (some (j : Int))
        have c2 := cutV_length rest (some ((j : Int) + 1)) none
        exact Nat.le_trans (show _ ≤ 2000 by omega) (by decide)
      · have e1 : cutV rest none (some (j : Int)) = rest.take j := cut_to (by omega)
        have e2 : cutV rest (some ((j : Int) + 1)) none = rest.drop (j + 1) := cut_from (by omega)
        have h3 : ∀ b o, b ≠ p → H b = some o → upd H2 fo (.lst (got ++ [rest[j]])) b = some o := fun b o hb e => by
          rw [upd_ne (ne_of_none e nfo0), bt b hb]
          exact ex b o hb e
        have sp3 : Spring (upd H2 fo (.lst (got ++ [rest[j]]))) p (n + i + 1) := sp2.to (upd_ne npf.symm)
        obtain ⟨ua, ub, uc, us, _⟩ := id sp3.at_
        have n13 : p3 ≠ fo := (ne_of_none (up_new np2 (up_new np1 upd_same)) np3).symm
        have n23 : p3 ≠ p := (ne_of_none (up_new np2 (up_new np1 us)) np3).symm
        refine ⟨p3, _, got ++ [rest[j]], _, _, rfl, upd_same, up_new np3 (up_new np2 (up_new np1 upd_same)), ?_, by rw [List.length_append, gi]; rfl, fun b o hb e => up_new np3 (up_new np2 (up_new np1 (h3 b o hb e))), ?_, n13, n23⟩
        · rw [e1, e2]
          exact (perm_at got hj).trans pm
        · have z : upd (upd (upd (upd H2 fo (.lst (got ++ [rest[j]]))) p1 (.lst (cutV rest none (some (j : Int))))) p2 (.lst (cutV rest (some ((j : Int) + 1)) none))) p3 (.lst (cutV rest none (some (j : Int)) ++ cutV rest (some ((j : Int) + 1)) none)) p = upd H2 fo (.lst (got ++ [rest[j]])) p := by
            rw [up_new np3 (up_new np2 (up_new np1 us)), us]
          exact (sp3.to z).more (by omega)
    · rintro σ H1 ⟨l, rest, got, kv, av, rfl, hl, hf, pm, gi, ex, sp, n1, n2⟩
      have e0 : rest = [] := by
        have z := pm.length_eq
        rw [List.length_append, gi] at z
        exact List.eq_nil_of_length_eq_zero (by omega)
      subst e0
      rw [List.append_nil] at pm
      exact ⟨_, rfl, k H1 fo got pm nfo0 ex hf sp⟩

end
end K00
set_option Elab.async false
set_option linter.all false
set_option maxRecDepth 100000
set_option maxHeartbeats 4000000
namespace K00
open PySem L2
open C8 (pss_cut)
/-- one step of a reading -/
local macro_rules | `(tactic| walk_at "rd") => `(tactic| first
  | refine ⟨_, rfl, ?_⟩
  | refine ⟨_, _, rfl, rfl, ((by first | decide | omega | assumption) : (_ : Prop)), ?_⟩
  | refine ⟨_, _, rfl, rfl, (Or.inl ⟨(by omega), (by omega)⟩), ?_⟩
  | refine ⟨_, _, rfl, rfl, And.intro (by omega) (And.intro (by omega) (by omega)), ?_⟩
  | refine ⟨_, _, _, _, rfl, rfl, ((by assumption) : (_ : Prop)), ((by first | rfl | assumption) : (_ : Prop)), ?_⟩
  | refine Or.inl ⟨_, rfl, ?_⟩
  | refine ⟨_, _, rfl, rfl, ?_⟩)
theorem cut_head {xs : List V} {k : Nat} : cutV xs none (some (k : Int)) = xs.take k := by
  unfold cutV
  rw [HT.sIx_none, HT.sIx_nat]
  rw [List.drop_zero, Nat.sub_zero]
  by_cases h : k ≤ xs.length
  · rw [Nat.min_eq_left h]
  · rw [Nat.min_eq_right (by omega), List.take_of_length_le (Nat.le_refl _), List.take_of_length_le (by omega)]
theorem cut_int {ns : List Int} {k i : Nat} {x : V} (h : (cutV (ns.map V.int) none (some (k : Int)))[i]? = some x) : ∃ z, x = .int z := by
  rw [cut_head, ← List.map_take, List.getElem?_map] at h
  cases e : (ns.take k)[i]? with
  | none =>
    rw [e] at h
    cases h
  | some z =>
    rw [e] at h
    exact ⟨z, (Option.some.inj h).symm⟩
theorem back_none {H H' : Hp} {p : Addr} (e : ∀ b o, H b = some o → H' b = some o) (n : H' p = none) : H p = none := by
  cases q : H p with
  | none => rfl
  | some o =>
    rw [e p o q] at n
    cases n
def spPool (K : PySem.W.Frag) : Sp := fun vs H Q _ => ∃ (a : Addr) (ns : List Int) (t : Int), vs = [.ref a, .int t] ∧ SqL K H a (ns.map V.int) ∧ ns.length ≤ 1000 ∧ 0 ≤ t ∧ t ≤ 1000 ∧
  ∀ (H' : Hp) (p : Addr), H p = none → Spring H' p 0 → (∀ b o, H b = some o → H' b = some o) → Q (.ref p) H'
section
variable {P : Program} {w : World} {K : PySem.W.Frag} {mg : Str → Option Value} {base : Heap} {f : Addr} {fd : FuncData}
theorem scPool : FnScope ["script", "turn", "cell", "seed", "one"] ["script", "turn"] (defScope sPool) := ⟨rfl, rfl, rfl, by decide +kernel, rfl, by decide +kernel, by decide +kernel⟩
theorem ok_pool (F : Fun K "_law_pool" "_law_pool" sPool f fd) (gI : mg "int" = none) (gL : mg "len" = none) (gS : mg "sum" = none) (gA : mg "abs" = none) : FnOk P w K mg base CX0 1 f fd ["script", "turn"] (spPool K) := by
  refine F.ok scPool (fun vs H Q E h => ?_) (fun cdv A outer s H vs Q E hr h => ?_)
  · obtain ⟨a, ns, t, rfl, _⟩ := h
    rfl
  · obtain ⟨a, ns, t, rfl, hx, hl, t0, t1, k⟩ := h
    refine ⟨_, pss_cut (ps_set (i := 2) scPool.nd rfl (Or.inl rfl) (pe_ifExp (pt_cmpR op_lt (pv 1) (pe_callB call_len_seq (by rfl) gL PySem.boot_len (pa_cons (pv 0) pa_nil)) (nomark _)) (pe_ix ix_list (pv 0) (pv 1) (fun _ _ => rfl))
          (pe_op op_add (pe_op op_mod (pe_callB (cr_sum rfl) (by rfl) gS (by decide +kernel) (pa_cons (pe_slice sl_list (pv 0) po_none (po_some pe_int)) pa_nil)) pe_int) (pv 1))))
      (pss_cons (ps_set (i := 3) scPool.nd rfl (Or.inl rfl) (pe_op op_add pe_int (pv 1)))
      (pss_cons (ps_for PassesOwn.never rfl (pi_list (pe_slice sl_list (pv 0) po_none (po_some pe_int))) (pg_name (i := 4) scPool.nd rfl (Or.inl rfl))
        (pss_one (ps_set (i := 3) scPool.nd rfl (Or.inl rfl) (pe_op op_mod (pe_callTy call_int1 (by rfl) gI (by decide +kernel) (pa_cons (pe_op op_add (pe_op op_mul (pv 3) pe_int) (pv 4)) pa_nil)) pe_int))))
      (pss_one (ps_ret (pe_lst (pa_cons (pe_ifExp (pt_cmpR op_ge (pe_callB call_abs (by rfl) gA (by decide +kernel) (pa_cons (pv 2) pa_nil)) (pe_op op_pow pe_int pe_int) (nomark _)) (pe_callB call_abs (by rfl) gA (by decide +kernel) (pa_cons (pv 2) pa_nil)) pe_int)
        (pa_cons (pe_op op_mod (pe_callTy call_int1 (by rfl) gI (by decide +kernel) (pa_cons (pe_op op_add (pe_op op_mul (pv 3) pe_int) (pv 2)) pa_nil)) pe_int) (pa_cons pe_int pa_nil)))))))), ?_⟩
    refine ⟨fun σ H2 => ∃ v : Int, σ = [some (.ref a), some (.int t), some (.int v), none, none] ∧ ∀ b o, H b = some o → H2 b = some o, ?_, ?_⟩
    · refine ⟨_, rfl, _, rfl, a, _, rfl, .inl hx, _, _, rfl, rfl, _, rfl, ?_⟩
      rw [List.length_map]
      refine ite2 (fun q => ?_) (fun q => ?_)
      · have tl : t < (ns.length : Int) := of_decide_eq_true q
        obtain ⟨j, rfl⟩ := Int.eq_ofNat_of_zero_le t0
        have hj : j < ns.length := by omega
        have ej : (ns.map V.int)[j]? = some (.int ns[j]) := by rw [List.getElem?_map, List.getElem?_eq_getElem hj] <;> rfl
        exact ⟨_, rfl, _, rfl, a, _, _, _, rfl, rfl, hx, atI_nat ej, ns[j], rfl, fun _ _ e => e⟩
      · refine ⟨_, rfl, _, rfl, a, _, rfl, hx, fun l nl => ⟨l, ns.take 1, rfl, ?_, _, _, rfl, rfl, (show (0 : Int) < 1000003 by decide), _, rfl, _, _, rfl, rfl, _, rfl, fun b o e => up_new nl e⟩⟩
        have e1 : cutV (ns.map V.int) none (some ((1 : Nat) : Int)) = (ns.take 1).map V.int := by rw [cut_head, List.map_take]
        exact SqL.of (by rw [upd_same]; exact congrArg (fun z => some (HO.lst z)) e1)
    · rintro σ H2 ⟨v, rfl, ex⟩
      have hx2 : SqL K H2 a (ns.map V.int) := by
        rcases hx with (h | ⟨o, h⟩) | h
        · exact .inl (.inl (ex _ _ h))
        · exact .inl (.inr ⟨o, ex _ _ h⟩)
        · exact .inr h
      refine ⟨_, rfl, _, _, rfl, rfl, ?_⟩
      refine ⟨_, rfl, _, rfl, a, _, rfl, hx2, fun l nl => ⟨l, rfl, ⟨_, SqL.of upd_same⟩, for_list (K := K) (a := l) (xs := cutV (ns.map V.int) none (some ((6 : Nat) : Int))) (fun i σ H' => ∃ (sd : Int) (o4 : Option V), σ = [some (.ref a), some (.int t), some (.int v), some (.int sd), o4] ∧ 0 ≤ sd ∧ sd < 2147483647 ∧ H' = upd H2 l (.lst (cutV (ns.map V.int) none (some ((6 : Nat) : Int))))) ?_ ?_ ?_ ?_⟩⟩
      · exact ⟨29 + t, none, rfl, by omega, by omega, rfl⟩
      · rintro i σ H' _ ⟨sd, o4, rfl, s0, s1, rfl⟩
        exact SqL.of upd_same
      · rintro i x σ H' hi ⟨sd, o4, rfl, s0, s1, rfl⟩
        obtain ⟨z, rfl⟩ := cut_int hi
        repeat walk_at "rd"
        exact ⟨_, _, rfl, Int.emod_nonneg _ (by decide), Int.emod_lt_of_pos _ (by decide), rfl⟩
      · rintro σ H' ⟨sd, o4, rfl, s0, s1, rfl⟩
        have ex2 : ∀ b o, H b = some o → upd H2 l (.lst (cutV (ns.map V.int) none (some ((6 : Nat) : Int)))) b = some o := fun b o e => up_new nl (ex b o e)
        have av : 0 ≤ (if v < 0 then -v else v) := by split <;> omega
        repeat walk_at "rd"
        refine ite2 (fun q => ?_) (fun q => ?_)
        · repeat walk_at "rd"
          refine ⟨by show 3 ≤ sizeLine; decide, fun p np => k _ p (back_none ex2 np) ⟨⟨_, _, _, upd_same, av, Int.emod_nonneg _ (by decide), Int.emod_lt_of_pos _ (by decide), by decide, by decide⟩⟩ fun b o e => up_new np (ex2 b o e)⟩
        · repeat walk_at "rd"
          refine ⟨by show 3 ≤ sizeLine; decide, fun p np => k _ p (back_none ex2 np) ⟨⟨_, _, _, upd_same, by decide, Int.emod_nonneg _ (by decide), Int.emod_lt_of_pos _ (by decide), by decide, by decide⟩⟩ fun b o e => up_new np (ex2 b o e)⟩
end
end K00
set_option Elab.async false
set_option linter.all false
set_option maxRecDepth 100000
set_option maxHeartbeats 1000000
namespace K00
open PySem L2 X1 X2 X4
/-- a def's promise where no display is under way -/
structure FnOkG (P : Program) (w : World) (K : PySem.W.Frag) (mg : Str → Option Value) (base : Heap) (k : Nat) (f : Addr) (fd : FuncData) (ps : List Str) (sp : Sp) : Prop where
  len : ∀ vs H Q E, sp vs H Q E → vs.length = ps.length
  run : ∀ (A : Around) (outer : List Env) (s : Shared) (H : Hp) (args : Args) (us : List Value) (vs : List V) (Q : VK) (E : XK), A.guards = some [] → Room k A → Env0 P w K mg base A outer s H → BindsTo s fd args (ps.zip us) → Vals vs us → sp vs H Q E →
    codeAny (model P w) A (.call (.ref f) args) (CR CX0 outer P w H s Q E) s
section
variable {P : Program} {w : World} {K : PySem.W.Frag} {mg : Str → Option Value} {base : Heap}
theorem fn_ofG {k : Nat} {f : Addr} {x q : Str} {st : Stmt} {fd : FuncData} {N ps : List Str} {sp : Sp} (F : Fun K x q st f fd) (S : FnScope N ps (defScope st)) (len : ∀ vs H Q E, sp vs H Q E → vs.length = ps.length)
    (hbody : ∀ (cdv : Value) (A : Around) (outer : List Env) (s : Shared) (H : Hp) (vs : List V) (Q : VK) (E : XK), A.guards = some [] → Room k (A.deeper (PyProof.Rows.envOfC q (defScope st) s.heap.objs.size f cdv)) → sp vs H Q E →
      ∃ t, PSs (cxOf CX0 P w K mg base N q (defScope st) f cdv A outer s H E).nox (defBody st) t ∧ t { nx := fun _ H' => Q .non H', rt := Q } (L2.start N vs) H) : FnOkG P w K mg base (k + 1) f fd ps sp := by
  obtain ⟨oc, od, kV, doc, pm, an, cdv, ct, osl, rfl, lk, hcd⟩ := F.ex
  refine ⟨len, fun A outer s H args us vs Q E hG hr e0 hb r hq => ?_⟩
  exact LamX.run_ofS (N := N) lk hcd S hr e0 hb r (len _ _ _ _ hq) fun hr' => by
    obtain ⟨t, ht, hq'⟩ := hbody cdv A outer s H vs Q E hG hr' hq
    exact ⟨t, ht.nox, hq'⟩
end
section
variable {X : Cx} {k : Nat} {f : Addr} {fd : FuncData} {ps : List Str} {sp : Sp} {x : Str} {p pos : Pos} {e : Expr} {es : List Expr} {t : TA}
theorem pe_callG (F : FnOkG X.prog X.w X.K X.mg X.base k f fd ps sp) (hG : X.A.guards = some []) (hr : Room k X.A) (hg : Gl X x) (hm : X.mg x = some (.ref f)) (hk : PySem.W.keepIn X.K (.ref f) = true) (hb : Binds X.K fd ps []) (ha : PA X (e :: es) t)
    (hdb : (x == ("__debug__" : Str)) = false := by decide) (he : starEach (e :: es) X.env = (false, eval e X.env) :: starEach es X.env := by rfl) (hpl : (backTo pos (starEach es X.env)).any (·.1) = false := by rfl) :
    PE X (.Call (.Name x p) (e :: es) [] pos) (fun σ H Q => t σ H fun vs H1 => sp vs H1 Q E0) := by
  refine ⟨fun pins s σ H Q I h => ?_⟩
  refine wpAny_Call_Name_kw (ld_glob I hg hm ?_ hdb)
  refine PySem.W.callWith_K (h₀ := X.base) I.ok.mod.kin hk (thn (ha.run pos pins s σ H _ I h) fun us s1 ⟨vs, H1, I1, r1, q⟩ => ⟨I1.kIn, ?_⟩) he hpl
  have hl : (us ++ []).length = ps.length := by rw [List.append_nil, ← r1.length]; exact F.len _ _ _ _ q
  have hb' := hb s1 us I1.kIn hl
  rw [List.append_nil] at hb'
  refine wpAny_call (codeAny_mono (F.run X.A X.stack s1 H1 ⟨us, []⟩ us vs Q E0 hG hr I1.env0 hb' r1 q) fun r s' hq => ?_)
  cases r with
  | error er => exact (pass0 (X := X) pins σ _ _ er s' I1 hq)
  | ok fl =>
    cases fl with
    | ret u => exact I1.after hq
    | next => exact False.elim hq
    | brk => exact False.elim hq
    | cont => exact False.elim hq
end
/-- v says d, wherever H is held; nothing of it stands at the modules' table -/
def SaysD (P : Program) (w : World) (H : Hp) (v : V) (d : PyData) : Prop := H sysModules = none → ∀ h u, HOk P w H h → RelV v u → ∃ as, Reads h u d as ∧ sysModules ∉ as
section
variable {X : Cx}
theorem call_reprG (hS : ∃ o, X.base.get? sysModules = some o) (hG : X.A.guards = some []) (hu : X.A.units + 100 < cLine) : CallR X (.builtin "repr") (fun xs H Q => ∃ a d, xs = [.ref a] ∧ SaysD X.prog X.w H (.ref a) d ∧ d.showable = true ∧ d.depth ≤ 90 ∧ d.shown.length ≤ sizeLine ∧ Q (.str d.shown) H) := by
  intro pins s σ H xs us Q I r h
  obtain ⟨a, d, rfl, sd, sh, dp, sz, q⟩ := h
  obtain ⟨u, rfl, ru⟩ := vals1 r
  obtain ⟨os, hS⟩ := hS
  obtain ⟨as, rd, ns⟩ := sd (I.env0.bs _ _ hS).2 s.heap _ I.hok ru
  obtain rfl : u = Value.ref a := ru
  refine repr_of_reads' rd sh (fun _ => ns) hG (by omega) (fun _ _ e => e) (fun h' u tk hk => ?_) sz
  exact ⟨.str d.shown, H, I.kept hk, ⟨_, rfl⟩, q⟩
end
theorem says_all {P : Program} {w : World} {H : Hp} {h : Heap} (hn : H sysModules = none) (ok : HOk P w H h) : ∀ {xs : List V} {ds : List PyData} {us : List Value}, Paired (SaysD P w H) xs ds → Vals xs us → ∃ as, ReadsAll h us ds as ∧ sysModules ∉ as
  | _, _, _, .nil, .nil => ⟨[], .nil, by simp⟩
  | _, _, _, .cons s t, .cons r q => by
    obtain ⟨as, h1, n1⟩ := s hn h _ ok r
    obtain ⟨bs, h2, n2⟩ := says_all hn ok t q
    exact ⟨_, .cons h1 h2, by simp [n1, n2]⟩
theorem says_lst {P : Program} {w : World} {H : Hp} {f : Addr} {xs : List V} {ds : List PyData} (e : H f = some (.lst xs)) (p : Paired (SaysD P w H) xs ds) : SaysD P w H (.ref f) (.list ds) := by
  intro hs h u ok r
  obtain rfl : u = Value.ref f := r
  have n : f ≠ sysModules := fun z => by
    rw [z, hs] at e
    cases e
  obtain ⟨_, its, m, rv, ho⟩ := ok f _ e
  obtain ⟨as, hr, hn⟩ := says_all hs ok p rv
  exact ⟨f :: as, Reads.list ho rfl rfl hr, by simp [Ne.symm n, hn]⟩
theorem says_tup {P : Program} {w : World} {H : Hp} {f : Addr} {xs : List V} {ds : List PyData} (e : H f = some (.tup xs)) (p : Paired (SaysD P w H) xs ds) : SaysD P w H (.ref f) (.tuple ds) := by
  intro hs h u ok r
  obtain rfl : u = Value.ref f := r
  obtain ⟨_, its, rv, o, ho, hc, m, hd⟩ := ok f _ e
  obtain ⟨as, hr, hn⟩ := says_all hs ok p rv
  exact ⟨as, Reads.tuple ho hc hd hr, hn⟩
theorem pair_same {K : PySem.W.Frag} {H : Hp} : ∀ {xs : List V}, (∀ x ∈ xs, flatB x = true ∨ ∃ a, x = .ref a) → Paired (EqV K H 1) xs xs
  | [], _ => .nil
  | x :: xs, h => .cons (by
      rcases h x List.mem_cons_self with f | ⟨a, e⟩
      · exact .inl ⟨rfl, f⟩
      · exact .inr (.inl ⟨a, e, e⟩)) (pair_same fun y hy => h y (List.mem_cons_of_mem _ hy))
abbrev s85 : Stmt := tp 85
def spSame (P : Program) (w : World) : Sp := fun vs H Q _ => ∃ (f d : Addr) (xs : List V) (ds : List PyData), vs = [.ref f, .ref d] ∧ H f = some (.lst xs) ∧ H d = some (.lst xs) ∧ Paired (SaysD P w H) xs ds ∧
  (∀ x ∈ xs, flatB x = true ∨ ∃ a, x = .ref a) ∧ (PyData.list ds).showable = true ∧ (PyData.list ds).depth ≤ 90 ∧ (PyData.list ds).shown.length ≤ sizeLine ∧ Q (.bl true) H
theorem sc85 : FnScope ["found", "due"] ["found", "due"] (defScope s85) := ⟨rfl, rfl, rfl, by decide +kernel, rfl, by decide +kernel, by decide +kernel⟩
theorem ok85 {P : Program} {w : World} {K : PySem.W.Frag} {mg : Str → Option Value} {base : Heap} {f : Addr} {fd : FuncData} (F : Fun K "_law_same" "_law_same" s85 f fd) (gR : mg "repr" = none) (hS : ∃ o, base.get? sysModules = some o) : FnOkG P w K mg base 1 f fd ["found", "due"] (spSame P w) := by
  refine fn_ofG F sc85 (fun vs H Q E h => ?_) fun cdv A outer s H vs Q E hG hr h => ?_
  · obtain ⟨a, b, xs, ds, rfl, _⟩ := h
    rfl
  · obtain ⟨a, b, xs, ds, rfl, ha, hb, sd, fl, s1, s2, s3, q⟩ := h
    have hu : (A.deeper (PyProof.Rows.envOfC "_law_same" (defScope s85) s.heap.objs.size f cdv)).units + 100 < cLine := by
      have := hr.un
      omega
    refine ⟨_, pss_one (ps_ret (pe_and (pe_cmpR op_eq (pe_callB (call_reprG (X := (cxOf CX0 P w K mg base ["found", "due"] "_law_same" (defScope s85) f cdv A outer s H E).nox) hS hG hu) (by rfl) gR (by decide +kernel) (pa_cons (pv 0) pa_nil))
      (pe_callB (call_reprG (X := (cxOf CX0 P w K mg base ["found", "due"] "_law_same" (defScope s85) f cdv A outer s H E).nox) hS hG hu) (by rfl) gR (by decide +kernel) (pa_cons (pv 1) pa_nil)) (nomark _))
      (pe_one (pe_cmpR (op_eqV (Room.units hr)) (pv 0) (pv 1) (nomark _))))), ?_⟩
    refine ⟨_, rfl, a, _, rfl, says_lst ha sd, s1, s2, s3, _, rfl, b, _, rfl, says_lst hb sd, s1, s2, s3, rfl, _, rfl, ?_⟩
    rw [decide_eq_true rfl]
    refine iteT ⟨_, rfl, _, rfl, 1, by decide, .inl ⟨a, b, xs, xs, rfl, rfl, SqL.of ha, SqL.of hb, pair_same fl⟩, q⟩
end K00
set_option Elab.async false
set_option linter.all false
set_option maxRecDepth 100000
set_option maxHeartbeats 1000000
namespace K00
open PySem L2 X1 X2 X4
/-- the thirteen things, where they stand -/
structure S13 (H : Hp) (l6 t7 d8 l9 m9 t11 : Addr) : Prop where
  e6 : H l6 = some (.lst [.int 1, .str "b"])
  e7 : H t7 = some (.tup [.int 2, .non])
  e8 : H d8 = some (.dK [(.inr "a", .int 1)])
  e9 : H l9 = some (.lst [.ref m9])
  em : H m9 = some (.lst [.str "x"])
  e11 : H t11 = some (.tup [.str "note", .non])
def v13 (l6 t7 d8 l9 t11 : Addr) : List V := [.non, .int 5, .int (-1), .bl true, .str "a", .str "", .ref l6, .ref t7, .ref d8, .ref l9, .int (10 ^ 30), .ref t11, .bl false]
def d13 : List PyData := [.none, .int 5, .int (-1), .bool true, .str "a", .str "", .list [.int 1, .str "b"], .tuple [.int 2, .none], .dict [(.str "a", .int 1)], .list [.list [.str "x"]], .int (10 ^ 30), .tuple [.str "note", .none], .bool false]
section
variable {P : Program} {w : World} {H : Hp}
theorem sy_non : SaysD P w H .non .none := fun _ h u _ r => by
  obtain rfl : u = Value.none := r
  exact ⟨[], .none, by simp⟩
theorem sy_bl (b : Bool) : SaysD P w H (.bl b) (.bool b) := fun _ h u _ r => by
  obtain rfl : u = Value.bool b := r
  exact ⟨[], .bool b, by simp⟩
theorem sy_int (i : Int) : SaysD P w H (.int i) (.int i) := fun _ h u _ r => by
  obtain ⟨t, rfl⟩ := r
  exact ⟨[], .int i t, by simp⟩
theorem sy_str (x : Str) : SaysD P w H (.str x) (.str x) := fun _ h u _ r => by
  obtain ⟨t, rfl⟩ := r
  exact ⟨[], .str x t, by simp⟩
def encK : Key → PyData
  | .inl i => .int i
  | .inr x => .str x
theorem sy_d8 {d : Addr} (e : H d = some (.dK [(.inr "a", .int 1)])) : SaysD P w H (.ref d) (.dict [(.str "a", .int 1)]) := fun _ h u ok r => by
  obtain rfl : u = Value.ref d := r
  obtain ⟨_, hn, vs, kv, hd⟩ := ok d _ e
  have hkey : ∀ (k : Key) (key : Value), (mixKind P w).is k key = true → Reads h key (encK k) [] := fun k key hk => by
    rcases keyIs_shape (k := k) (v := key) hk with ⟨i, t, rfl, rfl⟩ | ⟨x, t, rfl, rfl⟩
    · exact .int i t
    · exact .str x t
  have pr : ∃ bs, PyProof.V.PairsRead h encK vs [(.str "a", .int 1)] bs ∧ sysModules ∉ bs := by
    have kv' : Paired (fun (p : Key × V) (q : Key × Value) => p.1 = q.1 ∧ RelV p.2 q.2) [(.inr "a", .int 1)] vs := kv
    cases kv' with
    | cons a b =>
      rename_i q qs
      cases b
      obtain ⟨k, u⟩ := q
      obtain ⟨a1, t, a2⟩ := a
      obtain rfl : Sum.inr ("a" : Str) = k := a1
      obtain rfl : u = Value.int 1 t := a2
      exact ⟨_, .cons (.int 1 t) .nil, by simp⟩
  obtain ⟨bs, pr, nb⟩ := pr
  exact ⟨_, PyProof.V.reads_dictOf hkey hd pr, by
    have : (d == sysModules) = false := hn
    have h2 : sysModules ≠ d := fun z => by simp [z] at this
    simp [h2, nb]⟩
end
theorem said {P : Program} {w : World} {H : Hp} {l6 t7 d8 l9 m9 t11 : Addr} (s : S13 H l6 t7 d8 l9 m9 t11) {v : V} (hv : v ∈ v13 l6 t7 d8 l9 t11) : ∃ d ∈ d13, SaysD P w H v d ∧ (flatB v = true ∨ ∃ a, v = .ref a) := by
  simp only [v13, List.mem_cons, List.not_mem_nil, or_false] at hv
  rcases hv with rfl | rfl | rfl | rfl | rfl | rfl | rfl | rfl | rfl | rfl | rfl | rfl | rfl
  · exact ⟨.none, by simp [d13], sy_non, .inl rfl⟩
  · exact ⟨.int 5, by simp [d13], sy_int _, .inl rfl⟩
  · exact ⟨.int (-1), by simp [d13], sy_int _, .inl rfl⟩
  · exact ⟨.bool true, by simp [d13], sy_bl _, .inl rfl⟩
  · exact ⟨.str "a", by simp [d13], sy_str _, .inl rfl⟩
  · exact ⟨.str "", by simp [d13], sy_str _, .inl rfl⟩
  · exact ⟨.list [.int 1, .str "b"], by simp [d13], says_lst s.e6 (.cons (sy_int _) (.cons (sy_str _) .nil)), .inr ⟨_, rfl⟩⟩
  · exact ⟨.tuple [.int 2, .none], by simp [d13], says_tup s.e7 (.cons (sy_int _) (.cons sy_non .nil)), .inr ⟨_, rfl⟩⟩
  · exact ⟨.dict [(.str "a", .int 1)], by simp [d13], sy_d8 s.e8, .inr ⟨_, rfl⟩⟩
  · exact ⟨.list [.list [.str "x"]], by simp [d13], says_lst s.e9 (.cons (says_lst s.em (.cons (sy_str _) .nil)) .nil), .inr ⟨_, rfl⟩⟩
  · exact ⟨.int (10 ^ 30), by simp [d13], sy_int _, .inl rfl⟩
  · exact ⟨.tuple [.str "note", .none], by simp [d13], says_tup s.e11 (.cons (sy_str _) (.cons sy_non .nil)), .inr ⟨_, rfl⟩⟩
  · exact ⟨.bool false, by simp [d13], sy_bl _, .inl rfl⟩
def fits (d : PyData) : Bool := d.showable && decide (d.depth ≤ 90) && decide (d.shown.length ≤ 1000)
theorem fit1 : d13.all (fun a => fits (.list [a])) = true := by decide +kernel
theorem fit2 : d13.all (fun a => d13.all fun b => fits (.list [a, b])) = true := by decide +kernel
theorem S13.up {H H' : Hp} {l6 t7 d8 l9 m9 t11 : Addr} (s : S13 H l6 t7 d8 l9 m9 t11) (e : LamX.ExtN H H') : S13 H' l6 t7 d8 l9 m9 t11 :=
  ⟨e _ _ s.e6 (fun _ z => nomatch z), e _ _ s.e7 (fun _ z => nomatch z), e _ _ s.e8 (fun _ z => nomatch z), e _ _ s.e9 (fun _ z => nomatch z), e _ _ s.em (fun _ z => nomatch z), e _ _ s.e11 (fun _ z => nomatch z)⟩
end K00
set_option Elab.async false
set_option linter.all false
set_option maxRecDepth 100000
set_option maxHeartbeats 1000000
namespace K00
open PySem L2 X1 X2 X4
def RowX (P : Program) (w : World) (K : PySem.W.Frag) (mg : Str → Option Value) (base : Heap) (x y : V) (H : Hp) (r : Row) (v : V) : Prop := ∃ q F, RowAt P w K mg base q F x y H r v
theorem RowX.ext {P : Program} {w : World} {K : PySem.W.Frag} {mg : Str → Option Value} {base : Heap} {x y : V} {H H' : Hp} {r : Row} {v : V} (h : RowX P w K mg base x y H r v) (k : LamX.ExtN H H') : RowX P w K mg base x y H' r v := by
  obtain ⟨q, F, t, m, tw, l, d, C, ps, body, e, h1, h2, h3, h4, h5, h6, h7, h8⟩ := h
  have ke : ∀ {a : Addr} {L : List (Str × V)}, ExcAt H a C L → ExcAt H' a C L := fun {a L} ⟨d, a1, a2⟩ => ⟨d, k _ _ a1 exo_nt, k _ _ a2 exd_nt⟩
  have kl : LamAt H' l (lamQ q) ps body lamSc := by
    obtain ⟨c, c1, c2⟩ := h5
    exact ⟨c, k _ _ c1 (fun _ z => nomatch z), k _ _ c2 LamX.codeO_ne⟩
  exact ⟨q, F, t, m, tw, l, d, C, ps, body, e, k _ _ h1 (fun _ z => nomatch z), h2, ke h3, ke h4, kl, h6, k _ _ h7 (fun _ z => nomatch z), h8⟩
/-- one field, or two of two names -/
def okRow (r : Row) : Bool := match r.2 with
  | [_] => true
  | [f, g] => !decide (f = g)
  | _ => false
theorem due_look {fs : List Str} (h : okRow ("", fs) = true) (x y : V) : (fs.map fun f => (Lf fs (dueOf fs x y)).lookup f) = (dueOf fs x y).map some := by
  match fs, h with
  | [f], _ => simp [Lf, L1, dueOf]
  | [f, g], h =>
    have hn : f ≠ g := by simpa [okRow] using h
    have e1 : (f == g) = false := by simpa using hn
    simp [Lf, L2', dueOf, List.lookup, e1]
theorem due_mem {fs : List Str} (x y : V) : ∀ v ∈ dueOf fs x y, v = x ∨ v = y := by
  intro v hv
  match fs with
  | [] => simp [dueOf] at hv
  | [f] => simp [dueOf] at hv; exact .inl hv
  | [f, g] => simp [dueOf] at hv; exact hv
  | f :: g :: h :: r => simp [dueOf] at hv
/-- what the text says of the class at C, the i-th of the seventy-two -/
structure OwnK (K : PySem.W.Frag) (mg : Str → Option Value) (na nb nc : List (Str × Str)) (C : Addr) (i : Int) : Prop where
  ec : ExcC K C
  te : IsOf K mg C "TaskError" true
  ve : PySem.W.kitOne K (.ref C) (.type "ValueError") = some true
  le : PySem.W.kitOne K (.ref C) (.type "LookupError") = some false
  kn : ∃ ba bb bc, Kns K mg C na ba ∧ Kns K mg C nb bb ∧ Kns K mg C nc bc ∧ fl2 ba ++ fl2 bb ++ fl2 bc = rowB i 72
theorem own_call {K : PySem.W.Frag} {mg : Str → Option Value} {na nb nc : List (Str × Str)} {C a : Addr} {i : Int} {H : Hp} {Q : VK} {E : XK} (o : OwnK K mg na nb nc C i) (e : ErrAt H a C) (q : ∀ H' : Hp, (∀ b o, H b = some o → H' b = some o) → Q (.bl true) H') : spOwn K mg na nb nc [.ref a, .int i] H Q E := by
  obtain ⟨ba, bb, bc, h1, h2, h3, h4⟩ := o.kn
  exact ⟨a, C, i, ba, bb, bc, rfl, e, o.ec, o.te, o.ve, o.le, h1, h2, h3, h4, q⟩
theorem same_data {P : Program} {w : World} {H : Hp} {l6 t7 d8 l9 m9 t11 : Addr} {x y : V} {fs : List Str} (s : S13 H l6 t7 d8 l9 m9 t11) (hx : x ∈ v13 l6 t7 d8 l9 t11) (hy : y ∈ v13 l6 t7 d8 l9 t11) (hr : okRow ("", fs) = true) :
    ∃ ds, Paired (SaysD P w H) (dueOf fs x y) ds ∧ (∀ v ∈ dueOf fs x y, flatB v = true ∨ ∃ a, v = .ref a) ∧ (PyData.list ds).showable = true ∧ (PyData.list ds).depth ≤ 90 ∧ (PyData.list ds).shown.length ≤ sizeLine := by
  obtain ⟨dx, mx, sx, fx⟩ := said (P := P) (w := w) s hx
  obtain ⟨dy, my, sy, fy⟩ := said (P := P) (w := w) s hy
  have fl : ∀ v ∈ dueOf fs x y, flatB v = true ∨ ∃ a, v = .ref a := fun v hv => by
    rcases due_mem x y v hv with rfl | rfl
    · exact fx
    · exact fy
  have fin : ∀ (ds : List PyData), Paired (SaysD P w H) (dueOf fs x y) ds → fits (.list ds) = true → _ := fun ds pr ft => by
    simp only [fits, Bool.and_eq_true, decide_eq_true_eq] at ft
    exact (⟨ds, pr, fl, ft.1.1, ft.1.2, Nat.le_trans ft.2 (by decide)⟩ : ∃ ds, Paired (SaysD P w H) (dueOf fs x y) ds ∧ (∀ v ∈ dueOf fs x y, flatB v = true ∨ ∃ a, v = .ref a) ∧ (PyData.list ds).showable = true ∧ (PyData.list ds).depth ≤ 90 ∧ (PyData.list ds).shown.length ≤ sizeLine)
  match fs, hr with
  | [g], _ => exact fin [dx] (.cons sx .nil) (List.all_eq_true.mp fit1 dx mx)
  | [g, g'], _ => exact fin [dx, dy] (.cons sx (.cons sy .nil)) (List.all_eq_true.mp (List.all_eq_true.mp fit2 dx mx) dy my)
end K00
set_option Elab.async false
set_option linter.all false
set_option maxRecDepth 100000
set_option maxHeartbeats 1000000
namespace K00
open PySem L2 X1 X2 X4
open C8 (pss_cut)
abbrev s86 : Stmt := tp 86
/-- a def that may be called by its name -/
def CallN (P : Program) (w : World) (K : PySem.W.Frag) (mg : Str → Option Value) (base : Heap) (k : Nat) (x : Str) (ps : List Str) (sp : Sp) : Prop :=
  ∃ (f : Addr) (fd : FuncData), FnOk P w K mg base CX0 k f fd ps sp ∧ mg x = some (.ref f) ∧ PySem.W.keepIn K (.ref f) = true ∧ Binds K fd ps []
/-- a class without an __init__ of its own -/
def Bare (K : PySem.W.Frag) (mg : Str → Option Value) (x : Str) (C : Addr) : Prop := mg x = some (.ref C) ∧ PySem.W.keepIn K (.ref C) = true ∧ PySem.W.excIn K C He.veBase "ValueError.__new__" = true
structure LK (P : Program) (w : World) (K : PySem.W.Frag) (mg : Str → Option Value) (base : Heap) (ra rb rc : List Row) (na nb nc : List (Str × Str)) (Pa Pb Pc : Addr) : Prop where
  pool : CallN P w K mg base 1 "_law_pool" ["script", "turn"] (spPool K)
  mixed : CallN P w K mg base 2 "_law_mixed" ["pool", "things"] (spMixed K)
  ma : CallN P w K mg base 3 "_law_made_a" ["x", "y"] (spMk P w K mg base "_law_made_a" Pa ra)
  mb : CallN P w K mg base 3 "_law_made_b" ["x", "y"] (spMk P w K mg base "_law_made_b" Pb rb)
  mc : CallN P w K mg base 3 "_law_made_c" ["x", "y"] (spMk P w K mg base "_law_made_c" Pc rc)
  ka : CallN P w K mg base 1 "_law_kinds_a" ["e"] (spKn K mg na)
  kb : CallN P w K mg base 1 "_law_kinds_b" ["e"] (spKn K mg nb)
  kc : CallN P w K mg base 1 "_law_kinds_c" ["e"] (spKn K mg nc)
  own : CallN P w K mg base 2 "_law_is_own" ["e", "at"] (spOwn K mg na nb nc)
  same : ∃ (f : Addr) (fd : FuncData), FnOkG P w K mg base 1 f fd ["found", "due"] (spSame P w) ∧ mg "_law_same" = some (.ref f) ∧ PySem.W.keepIn K (.ref f) = true ∧ Binds K fd ["found", "due"] []
  gE : mg "enumerate" = none
  gL : mg "len" = none
  gI : mg "isinstance" = none
  gV : mg "ValueError" = none
  rows : ∀ (i : Nat) (r : Row), (ra ++ rb ++ rc)[i]? = some r → ∀ C, mg r.1 = some (.ref C) → OwnK K mg na nb nc C i
  good : ∀ r ∈ ra ++ rb ++ rc, okRow ("", r.2) = true
  len : (ra ++ rb ++ rc).length = 69
  u1 : ∃ C, Bare K mg "UnlikeNames" C ∧ OwnK K mg na nb nc C 69
  u2 : ∃ C, Bare K mg "UnlikeEntries" C ∧ OwnK K mg na nb nc C 70
  u3 : ∃ C, Bare K mg "Nothing" C ∧ OwnK K mg na nb nc C 71
  bs : ∃ C, Kind P w K mg base "BadStart" ["thing"] C
  te : ∃ C, Bare K mg "TaskError" C ∧ ExcC K C ∧ PySem.W.kitOne K (.ref C) (.type "ValueError") = some true ∧ ∃ ba bb bc, Kns K mg C na ba ∧ Kns K mg C nb bb ∧ Kns K mg C nc bc ∧ fl2 ba ++ fl2 bb ++ fl2 bc = rowB (-1) 72
  pab : Pa ≠ Pb
  pac : Pa ≠ Pc
  pbc : Pb ≠ Pc
def spLaw (K : PySem.W.Frag) (Pa Pb Pc : Addr) : Sp := fun vs H Q _ => ∃ (a : Addr) (ns : List Int), vs = [.ref a] ∧ SqL K H a (ns.map V.int) ∧ ns.length ≤ 1000 ∧
  H Pa = some (.tbl #[]) ∧ H Pb = some (.tbl #[]) ∧ H Pc = some (.tbl #[]) ∧ ∀ H', Q (.bl true) H'
abbrev n86 : List Str := ["script", "pool", "some", "x", "y", "made", "at", "mine", "twin", "field", "due", "k", "e", "held", "kept", "base"]
theorem sc86 : FnScope n86 ["script"] (defScope s86) := ⟨rfl, rfl, rfl, by decide +kernel, rfl, by decide +kernel, by decide +kernel⟩
/-- what stays once x and y are drawn -/
structure Stays (P : Program) (w : World) (K : PySem.W.Frag) (mg : Str → Option Value) (base : Heap) (x y : V) (H : Hp) : Prop where
  s : ∃ l6 t7 d8 l9 m9 t11, S13 H l6 t7 d8 l9 m9 t11 ∧ x ∈ v13 l6 t7 d8 l9 t11 ∧ y ∈ v13 l6 t7 d8 l9 t11
theorem Stays.up {P : Program} {w : World} {K : PySem.W.Frag} {mg : Str → Option Value} {base : Heap} {x y : V} {H H' : Hp} (h : Stays P w K mg base x y H) (e : LamX.ExtN H H') : Stays P w K mg base x y H' := by
  obtain ⟨⟨l6, t7, d8, l9, m9, t11, s, hx, hy⟩⟩ := h
  exact ⟨⟨l6, t7, d8, l9, m9, t11, s.up e, hx, hy⟩⟩
/-- .. and all the rows in the list at M -/
def Full (P : Program) (w : World) (K : PySem.W.Frag) (mg : Str → Option Value) (base : Heap) (rows : List Row) (x y : V) (M : Addr) (H : Hp) : Prop := Stays P w K mg base x y H ∧ ∃ vs, H M = some (.lst vs) ∧ Paired (RowX P w K mg base x y H) rows vs
theorem Full.up {P : Program} {w : World} {K : PySem.W.Frag} {mg : Str → Option Value} {base : Heap} {rows : List Row} {x y : V} {M : Addr} {H H' : Hp} (h : Full P w K mg base rows x y M H) (e : LamX.ExtN H H') : Full P w K mg base rows x y M H' := by
  obtain ⟨s, vs, hv, pr⟩ := h
  exact ⟨s.up e, vs, e _ _ hv (fun _ z => nomatch z), paired_mono (fun a b q => q.ext e) pr⟩
theorem nw2 {H : Hp} {p b : Addr} {o o2 u : HO} (n : H p = none) (e : H b = some u) : upd (upd H p o) p o2 b = some u := by
  rw [upd_ne (ne_of_none e n), upd_ne (ne_of_none e n)]
  exact e
theorem paired_app {α β : Type} {R : α → β → Prop} {a b : List α} {c d : List β} (h : Paired R a c) (k : Paired R b d) : Paired R (a ++ b) (c ++ d) := by
  induction h with
  | nil => exact k
  | cons r t ih => exact .cons r ih
theorem paired_get {α β : Type} {R : α → β → Prop} {xs : List α} {ys : List β} (h : Paired R xs ys) : ∀ {i : Nat} {b : β}, ys[i]? = some b → ∃ a, xs[i]? = some a ∧ R a b := by
  induction h with
  | nil => intro i b e; simp at e
  | cons r t ih =>
    intro i b e
    cases i with
    | zero => simp at e; subst e; exact ⟨_, rfl, r⟩
    | succ j => simp at e; obtain ⟨a, h1, h2⟩ := ih e; exact ⟨a, by simpa using h1, h2⟩
theorem mk_ext {P : Program} {w : World} {K : PySem.W.Frag} {mg : Str → Option Value} {base : Heap} {q : Str} {Pt F : Addr} {x y : V} {H0 H : Hp} {rows : List Row} (h : MkAt P w K mg base q Pt F x y H0 rows H) (t : ∃ ps, H0 Pt = some (.tbl ps)) : LamX.ExtN H0 H := by
  obtain ⟨ts, _, _, _, fr, _⟩ := h
  obtain ⟨ps, t⟩ := t
  exact fun b o e n => fr b o (fun z => by rw [z, t] at e; exact n ps (Option.some.inj e).symm) e
theorem thirteen {H1 : Hp} {l6 t7 d8 m9 l9 t11 q : Addr} {ys : List V} (n6 : H1 l6 = none) (n7 : upd H1 l6 (.lst [.int 1, .str "b"]) t7 = none) (n8 : upd (upd H1 l6 (.lst [.int 1, .str "b"])) t7 (.tup [.int 2, .non]) d8 = none)
    (nm : upd (upd (upd (upd H1 l6 (.lst [.int 1, .str "b"])) t7 (.tup [.int 2, .non])) d8 (.dK [])) d8 (.dK (mergeK [] [(.inr "a", .int 1)])) m9 = none)
    (n9 : upd (upd (upd (upd (upd H1 l6 (.lst [.int 1, .str "b"])) t7 (.tup [.int 2, .non])) d8 (.dK [])) d8 (.dK (mergeK [] [(.inr "a", .int 1)]))) m9 (.lst [.str "x"]) l9 = none)
    (n11 : upd (upd (upd (upd (upd (upd H1 l6 (.lst [.int 1, .str "b"])) t7 (.tup [.int 2, .non])) d8 (.dK [])) d8 (.dK (mergeK [] [(.inr "a", .int 1)]))) m9 (.lst [.str "x"])) l9 (.lst [.ref m9]) t11 = none)
    (nq : upd (upd (upd (upd (upd (upd (upd H1 l6 (.lst [.int 1, .str "b"])) t7 (.tup [.int 2, .non])) d8 (.dK [])) d8 (.dK (mergeK [] [(.inr "a", .int 1)]))) m9 (.lst [.str "x"])) l9 (.lst [.ref m9])) t11 (.tup [.str "note", .non]) q = none) :
    ∃ H9, H9 = upd (upd (upd (upd (upd (upd (upd (upd H1 l6 (.lst [.int 1, .str "b"])) t7 (.tup [.int 2, .non])) d8 (.dK [])) d8 (.dK (mergeK [] [(.inr "a", .int 1)]))) m9 (.lst [.str "x"])) l9 (.lst [.ref m9])) t11 (.tup [.str "note", .non])) q (.lst ys) ∧
      S13 H9 l6 t7 d8 l9 m9 t11 ∧ H9 q = some (.lst ys) ∧ (∀ b o, H1 b = some o → H9 b = some o) ∧ ∀ b, H1 b ≠ none → q ≠ b ∧ l6 ≠ b ∧ t7 ≠ b ∧ d8 ≠ b ∧ l9 ≠ b ∧ m9 ≠ b ∧ t11 ≠ b := by
  refine ⟨_, rfl, ?_, upd_same, fun b o z => nw nq (nw n11 (nw n9 (nw nm (nw2 n8 (nw n7 (nw n6 z)))))), fun b hb => ?_⟩
  · exact ⟨nw nq (nw n11 (nw n9 (nw nm (nw2 n8 (nw n7 upd_same))))), nw nq (nw n11 (nw n9 (nw nm (nw2 n8 upd_same)))), nw nq (nw n11 (nw n9 (nw nm upd_same))), nw nq (nw n11 upd_same), nw nq (nw n11 (nw n9 upd_same)), nw nq upd_same⟩
  · obtain ⟨o, ho⟩ := Option.ne_none_iff_exists'.mp hb
    exact ⟨(ne_of_none (nw n11 (nw n9 (nw nm (nw2 n8 (nw n7 (nw n6 ho)))))) nq).symm, (ne_of_none ho n6).symm, (ne_of_none (nw n6 ho) n7).symm, (ne_of_none (nw n7 (nw n6 ho)) n8).symm, (ne_of_none (nw nm (nw2 n8 (nw n7 (nw n6 ho)))) n9).symm,
      (ne_of_none (nw2 n8 (nw n7 (nw n6 ho))) nm).symm, (ne_of_none (nw n9 (nw nm (nw2 n8 (nw n7 (nw n6 ho))))) n11).symm⟩
theorem ok86 {P : Program} {w : World} {K : PySem.W.Frag} {mg : Str → Option Value} {base : Heap} {f : Addr} {fd : FuncData} {ra rb rc : List Row} {na nb nc : List (Str × Str)} {Pa Pb Pc : Addr} (F : Fun K "law" "law" s86 f fd) (L : LK P w K mg base ra rb rc na nb nc Pa Pb Pc) :
    FnOkG P w K mg base 6 f fd ["script"] (spLaw K Pa Pb Pc) := by
  refine fn_ofG F sc86 (fun vs H Q E h => ?_) fun cdv A outer s H vs Q E hG hr h => ?_
  · obtain ⟨a, ns, rfl, _⟩ := h
    rfl
  · obtain ⟨a, ns, rfl, hS, hl, ha, hb, hc, k⟩ := h
    obtain ⟨fP, dP, FP, gP, kP, bP⟩ := L.pool
    obtain ⟨fM, dM, FM, gM, kM, bM⟩ := L.mixed
    obtain ⟨fa, da, Fa, ga, qa, ba⟩ := L.ma
    obtain ⟨fb, db, Fb, gb, qb, bb⟩ := L.mb
    obtain ⟨fc, dc, Fc, gc, qc, bc⟩ := L.mc
    obtain ⟨f1, d1, F1, g1, k1, b1⟩ := L.ka
    obtain ⟨f2, d2, F2, g2, k2, b2⟩ := L.kb
    obtain ⟨f3, d3, F3, g3, k3, b3⟩ := L.kc
    obtain ⟨fO, dO, FO, gO, kO, bO⟩ := L.own
    obtain ⟨fS, dS, FS, gS, kS, bS⟩ := L.same
    obtain ⟨c1, ⟨m1, v1, x1⟩, o1⟩ := L.u1
    obtain ⟨c2, ⟨m2, v2, x2⟩, o2⟩ := L.u2
    obtain ⟨c3, ⟨m3, v3, x3⟩, o3⟩ := L.u3
    obtain ⟨cs, ks⟩ := L.bs
    obtain ⟨fI, dI, TI, bI, _⟩ := ks.ex
    obtain ⟨ct, ⟨mt, vt, xt⟩, et, yt, zt⟩ := L.te
    have nd := sc86.nd
    have hG' : (cxOf CX0 P w K mg base n86 "law" (defScope s86) f cdv A outer s H E).nox.A.guards = some [] := hG
    refine ⟨_, pss_cut (ps_set (i := 1) nd rfl (Or.inl rfl) (pe_call FP (hr.mono (by decide)) rfl gP kP bP .nil pass0 (pa_cons (pv 0) (pa_cons pe_int pa_nil))))
      (pss_cut (ps_set (i := 2) nd rfl (Or.inl rfl) (pe_lst (pa_cons pe_non (pa_cons pe_int (pa_cons (pe_un un_neg pe_int) (pa_cons pe_bl (pa_cons pe_str (pa_cons pe_str (pa_cons (pe_lst (pa_cons pe_int (pa_cons pe_str pa_nil))) (pa_cons (pe_tup (pa_cons pe_int (pa_cons pe_non pa_nil)))
        (pa_cons (pe_disp (pps_cons pe_str pe_int pps_nil) rfl rfl (by simp) (by decide)) (pa_cons (pe_lst (pa_cons (pe_lst (pa_cons pe_str pa_nil)) pa_nil)) (pa_cons (pe_op op_pow pe_int pe_int) (pa_cons (pe_tup (pa_cons pe_str (pa_cons pe_non pa_nil))) (pa_cons pe_bl pa_nil)))))))))))))))
      (pss_cut (ps_asg (pe_slice sl_list (pe_call FM (hr.mono (by decide)) rfl gM kM bM .nil pass0 (pa_cons (pv 1) (pa_cons (pv 2) pa_nil))) po_none (po_some pe_int)) (pg_lst (by rfl) (pgs_cons (pg_name (i := 3) nd rfl (Or.inl rfl)) (pgs_cons (pg_name (i := 4) nd rfl (Or.inl rfl)) pgs_nil))))
      (pss_cut (ps_set (i := 5) nd rfl (Or.inl rfl) (pe_op op_cat (pe_op op_cat (pe_call Fa (hr.mono (by decide)) rfl ga qa ba .nil pass0 (pa_cons (pv 3) (pa_cons (pv 4) pa_nil))) (pe_call Fb (hr.mono (by decide)) rfl gb qb bb .nil pass0 (pa_cons (pv 3) (pa_cons (pv 4) pa_nil)))) (pe_call Fc (hr.mono (by decide)) rfl gc qc bc .nil pass0 (pa_cons (pv 3) (pa_cons (pv 4) pa_nil)))))
      (pss_cut (ps_for PassesOwn.never rfl (pi_enum (by rfl) L.gE (pa_cons (pv 5) pa_nil)) (pg_tup (by rfl) (pgs_cons (pg_name (i := 6) nd rfl (Or.inl rfl)) (pgs_cons (pg_tup (by rfl) (pgs_cons (pg_name (i := 7) nd rfl (Or.inl rfl)) (pgs_cons (pg_name (i := 8) nd rfl (Or.inl rfl)) (pgs_cons (pg_name (i := 9) nd rfl (Or.inl rfl)) (pgs_cons (pg_name (i := 10) nd rfl (Or.inl rfl)) pgs_nil))))) pgs_nil)))
        (pss_cons (ps_if (PW.pt (pw_or (pt_not (pt_val (pe_call FO (hr.mono (by decide)) rfl gO kO bO .nil pass0 (pa_cons (pv 7) (pa_cons (pv 6) pa_nil))))) (pw_or1 (pt_not (pt_val (pe_call FO (hr.mono (by decide)) rfl gO kO bO .nil pass0 (pa_cons (pv 8) (pa_cons (pv 6) pa_nil)))))))) (pss_one (ps_ret pe_bl)) pss_nil)
        (pss_one (ps_if (PW.pt (pw_or (pt_not (pt_val (pe_callG FS hG' (hr.mono (by decide)) rfl gS kS bS (pa_cons (pe_lamC (i := 9) (k := 1) rfl (Or.inl rfl) (hr.mono (by decide)) (pa_cons (pv 7) pa_nil)) (pa_cons (pv 10) pa_nil)))))
          (pw_or1 (pt_not (pt_val (pe_callG FS hG' (hr.mono (by decide)) rfl gS kS bS (pa_cons (pe_lamC (i := 9) (k := 1) rfl (Or.inl rfl) (hr.mono (by decide)) (pa_cons (pv 8) pa_nil)) (pa_cons (pv 10) pa_nil)))))))) (pss_one (ps_ret pe_bl)) pss_nil))))
      (pss_cut (ps_for PassesOwn.never rfl (pi_enum (by rfl) L.gE (pa_cons (pe_lst (pa_cons (pe_err0 m1 v1 x1) (pa_cons (pe_err0 m2 v2 x2) (pa_cons (pe_err0 m3 v3 x3) pa_nil)))) pa_nil)) (pg_tup (by rfl) (pgs_cons (pg_name (i := 11) nd rfl (Or.inl rfl)) (pgs_cons (pg_name (i := 12) nd rfl (Or.inl rfl)) pgs_nil)))
        (pss_one (ps_if (pt_not (pt_val (pe_call FO (hr.mono (by decide)) rfl gO kO bO .nil pass0 (pa_cons (pv 12) (pa_cons (pe_op op_add (pe_callB call_len_seq (by rfl) L.gL PySem.boot_len (pa_cons (pv 5) pa_nil)) (pv 11)) pa_nil))))) (pss_one (ps_ret pe_bl)) pss_nil)))
      (pss_cut (ps_set (i := 13) nd rfl (Or.inl rfl) (pe_lst (pa_cons pe_str pa_nil)))
      (pss_cut (ps_set (i := 14) nd rfl (Or.inl rfl) (pe_err TI bI (hr.mono (by decide)) (by decide) (pa_cons (pv 13) pa_nil)))
      (pss_cut (ps_expr (pe_bm PySem.F.plainAttrs_list PySem.F.slot_list_append PySem.F.type_list_append mt_append (pv 13) (pa_cons pe_str pa_nil)))
      (pss_cut (ps_if (pt_cmpR (op_neD (Room.units hr)) (pe_exf (pv 14)) (pe_lst (pa_cons pe_str (pa_cons pe_str pa_nil))) (nomark _)) (pss_one (ps_ret pe_bl)) pss_nil)
      (pss_cut (ps_set (i := 15) nd rfl (Or.inl rfl) (pe_err0 mt vt xt))
      (pss_one (ps_ret (pe_and (pe_callB call_isX (by rfl) L.gI PyProof.Rows.boot_isinstance (pa_cons (pv 15) (pa_cons (pe_bltn (v := .ty "ValueError") (by rfl) L.gV (by decide +kernel) rfl) pa_nil)))
        (pe_one (pe_cmpR op_notIn_seq pe_bl (pe_op op_cat (pe_op op_cat (pe_call F1 (hr.mono (by decide)) rfl g1 k1 b1 .nil pass0 (pa_cons (pv 15) pa_nil)) (pe_call F2 (hr.mono (by decide)) rfl g2 k2 b2 .nil pass0 (pa_cons (pv 15) pa_nil))) (pe_call F3 (hr.mono (by decide)) rfl g3 k3 b3 .nil pass0 (pa_cons (pv 15) pa_nil))) rfl))))))))))))))), ?_⟩
    have le : ∀ {n : Nat}, n ≤ 1000 → n ≤ sizeLine := fun h => Nat.le_trans h (by decide)
    refine ⟨fun σ H' => ∃ p : Addr, σ = some (.ref a) :: some (.ref p) :: List.replicate 14 none ∧ H p = none ∧ Spring H' p 0 ∧ (∀ b o, H b = some o → H' b = some o), ?_, ?_⟩
    · exact ⟨_, rfl, a, ns, 0, rfl, hS, hl, by decide, by decide, fun H' p np sp0 e => ⟨p, rfl, np, sp0, e⟩⟩
    rintro σ H1 ⟨p, rfl, np, sp0, e1⟩
    refine ⟨fun σ H2 => ∃ q l6 t7 d8 l9 m9 t11 : Addr, σ = some (.ref a) :: some (.ref p) :: some (.ref q) :: List.replicate 13 none ∧ S13 H2 l6 t7 d8 l9 m9 t11 ∧ H2 q = some (.lst (v13 l6 t7 d8 l9 t11)) ∧ Spring H2 p 0 ∧ (∀ b o, H1 b = some o → H2 b = some o) ∧ q ≠ p ∧
      (l6 ≠ p ∧ t7 ≠ p ∧ d8 ≠ p ∧ l9 ≠ p ∧ m9 ≠ p ∧ t11 ≠ p), ?_, ?_⟩
    · obtain ⟨pa, pb, pc, hp, _⟩ := id sp0.at_
      refine ⟨1, rfl, le (show 2 ≤ 1000 by decide), fun l6 n6 => ⟨le (show 2 ≤ 1000 by decide), fun t7 n7 => fun d8 n8 => ⟨upd_same, [(.inr "a", .int 1)], rfl, (show 1 ≤ 15 by decide), le (show 1 ≤ 1000 by decide), fun m9 nm => ⟨le (show 1 ≤ 1000 by decide), fun l9 n9 => ⟨10, 30, rfl, rfl, ⟨by decide, by decide, by decide⟩, le (show 2 ≤ 1000 by decide), fun t11 n11 =>
        ⟨le (show 13 ≤ 1000 by decide), fun q nq => ?_⟩⟩⟩⟩⟩⟩
      obtain ⟨H9, eH, z1, z2, z3, z4⟩ := thirteen (ys := v13 l6 t7 d8 l9 t11) n6 n7 n8 nm n9 n11 nq
      have z5 := z4 p (by rw [hp]; exact fun z => nomatch z)
      have z6 := sp0.to (H' := H9) (by rw [hp]; exact z3 _ _ hp)
      rw [eH] at z1 z2 z3 z6
      exact ⟨q, l6, t7, d8, l9, m9, t11, rfl, z1, z2, z6, z3, z5.1, z5.2⟩
    rintro σ H2 ⟨q, l6, t7, d8, l9, m9, t11, rfl, s13, hq, sp2, e2, qp, np6⟩
    refine ⟨fun σ H4 => ∃ (q : Addr) (x y : V), σ = some (.ref a) :: some (.ref p) :: some (.ref q) :: some x :: some y :: List.replicate 11 none ∧ Stays P w K mg base x y H4 ∧ H4 Pa = some (.tbl #[]) ∧ H4 Pb = some (.tbl #[]) ∧ H4 Pc = some (.tbl #[]), ?_, ?_⟩
    · obtain ⟨pa, pb, pc, hp, _⟩ := id sp2.at_
      refine ⟨_, rfl, _, rfl, p, q, v13 l6 t7 d8 l9 t11, 0, rfl, sp2, (show 0 + 13 ≤ 10000 by decide), SqL.of hq, qp, (show 13 ≤ 1000 by decide), fun H3 l ys pm nl ex hl3 sp3 => ?_⟩
      refine ⟨2, rfl, l, ys, rfl, SqL.of hl3, fun p1 np1 => ?_⟩
      obtain ⟨x, y, r, rfl⟩ : ∃ x y r, ys = x :: y :: r := by
        have z := pm.length_eq
        match ys, z with
        | [], z => cases z
        | [_], z => cases z
        | x :: y :: r, _ => exact ⟨x, y, r, rfl⟩
      have cut : cutV (x :: y :: r) none (some (2 : Int)) = [x, y] := cut_head (xs := x :: y :: r) (k := 2)
      rw [cut]
      rw [cut] at *
      refine ⟨p1, [x, y], rfl, SqL.of upd_same, rfl, x, [y], rfl, y, [], rfl, rfl, q, x, y, rfl, ⟨⟨l6, t7, d8, l9, m9, t11, ?_, pm.subset (by simp), pm.subset (by simp)⟩⟩, ?_, ?_, ?_⟩
      · obtain ⟨w6, w7, w8, w9, wm, w11⟩ := np6
        have kp : ∀ {b : Addr} {o : HO}, b ≠ p → H2 b = some o → upd H3 p1 (.lst [x, y]) b = some o := fun hb e => nw np1 (ex _ _ hb e)
        exact ⟨kp w6 s13.e6, kp w7 s13.e7, kp w8 s13.e8, kp w9 s13.e9, kp wm s13.em, kp w11 s13.e11⟩
      · exact nw np1 (ex _ _ (ne_of_none ha np) (e2 _ _ (e1 _ _ ha)))
      · exact nw np1 (ex _ _ (ne_of_none hb np) (e2 _ _ (e1 _ _ hb)))
      · exact nw np1 (ex _ _ (ne_of_none hc np) (e2 _ _ (e1 _ _ hc)))
    rintro σ H4 ⟨q, x, y, rfl, st, ta, tb, tc⟩
    refine ⟨fun σ H5 => ∃ M : Addr, σ = some (.ref a) :: some (.ref p) :: some (.ref q) :: some x :: some y :: some (.ref M) :: List.replicate 10 none ∧ Full P w K mg base (ra ++ rb ++ rc) x y M H5, ?_, ?_⟩
    · have tab0 : ∀ {G : Hp} {Pt : Addr} {qq : Str}, G Pt = some (.tbl #[]) → LamX.TabS G Pt qq := fun {G Pt qq} e => ⟨#[], e, (by trivial), fun pos cv z => nomatch z⟩
      refine ⟨_, rfl, _, rfl, x, y, rfl, tab0 ta, fun Ha Fa' mka => ?_⟩
      have xa := mk_ext mka ⟨_, ta⟩
      obtain ⟨tsa, za, pra, tba, fra, nfa⟩ := id mka
      have tb2 : Ha Pb = some (.tbl #[]) := fra _ _ L.pab.symm tb
      have tc2 : Ha Pc = some (.tbl #[]) := fra _ _ L.pac.symm tc
      refine ⟨_, rfl, _, rfl, x, y, rfl, tab0 tb2, fun Hb Fb' mkb => ?_⟩
      have xb := mk_ext mkb ⟨_, tb2⟩
      obtain ⟨tsb, zb, prb, tbb, frb, nfb⟩ := id mkb
      have tc3 : Hb Pc = some (.tbl #[]) := frb _ _ L.pbc.symm tc2
      have lens := L.len
      rw [List.length_append, List.length_append] at lens
      have la := Paired.length pra
      have lb := Paired.length prb
      refine ⟨Fa', Fb', tsa, tsb, rfl, rfl, xb _ _ za (fun _ z => nomatch z), zb, le (by omega), fun g ng => ?_⟩
      refine ⟨_, rfl, _, rfl, x, y, rfl, tab0 (nw ng tc3), fun Hc Fc' mkc => ?_⟩
      have xc := mk_ext mkc ⟨_, nw ng tc3⟩
      obtain ⟨tsc, zc, prc, tbc, frc, nfc⟩ := id mkc
      have lc := Paired.length prc
      refine ⟨g, Fc', tsa ++ tsb, tsc, rfl, rfl, xc _ _ upd_same (fun _ z => nomatch z), zc, le (by rw [List.length_append]; omega), fun M nM => ?_⟩
      have xg : LamX.ExtN Hb (upd Hb g (.lst (tsa ++ tsb))) := .of fun b o e => nw ng e
      have xm : LamX.ExtN Hc (upd Hc M (.lst (tsa ++ tsb ++ tsc))) := .of fun b o e => nw nM e
      have xcm := xc.trans xm
      have xbm := xg.trans xcm
      have xam := xb.trans xbm
      refine ⟨M, rfl, st.up (xa.trans xam), _, upd_same, ?_⟩
      refine paired_app (paired_app (paired_mono (fun r v z => ?_) pra) (paired_mono (fun r v z => ?_) prb)) (paired_mono (fun r v z => ?_) prc)
      · exact RowX.ext ⟨_, _, z⟩ xam
      · exact RowX.ext ⟨_, _, z⟩ xbm
      · exact RowX.ext ⟨_, _, z⟩ xm
    rintro σ H5 ⟨M, rfl, full⟩
    obtain ⟨st5, vs, hM, pr⟩ := id full
    have lvs : vs.length = 69 := by rw [← Paired.length pr]; exact L.len
    refine ⟨fun σ H6 => ∃ o6 o7 o8 o9 o10 : Option V, σ = some (.ref a) :: some (.ref p) :: some (.ref q) :: some x :: some y :: some (.ref M) :: o6 :: o7 :: o8 :: o9 :: o10 :: List.replicate 5 none ∧ LamX.ExtN H5 H6, ?_, ?_⟩
    · refine ⟨_, rfl, M, vs, rfl, SqL.of hM, for_it (walk_enum (K := K) (xs := vs)) (fun i σ H6 => ∃ o6 o7 o8 o9 o10 : Option V, σ = some (.ref a) :: some (.ref p) :: some (.ref q) :: some x :: some y :: some (.ref M) :: o6 :: o7 :: o8 :: o9 :: o10 :: List.replicate 5 none ∧ LamX.ExtN H5 H6)
        ⟨none, none, none, none, none, rfl, .refl _⟩ (fun i σ H6 _ hp => ?_) ?_ (fun σ H6 hp => hp)⟩
      · obtain ⟨_, _, _, _, _, _, ex⟩ := hp
        exact SqL.of (ex _ _ hM (fun _ z => nomatch z))
      · rintro i v σ H6 H7 hi ⟨o6, o7, o8, o9, o10, rfl, ex⟩ ⟨T, i', rv, rfl, nT, rfl, ei, ev⟩
        cases ei
        obtain ⟨r, er, rx⟩ := paired_get pr ev
        have x7 : LamX.ExtN H5 (upd H6 T (.tup [.int (i : Nat), rv])) := ex.trans (.of fun b o e => nw nT e)
        obtain ⟨qq, FF, t, m, tw, l, d, C, ps, body, rfl, ht, gC, em, etw, lat, lok, hd, _⟩ := rx.ext x7
        have ow := L.rows i r er C gC
        have gr := L.good r (List.mem_of_getElem? er)
        have st7 := st5.up x7
        refine ⟨T, [.int (i : Nat), .ref t], rfl, .inl (.inl upd_same), rfl, _, _, rfl, _, _, rfl, ?_⟩
        refine ⟨t, [.ref m, .ref tw, .ref l, .ref d], rfl, .inl (.inl ht), rfl, _, _, rfl, _, _, rfl, _, _, rfl, _, _, rfl, rfl, rfl, ?_⟩
        obtain ⟨oa, ob, oc', w1, w2, w3, w4⟩ := ow.kn
        have key : ∀ {G : Hp}, LamX.ExtN (upd H6 T (.tup [.int (i : Nat), .ref t])) G → G d = some (.lst (dueOf r.2 x y)) ∧ ExcAt G m C (Lf r.2 (dueOf r.2 x y)) ∧ ExcAt G tw C (Lf r.2 (dueOf r.2 x y)) ∧ LamAt G l (lamQ qq) ps body lamSc ∧
            ∃ ds, Paired (SaysD P w G) (dueOf r.2 x y) ds ∧ (∀ v ∈ dueOf r.2 x y, flatB v = true ∨ ∃ a, v = .ref a) ∧ (PyData.list ds).showable = true ∧ (PyData.list ds).depth ≤ 90 ∧ (PyData.list ds).shown.length ≤ sizeLine := fun {G} e => by
          have sG := st7.up e
          obtain ⟨⟨g1, g2, g3, g4, g5, g6, s, hx, hy⟩⟩ := sG
          have ke : ∀ {b : Addr} {Z : List (Str × V)}, ExcAt (upd H6 T (.tup [.int (i : Nat), .ref t])) b C Z → ExcAt G b C Z := fun {b Z} ⟨d, a1, a2⟩ => ⟨d, e _ _ a1 exo_nt, e _ _ a2 exd_nt⟩
          obtain ⟨lc, c1, c2⟩ := lat
          exact ⟨e _ _ hd (fun _ z => nomatch z), ke em, ke etw, ⟨lc, e _ _ c1 (fun _ z => nomatch z), e _ _ c2 LamX.codeO_ne⟩, same_data s hx hy gr⟩
        refine ⟨_, rfl, _, rfl, m, C, i, oa, ob, oc', rfl, .inl ⟨_, em⟩, ow.ec, ow.te, ow.ve, ow.le, w1, w2, w3, w4, fun H8 x8 => ⟨true, rfl, iteF ?_⟩⟩
        refine ⟨_, rfl, _, rfl, tw, C, i, oa, ob, oc', rfl, X4.ErrAt.up (.inl ⟨_, etw⟩) x8, ow.ec, ow.te, ow.ve, ow.le, w1, w2, w3, w4, fun H9 x9 => ⟨true, rfl, iteF ?_⟩⟩
        have x89 : LamX.ExtN (upd H6 T (.tup [.int (i : Nat), .ref t])) H9 := .of fun b o e => x9 _ _ (x8 _ _ e)
        obtain ⟨hd9, em9, et9, lat9, _⟩ := key x89
        refine ⟨l, lamQ qq, ps, body, lamSc, spFld K C r.2, rfl, lat9, lok, _, rfl, _, rfl, lat9, m, _, dueOf r.2 x y, rfl, em9, due_look gr x y, fun z1 nz1 => ⟨_, rfl, ?_⟩⟩
        have xA : LamX.ExtN (upd H6 T (.tup [.int (i : Nat), .ref t])) (upd H9 z1 (.lst (dueOf r.2 x y))) := x89.trans (.of fun b o e => nw nz1 e)
        obtain ⟨hdA, emA, etA, latA, dsA, prA, flA, sA, tA, uA⟩ := key xA
        refine ⟨z1, d, dueOf r.2 x y, dsA, rfl, upd_same, hdA, prA, flA, sA, tA, uA, true, rfl, iteF ?_⟩
        refine ⟨l, lamQ qq, ps, body, lamSc, spFld K C r.2, rfl, latA, lok, _, rfl, _, rfl, latA, tw, _, dueOf r.2 x y, rfl, etA, due_look gr x y, fun z2 nz2 => ⟨_, rfl, ?_⟩⟩
        have xB := xA.trans (.of fun b o e => nw (o := .lst (dueOf r.2 x y)) nz2 e)
        obtain ⟨hdB, emB, etB, latB, dsB, prB, flB, sB, tB, uB⟩ := key xB
        refine ⟨z2, d, dueOf r.2 x y, dsB, rfl, upd_same, hdB, prB, flB, sB, tB, uB, true, rfl, iteF ?_⟩
        exact ⟨_, _, _, _, _, rfl, x7.trans xB⟩
    rintro σ H6 ⟨o6, o7, o8, o9, o10, rfl, ex6⟩
    have hM6 : H6 M = some (.lst vs) := ex6 _ _ hM (fun _ z => nomatch z)
    refine ⟨fun σ H7 => ∃ o6 o7 o8 o9 o10 o11 o12 : Option V, σ = some (.ref a) :: some (.ref p) :: some (.ref q) :: some x :: some y :: some (.ref M) :: o6 :: o7 :: o8 :: o9 :: o10 :: o11 :: o12 :: List.replicate 3 none, ?_, ?_⟩
    · refine fun a1 n1 => fun a2 n2 => fun a3 n3 => ⟨le (show 3 ≤ 1000 by decide), fun lq nlq => ⟨lq, [.ref a1, .ref a2, .ref a3], rfl, SqL.of upd_same, ?_⟩⟩
      obtain ⟨Hq, eq⟩ : ∃ Hq, Hq = upd (upd (upd (upd H6 a1 (exo a1 c1 none)) a2 (exo a2 c2 none)) a3 (exo a3 c3 none)) lq (.lst [.ref a1, .ref a2, .ref a3]) := ⟨_, rfl⟩
      have t1 : Hq a1 = some (exo a1 c1 none) := by rw [eq]; exact nw nlq (nw n3 (nw n2 upd_same))
      have t2 : Hq a2 = some (exo a2 c2 none) := by rw [eq]; exact nw nlq (nw n3 upd_same)
      have t3 : Hq a3 = some (exo a3 c3 none) := by rw [eq]; exact nw nlq upd_same
      have tM : Hq M = some (.lst vs) := by rw [eq]; exact nw nlq (nw n3 (nw n2 (nw n1 hM6)))
      have tq : Hq lq = some (.lst [.ref a1, .ref a2, .ref a3]) := by rw [eq]; exact upd_same
      rw [← eq]
      have err : ∀ (i : Nat) (rv : V), ([.ref a1, .ref a2, .ref a3] : List V)[i]? = some rv → ∃ b C, rv = .ref b ∧ Hq b = some (exo b C none) ∧ OwnK K mg na nb nc C ((vs.length : Int) + (i : Int)) := fun i rv e => by
        rw [lvs]
        match i, e with
        | 0, e => cases e; exact ⟨a1, c1, rfl, t1, o1⟩
        | 1, e => cases e; exact ⟨a2, c2, rfl, t2, o2⟩
        | 2, e => cases e; exact ⟨a3, c3, rfl, t3, o3⟩
      refine for_it (walk_enum (K := K) (xs := [.ref a1, .ref a2, .ref a3])) (fun i σ H7 => ∃ o6 o7 o8 o9 o10 o11 o12 : Option V, σ = some (.ref a) :: some (.ref p) :: some (.ref q) :: some x :: some y :: some (.ref M) :: o6 :: o7 :: o8 :: o9 :: o10 :: o11 :: o12 :: List.replicate 3 none ∧ LamX.ExtN Hq H7)
        ⟨o6, o7, o8, o9, o10, none, none, rfl, .refl _⟩ (fun i σ H7 _ hp => ?_) ?_ (fun σ H7 hp => ?_)
      · obtain ⟨_, _, _, _, _, _, _, _, ex⟩ := hp
        exact SqL.of (ex _ _ tq (fun _ z => nomatch z))
      · rintro i v σ H7 H8 hi ⟨o6, o7, o8, o9, o10, o11, o12, rfl, ex⟩ ⟨T, i', rv, rfl, nT, rfl, ei, ev⟩
        cases ei
        obtain ⟨b, C, rfl, hb8, ow⟩ := err i rv ev
        obtain ⟨oa, ob, oc', w1, w2, w3, w4⟩ := ow.kn
        have x8 : LamX.ExtN Hq (upd H7 T (.tup [.int (i : Nat), .ref b])) := ex.trans (.of fun b o e => nw nT e)
        refine ⟨T, [.int (i : Nat), .ref b], rfl, .inl (.inl upd_same), rfl, _, _, rfl, _, _, rfl, rfl, ?_⟩
        refine ⟨_, rfl, _, rfl, M, vs, rfl, .inl (SqL.of (x8 _ _ tM (fun _ z => nomatch z))), _, rfl, _, _, rfl, rfl, ?_⟩
        refine ⟨b, C, _, oa, ob, oc', rfl, .inr (x8 _ _ hb8 exo_nt), ow.ec, ow.te, ow.ve, ow.le, w1, w2, w3, w4, fun H9 x9 => ⟨true, rfl, iteF ?_⟩⟩
        exact ⟨_, _, _, _, _, _, _, rfl, x8.trans (.of x9)⟩
      · obtain ⟨o6, o7, o8, o9, o10, o11, o12, e, _⟩ := hp
        exact ⟨o6, o7, o8, o9, o10, o11, o12, e⟩
    rintro σ H7 ⟨o6, o7, o8, o9, o10, o11, o12, rfl⟩
    refine ⟨fun σ H8 => ∃ hh : Addr, σ = some (.ref a) :: some (.ref p) :: some (.ref q) :: some x :: some y :: some (.ref M) :: o6 :: o7 :: o8 :: o9 :: o10 :: o11 :: o12 :: some (.ref hh) :: List.replicate 2 none ∧ H8 hh = some (.lst [.str "v"]), ?_, ?_⟩
    · exact ⟨le (show 1 ≤ 1000 by decide), fun hh nh => ⟨hh, rfl, upd_same⟩⟩
    rintro σ H8 ⟨hh, rfl, eh⟩
    refine ⟨fun σ H9 => ∃ ee : Addr, σ = some (.ref a) :: some (.ref p) :: some (.ref q) :: some x :: some y :: some (.ref M) :: o6 :: o7 :: o8 :: o9 :: o10 :: o11 :: o12 :: some (.ref hh) :: some (.ref ee) :: [none] ∧ H9 hh = some (.lst [.str "v"]) ∧ ExcAt H9 ee cs [("thing", .ref hh)], ?_, ?_⟩
    · exact ⟨_, rfl, rfl, fun ee H9 ne ex ea => ⟨ee, rfl, ex _ _ eh, ea⟩⟩
    rintro σ H9 ⟨ee, rfl, eh, ea⟩
    refine ⟨fun σ HA => σ = some (.ref a) :: some (.ref p) :: some (.ref q) :: some x :: some y :: some (.ref M) :: o6 :: o7 :: o8 :: o9 :: o10 :: o11 :: o12 :: some (.ref hh) :: some (.ref ee) :: [none] ∧ HA hh = some (.lst [.str "v", .str "w"]) ∧ ExcAt HA ee cs [("thing", .ref hh)], ?_, ?_⟩
    · refine ⟨_, rfl, .inl ⟨rfl, _, SqL.of eh⟩, hh, [.str "v"], .str "w", rfl, rfl, eh, Nat.lt_of_lt_of_le (show 1 < 1000 by decide) (by decide), rfl, upd_same, ?_⟩
      obtain ⟨dd, a1, a2⟩ := ea
      refine ⟨dd, ?_, ?_⟩
      · rw [upd_ne (fun z => by rw [z, eh] at a1; exact exo_nl _ (Option.some.inj a1).symm)]
        exact a1
      · rw [upd_ne (fun z => by rw [z, eh] at a2; exact exd_nl _ (Option.some.inj a2).symm)]
        exact a2
    rintro σ HA ⟨rfl, eh, ea⟩
    refine ⟨fun σ HB => σ = some (.ref a) :: some (.ref p) :: some (.ref q) :: some x :: some y :: some (.ref M) :: o6 :: o7 :: o8 :: o9 :: o10 :: o11 :: o12 :: some (.ref hh) :: some (.ref ee) :: [none], ?_, ?_⟩
    · refine ⟨_, rfl, ee, cs, _, .ref hh, rfl, ea, ks.xf, ks.no "thing" (by simp), rfl, le (show 2 ≤ 1000 by decide), fun z nz => ?_⟩
      refine ⟨.list [.str "v", .str "w"], .list [.str "v", .str "w"], .lst (SqL.of (nw nz eh)) (.cons (.str _) (.cons (.str _) .nil)), .lst (SqL.of upd_same) (.cons (.str _) (.cons (.str _) .nil)), by decide +kernel, by decide +kernel, false, by decide +kernel, iteF ?_⟩
      exact rfl
    rintro σ HB rfl
    refine ⟨fun σ HC => ∃ b : Addr, σ = some (.ref a) :: some (.ref p) :: some (.ref q) :: some x :: some y :: some (.ref M) :: o6 :: o7 :: o8 :: o9 :: o10 :: o11 :: o12 :: some (.ref hh) :: some (.ref ee) :: [some (.ref b)] ∧ HC b = some (exo b ct none), ?_, ?_⟩
    · exact fun b nb => ⟨b, rfl, upd_same⟩
    rintro σ HC ⟨b, rfl, eb⟩
    obtain ⟨oa, ob, oc', w1, w2, w3, w4⟩ := zt
    have len72 : (fl2 oa).length + (fl2 ob).length + (fl2 oc').length = 72 := by
      have z := congrArg List.length w4
      rw [List.length_append, List.length_append] at z
      rw [z, rowB, List.length_map, List.length_range]
    refine ⟨_, rfl, b, ct, _, _, true, rfl, .ty _, .inr eb, et, yt, true, rfl, iteT ?_⟩
    refine ⟨_, rfl, b, ct, oa, rfl, .inr eb, et, w1, fun HD l1 n1 e1 y1 => ?_⟩
    refine ⟨_, rfl, b, ct, ob, rfl, .inr (e1 _ _ eb), et, w2, fun HE l2 n2 e2 y2 => ?_⟩
    refine ⟨l1, l2, (fl2 oa).map V.bl, (fl2 ob).map V.bl, rfl, rfl, e2 _ _ y1, y2, ?_, fun z nz => ?_⟩
    · rw [List.length_map, List.length_map]
      exact le (by omega)
    refine ⟨_, rfl, b, ct, oc', rfl, .inr (nw nz (e2 _ _ (e1 _ _ eb))), et, w3, fun HF l3 n3 e3 y3 => ?_⟩
    refine ⟨z, l3, (fl2 oa).map V.bl ++ (fl2 ob).map V.bl, (fl2 oc').map V.bl, rfl, rfl, e3 _ _ upd_same, y3, ?_, fun z2 nz2 => ?_⟩
    · rw [List.length_append, List.length_map, List.length_map, List.length_map]
      exact le (by omega)
    have eL : (fl2 oa).map V.bl ++ (fl2 ob).map V.bl ++ (fl2 oc').map V.bl = (rowB (-1) 72).map V.bl := by rw [← w4, List.map_append, List.map_append]
    have fin : (if true = true then !inV (V.bl true) ((rowB (-1) 72).map V.bl) else inV (V.bl true) ((rowB (-1) 72).map V.bl)) = true := by decide +kernel
    have fl : ((rowB (-1) 72).map V.bl).all flatV = true := by decide +kernel
    refine ⟨z2, (rowB (-1) 72).map V.bl, rfl, .inl (SqL.of ?_), rfl, fl, ?_⟩
    · rw [upd_same]
      exact congrArg (fun l => some (HO.lst l)) eL
    · rw [fin]
      exact k _
end K00
set_option Elab.async false
set_option linter.all false
set_option maxRecDepth 100000
set_option maxHeartbeats 1000000
/-! The law called where no display is under way: the script and the empty tables are what H holds. -/
namespace K00
open PySem PySem.Spec PyProof.Rows L2
section
variable {P : Program} {w : World} {K : PySem.W.Frag} {mg mb : Str → Option Value} {k : Nat} {fa a : Addr} {cs : List (Addr × Addr)} {fd : FuncData} {x : Str} {sp : Sp} {s₁ : Shared} {vs : List Value} {ns : List Int}
abbrev scO (vs : List Value) : Obj := { cls := .type "list", data := .seq vs.toArray }
/-- the heap that is told at the start -/
noncomputable def atLaw (K : PySem.W.Frag) (a : Addr) (vs : List Value) (ns : List Int) (T : List Addr) : Hp := fun b =>
  if b ∈ T then some (.tbl #[]) else if b = a then (match K.lookup a with
    | some _ => none
    | none => some (.frz (scO vs) (.lst (ns.map V.int)))) else none
theorem atLaw_tab {T : List Addr} {b : Addr} (h : b ∈ T) : atLaw K a vs ns T b = some (.tbl #[]) := if_pos h
theorem atLaw_some {T : List Addr} {b : Addr} {u : HO} (h : atLaw K a vs ns T b = some u) : (b ∈ T ∧ u = .tbl #[]) ∨ (b = a ∧ K.lookup a = none ∧ u = .frz (scO vs) (.lst (ns.map V.int))) := by
  unfold atLaw at h
  split at h
  · rename_i hb
    cases h
    exact .inl ⟨hb, rfl⟩
  · split at h
    · rename_i e
      cases q : K.lookup a with
      | some o =>
        rw [q] at h
        cases h
      | none =>
        rw [q] at h
        cases h
        exact .inr ⟨e, rfl, rfl⟩
    · cases h
theorem law_callG (KX : K.In s₁.heap) (hns : s₁.heap.Ns mainGlobals mg) (hb : s₁.heap.Ns builtinsNs mb) (hbb : ∀ x : Str, x ≠ "__name__" → mb x = bootBuiltins x) (hlim : s₁.heap.NoLimit) (hg : s₁.gens = #[])
    (hT : ∀ p ∈ cs, s₁.heap.get? p.2 = some { cls := .none, data := .fields #[] }) (nT : ∀ p ∈ cs, K.lookup p.2 = none) (C : ∀ p ∈ cs, PySem.W.CodeHd s₁.heap p.1 p.2)
    (hbm : ∃ (bm : Addr) (ob : Obj), mg "__builtins__" = some (.ref bm) ∧ bm ≠ builtinsNs ∧ s₁.heap.get? bm = some ob ∧ ob.cls = .type "module" ∧ ob.dict = some builtinsNs ∧ ob.data = .plain)
    (ha : s₁.heap.get? a = some (scO vs)) (hi : IntsAre vs ns) (hl : ns.length ≤ sizeLine) (hr : Room k callerA)
    (F : ∀ base : Heap, K.In base → base.Ns mainGlobals mg → (∀ p ∈ cs, LamX.TabB base mg p.1 p.2) → FnOkG P w K mg base k fa fd [x] sp) (hbind : ∀ (s : Shared) (u : Value), BindsTo s fd ⟨[u], []⟩ [(x, u)])
    (hsp : ∀ H : Hp, (∀ p ∈ cs, H p.2 = some (.tbl #[])) → SqL K H a (ns.map V.int) → sp [.ref a] H (fun v _ => v = .bl true) fun _ _ _ => False) :
    codeAny (model P w) callerA (.call (.ref fa) ⟨[.ref a], []⟩) (fun r s' => r = .ok (.ret (.bool true)) ∧ OldK s₁.heap s'.heap ∧ s'.os = s₁.os ∧ AllBare s'.gens) s₁ := by
  have rv := vals_ints hi
  have lenV := hi.length
  have tabO : ∀ {b : Addr}, b ∈ cs.map (·.2) → s₁.heap.get? b = some { cls := .none, data := .fields #[] } := fun {b} h => by
    obtain ⟨p, hp, rfl⟩ := List.mem_map.mp h
    exact hT p hp
  obtain ⟨H, eH⟩ : ∃ H, H = atLaw K a vs ns (cs.map (·.2)) := ⟨_, rfl⟩
  have tabs : ∀ p ∈ cs, H p.2 = some (.tbl #[]) := fun p hp => by
    rw [eH]
    exact atLaw_tab (List.mem_map.mpr ⟨p, hp, rfl⟩)
  have told : ∀ {b : Addr} {u : HO}, H b = some u → (b ∈ cs.map (·.2) ∧ u = .tbl #[]) ∨ (b = a ∧ K.lookup a = none ∧ u = .frz (scO vs) (.lst (ns.map V.int))) := fun {b u} h => by
    rw [eH] at h
    exact atLaw_some h
  have aT : a ∉ cs.map (·.2) := fun z => by
    have q := (tabO z).symm.trans ha
    have q2 : Data.fields #[] = Data.seq vs.toArray _ := congrArg Obj.data (Option.some.inj q)
    cases q2
  have hS : SqL K H a (ns.map V.int) := by
    cases q : K.lookup a with
    | none =>
      refine .inl (.inr ⟨scO vs, ?_⟩)
      rw [eH]
      unfold atLaw
      rw [if_neg aT, if_pos rfl, q]
    | some o =>
      have e := KX a o q
      rw [ha] at e
      cases e
      exact .inr ⟨_, vs.toArray, _, q, rfl, rfl, rfl, by rw [List.size_toArray, lenV]; exact hl, by simpa using rv⟩
  have hok : HOk P w H s₁.heap := fun b u z => by
    rcases told z with ⟨h, rfl⟩ | ⟨rfl, _, rfl⟩
    · exact tabO h
    · exact ⟨ha, by rw [List.length_map]; exact hl, vs, _, rv, ha⟩
  -- an object of another make is not told
  have other : ∀ {b : Addr} {o : Obj}, s₁.heap.get? b = some o → (∀ us n, o.data ≠ .seq us n) → o.data ≠ .fields #[] → H b = none := fun {b o} e h1 h2 => by
    cases z : H b with
    | none => rfl
    | some u =>
      rcases told z with ⟨h, _⟩ | ⟨rfl, _, _⟩
      · have q := e.symm.trans (tabO h)
        exact absurd (congrArg Obj.data (Option.some.inj q)) h2
      · have q := e.symm.trans ha
        exact absurd (congrArg Obj.data (Option.some.inj q)) (h1 _ _)
  have nsB : ∀ {b : Addr} {m : Str → Option Value}, s₁.heap.Ns b m → (hidT s₁.heap H).Ns b m := fun {b m} ⟨o, es, ep, e, d, r⟩ =>
    ⟨o, es, ep, hidT_get e (other e (fun us n z => by rw [d] at z; cases z) fun z => by rw [d] at z; cases z), d, r⟩
  have kB : K.In (hidT s₁.heap H) := fun b o e => hidT_get (KX b o e) (by
    cases z : H b with
    | none => rfl
    | some u =>
      rcases told z with ⟨h, _⟩ | ⟨rfl, n, _⟩
      · obtain ⟨p, hp, rfl⟩ := List.mem_map.mp h
        rw [nT p hp] at e
        cases e
      · rw [n] at e
        cases e)
  have mod : L2.Mod K mg (hidT s₁.heap H) := by
    obtain ⟨mc, c1, c2⟩ := hlim
    exact ⟨kB, nsB hns, ⟨mb, nsB hb, hbb⟩, mc, nsB c1, c2⟩
  have TB : ∀ p ∈ cs, LamX.TabB (hidT s₁.heap H) mg p.1 p.2 := fun p hp => by
    obtain ⟨oG, es, ep, eG, dG, _⟩ := id hns
    refine ⟨?_, ?_, fun z => ?_⟩
    · obtain ⟨o, us, file, tf, flags, tg, inF, text, tt, e1, r1, r2, r3, rest⟩ := C p hp
      refine ⟨o, us, file, tf, flags, tg, inF, text, tt, hidT_get e1 (other e1 (fun us' n z => ?_) fun z => ?_), r1, r2, r3, rest⟩
      · rw [r2] at z
        cases z
      · rw [r2] at z
        cases z
        cases r3
    · obtain ⟨bm, ob, b1, b2, b3, b4, b5, b6⟩ := hbm
      refine ⟨bm, ob, b1, b2, fun q => ?_, fun q => ?_, hidT_get b3 (other b3 (fun us n z => ?_) fun z => ?_), b4, b5, b6⟩
      · rw [q, eG] at b3
        cases b3
        rw [dG] at b6
        cases b6
      · rw [q, hT p hp] at b3
        cases b3
        cases b6
      · rw [b6] at z
        cases z
      · rw [b6] at z
        cases z
    · have q := eG.symm.trans (z ▸ hT p hp)
      rw [← Option.some.inj q.symm] at dG
      cases dG
  have e0 : Env0 P w K mg (hidT s₁.heap H) callerA [] s₁ H :=
    ⟨rfl, mod, fun b o e => of_hidT e, Nat.le_of_eq (hidT_size _ _), trivial, fun b z => (nomatch (show b ∈ ([] : List Addr) from z)), hok, .of_eq hg⟩
  refine codeAny_mono ((F _ kB (nsB hns) TB).run callerA [] s₁ H ⟨[.ref a], []⟩ [.ref a] [.ref a] _ _ rfl hr e0 (hbind s₁ (.ref a)) (.cons rfl .nil) (hsp H tabs hS)) fun r s' h => ?_
  cases r with
  | error e => exact (show False from h).elim
  | ok fl =>
    cases fl with
    | next => exact False.elim h
    | brk => exact False.elim h
    | cont => exact False.elim h
    | ret u =>
      obtain ⟨v, H', os, bare, un, hok', r', q⟩ := h
      obtain rfl : v = .bl true := q
      obtain rfl : u = Value.bool true := r'
      have same : ∀ b o, b ∉ cs.map (·.2) → s₁.heap.get? b = some o → s'.heap.get? b = some o := fun b o nb e => by
        cases z : H b with
        | none => exact un.keep b o e z (fun y => nomatch (show b ∈ ([] : List Addr) from y)) (by simp)
        | some u =>
          rcases told z with ⟨h, _⟩ | ⟨rfl, _, rfl⟩
          · exact absurd h nb
          · obtain ⟨e2, _⟩ := hok' _ _ (un.frzs _ _ _ z)
            rw [ha] at e
            cases e
            exact e2
      have grown : ∀ b, b ∈ cs.map (·.2) → ∃ more : Array Value, s'.heap.get? b = some { cls := .none, data := .fields more } := fun b h => by
        obtain ⟨p, hp, rfl⟩ := List.mem_map.mp h
        obtain ⟨more, z⟩ := un.tbls p.2 #[] (tabs p hp)
        exact ⟨_, hok' p.2 _ z⟩
      refine ⟨rfl, ⟨fun b o e => ?_, fun b o e => ?_⟩, os, bare⟩
      · by_cases hb : b ∈ cs.map (·.2)
        · obtain ⟨more, hm⟩ := grown b hb
          obtain ⟨p, hp, rfl⟩ := List.mem_map.mp hb
          have e' := hT p hp
          rw [e] at e'
          cases e'
          exact .inr (.inl ⟨((C p hp).tab (hT p hp)).isCodeTable, rfl, #[], more, rfl, by rw [Array.empty_append]; exact hm⟩)
        · exact .inl (same b o hb e)
      · by_cases hb : b ∈ cs.map (·.2)
        · obtain ⟨more, hm⟩ := grown b hb
          exact ⟨_, hm⟩
        · exact ⟨o, same b o hb e⟩
end
end K00
set_option Elab.async false
set_option linter.all false
set_option maxRecDepth 100000
set_option maxHeartbeats 1000000
/-! What the looks say of the classes, for the words of the proof. -/
namespace K00
open PySem PySem.Spec PyProof.Rows L2 X1 X2 X4
theorem frG_mem {g : G} {a : Addr} : ∀ {as : List Addr}, a ∈ as → (He.frG g as).lookup a = g a
  | [], h => nomatch h
  | b :: r, h => by
    unfold He.frG
    rw [List.filterMap_cons]
    by_cases e : a = b
    · subst e
      cases q : g a with
      | some o => simp [List.lookup]
      | none =>
        simp only [Option.map_none]
        cases z : (He.frG g r).lookup a with
        | none => exact z
        | some o =>
          have := He.frG_at r z
          rw [q] at this
          cases this
    · have hr : a ∈ r := (List.mem_cons.mp h).resolve_left e
      have ih := frG_mem (g := g) hr
      unfold He.frG at ih
      cases q : g b with
      | none => simpa [q] using ih
      | some o =>
        have e2 : (a == b) = false := by simpa using e
        simpa [q, List.lookup, e2] using ih
def asK (g : G) : List Addr := sysModules :: adrs g
abbrev KK (g : G) : PySem.W.Frag := He.frG g (asK g)
theorem lookIn_same {n : Str} {c c' : Value} {d d' : Option Addr} {es : Array DictEntry} {k : Nat} {sl sl' : Array (Option Value)} : PySem.W.lookIn n ⟨c, d, .dict es k, sl⟩ = PySem.W.lookIn n ⟨c', d', .dict es k, sl'⟩ := rfl
theorem nsIn_at {K : PySem.W.Frag} {N : Addr} {n : Str} {c : Value} {d : Option Addr} {es : Array DictEntry} {k : Nat} {sl : Array (Option Value)} (h : K.lookup N = some ⟨c, d, .dict es k, sl⟩) : PySem.W.nsIn K N n = PySem.W.lookIn n ⟨.none, none, .dict es k, sl⟩ := by
  unfold PySem.W.nsIn
  rw [h]
  rfl
theorem nsNo_ok {g : G} {N : Addr} {n : Str} (h : nsNo g N n = true) (m : N ∈ asK g) : PySem.W.nsIn (KK g) N n = some none := by
  unfold nsNo at h
  split at h
  · rename_i es k sl hg
    rw [nsIn_at ((frG_mem m).trans hg)]
    exact He.eqO_ok h
  · cases h
theorem glG_ok {g : G} {x : Str} (h : glG g x = true) (m : mainGlobals ∈ asK g) : PySem.W.nsIn (KK g) mainGlobals x = some (some (.ref (nmG g x))) := by
  unfold glG at h
  split at h
  · rename_i es k sl hg
    rw [nsIn_at ((frG_mem m).trans hg)]
    exact He.eqO_ok h
  · cases h
theorem nsOkG_ok {g : G} {N : Addr} (h : nsOkG g N = true) (m : N ∈ asK g) : PySem.W.nsOkIn (KK g) N = true := by
  unfold nsOkG at h
  unfold PySem.W.nsOkIn
  rw [frG_mem m]
  exact h
/-- a class as it stands in K -/
structure ClsAt (K : PySem.W.Frag) (C : Addr) (x : Str) (line : List Value) (no : List Str) where
  dd : Option Addr
  bs : List Value
  N : Addr
  qn : Str
  sn : List Str
  sub : List Value
  ab : Bool
  col : Option Bool
  k0 : Option Value
  k1 : Option Value
  k2 : Option Value
  k3 : Option Value
  k5 : Option Value
  at_ : K.lookup C = some ⟨.type "type", dd, .cls { name := x, bases := bs, mro := line, ns := N, qualname := qn, hasDict := true, slotNames := sn, subclasses := sub, abstract := ab, collection := col, hasDel := false }, #[k0, k1, k2, k3, some (.builtin "ValueError.__new__"), k5]⟩
  no_ : ∀ n ∈ no, PySem.W.nsIn K N n = some none
theorem clsG_ok {g : G} {x : Str} {C : Addr} {line : List Value} {no : List Str} (h : clsG g x C line no = true) (m : C ∈ asK g) (m2 : nsG g C ∈ asK g) : Nonempty { c : ClsAt (KK g) C x line no // c.N = nsG g C } := by
  unfold clsG at h
  split at h
  · rename_i dd cd sl hg
    split at h
    · rename_i k0 k1 k2 k3 n k5 hs
      simp only [Bool.and_eq_true, beq_iff_eq, Bool.not_eq_true', decide_eq_true_eq, List.all_eq_true] at h
      obtain ⟨hn, hdel, hd, hnm, hm, hno⟩ := h
      obtain ⟨nm, bs, mro, ns, qn, hdc, sn, sub, ab, col, del⟩ := cd
      have eN : nsG g C = ns := by
        unfold nsG
        rw [hg]
      dsimp only at hdel hd hnm hm hno
      subst hdel hd hnm hm hn
      have es : sl = #[k0, k1, k2, k3, some (.builtin "ValueError.__new__"), k5] := by
        cases sl
        simpa using hs
      refine ⟨⟨⟨dd, bs, ns, qn, sn, sub, ab, col, k0, k1, k2, k3, k5, ?_, fun n hn => ?_⟩, eN.symm⟩⟩
      · rw [frG_mem m, hg, es]
      · rw [← eN]
        exact nsNo_ok (by rw [eN]; exact hno n hn) m2
    · cases h
  · cases h
end K00
set_option Elab.async false
set_option linter.all false
set_option maxRecDepth 100000
set_option maxHeartbeats 1000000
namespace K00
open PySem PySem.Spec PyProof.Rows L2 X1 X2 X4
section
variable {K : PySem.W.Frag} {C T D : Addr} {x y : Str} {line : List Value} {no noT : List Str} {n : Str}
theorem along_ve : PySem.W.alongIn K n veTl = PySem.W.alongIn [] n veTl := rfl
theorem ClsAt.find (c : ClsAt K C x line no) : PySem.W.findIn K (.ref C) n = PySem.W.alongIn K n line := by
  unfold PySem.W.findIn
  dsimp only
  rw [c.at_]
theorem ClsAt.own (c : ClsAt K C x line no) (h : n ∈ no) : PySem.W.ownIn K n (.ref C) = some none := by
  unfold PySem.W.ownIn
  dsimp only
  rw [c.at_]
  exact c.no_ n h
theorem ClsAt.find1 (c : ClsAt K C x (.ref C :: veTl) no) (h : n ∈ no) : PySem.W.findIn K (.ref C) n = PySem.W.alongIn [] n veTl := by
  rw [c.find, PySem.W.alongIn, c.own h]
  exact along_ve
theorem ClsAt.find2 (c : ClsAt K C x (.ref C :: .ref T :: veTl) no) (t : ClsAt K T y (.ref T :: veTl) noT) (h : n ∈ no) (h2 : n ∈ noT) : PySem.W.findIn K (.ref C) n = PySem.W.alongIn [] n veTl := by
  rw [c.find, PySem.W.alongIn, c.own h]
  show PySem.W.alongIn K n (.ref T :: veTl) = _
  rw [PySem.W.alongIn, t.own h2]
  exact along_ve
theorem ClsAt.cls (c : ClsAt K C x line no) : ∃ cd, PySem.W.clsIn K C = some cd ∧ cd.mro = line ∧ cd.hasDict = true ∧ cd.name = x := by
  unfold PySem.W.clsIn
  rw [c.at_]
  exact ⟨_, rfl, rfl, rfl, rfl⟩
theorem ClsAt.ty (c : ClsAt K C x line no) : PySem.W.typeIn K (.ref C) = some (.type "type") := by
  unfold PySem.W.typeIn
  dsimp only
  rw [c.at_]
  rfl
theorem ClsAt.mro (c : ClsAt K C x line no) (hl : line.isEmpty = false) (v : Value) : PySem.W.mroIn K C v = some (line.contains v) := by
  obtain ⟨cd, e, m, _⟩ := c.cls
  unfold PySem.W.mroIn
  rw [e]
  show (if cd.mro.isEmpty = true then none else some (cd.mro.contains v)) = _
  rw [m, hl, if_neg Bool.false_ne_true]
theorem ClsAt.hasD (c : ClsAt K C x line no) : PySem.W.hasDictIn K C = true := by
  obtain ⟨cd, e, _, d, _⟩ := c.cls
  unfold PySem.W.hasDictIn
  rw [e]
  exact d
theorem ClsAt.keep (c : ClsAt K C x line no) : PySem.W.keepIn K (.ref C) = true := by
  have e : PySem.W.specialIn K (.ref C) "__call__" = some (some (.builtin "type.__call__")) := by
    unfold PySem.W.specialIn
    rw [c.ty]
    show PySem.W.findIn K (.type "type") "__call__" = _
    have e : PySem.W.findIn K (.type "type") "__call__" = PySem.W.findIn [] (.type "type") "__call__" := rfl
    rw [e]
    decide +kernel
  unfold PySem.W.keepIn
  dsimp only
  rw [c.at_]
  show (PySem.W.specialIn K (.ref C) "__call__" == some (some (.builtin "type.__call__"))) = true
  rw [e]
  decide
theorem ClsAt.ne (c : ClsAt K C x line no) {line' : List Value} {no' : List Str} (d : ClsAt K D y line' no') (h : x ≠ y) : C ≠ D := fun z => by
  subst z
  have e := c.at_.symm.trans d.at_
  injection e with e
  injection e with _ _ e _
  injection e with e
  injection e with e
  exact h e
theorem along_base : ∀ n ∈ baseNames, True := fun _ _ => trivial
theorem ve_sa : PySem.W.alongIn [] "__setattr__" veTl = some (some (.builtin "object.__setattr__")) := by decide +kernel
theorem ve_ga : PySem.W.alongIn [] "__getattribute__" veTl = some (some (.builtin "BaseException.__getattribute__")) := by decide +kernel
theorem ve_gg : PySem.W.alongIn [] "__getattr__" veTl = some none := by decide +kernel
theorem ve_cl : PySem.W.alongIn [] "__class__" veTl = some (some (.builtin "object.__class__")) := by decide +kernel
theorem ve_fl : ∀ n ∈ fldNames, PySem.W.alongIn [] n veTl = some none := by
  have h : fldNames.all (fun n => decide (PySem.W.alongIn [] n veTl = some none)) = true := by decide +kernel
  exact fun n hn => of_decide_eq_true (List.all_eq_true.mp h n hn)
theorem oc_get : PySem.W.specialIn K (.builtin "object.__class__") "__get__" = some (some (.builtin "getset_descriptor.__get__")) := by
  have e : PySem.W.specialIn K (.builtin "object.__class__") "__get__" = PySem.W.specialIn [] (.builtin "object.__class__") "__get__" := rfl
  rw [e]
  decide +kernel
theorem oc_set : PySem.W.takesIn K (.builtin "object.__class__") = some true := by
  have e : PySem.W.takesIn K (.builtin "object.__class__") = PySem.W.takesIn [] (.builtin "object.__class__") := rfl
  rw [e]
  decide +kernel
end
end K00
set_option Elab.async false
set_option linter.all false
set_option maxRecDepth 100000
set_option maxHeartbeats 1000000
namespace K00
open PySem PySem.Spec PyProof.Rows L2 X1 X2 X4
abbrev noTE : List Str := "__init__" :: (fldNames ++ baseNames)
section
variable {K : PySem.W.Frag} {C T D : Addr} {x y : Str} {fs fs' : List Str} {n : Str}
abbrev TE (K : PySem.W.Frag) (T : Addr) := ClsAt K T "TaskError" (.ref T :: veTl) noTE
abbrev SubE (K : PySem.W.Frag) (T C : Addr) (x : Str) (fs : List Str) := ClsAt K C x (.ref C :: .ref T :: veTl) (fs ++ baseNames)
theorem base_mem (h : n ∈ baseNames) : n ∈ fs ++ baseNames := List.mem_append.mpr (.inr h)
theorem base_memT (h : n ∈ baseNames) : n ∈ noTE := List.mem_cons_of_mem _ (List.mem_append.mpr (.inr h))
theorem oex_of (t : TE K T) (c : SubE K T C x fs) : OexC K C :=
  ⟨⟨_, _, _, _, .ref T :: veTl, _, _, _, _, _, _, _, _, _, _, c.at_, rfl⟩, (c.find2 t (base_mem (by decide)) (base_memT (by decide))).trans ve_sa, c.mro rfl _, c.ty, c.keep⟩
theorem xfc_of (t : TE K T) (c : SubE K T C x fs) : XfC K C :=
  ⟨(c.find2 t (base_mem (by decide)) (base_memT (by decide))).trans ve_ga, (c.find2 t (base_mem (by decide)) (base_memT (by decide))).trans ve_gg, c.mro rfl _, c.hasD⟩
theorem exc_of (t : TE K T) (c : SubE K T C x fs) : ExcC K C :=
  ⟨(c.find2 t (base_mem (by decide)) (base_memT (by decide))).trans ve_ga, (c.find2 t (base_mem (by decide)) (base_memT (by decide))).trans ve_gg, c.mro rfl _, c.hasD,
    (c.find2 t (base_mem (by decide)) (base_memT (by decide))).trans ve_cl, oc_get, oc_set, c.mro rfl _⟩
theorem exc_ofT (t : TE K T) : ExcC K T :=
  ⟨(t.find1 (base_memT (by decide))).trans ve_ga, (t.find1 (base_memT (by decide))).trans ve_gg, t.mro rfl _, t.hasD, (t.find1 (base_memT (by decide))).trans ve_cl, oc_get, oc_set, t.mro rfl _⟩
theorem no_of (t : TE K T) (c : SubE K T C x fs) (hf : ∀ f ∈ fs, f ∈ fldNames) : ∀ f ∈ fs, PySem.W.findIn K (.ref C) f = some none := fun f h =>
  (c.find2 t (List.mem_append.mpr (.inl h)) (List.mem_cons_of_mem _ (List.mem_append.mpr (.inl (hf f h))))).trans (ve_fl f (hf f h))
theorem bare_of {mg : Str → Option Value} (t : TE K T) (c : SubE K T C x fs) (hm : mg x = some (.ref C)) (o1 : PySem.W.nsOkIn K c.N = true) (o2 : PySem.W.nsIn K c.N "__init__" = some none) (o3 : PySem.W.nsOkIn K t.N = true) : Bare K mg x C := by
  refine ⟨hm, c.keep, ?_⟩
  have q : PySem.W.nsIn K t.N "__init__" = some none := t.no_ _ List.mem_cons_self
  have q2 : PySem.W.tailIn K He.veBase (.ref T :: veTl) = true := by
    rw [PySem.W.tailIn]
    refine Bool.or_eq_true_iff.mpr (.inr ?_)
    rw [t.at_]
    dsimp only
    rw [o3, q]
    rfl
  unfold PySem.W.excIn
  rw [c.at_]
  show (C == C && ("ValueError.__new__" : String) == "ValueError.__new__" && !false && PySem.W.tailIn K He.veBase (.ref T :: veTl) && PySem.W.nsOkIn K c.N && PySem.W.nsIn K c.N "__init__" == some none) = true
  rw [o1, o2, q2]
  simp
theorem bare_ofT {mg : Str → Option Value} (t : TE K T) (hm : mg "TaskError" = some (.ref T)) (o3 : PySem.W.nsOkIn K t.N = true) : Bare K mg "TaskError" T := by
  refine ⟨hm, t.keep, ?_⟩
  have q : PySem.W.nsIn K t.N "__init__" = some none := t.no_ _ List.mem_cons_self
  have q2 : PySem.W.tailIn K He.veBase veTl = true := by
    rfl
  unfold PySem.W.excIn
  rw [t.at_]
  show (T == T && ("ValueError.__new__" : String) == "ValueError.__new__" && !false && PySem.W.tailIn K He.veBase veTl && PySem.W.nsOkIn K t.N && PySem.W.nsIn K t.N "__init__" == some none) = true
  rw [o3, q, q2]
  simp
theorem kit_ve (t : TE K T) (c : SubE K T C x fs) : PySem.W.kitOne K (.ref C) (.type "ValueError") = some true := by
  have e : PySem.W.subIn K (.ref C) (.type "ValueError") = some true := c.mro rfl _
  show (if (Value.ref C == Value.type "ValueError") = true then some true else PySem.W.kitCls K (.ref C) (.type "ValueError")) = some true
  rw [if_neg (by simp)]
  show (if PySem.W.kitMeta "ValueError" = true then PySem.W.subIn K (.ref C) (.type "ValueError") else none) = some true
  rw [if_pos (by decide +kernel), e]
theorem kit_veT (t : TE K T) : PySem.W.kitOne K (.ref T) (.type "ValueError") = some true := by
  have e : PySem.W.subIn K (.ref T) (.type "ValueError") = some true := t.mro rfl _
  show (if (Value.ref T == Value.type "ValueError") = true then some true else PySem.W.kitCls K (.ref T) (.type "ValueError")) = some true
  rw [if_neg (by simp)]
  show (if PySem.W.kitMeta "ValueError" = true then PySem.W.subIn K (.ref T) (.type "ValueError") else none) = some true
  rw [if_pos (by decide +kernel), e]
theorem kit_le (t : TE K T) (c : SubE K T C x fs) : PySem.W.kitOne K (.ref C) (.type "LookupError") = some false := by
  have e : PySem.W.subIn K (.ref C) (.type "LookupError") = some false := c.mro rfl _
  show (if (Value.ref C == Value.type "LookupError") = true then some true else PySem.W.kitCls K (.ref C) (.type "LookupError")) = some false
  rw [if_neg (by simp)]
  show (if PySem.W.kitMeta "LookupError" = true then PySem.W.subIn K (.ref C) (.type "LookupError") else none) = some false
  rw [if_pos (by decide +kernel), e]
theorem kit_ref {line line' : List Value} {no no' : List Str} (c : ClsAt K C x line no) (d : ClsAt K D y line' no') (hl : line.isEmpty = false) (h : C ≠ D) : PySem.W.kitOne K (.ref C) (.ref D) = some (line.contains (.ref D)) := by
  have e : PySem.W.subIn K (.ref C) (.ref D) = some (line.contains (.ref D)) := c.mro hl _
  show (if (Value.ref C == Value.ref D) = true then some true else PySem.W.kitCls K (.ref C) (.ref D)) = _
  rw [if_neg (by simpa using h)]
  show (if ((PySem.W.clsIn K D).isSome && PySem.W.typeIn K (.ref D) == some (.type "type")) = true then PySem.W.subIn K (.ref C) (.ref D) else none) = _
  obtain ⟨cd, q, _⟩ := d.cls
  rw [q, d.ty, e]
  exact if_pos (by simp)
theorem kit_same : PySem.W.kitOne K (.ref C) (.ref C) = some true := if_pos (by simp)
/-- told of two classes of the text -/
theorem is_of {mg : Str → Option Value} (t : TE K T) (c : SubE K T C x fs) (d : SubE K T D y fs') (hm : mg y = some (.ref D)) (hne : y ≠ "TaskError") (hs : x = y → C = D) : IsOf K mg C y (decide (y = x)) := by
  by_cases e : y = x
  · refine ⟨D, hm, ?_⟩
    rw [← hs e.symm, decide_eq_true e]
    exact kit_same
  · have n1 : C ≠ D := c.ne d (fun z => e z.symm)
    have n2 : T ≠ D := t.ne d (fun z => hne z.symm)
    refine ⟨D, hm, ?_⟩
    rw [kit_ref c d rfl n1, decide_eq_false e]
    simp [n1.symm, n2.symm, veTl]
theorem is_ofT {mg : Str → Option Value} (t : TE K T) (d : SubE K T D y fs') (hm : mg y = some (.ref D)) (hne : y ≠ "TaskError") : IsOf K mg T y false := by
  have n2 : T ≠ D := t.ne d (fun z => hne z.symm)
  refine ⟨D, hm, ?_⟩
  rw [kit_ref t d rfl n2]
  simp [n2.symm, veTl]
theorem is_TE {mg : Str → Option Value} (t : TE K T) (c : SubE K T C x fs) (hm : mg "TaskError" = some (.ref T)) (hne : x ≠ "TaskError") : IsOf K mg C "TaskError" true := by
  refine ⟨T, hm, ?_⟩
  rw [kit_ref c t rfl (c.ne t hne)]
  simp
end
end K00
set_option Elab.async false
set_option linter.all false
set_option maxRecDepth 100000
set_option maxHeartbeats 1000000
namespace K00
open PySem PySem.Spec PyProof.Rows L2 X1 X2 X4
/-- what the looks have told of the heap -/
structure Told (g : G) : Prop where
  a : lookA g = true
  b : lookB g = true
  c : lookC g = (true, fnN.map fun p => (dFn p).val)
  d : lookD g = (true, withIni.map fun c => (dIni c).val)
  e : lookE g = true
  f : lookF g = true
  g' : lookG g = true
theorem frG_in_as {g : G} {a : Addr} {o : Obj} : ∀ {as : List Addr}, (He.frG g as).lookup a = some o → a ∈ as
  | [], e => nomatch (show (none : Option Obj) = some o from e)
  | b :: r, e => by
    unfold He.frG at e
    rw [List.filterMap_cons] at e
    cases q : g b with
    | none =>
      rw [q] at e
      exact List.mem_cons_of_mem _ (frG_in_as (as := r) e)
    | some ob =>
      rw [q] at e
      by_cases z : a = b
      · rw [z]
        exact List.mem_cons_self
      · have e2 : (a == b) = false := by simpa using z
        have e3 : (He.frG g r).lookup a = some o := by
          simpa [List.lookup, e2, He.frG] using e
        exact List.mem_cons_of_mem _ (frG_in_as e3)
section
variable {g : G}
theorem m_main : mainGlobals ∈ asK g := by simp [asK, adrs]
theorem m_T : nmG g "TaskError" ∈ asK g := by simp [asK, adrs]
theorem m_nT : nsG g (nmG g "TaskError") ∈ asK g := by simp [asK, adrs]
theorem m_c {c : Str × List Str × Nat} (h : c ∈ ecs) : nmG g c.1 ∈ asK g ∧ nsG g (nmG g c.1) ∈ asK g ∧ iniG g (nmG g c.1) ∈ asK g ∧ cdG g (iniG g (nmG g c.1)) ∈ asK g := by
  have k : ∀ x, x ∈ [nmG g c.1, nsG g (nmG g c.1), iniG g (nmG g c.1), cdG g (iniG g (nmG g c.1))] → x ∈ asK g := fun x hx => by
    unfold asK adrs
    refine List.mem_cons_of_mem _ (List.mem_cons_of_mem _ (List.mem_cons_of_mem _ (List.mem_cons_of_mem _ (List.mem_append.mpr (.inl (List.mem_flatMap.mpr ⟨c, h, hx⟩))))))
  exact ⟨k _ (by simp), k _ (by simp), k _ (by simp), k _ (by simp)⟩
theorem m_f {p : Str × Nat} (h : p ∈ fnN) : nmG g p.1 ∈ asK g ∧ cdG g (nmG g p.1) ∈ asK g := by
  have k : ∀ x, x ∈ [nmG g p.1, cdG g (nmG g p.1)] → x ∈ asK g := fun x hx => by
    unfold asK adrs
    refine List.mem_cons_of_mem _ (List.mem_cons_of_mem _ (List.mem_cons_of_mem _ (List.mem_cons_of_mem _ (List.mem_append.mpr (.inr (List.mem_flatMap.mpr ⟨p, h, hx⟩))))))
  exact ⟨k _ (by simp), k _ (by simp)⟩
theorem Told.one (t : Told g) {c : Str × List Str × Nat} (h : c ∈ ecs) : oneG g c = true := by
  have hb := (Bool.and_eq_true_iff.mp (show (((ecs.drop 36).all fun c => oneG g c) && _) = true from t.b)).1
  have e : c ∈ ecs.take 36 ++ ecs.drop 36 := by rw [List.take_append_drop]; exact h
  rcases List.mem_append.mp e with z | z
  · exact List.all_eq_true.mp t.a c z
  · exact List.all_eq_true.mp hb c z
theorem Told.base (t : Told g) : baseG g = true ∧ (∀ x ∈ frees, freeG g x = true) ∧ nsOkG g (nsG g (nmG g "TaskError")) = true ∧ ∀ c ∈ noIni, nsOkG g (nsG g (nmG g c.1)) = true ∧ nsNo g (nsG g (nmG g c.1)) "__init__" = true := by
  obtain ⟨_, h⟩ := Bool.and_eq_true_iff.mp (show (((ecs.drop 36).all fun c => oneG g c) && (baseG g && ((frees.all fun x => freeG g x) && (nsOkG g (nsG g (nmG g "TaskError")) && noIni.all fun c => nsOkG g (nsG g (nmG g c.1)) && nsNo g (nsG g (nmG g c.1)) "__init__")))) = true from t.b)
  obtain ⟨h1, h⟩ := Bool.and_eq_true_iff.mp h
  obtain ⟨h2, h⟩ := Bool.and_eq_true_iff.mp h
  obtain ⟨h3, h4⟩ := Bool.and_eq_true_iff.mp h
  exact ⟨h1, List.all_eq_true.mp h2, h3, fun c hc => Bool.and_eq_true_iff.mp (List.all_eq_true.mp h4 c hc)⟩
theorem Told.sub (t : Told g) {c : Str × List Str × Nat} (h : c ∈ ecs) : Nonempty { s : SubE (KK g) (nmG g "TaskError") (nmG g c.1) c.1 c.2.1 // s.N = nsG g (nmG g c.1) } := clsG_ok (t.one h) (m_c h).1 (m_c h).2.1
theorem Told.te (t : Told g) : Nonempty { s : TE (KK g) (nmG g "TaskError") // s.N = nsG g (nmG g "TaskError") } := clsG_ok t.base.1 m_T m_nT
section
variable {h : Heap} {mg : Str → Option Value}
theorem Told.mgc (t : Told g) (X : (KK g).In h) (G : h.Ns mainGlobals mg) {c : Str × List Str × Nat} (hc : c ∈ ecs) : mg c.1 = some (.ref (nmG g c.1)) :=
  PySem.W.mg_of X G (glG_ok (List.all_eq_true.mp (Bool.and_eq_true_iff.mp (show ((ecs.all fun c => glG g c.1) && _) = true from t.e)).1 c hc) m_main)
theorem Told.mgT (t : Told g) (X : (KK g).In h) (G : h.Ns mainGlobals mg) : mg "TaskError" = some (.ref (nmG g "TaskError")) :=
  PySem.W.mg_of X G (glG_ok (Bool.and_eq_true_iff.mp (Bool.and_eq_true_iff.mp (show ((ecs.all fun c => glG g c.1) && (glG g "TaskError" && _)) = true from t.e)).2).1 m_main)
theorem Told.mgf (t : Told g) (X : (KK g).In h) (G : h.Ns mainGlobals mg) {p : Str × Nat} (hp : p ∈ fnN) : mg p.1 = some (.ref (nmG g p.1)) :=
  PySem.W.mg_of X G (glG_ok (List.all_eq_true.mp (Bool.and_eq_true_iff.mp (Bool.and_eq_true_iff.mp (show ((ecs.all fun c => glG g c.1) && (glG g "TaskError" && (fnN.all fun p => glG g p.1))) = true from t.e)).2).2 p hp) m_main)
theorem Told.mgn (t : Told g) (X : (KK g).In h) (G : h.Ns mainGlobals mg) {x : Str} (hx : x ∈ frees) : mg x = none :=
  PySem.W.mg_none_of X G (nsNo_ok (t.base.2.1 x hx) m_main)
end
/-! ### defs -/
theorem fun_of_val {f : Addr} {d : Dd} (hv : fnWG g f = d.val) (ho : fnOkG g f d.qual = true) (m : f ∈ asK g) (mc : cdG g f ∈ asK g) : ∃ fd, Fun (KK g) d.name d.qual d.st f fd ∧ fd.code = .ref (cdG g f) := by
  unfold fnWG at hv
  split at hv
  · rename_i oc od fd osl hg
    obtain ⟨n1, n2, n3, n4, n5, n6, n7, n8, n9, n10, n11, n12, n13, n14, n15⟩ := fd
    have e2 : (some (n1, n2, n3, n4, n5, n6, n7, n15) : FnW) = some (d.name, d.qual, defArgs d.st, .stmts (defBody d.st), defScope d.st, mainGlobals, [], builtinsNs) := hv
    simp only [Option.some.injEq, Prod.mk.injEq] at e2
    obtain ⟨h1, h2, h3, h4, h5, h6, h7, h9⟩ := e2
    subst h1 h2 h3 h4 h5 h6 h7 h9
    unfold fnOkG at ho
    rw [hg] at ho
    dsimp only at ho
    obtain ⟨o1, o2⟩ := Bool.and_eq_true_iff.mp ho
    have e8 : n8 = .none := by
      cases n8 <;> first | rfl | exact absurd (show false = true from o1) Bool.false_ne_true
    subst e8
    cases n13 with
    | ref c =>
      have ec : cdG g f = c := by
        unfold cdG
        rw [hg]
      refine ⟨_, ⟨⟨oc, od, n9, n10, n11, n12, .ref c, n14, osl, rfl, (frG_mem m).trans hg, ?_⟩, ?_⟩, by rw [ec]⟩
      · unfold PySem.W.codeIn
        dsimp only
        rw [frG_mem (ec ▸ mc)]
        dsimp only at o2
        split at o2
        · rename_i vs sl hc
          rw [hc]
          dsimp only
          split at o2
          · rename_i n tl rest hl
            rw [hl]
            dsimp only
            rw [of_decide_eq_true o2]
            simp
          · cases o2
        · cases o2
      · unfold PySem.W.keepIn
        dsimp only
        rw [frG_mem m, hg]
    | _ => exact absurd (show false = true from o2) Bool.false_ne_true
  · cases hv
theorem Told.fn (t : Told g) {p : Str × Nat} (hp : p ∈ fnN) : ∃ fd, Fun (KK g) p.1 p.1 (tp p.2) (nmG g p.1) fd ∧ fd.code = .ref (cdG g (nmG g p.1)) := by
  have h1 : ((fnN.all fun p => fnOkG g (nmG g p.1) p.1) && (mks.all fun x => tabG g (nmG g x))) = true := congrArg Prod.fst t.c
  have h2 : (fnN.map fun p => fnWG g (nmG g p.1)) = fnN.map fun p => (dFn p).val := congrArg Prod.snd t.c
  exact fun_of_val (d := dFn p) (List.map_inj_left.mp h2 p hp) (List.all_eq_true.mp (Bool.and_eq_true_iff.mp h1).1 p hp) (m_f hp).1 (m_f hp).2
theorem Told.ini (t : Told g) {c : Str × List Str × Nat} (hc : c ∈ withIni) : ∃ fd, Fun (KK g) "__init__" (dIni c).qual (inClass (tp c.2.2) 0) (iniG g (nmG g c.1)) fd := by
  have h1 : (withIni.all fun c => fnOkG g (iniG g (nmG g c.1)) (dIni c).qual) = true := congrArg Prod.fst t.d
  have h2 : (withIni.map fun c => fnWG g (iniG g (nmG g c.1))) = withIni.map fun c => (dIni c).val := congrArg Prod.snd t.d
  have he : c ∈ ecs := (List.mem_filter.mp hc).1
  obtain ⟨fd, F, _⟩ := fun_of_val (d := dIni c) (List.map_inj_left.mp h2 c hc) (List.all_eq_true.mp h1 c hc) (m_c he).2.2.1 (m_c he).2.2.2
  exact ⟨fd, F⟩
/-! ### tables -/
theorem Told.tab (t : Told g) {x : Str} (hx : x ∈ mks) : PySem.W.codeHdIn (KK g) (cdG g (nmG g x)) (tbG g (nmG g x)) = true ∧ g (tbG g (nmG g x)) = some { cls := .none, data := .fields #[] } ∧ (KK g).lookup (tbG g (nmG g x)) = none := by
  have h1 : ((fnN.all fun p => fnOkG g (nmG g p.1) p.1) && (mks.all fun x => tabG g (nmG g x))) = true := congrArg Prod.fst t.c
  have h2 := List.all_eq_true.mp (Bool.and_eq_true_iff.mp h1).2 x hx
  have mc : cdG g (nmG g x) ∈ asK g := by
    have e : ∀ x ∈ mks, ∃ p ∈ fnN, p.1 = x := by
      have z : mks.all (fun x => fnN.any fun p => decide (p.1 = x)) = true := by decide +kernel
      intro x hx
      obtain ⟨p, hp, e⟩ := List.any_eq_true.mp (List.all_eq_true.mp z x hx)
      exact ⟨p, hp, of_decide_eq_true e⟩
    obtain ⟨p, hp, rfl⟩ := e x hx
    exact (m_f hp).2
  obtain ⟨t1, t2⟩ := Bool.and_eq_true_iff.mp h2
  obtain ⟨t3, t4⟩ := Bool.and_eq_true_iff.mp t2
  have tb : g (tbG g (nmG g x)) = some { cls := .none, data := .fields #[] } := by
    unfold emptyTab at t3
    split at t3
    · rename_i a sl hg
      obtain ⟨z1, z2⟩ := Bool.and_eq_true_iff.mp t3
      have e1 : a = #[] := Array.eq_empty_of_size_eq_zero (by simpa using z1)
      have e2 : sl = #[] := Array.eq_empty_of_size_eq_zero (by simpa using z2)
      rw [hg, e1, e2]
    · cases t3
  refine ⟨?_, tb, ?_⟩
  · unfold PySem.W.codeHdIn
    rw [frG_mem mc]
    exact t1
  · have n1 : tbG g (nmG g x) ∉ asK g := fun z => by
      rcases List.mem_cons.mp z with z | z
      · obtain ⟨f1, _⟩ := Bool.and_eq_true_iff.mp t.f
        rw [← z, tb] at f1
        cases f1
      · rw [List.contains_iff_mem.mpr z] at t4
        cases t4
    cases q : (KK g).lookup (tbG g (nmG g x)) with
    | none => rfl
    | some o => exact absurd (frG_in_as q) n1
end
end K00
set_option Elab.async false
set_option linter.all false
set_option maxRecDepth 100000
set_option maxHeartbeats 4000000
/-! The texts: every __init__, the makers, the kinds. -/
namespace K00
open PySem PySem.Spec PyProof.Rows L2 X1 X2 X4
/-- the text of the __init__ of a class of fields fs -/
structure IniTx (st : Stmt) (fs : List Str) : Prop where
  sc : FnScope (("self" : Str) :: fs) (("self" : Str) :: fs) (defScope st)
  b1 : ∀ (n q : Str) (kV doc pm : Value) (an : Option Addr) (cdv ct : Value) (us : List Value), us.length = fs.length + 1 → bindArgs (PySem.W.fnOf n q (defArgs st) (defBody st) (defScope st) .none kV doc pm an cdv ct) ⟨us, []⟩ = pure ((("self" : Str) :: fs).zip us)
  b2 : ∀ (n q : Str) (kV doc pm : Value) (an : Option Addr) (cdv ct : Value) (a : Addr) (ws : List Value), ws.length = fs.length → bindArgs (PySem.W.fnOf n q (defArgs st) (defBody st) (defScope st) .none kV doc pm an cdv ct) ⟨[.ref a], fs.reverse.zip ws⟩ = pure ((("self" : Str) :: fs).zip (.ref a :: ws.reverse))
  bd : (∃ f, fs = [f] ∧ (f == ("__debug__" : Str)) = false ∧ (f == ("__classdict__" : Str)) = false ∧ ∃ p1 p2 p3 p4 : Pos, defBody st = [.Assign [.Attribute (.Name "self" p1) f p2] (.Name f p3) p4]) ∨
    (∃ f g, fs = [f, g] ∧ (f == ("__debug__" : Str)) = false ∧ (f == ("__classdict__" : Str)) = false ∧ (g == ("__debug__" : Str)) = false ∧ (g == ("__classdict__" : Str)) = false ∧
      ∃ p1 p2 p3 p4 r1 r2 r3 r4 : Pos, defBody st = [.Assign [.Attribute (.Name "self" p1) f p2] (.Name f p3) p4, .Assign [.Attribute (.Name "self" r1) g r2] (.Name g r3) r4])
inductive Al {α : Type} (P : α → Prop) : List α → Prop
  | nil : Al P []
  | cons {a : α} {l : List α} : P a → Al P l → Al P (a :: l)
theorem Al.of {α : Type} {P : α → Prop} {l : List α} (h : Al P l) : ∀ a ∈ l, P a := by
  induction h with
  | nil => intro a h; cases h
  | cons p t ih =>
    intro b hb
    rcases List.mem_cons.mp hb with rfl | z
    · exact p
    · exact ih b z
theorem tx_one (st : Stmt) (f : Str) (sc : FnScope ["self", f] ["self", f] (defScope st))
    (b1 : ∀ (n q : Str) (kV doc pm : Value) (an : Option Addr) (cdv ct u v : Value), bindArgs (PySem.W.fnOf n q (defArgs st) (defBody st) (defScope st) .none kV doc pm an cdv ct) ⟨[u, v], []⟩ = pure [(("self" : Str), u), (f, v)])
    (b2 : ∀ (n q : Str) (kV doc pm : Value) (an : Option Addr) (cdv ct u v : Value), bindArgs (PySem.W.fnOf n q (defArgs st) (defBody st) (defScope st) .none kV doc pm an cdv ct) ⟨[u], [(f, v)]⟩ = pure [(("self" : Str), u), (f, v)])
    (d1 : (f == ("__debug__" : Str)) = false) (d2 : (f == ("__classdict__" : Str)) = false) (bd : ∃ p1 p2 p3 p4 : Pos, defBody st = [.Assign [.Attribute (.Name "self" p1) f p2] (.Name f p3) p4]) : IniTx st [f] :=
  ⟨sc, fun n q kV doc pm an cdv ct us hl => match us, hl with
    | [u, v], _ => b1 n q kV doc pm an cdv ct u v, fun n q kV doc pm an cdv ct a ws hl => match ws, hl with
    | [v], _ => b2 n q kV doc pm an cdv ct (.ref a) v, .inl ⟨f, rfl, d1, d2, bd⟩⟩
theorem tx_two (st : Stmt) (f g : Str) (sc : FnScope ["self", f, g] ["self", f, g] (defScope st))
    (b1 : ∀ (n q : Str) (kV doc pm : Value) (an : Option Addr) (cdv ct u v w : Value), bindArgs (PySem.W.fnOf n q (defArgs st) (defBody st) (defScope st) .none kV doc pm an cdv ct) ⟨[u, v, w], []⟩ = pure [(("self" : Str), u), (f, v), (g, w)])
    (b2 : ∀ (n q : Str) (kV doc pm : Value) (an : Option Addr) (cdv ct u v w : Value), bindArgs (PySem.W.fnOf n q (defArgs st) (defBody st) (defScope st) .none kV doc pm an cdv ct) ⟨[u], [(g, w), (f, v)]⟩ = pure [(("self" : Str), u), (f, v), (g, w)])
    (d1 : (f == ("__debug__" : Str)) = false) (d2 : (f == ("__classdict__" : Str)) = false) (d3 : (g == ("__debug__" : Str)) = false) (d4 : (g == ("__classdict__" : Str)) = false)
    (bd : ∃ p1 p2 p3 p4 r1 r2 r3 r4 : Pos, defBody st = [.Assign [.Attribute (.Name "self" p1) f p2] (.Name f p3) p4, .Assign [.Attribute (.Name "self" r1) g r2] (.Name g r3) r4]) : IniTx st [f, g] :=
  ⟨sc, fun n q kV doc pm an cdv ct us hl => match us, hl with
    | [u, v, w], _ => b1 n q kV doc pm an cdv ct u v w, fun n q kV doc pm an cdv ct a ws hl => match ws, hl with
    | [w, v], _ => b2 n q kV doc pm an cdv ct (.ref a) v w, .inr ⟨f, g, rfl, d1, d2, d3, d4, bd⟩⟩
abbrev TxC (c : Str × List Str × Nat) : Prop := IniTx (inClass (tp c.2.2) 0) c.2.1
local macro_rules | `(tactic| walk_at "tx") => `(tactic| first
  | exact .nil
  | refine .cons (tx_one _ _ (C8.fnScope_by (by decide +kernel)) (fun _ _ _ _ _ _ _ _ _ _ => rfl) (fun _ _ _ _ _ _ _ _ _ _ => rfl) (by decide) (by decide) ⟨_, _, _, _, rfl⟩) ?_
  | refine .cons (tx_two _ _ _ (C8.fnScope_by (by decide +kernel)) (fun _ _ _ _ _ _ _ _ _ _ _ => rfl) (fun _ _ _ _ _ _ _ _ _ _ _ => rfl) (by decide) (by decide) (by decide) (by decide) ⟨_, _, _, _, _, _, _, _, rfl⟩) ?_)
theorem tx0 : Al TxC ec0 := by
  repeat walk_at "tx"
theorem tx1 : Al TxC ec1 := by
  repeat walk_at "tx"
theorem tx2 : Al TxC ec2 := by
  repeat walk_at "tx"
theorem tx3 : Al TxC ec3 := by
  repeat walk_at "tx"
theorem tx4 : Al TxC ec4 := by
  repeat walk_at "tx"
theorem tx5 : Al TxC (ec5.take 9) := by
  repeat walk_at "tx"
theorem tx_all {c : Str × List Str × Nat} (h : c ∈ withIni) : TxC c := by
  have e : withIni = ec0 ++ (ec1 ++ (ec2 ++ (ec3 ++ (ec4 ++ ec5.take 9)))) := by decide +kernel
  rw [e] at h
  rcases List.mem_append.mp h with h | h
  · exact tx0.of c h
  rcases List.mem_append.mp h with h | h
  · exact tx1.of c h
  rcases List.mem_append.mp h with h | h
  · exact tx2.of c h
  rcases List.mem_append.mp h with h | h
  · exact tx3.of c h
  rcases List.mem_append.mp h with h | h
  · exact tx4.of c h
  · exact tx5.of c h
end K00
set_option Elab.async false
set_option linter.all false
set_option maxRecDepth 100000
set_option maxHeartbeats 4000000
namespace K00
open PySem PySem.Spec PyProof.Rows L2 X1 X2 X4
def rw_ (c : Str × List Str × Nat) : X4.Row := (c.1, c.2.1)
def prs : List Str → List (Str × Str)
  | a :: b :: r => (a, b) :: prs r
  | _ => []
abbrev ra : List X4.Row := (ecs.take 25).map rw_
abbrev rb : List X4.Row := ((ecs.drop 25).take 25).map rw_
abbrev rc : List X4.Row := ((ecs.drop 50).take 19).map rw_
abbrev na : List (Str × Str) := prs ((ecs.take 24).map (·.1))
abbrev nb : List (Str × Str) := prs (((ecs.drop 24).take 24).map (·.1))
abbrev nc : List (Str × Str) := prs ((ecs.drop 48).map (·.1))
abbrev midB (st : Stmt) : List Stmt := ((defBody st).drop 1).dropLast
local macro_rules | `(tactic| walk_at "mk") => `(tactic| first
  | exact .nil
  | refine .cons (.one _ _ _ _ _ _ _ _ _ _ _ _ _ _ _ _ _ _ _ rfl) ?_
  | refine .cons (.two _ _ _ _ _ _ _ _ _ _ _ _ _ _ _ _ _ _ _ _ _ _ _ _ _ rfl) ?_)
local macro_rules | `(tactic| walk_at "kn") => `(tactic| first
  | exact .nil
  | refine .cons (.mk _ _ _ _ _ _ _ _ _ _ _ _ _) ?_)
theorem mkA : MkText (tp 78) ra := ⟨⟨_, _, _, _, _, midB (tp 78), rfl, by repeat walk_at "mk"⟩, C8.fnScope_by (by decide +kernel), rfl, rfl, rfl, by decide⟩
theorem mkB : MkText (tp 79) rb := ⟨⟨_, _, _, _, _, midB (tp 79), rfl, by repeat walk_at "mk"⟩, C8.fnScope_by (by decide +kernel), rfl, rfl, rfl, by decide⟩
theorem mkC : MkText (tp 80) rc := ⟨⟨_, _, _, _, _, midB (tp 80), rfl, by repeat walk_at "mk"⟩, C8.fnScope_by (by decide +kernel), rfl, rfl, rfl, by decide⟩
def knOk (sc : Scope) (n : Str) : Bool := decide (sc.names.lookup n = some .globalImplicit) && !(n == ("__debug__" : Str))
theorem knNm {sc : Scope} {ns : List (Str × Str)} (h : ns.all (fun n => knOk sc n.1 && knOk sc n.2) = true) : ∀ n ∈ ns, KnNm sc n.1 ∧ KnNm sc n.2 := fun n hn => by
  have z := List.all_eq_true.mp h n hn
  simp only [knOk, Bool.and_eq_true, decide_eq_true_eq, Bool.not_eq_true'] at z
  exact ⟨⟨z.1.1, z.1.2⟩, ⟨z.2.1, z.2.2⟩⟩
theorem knA : KnText (tp 81) na := ⟨⟨_, _, _, _, _, midB (tp 81), rfl, by repeat walk_at "kn"⟩, C8.fnScope_by (by decide +kernel), rfl, rfl, rfl, by decide +kernel, knNm (by decide +kernel)⟩
theorem knB : KnText (tp 82) nb := ⟨⟨_, _, _, _, _, midB (tp 82), rfl, by repeat walk_at "kn"⟩, C8.fnScope_by (by decide +kernel), rfl, rfl, rfl, by decide +kernel, knNm (by decide +kernel)⟩
theorem knC : KnText (tp 83) nc := ⟨⟨_, _, _, _, _, midB (tp 83), rfl, by repeat walk_at "kn"⟩, C8.fnScope_by (by decide +kernel), rfl, rfl, rfl, by decide +kernel, knNm (by decide +kernel)⟩
end K00
set_option Elab.async false
set_option linter.all false
set_option maxRecDepth 100000
set_option maxHeartbeats 4000000
namespace K00
open PySem PySem.Spec PyProof.Rows L2 X1 X2 X4
section
variable {g : G} {P : Program} {w : World} {mg : Str → Option Value} {base h : Heap}
theorem fld_all {c : Str × List Str × Nat} (hc : c ∈ ecs) : ∀ f ∈ c.2.1, f ∈ fldNames := by
  have z : ecs.all (fun c => c.2.1.all fun f => decide (f ∈ fldNames)) = true := by decide +kernel
  exact fun f hf => of_decide_eq_true (List.all_eq_true.mp (List.all_eq_true.mp z c hc) f hf)
theorem nm_all {c : Str × List Str × Nat} (hc : c ∈ ecs) : c.1 ≠ "TaskError" ∧ (c.1 == ("__debug__" : Str)) = false := by
  have z : ecs.all (fun c => !decide (c.1 = "TaskError") && !(c.1 == ("__debug__" : Str))) = true := by decide +kernel
  have z2 := List.all_eq_true.mp z c hc
  simp only [Bool.and_eq_true, Bool.not_eq_true', decide_eq_false_iff_not] at z2
  exact z2
/-- a class with an __init__, all that is asked of it -/
theorem Told.kind (t : Told g) (X : (KK g).In h) (G : h.Ns mainGlobals mg) {c : Str × List Str × Nat} (hw : c ∈ withIni) : Kind P w (KK g) mg base c.1 c.2.1 (nmG g c.1) := by
  have hc : c ∈ ecs := (List.mem_filter.mp hw).1
  obtain ⟨tt, _⟩ := t.te
  obtain ⟨s, hs⟩ := t.sub hc
  obtain ⟨fd, F⟩ := t.ini hw
  have tx := tx_all hw
  have no := no_of tt s (fld_all hc)
  have ig := List.all_eq_true.mp (show (withIni.all fun c => iniOk g (nmG g c.1)) = true from t.g') c hw
  obtain ⟨i1, i2⟩ := Bool.and_eq_true_iff.mp ig
  have iN : PySem.W.nsIn (KK g) s.N "__init__" = some (some (.ref (iniG g (nmG g c.1)))) := by
    rw [hs]
    split at i1
    · rename_i es k sl hg
      rw [nsIn_at ((frG_mem (m_c hc).2.1).trans hg)]
      exact He.eqO_ok i1
    · cases i1
  have iC : PySem.W.findIn (KK g) (.ref (nmG g c.1)) "__init__" = some (some (.ref (iniG g (nmG g c.1)))) := by
    rw [s.find, PySem.W.alongIn]
    have e : PySem.W.ownIn (KK g) "__init__" (.ref (nmG g c.1)) = some (some (.ref (iniG g (nmG g c.1)))) := by
      unfold PySem.W.ownIn
      dsimp only
      rw [s.at_]
      exact iN
    rw [e]
  have tI : PySem.W.typeIn (KK g) (.ref (iniG g (nmG g c.1))) = some (.type "function") := by
    unfold PySem.W.typeIn
    dsimp only
    rw [frG_mem (m_c hc).2.2.1]
    split at i2
    · rename_i od fd' sl hg
      rw [hg]
      rfl
    · cases i2
  have bds : Binds (KK g) fd (("self" : Str) :: c.2.1) [] := F.binds fun kV doc pm an cdv ct us hl => tx.b1 _ _ kV doc pm an cdv ct us (by simpa using hl)
  have bk : ∀ (s : Shared) (a : Addr) (ws : List Value), (KK g).In s.heap → ws.length = c.2.1.reverse.length → BindsTo s fd ⟨[.ref a], c.2.1.reverse.zip ws⟩ ((("self" : Str) :: c.2.1).zip (.ref a :: ws.reverse)) := fun s a ws _ hl => by
    obtain ⟨oc, od, kV, doc, pm, an, cdv, ct, osl, rfl, lk, hcd⟩ := F.ex
    exact BindsTo.of_eq (tx.b2 _ _ kV doc pm an cdv ct a ws (by simpa using hl))
  have ok : FnOk P w (KK g) mg base CX0 1 (iniG g (nmG g c.1)) fd (("self" : Str) :: c.2.1) (spIni (nmG g c.1) (Lf c.2.1) c.2.1.length) := by
    rcases tx.bd with ⟨f, e, d1, d2, bd⟩ | ⟨f, f2, e, d1, d2, d3, d4, bd⟩
    · have sc := tx.sc
      rw [e] at sc no ⊢
      exact ok_ini1 F sc bd (oex_of tt s) (no f (by simp)) d1 d2
    · have sc := tx.sc
      rw [e] at sc no ⊢
      exact ok_ini2 F sc bd (oex_of tt s) (no f (by simp)) (no f2 (by simp)) d1 d2 d3 d4
  exact ⟨⟨_, fd, ⟨oex_of tt s, t.mgc X G hc, iC, tI, ok⟩, bds, bk⟩, xfc_of tt s, exc_of tt s, no⟩
end
end K00
set_option Elab.async false
set_option linter.all false
set_option maxRecDepth 100000
set_option maxHeartbeats 4000000
namespace K00
open PySem PySem.Spec PyProof.Rows L2 X1 X2 X4
abbrev bb (x : Str) (n : Str × Str) : Bool × Bool := (decide (n.1 = x), decide (n.2 = x))
theorem kns_of {K : PySem.W.Frag} {mg : Str → Option Value} {C : Addr} {f : Str × Str → Bool × Bool} : ∀ {ns : List (Str × Str)}, (∀ n ∈ ns, IsOf K mg C n.1 (f n).1 ∧ IsOf K mg C n.2 (f n).2) → Kns K mg C ns (ns.map f)
  | [], _ => .nil
  | n :: ns, h => .cons (h n List.mem_cons_self) (kns_of fun m hm => h m (List.mem_cons_of_mem _ hm))
def nmAt (i : Nat) : Str := (ecs.getD i ("", [], 0)).1
theorem rows_eq : ∀ i, i < 72 → fl2 (na.map (bb (nmAt i))) ++ fl2 (nb.map (bb (nmAt i))) ++ fl2 (nc.map (bb (nmAt i))) = rowB i 72 := by
  have z : ((List.range 72).all fun i => decide (fl2 (na.map (bb (nmAt i))) ++ fl2 (nb.map (bb (nmAt i))) ++ fl2 (nc.map (bb (nmAt i))) = rowB i 72)) = true := by decide +kernel
  exact fun i hi => of_decide_eq_true (List.all_eq_true.mp z i (List.mem_range.mpr hi))
theorem rows_no : fl2 (na.map fun _ => (false, false)) ++ fl2 (nb.map fun _ => (false, false)) ++ fl2 (nc.map fun _ => (false, false)) = rowB (-1) 72 := by decide +kernel
theorem na_in : ∀ n ∈ na ++ (nb ++ nc), (∃ c ∈ ecs, c.1 = n.1) ∧ ∃ c ∈ ecs, c.1 = n.2 := by
  have z : (na ++ (nb ++ nc)).all (fun n => (ecs.any fun c => decide (c.1 = n.1)) && ecs.any fun c => decide (c.1 = n.2)) = true := by decide +kernel
  intro n hn
  obtain ⟨z1, z2⟩ := Bool.and_eq_true_iff.mp (List.all_eq_true.mp z n hn)
  obtain ⟨c, hc, e⟩ := List.any_eq_true.mp z1
  obtain ⟨d, hd, e2⟩ := List.any_eq_true.mp z2
  exact ⟨⟨c, hc, of_decide_eq_true e⟩, d, hd, of_decide_eq_true e2⟩
theorem rabc : ra ++ rb ++ rc = (ecs.take 69).map rw_ := by decide +kernel
theorem ini69 {c : Str × List Str × Nat} (h : c ∈ ecs.take 69) : c ∈ withIni := by
  have z : (ecs.take 69).all (fun c => !c.2.1.isEmpty) = true := by decide +kernel
  exact List.mem_filter.mpr ⟨List.mem_of_mem_take h, List.all_eq_true.mp z c h⟩
theorem sc_all (st : Stmt) (rs : List X4.Row) (h : rs.all (fun r => knOk (defScope st) r.1) = true) : ∀ r ∈ rs, (defScope st).names.lookup r.1 = some .globalImplicit ∧ (r.1 == ("__debug__" : Str)) = false := fun r hr => by
  have z := List.all_eq_true.mp h r hr
  simpa [knOk] using z
section
variable {g : G} {P : Program} {w : World} {mg : Str → Option Value} {base h : Heap}
theorem Told.isOf (t : Told g) (X : (KK g).In h) (G : h.Ns mainGlobals mg) {c : Str × List Str × Nat} (hc : c ∈ ecs) {y : Str} (hy : ∃ d ∈ ecs, d.1 = y) : IsOf (KK g) mg (nmG g c.1) y (decide (y = c.1)) := by
  obtain ⟨d, hd, rfl⟩ := hy
  obtain ⟨tt, _⟩ := t.te
  obtain ⟨s, _⟩ := t.sub hc
  obtain ⟨s2, _⟩ := t.sub hd
  exact is_of tt s s2 (t.mgc X G hd) (nm_all hd).1 (fun e => by rw [e])
theorem Told.isOfT (t : Told g) (X : (KK g).In h) (G : h.Ns mainGlobals mg) {y : Str} (hy : ∃ d ∈ ecs, d.1 = y) : IsOf (KK g) mg (nmG g "TaskError") y false := by
  obtain ⟨d, hd, rfl⟩ := hy
  obtain ⟨tt, _⟩ := t.te
  obtain ⟨s2, _⟩ := t.sub hd
  exact is_ofT tt s2 (t.mgc X G hd) (nm_all hd).1
theorem Told.own (t : Told g) (X : (KK g).In h) (G : h.Ns mainGlobals mg) {c : Str × List Str × Nat} {i : Nat} (hi : ecs[i]? = some c) : OwnK (KK g) mg na nb nc (nmG g c.1) i := by
  have hc : c ∈ ecs := List.mem_of_getElem? hi
  obtain ⟨tt, _⟩ := t.te
  obtain ⟨s, _⟩ := t.sub hc
  have l72 : ecs.length = 72 := by decide +kernel
  have hlt : i < 72 := by rw [← l72]; exact (List.getElem?_eq_some_iff.mp hi).1
  have en : nmAt i = c.1 := by
    unfold nmAt
    rw [List.getD_eq_getElem?_getD, hi]
    rfl
  have re := rows_eq i hlt
  rw [en] at re
  have k : ∀ n ∈ na ++ (nb ++ nc), IsOf (KK g) mg (nmG g c.1) n.1 (bb c.1 n).1 ∧ IsOf (KK g) mg (nmG g c.1) n.2 (bb c.1 n).2 := fun n hn => ⟨t.isOf X G hc (na_in n hn).1, t.isOf X G hc (na_in n hn).2⟩
  exact ⟨exc_of tt s, is_TE tt s (t.mgT X G) (nm_all hc).1, kit_ve tt s, kit_le tt s, _, _, _, kns_of fun n hn => k n (List.mem_append.mpr (.inl hn)), kns_of fun n hn => k n (List.mem_append.mpr (.inr (List.mem_append.mpr (.inl hn)))),
    kns_of fun n hn => k n (List.mem_append.mpr (.inr (List.mem_append.mpr (.inr hn)))), re⟩
theorem Told.bare (t : Told g) (X : (KK g).In h) (G : h.Ns mainGlobals mg) {c : Str × List Str × Nat} (hc : c ∈ noIni) : Bare (KK g) mg c.1 (nmG g c.1) := by
  have he : c ∈ ecs := (List.mem_filter.mp hc).1
  obtain ⟨tt, ht⟩ := t.te
  obtain ⟨s, hs⟩ := t.sub he
  obtain ⟨_, _, b3, b4⟩ := t.base
  exact bare_of tt s (t.mgc X G he) (by rw [hs]; exact nsOkG_ok (b4 c hc).1 (m_c he).2.1) (by rw [hs]; exact nsNo_ok (b4 c hc).2 (m_c he).2.1) (by rw [ht]; exact nsOkG_ok b3 m_nT)
theorem Told.known (t : Told g) (X : (KK g).In h) (G : h.Ns mainGlobals mg) {st : Stmt} {rs : List X4.Row} (hs : rs.all (fun r => knOk (defScope st) r.1) = true) (hr : ∀ r ∈ rs, r ∈ ra ++ rb ++ rc) : ∀ r ∈ rs, Known P w (KK g) mg base (defScope st) r := fun r hm => by
  have e := hr r hm
  rw [rabc] at e
  obtain ⟨c, hc, rfl⟩ := List.mem_map.mp e
  obtain ⟨z1, z2⟩ := sc_all st rs hs _ hm
  exact ⟨⟨_, t.kind X G (ini69 hc)⟩, z1, z2⟩
/-- all that the law's def leans on -/
theorem Told.lk (t : Told g) (tH : lookH g = true) (X : (KK g).In h) (G : h.Ns mainGlobals mg) (Xb : (KK g).In base) (TB : ∀ x ∈ mks, LamX.TabB base mg (cdG g (nmG g x)) (tbG g (nmG g x))) :
    LK P w (KK g) mg base ra rb rc na nb nc (tbG g (nmG g "_law_made_a")) (tbG g (nmG g "_law_made_b")) (tbG g (nmG g "_law_made_c")) := by
  have fr : ∀ {x : Str}, x ∈ frees → mg x = none := fun hx => t.mgn X G hx
  have mf : ∀ {p : Str × Nat}, p ∈ fnN → mg p.1 = some (.ref (nmG g p.1)) := fun hp => t.mgf X G hp
  obtain ⟨dP, FP, _⟩ := t.fn (p := ("_law_pool", 75)) (by decide +kernel)
  obtain ⟨dT, FT, _⟩ := t.fn (p := ("_law_take", 76)) (by decide +kernel)
  obtain ⟨dM, FM, _⟩ := t.fn (p := ("_law_mixed", 77)) (by decide +kernel)
  obtain ⟨da, Fa, ca⟩ := t.fn (p := ("_law_made_a", 78)) (by decide +kernel)
  obtain ⟨db, Fb, cb⟩ := t.fn (p := ("_law_made_b", 79)) (by decide +kernel)
  obtain ⟨dc, Fc, cc⟩ := t.fn (p := ("_law_made_c", 80)) (by decide +kernel)
  obtain ⟨d1, F1, _⟩ := t.fn (p := ("_law_kinds_a", 81)) (by decide +kernel)
  obtain ⟨d2, F2, _⟩ := t.fn (p := ("_law_kinds_b", 82)) (by decide +kernel)
  obtain ⟨d3, F3, _⟩ := t.fn (p := ("_law_kinds_c", 83)) (by decide +kernel)
  obtain ⟨dO, FO, _⟩ := t.fn (p := ("_law_is_own", 84)) (by decide +kernel)
  obtain ⟨dS, FS, _⟩ := t.fn (p := ("_law_same", 85)) (by decide +kernel)
  have gI : mg "int" = none := fr (by decide +kernel)
  have gL : mg "len" = none := fr (by decide +kernel)
  have gIs : mg "isinstance" = none := fr (by decide +kernel)
  have gV : mg "ValueError" = none := fr (by decide +kernel)
  have gR : mg "range" = none := fr (by decide +kernel)
  have bT : Binds (KK g) dT ["pool", "many"] [] := FT.binds fun _ _ _ _ _ _ us hl => match us, hl with | [_, _], _ => rfl
  have b1 : Binds (KK g) d1 ["e"] [] := F1.binds fun _ _ _ _ _ _ us hl => match us, hl with | [_], _ => rfl
  have b2 : Binds (KK g) d2 ["e"] [] := F2.binds fun _ _ _ _ _ _ us hl => match us, hl with | [_], _ => rfl
  have b3 : Binds (KK g) d3 ["e"] [] := F3.binds fun _ _ _ _ _ _ us hl => match us, hl with | [_], _ => rfl
  have O1 := ok_kn (P := P) (w := w) (base := base) F1 knA gIs
  have O2 := ok_kn (P := P) (w := w) (base := base) F2 knB gIs
  have O3 := ok_kn (P := P) (w := w) (base := base) F3 knC gIs
  have g1 : mg "_law_kinds_a" = some (.ref (nmG g "_law_kinds_a")) := mf (p := ("_law_kinds_a", 81)) (by decide +kernel)
  have g2 : mg "_law_kinds_b" = some (.ref (nmG g "_law_kinds_b")) := mf (p := ("_law_kinds_b", 82)) (by decide +kernel)
  have g3 : mg "_law_kinds_c" = some (.ref (nmG g "_law_kinds_c")) := mf (p := ("_law_kinds_c", 83)) (by decide +kernel)
  have hS : ∃ o, base.get? sysModules = some o := by
    obtain ⟨f1, _⟩ := Bool.and_eq_true_iff.mp t.f
    split at f1
    · rename_i hg
      exact ⟨_, Xb _ _ ((frG_mem List.mem_cons_self).trans hg)⟩
    · cases f1
  obtain ⟨tt, ht⟩ := t.te
  obtain ⟨_, _, bs3, _⟩ := t.base
  obtain ⟨h1, hh⟩ := Bool.and_eq_true_iff.mp tH
  obtain ⟨h2, h3⟩ := Bool.and_eq_true_iff.mp hh
  have kT : ∀ n ∈ na ++ (nb ++ nc), IsOf (KK g) mg (nmG g "TaskError") n.1 false ∧ IsOf (KK g) mg (nmG g "TaskError") n.2 false := fun n hn => ⟨t.isOfT X G (na_in n hn).1, t.isOfT X G (na_in n hn).2⟩
  refine { pool := ⟨_, dP, ok_pool FP gI gL (fr (by decide +kernel)) (fr (by decide +kernel)), mf (p := ("_law_pool", 75)) (by decide +kernel), FP.kp, FP.binds fun _ _ _ _ _ _ us hl => match us, hl with | [_, _], _ => rfl⟩,
           mixed := ⟨_, dM, ok_mixed FM FT bT (mf (p := ("_law_take", 76)) (by decide +kernel)) gI gL (fr (by decide +kernel)) gR, mf (p := ("_law_mixed", 77)) (by decide +kernel), FM.kp, FM.binds fun _ _ _ _ _ _ us hl => match us, hl with | [_, _], _ => rfl⟩,
           ma := ⟨_, da, ok_mk Fa ca mkA (TB _ (by decide +kernel)) (t.known X G (by decide +kernel) fun r hr => List.mem_append.mpr (.inl (List.mem_append.mpr (.inl hr)))), mf (p := ("_law_made_a", 78)) (by decide +kernel), Fa.kp, Fa.binds fun _ _ _ _ _ _ us hl => match us, hl with | [_, _], _ => rfl⟩,
           mb := ⟨_, db, ok_mk Fb cb mkB (TB _ (by decide +kernel)) (t.known X G (by decide +kernel) fun r hr => List.mem_append.mpr (.inl (List.mem_append.mpr (.inr hr)))), mf (p := ("_law_made_b", 79)) (by decide +kernel), Fb.kp, Fb.binds fun _ _ _ _ _ _ us hl => match us, hl with | [_, _], _ => rfl⟩,
           mc := ⟨_, dc, ok_mk Fc cc mkC (TB _ (by decide +kernel)) (t.known X G (by decide +kernel) fun r hr => List.mem_append.mpr (.inr hr)), mf (p := ("_law_made_c", 80)) (by decide +kernel), Fc.kp, Fc.binds fun _ _ _ _ _ _ us hl => match us, hl with | [_, _], _ => rfl⟩,
           ka := ⟨_, d1, O1, g1, F1.kp, b1⟩, kb := ⟨_, d2, O2, g2, F2.kp, b2⟩, kc := ⟨_, d3, O3, g3, F3.kp, b3⟩,
           own := ⟨_, dO, ok84 FO O1 O2 O3 F1.kp F2.kp F3.kp b1 b2 b3 g1 g2 g3 gIs gV (fr (by decide +kernel)) gR (t.mgT X G), mf (p := ("_law_is_own", 84)) (by decide +kernel), FO.kp, FO.binds fun _ _ _ _ _ _ us hl => match us, hl with | [_, _], _ => rfl⟩,
           same := ⟨_, dS, ok85 FS (fr (by decide +kernel)) hS, mf (p := ("_law_same", 85)) (by decide +kernel), FS.kp, FS.binds fun _ _ _ _ _ _ us hl => match us, hl with | [_, _], _ => rfl⟩,
           gE := fr (by decide +kernel), gL := gL, gI := gIs, gV := gV, rows := ?_, good := by decide +kernel, len := by decide +kernel,
           u1 := ⟨_, t.bare X G (c := ("UnlikeNames", [], 30)) (by decide +kernel), t.own X G (c := ("UnlikeNames", [], 30)) (i := 69) (by decide +kernel)⟩,
           u2 := ⟨_, t.bare X G (c := ("UnlikeEntries", [], 40)) (by decide +kernel), t.own X G (c := ("UnlikeEntries", [], 40)) (i := 70) (by decide +kernel)⟩,
           u3 := ⟨_, t.bare X G (c := ("Nothing", [], 73)) (by decide +kernel), t.own X G (c := ("Nothing", [], 73)) (i := 71) (by decide +kernel)⟩,
           bs := ⟨_, t.kind X G (c := ("BadStart", ["thing"], 3)) (by decide +kernel)⟩,
           te := ⟨_, bare_ofT tt (t.mgT X G) (by rw [ht]; exact nsOkG_ok bs3 m_nT), exc_ofT tt, kit_veT tt, _, _, _, kns_of fun n hn => kT n (List.mem_append.mpr (.inl hn)), kns_of fun n hn => kT n (List.mem_append.mpr (.inr (List.mem_append.mpr (.inl hn)))),
             kns_of fun n hn => kT n (List.mem_append.mpr (.inr (List.mem_append.mpr (.inr hn)))), rows_no⟩,
           pab := by simpa using h1, pac := by simpa using h2, pbc := by simpa using h3 }
  intro i r hi C hC
  rw [rabc, List.getElem?_map] at hi
  obtain ⟨c, hc, rfl⟩ := Option.map_eq_some_iff.mp hi
  have hc2 : ecs[i]? = some c := by
    have z := List.getElem?_eq_some_iff.mp hc
    obtain ⟨z1, z2⟩ := z
    rw [List.getElem_take] at z2
    exact List.getElem?_eq_some_iff.mpr ⟨Nat.lt_of_lt_of_le z1 (List.length_take_le' _ _), z2⟩
  have e := (t.mgc X G (List.mem_of_getElem? hc2)).symm.trans hC
  cases e
  exact t.own X G hc2
end
end K00
set_option Elab.async false
set_option linter.all false
set_option maxRecDepth 100000
set_option maxHeartbeats 4000000
namespace K00
open PySem PySem.Spec PyProof.Rows L2 X1 X2 X4
abbrev LkT : Type := Bool × Bool × (Bool × List FnW) × (Bool × List FnW) × Bool × Bool × Bool × Bool
def looks (g : G) : LkT := (lookA g, lookB g, lookC g, lookD g, lookE g, lookF g, lookG g, lookH g)
def vals : LkT := (true, true, (true, fnN.map fun p => (dFn p).val), (true, withIni.map fun c => (dIni c).val), true, true, true, true)
theorem told_of {g : G} (h : looks g = vals) : Told g ∧ lookH g = true := by
  unfold looks vals at h
  simp only [Prod.mk.injEq] at h
  obtain ⟨h1, h2, h3, h4, h5, h6, h7, h8⟩ := h
  exact ⟨⟨h1, h2, h3, h4, h5, h6, h7⟩, h8⟩
def hk : PySem.W.Hook where
  α := LkT
  obs := fun s => looks s.heap.get?
  val := fun _ => vals
  says := fun _ h => ∃ g : G, looks g = vals ∧ ∀ a o, g a = some o → h.get? a = some o
  of := fun _ _ e => ⟨_, e, fun _ _ z => z⟩
  keeps := fun _ _ _ ⟨g, e, k⟩ kk => ⟨g, e, fun a o z => kk _ _ (k a o z)⟩
def ob (s : PySem.W.SharedT) : LkT := looks (HandSHeadRun.getT s)
theorem ob_eq (s : PySem.W.SharedT) : ob s = hk.obs s.abs := by
  have e : HandSHeadRun.getT s = s.abs.heap.get? := funext (HandSHeadRun.getT_eq s)
  unfold ob
  rw [e]
  rfl
theorem run_all (w : World) : HandSHeadRun.RunEq R q86 hk ob 20000 loose w := by
  intro os
  have h1 := run1 w os
  have h2 := run2 w os
  have hA := runA w os
  have hB := runB w os
  have hC := runC w os
  have hD := runD w os
  have hE := runE w os
  have hF := runF w os
  have hG := runG w os
  have hH := runH w os
  show (endS w os).map _ = _
  cases e : endS w os with
  | none =>
    rw [e] at h1
    cases h1
  | some s =>
    rw [e, Option.map_some] at h1 h2 hA hB hC hD hE hF hG hH
    rw [Option.map_some]
    have z1 := Option.some.inj h1
    have z2 := Option.some.inj h2
    have zz : ob s = vals := by
      unfold ob looks vals
      rw [Option.some.inj hA, Option.some.inj hB, Option.some.inj hC, Option.some.inj hD, Option.some.inj hE, Option.some.inj hF, Option.some.inj hG, Option.some.inj hH]
    rw [z1, z2, zz]
    rfl
/-- a law's end, no display being under way -/
theorem walk_G {l : PySem.W.OpenLaw} {n k : Nat} {q : Program} {loose : List Str} {XP : (Str → Option Value) → Heap → Prop} {YP : World → Heap → Prop} {d : DefRec} {x : Str} (hn : l.most = some n) (hn2 : n ≤ sizeLine) (hdf : d.params.defaults = []) (hr : Room k callerA)
    (F : ∀ (w : World) (mg : Str → Option Value) (fa : Addr) (h : Heap), YP w h → h.Ns mainGlobals mg → mg d.name = some (.ref fa) →
      ∃ (K : PySem.W.Frag) (fd : FuncData) (cs : List (Addr × Addr)) (sp : Sp), K.In h ∧ (∀ p ∈ cs, h.get? p.2 = some { cls := .none, data := .fields #[] }) ∧ (∀ p ∈ cs, K.lookup p.2 = none) ∧ (∀ p ∈ cs, PySem.W.CodeHd h p.1 p.2) ∧ (∀ (s : Shared) (u : Value), BindsTo s fd ⟨[u], []⟩ [(x, u)]) ∧
        (∀ (H : Hp) (a : Addr) (ns : List Int), ns.length ≤ n → (∀ p ∈ cs, H p.2 = some (.tbl #[])) → SqL K H a (ns.map V.int) → sp [.ref a] H (fun v _ => v = .bl true) fun _ _ _ => False) ∧
        ∀ base : Heap, K.In base → base.Ns mainGlobals mg → (∀ p ∈ cs, LamX.TabB base mg p.1 p.2) → FnOkG l.prog w K mg base k fa fd [x] sp) :
    PySem.W.WalkO q loose XP YP l.row.toRowW d [] (fun f vs => PySem.call f vs) := by
  refine Att.attach_callB hn hdf fun w s₀ s₁ mg mb fa o pm cd doc a vs ns G Y ho hd hcd hmg hobj hints hlen hbits hg => ?_
  obtain ⟨K, fd, cs, sp, KX, hT, nT, C, hb, hsp, hF⟩ := F w mg fa _ Y G.T.g hmg
  exact law_callG KX G.T.g G.T.b G.T.builtins G.T.nolimit hg hT nT C G.T.bmain hobj hints (Nat.le_trans hlen hn2) hr hF hb (fun H hH hS => hsp H a ns hlen hH hS)
theorem facts {P : Program} {w : World} {h : Heap} {mg : Str → Option Value} {fa : Addr} {n : Nat} (hn : n ≤ 1000) (Y : hk.says w h) (G : h.Ns mainGlobals mg) (hfa : mg ("law" : Str) = some (.ref fa)) :
    ∃ (K : PySem.W.Frag) (fd : FuncData) (cs : List (Addr × Addr)) (sp : Sp), K.In h ∧ (∀ p ∈ cs, h.get? p.2 = some { cls := .none, data := .fields #[] }) ∧ (∀ p ∈ cs, K.lookup p.2 = none) ∧ (∀ p ∈ cs, PySem.W.CodeHd h p.1 p.2) ∧ (∀ (s : Shared) (u : Value), BindsTo s fd ⟨[u], []⟩ [("script", u)]) ∧
        (∀ (H : Hp) (a : Addr) (ns : List Int), ns.length ≤ n → (∀ p ∈ cs, H p.2 = some (.tbl #[])) → SqL K H a (ns.map V.int) → sp [.ref a] H (fun v _ => v = .bl true) fun _ _ _ => False) ∧
        ∀ base : Heap, K.In base → base.Ns mainGlobals mg → (∀ p ∈ cs, LamX.TabB base mg p.1 p.2) → FnOkG P w K mg base 6 fa fd ["script"] sp := by
  obtain ⟨g, lk, k⟩ := Y
  obtain ⟨t, tH⟩ := told_of lk
  have X : (KK g).In h := fun a o e => k _ _ (He.frG_at _ e)
  obtain ⟨fd, F, _⟩ := t.fn (p := ("law", 86)) (by decide +kernel)
  have e := hfa.symm.trans (t.mgf X G (p := ("law", 86)) (by decide +kernel))
  cases e
  refine ⟨KK g, fd, mks.map fun x => (cdG g (nmG g x), tbG g (nmG g x)), spLaw (KK g) (tbG g (nmG g "_law_made_a")) (tbG g (nmG g "_law_made_b")) (tbG g (nmG g "_law_made_c")), X, fun p hp => ?_, fun p hp => ?_, fun p hp => ?_, fun s u => ?_, fun H a ns hl hH hS => ?_, fun base Xb Gb TB => ?_⟩
  · obtain ⟨x, hx, rfl⟩ := List.mem_map.mp hp
    exact k _ _ (t.tab hx).2.1
  · obtain ⟨x, hx, rfl⟩ := List.mem_map.mp hp
    exact (t.tab hx).2.2
  · obtain ⟨x, hx, rfl⟩ := List.mem_map.mp hp
    exact PySem.W.codeHd_of_K X (t.tab hx).1
  · obtain ⟨oc, od, kV, doc, pm, an, cdv, ct, osl, rfl, lk, hcd⟩ := F.ex
    exact BindsTo.of_eq rfl
  · have hm : ∀ x ∈ mks, H (tbG g (nmG g x)) = some (.tbl #[]) := fun x hx => hH (cdG g (nmG g x), tbG g (nmG g x)) (List.mem_map.mpr ⟨x, hx, rfl⟩)
    exact ⟨a, ns, rfl, hS, Nat.le_trans hl hn, hm _ (by decide +kernel), hm _ (by decide +kernel), hm _ (by decide +kernel), fun _ => rfl⟩
  · exact ok86 F (t.lk tH X G Xb fun x hx => TB (cdG g (nmG g x), tbG g (nmG g x)) (List.mem_map.mpr ⟨x, hx, rfl⟩))
end K00
set_option Elab.async false
set_option linter.all false
set_option maxRecDepth 100000
set_option maxHeartbeats 0
open PySem PySem.W PySem.Calls PyProof.Rows
theorem PySem.Challenge.cw_meettasks_k00_errors_made_holds : PySem.Challenge.rw_meettasks_k00_errors_made.Holds := by
  w_on; o_law
  refine HandSHeadRun.head_any (r := OpenLaw.row PySem.Challenge.rw_meettasks_k00_errors_made) (q := K00.q86) (H := K00.hk) (ob := K00.ob) (M := 20000) (loose := K00.loose) (d := HandSHeadRun.topDef (OpenLaw.row PySem.Challenge.rw_meettasks_k00_errors_made).prog 86) (kwd := []) K00.ob_eq
    (by kernel_rfl) (fun s => by kernel_rfl) K00.run_all (by kernel_rfl) (by kernel_rfl) (by kernel_rfl) (by rfl) (by first | assumption | decide +kernel) (by decide +kernel) ⟨rfl, rfl, rfl, rfl, rfl, by decide +kernel⟩ ?hw ?hc
  case hw => w_witness2
  case hc =>
    refine K00.walk_G (l := PySem.Challenge.rw_meettasks_k00_errors_made) (n := 63) (k := 6) (x := "script") rfl (by decide) (by kernel_rfl) ⟨rfl, by decide, by decide⟩ ?F
    intro w mg fa h Y G hmg0
    have hmg : mg ("law" : PySem.Str) = some (.ref fa) := by
      have e : (HandSHeadRun.topDef (OpenLaw.row PySem.Challenge.rw_meettasks_k00_errors_made).prog 86).name = ("law" : PySem.Str) := by kernel_rfl
      rw [← e]
      exact hmg0
    exact K00.facts (by decide) Y G hmg
