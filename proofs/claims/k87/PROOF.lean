import PyProof.Rows.All
import Wide.All
import OpenK.AllK
import Wide.FinOn
import KE.KStateDown
import HandS.Head0
import HandS.Head1
import HandS.Head2
import HandS.HeadEnd
import HandS.HeadHook1
import HandS.HeadHook2
import HandS.HeadHook3
import HandS.Words
import HandS.ForMost
import HandS.IsInst
import HandS.Evl
import PyProof.StrLawsRepr
import KE.KTryMore
import KE.KExcIs
import HandS.Exc
import HandS.ExcInit
import HandS.ExcIs
import HandS.ForExc
import PyProof.ExcBaseAll.IndexError
import PyProof.ExcBaseAll.OverflowError
import PyProof.ExcBaseAll.RuntimeError
import PyProof.ExcBaseAll.TypeError
import PyProof.ExcBaseAll.ArithmeticError
import PyProof.ExcBaseAll.LookupError
import KE.KDictZip
import KE.KStar
import HandS.Zip0
import HandS.Star
import KE.GoesMore
import HandS.Zip
import HandS.Conv
import HandS.Style
import HandS.SetFor
import HandS.Deep
import HandS.SortInts
import HandS.SortRule
import HandS.RaiseMore
import KE.GoesZip
import HandS.More
import HandS.TupSets
import HandS.DictComp
import HandS.MakeKwOnly
import HandS.Dict
import HandS.Strs
import HandS.Flt
import HandS.TupLe
import HandS.Defaults
import HandS.MakeKw
import HandS.OwnEq
import HandS.SlotsOwn
import PyProof.InstNe
import HandS.CallLocal
import HandS.TupAny
import PyProof.DictUpdate
import KE.SortKeyed
import HandS.SortKw
import PySem.Challenge.RW_crossgrants_k87_arrivals_of_loads
set_option Elab.async false
set_option linter.all false
set_option maxRecDepth 100000
set_option maxHeartbeats 1000000
/-! EL0: the top run in the kernel: what the looks need (it stands first in a joined text, the looks behind it: they want much memory) -/
namespace Cg
open PySem PySem.Spec PyProof.Rows
/-- the module's names, then all objects below n -/
def asR (n : Nat) : List Addr := mainGlobals :: List.range n
def obsN (n : Nat) (fn : List He.DefD) (g : Addr → Option Obj) : He.AlD := He.obsD [] fn (He.frG g (asR n))
/-- tables of the top: their keys -/
def tabB (tb : List (Str × List Str)) (K : PySem.W.Frag) : List (Option (List (Option (Str × Int)))) := tb.map fun t => He.dicW K (He.ga K t.1)
def tabV (tb : List (Str × List Str)) (w : World) : List (Option (List (Option (Str × Int)))) := tb.map fun t => some (He.keysIn w.params t.2)
abbrev AlB : Type := He.AlD × Bool × List (Option (List (Option (Str × Int))))
/-- what is looked at: the defs, a list of tests, tables -/
def obsB (n : Nat) (fn : List He.DefD) (B : List (PySem.W.Frag → Bool)) (tb : List (Str × List Str)) (g : Addr → Option Obj) : AlB := (obsN n fn g, B.all fun f => f (He.frG g (asR n)), tabB tb (He.frG g (asR n)))
def hookB (n : Nat) (fn : List He.DefD) (B : List (PySem.W.Frag → Bool)) (tb : List (Str × List Str)) : PySem.W.Hook where
  α := AlB
  obs := fun s => obsB n fn B tb s.heap.get?
  val := fun w => (He.valD fn, true, tabV tb w)
  says := fun w h => ∃ K : PySem.W.Frag, K.In h ∧ He.SaysD [] fn K ∧ (B.all fun f => f K) = true ∧ tabB tb K = tabV tb w
  of := fun _ _ e => ⟨_, He.frG_in, congrArg (fun z : AlB => z.1) e, congrArg (fun z : AlB => z.2.1) e, congrArg (fun z : AlB => z.2.2) e⟩
  keeps := fun _ _ _ ⟨K, hK, c⟩ k => ⟨K, PySem.W.Frag.In.keeps hK k, c⟩
theorem obsB_eq {n : Nat} {fn : List He.DefD} {B : List (PySem.W.Frag → Bool)} {tb : List (Str × List Str)} {g : Addr → Option Obj} {s : Shared} (h : ∀ a, g a = s.heap.get? a) : obsB n fn B tb g = (hookB n fn B tb).obs s := by
  have e : g = s.heap.get? := funext h
  rw [e] <;> rfl
section
open PySem.W PySem.Calls
/-- what the library looks at behind the top -/
def RunA (r : OpenRow) (q : Program) (M : Nat) (loose : List PySem.Str) (w : World) : Prop :=
  ∀ os : OsState, (HandSHeadRun.endF (HandSHeadRun.stepQ (HandSHeadRun.denQ HandSHeadRun.tabQ) r.prog w) M r.prog w os).map (fun s => (HandSHeadRun.looksF r.prog (PySem.W.boot_heap w.params) s.abs, HandSHeadRun.seenQ q loose (importedModules r.prog.main.body) (fun s => xlAt q [] s && recOk r.toRowW.records s) s.abs)) = some (true, openGood q loose)
/-- the defs -/
def RunD (r : OpenRow) (n : Nat) (fn : List He.DefD) (M : Nat) (w : World) : Prop :=
  ∀ os : OsState, (HandSHeadRun.endF (HandSHeadRun.stepQ (HandSHeadRun.denQ HandSHeadRun.tabQ) r.prog w) M r.prog w os).map (fun s => obsN n fn (HandSHeadRun.getT s)) = some (He.valD fn)
/-- the tests -/
def RunT (r : OpenRow) (n : Nat) (B : List (PySem.W.Frag → Bool)) (M : Nat) (w : World) : Prop :=
  ∀ os : OsState, (HandSHeadRun.endF (HandSHeadRun.stepQ (HandSHeadRun.denQ HandSHeadRun.tabQ) r.prog w) M r.prog w os).map (fun s => B.all fun f => f (He.frG (HandSHeadRun.getT s) (asR n))) = some true
theorem map_two {α β γ : Type} {o : Option α} {f : α → β} {g : α → γ} {x : β} {y : γ} (h : o.map f = some x) (k : o.map g = some y) : o.map (fun s => (f s, g s)) = some (x, y) := by
  cases o with
  | none => cases h
  | some s =>
    have e1 : f s = x := Option.some.inj h
    have e2 : g s = y := Option.some.inj k
    show some (f s, g s) = _
    rw [e1, e2]
theorem map_to {α β γ : Type} {o : Option α} {f : α → β} {x : β} (h : o.map f = some x) (t : β → γ) : o.map (fun s => t (f s)) = some (t x) := by
  cases o with
  | none => cases h
  | some s => exact congrArg (fun z => some (t z)) (Option.some.inj h)
theorem RunD.app {r : OpenRow} {n : Nat} {f1 f2 : List He.DefD} {M : Nat} {w : World} (h : RunD r n f1 M w) (k : RunD r n f2 M w) : RunD r n (f1 ++ f2) M w := fun os => by
  have z := map_to (map_two (h os) (k os)) fun z : He.AlD × He.AlD => ((z.1.1 && z.2.1, z.1.2 ++ z.2.2) : He.AlD)
  have e1 : ((He.valD f1).1 && (He.valD f2).1, (He.valD f1).2 ++ (He.valD f2).2) = He.valD (f1 ++ f2) := by
    unfold He.valD
    rw [List.map_append]
    rfl
  rw [e1] at z
  refine Eq.trans ?_ z
  congr 1
  funext s
  show (([] : List He.Fa).all (fun f => f.ok _) && (f1 ++ f2).all (fun d => d.ok _), (f1 ++ f2).map _) = (_, _)
  rw [List.all_append, List.map_append]
  rfl
theorem RunT.app {r : OpenRow} {n : Nat} {f1 f2 : List (PySem.W.Frag → Bool)} {M : Nat} {w : World} (h : RunT r n f1 M w) (k : RunT r n f2 M w) : RunT r n (f1 ++ f2) M w := fun os => by
  have z := map_to (map_two (h os) (k os)) fun z : Bool × Bool => z.1 && z.2
  refine Eq.trans ?_ z
  congr 1
  funext s
  exact List.all_append
/-- the tables -/
def RunW (r : OpenRow) (n : Nat) (tb : List (Str × List Str)) (M : Nat) (w : World) : Prop :=
  ∀ os : OsState, (HandSHeadRun.endF (HandSHeadRun.stepQ (HandSHeadRun.denQ HandSHeadRun.tabQ) r.prog w) M r.prog w os).map (fun s => tabB tb (He.frG (HandSHeadRun.getT s) (asR n))) = some (tabV tb w)
theorem RunA.none {r : OpenRow} {q : Program} {n M : Nat} {loose : List PySem.Str} {w : World} (h : RunA r q M loose w) : RunW r n [] M w := fun os => map_to (h os) fun _ => []
theorem run_join {r : OpenRow} {q : Program} {n : Nat} {fn : List He.DefD} {B : List (PySem.W.Frag → Bool)} {tb : List (Str × List Str)} {M : Nat} {loose : List PySem.Str} {w : World} (h : RunA r q M loose w) (k : RunD r n fn M w) (t : RunT r n B M w) (u : RunW r n tb M w) :
    HandSHeadRun.RunEq r q (hookB n fn B tb) (fun s => obsB n fn B tb (HandSHeadRun.getT s)) M loose w := fun os =>
  map_to (map_two (h os) (map_two (k os) (map_two (t os) (u os)))) fun z : (Bool × _) × AlB => (z.1.1, z.1.2, z.2)
end
end Cg

set_option Elab.async false
set_option linter.all false
set_option maxRecDepth 100000
set_option maxHeartbeats 1000000
namespace K87
open PySem PySem.Spec PyProof.Rows L2 Cg
def topS (i : Nat) : Stmt := PySem.Challenge.pw_crossgrants_k87_arrivals_of_loads.main.body.getD i (.Pass ⟨0, 0, 0, 0⟩)
abbrev st_beat_of : Stmt := topS 4
abbrev st_coming_in : Stmt := topS 5
abbrev st_cells_of : Stmt := topS 6
abbrev st_arrivals : Stmt := topS 7
abbrev st_law_box : Stmt := topS 9
abbrev st_law_take : Stmt := topS 10
abbrev st_law_folded : Stmt := topS 11
abbrev st_law_same : Stmt := topS 12
abbrev st_law_sizes : Stmt := topS 13
abbrev st_law_load : Stmt := topS 14
abbrev st_law_spread : Stmt := topS 15
abbrev st_law_right : Stmt := topS 16
abbrev st_law : Stmt := topS 17
def dd0 : He.DefD := ⟨("beat_of", none), "beat_of", "beat_of", defArgs st_beat_of, defBody st_beat_of, defScope st_beat_of, [], []⟩
def dd1 : He.DefD := ⟨("coming_in", none), "coming_in", "coming_in", defArgs st_coming_in, defBody st_coming_in, defScope st_coming_in, [], []⟩
def dd2 : He.DefD := ⟨("cells_of", none), "cells_of", "cells_of", defArgs st_cells_of, defBody st_cells_of, defScope st_cells_of, [], []⟩
def dd3 : He.DefD := ⟨("arrivals", none), "arrivals", "arrivals", defArgs st_arrivals, defBody st_arrivals, defScope st_arrivals, [], [("spread", .str "even")]⟩
def dd4 : He.DefD := ⟨("_law_box", none), "_law_box", "_law_box", defArgs st_law_box, defBody st_law_box, defScope st_law_box, [], []⟩
def dd5 : He.DefD := ⟨("_law_take", none), "_law_take", "_law_take", defArgs st_law_take, defBody st_law_take, defScope st_law_take, [], []⟩
def dd6 : He.DefD := ⟨("_law_folded", none), "_law_folded", "_law_folded", defArgs st_law_folded, defBody st_law_folded, defScope st_law_folded, [], []⟩
def dd7 : He.DefD := ⟨("_law_same", none), "_law_same", "_law_same", defArgs st_law_same, defBody st_law_same, defScope st_law_same, [], []⟩
def dd8 : He.DefD := ⟨("_law_sizes", none), "_law_sizes", "_law_sizes", defArgs st_law_sizes, defBody st_law_sizes, defScope st_law_sizes, [], []⟩
def dd9 : He.DefD := ⟨("_law_load", none), "_law_load", "_law_load", defArgs st_law_load, defBody st_law_load, defScope st_law_load, [], []⟩
def dd10 : He.DefD := ⟨("_law_spread", none), "_law_spread", "_law_spread", defArgs st_law_spread, defBody st_law_spread, defScope st_law_spread, [], []⟩
def dd11 : He.DefD := ⟨("_law_right", none), "_law_right", "_law_right", defArgs st_law_right, defBody st_law_right, defScope st_law_right, [], []⟩
def dd12 : He.DefD := ⟨("law", none), "law", "law", defArgs st_law, defBody st_law, defScope st_law, [], []⟩
def tt0 : PySem.W.Frag → Bool := fun K => decide (PySem.W.nsIn K mainGlobals "beat_of" = some (some (.ref (He.fAd K ("beat_of", none)))))
def tt1 : PySem.W.Frag → Bool := fun K => decide (PySem.W.nsIn K mainGlobals "coming_in" = some (some (.ref (He.fAd K ("coming_in", none)))))
def tt2 : PySem.W.Frag → Bool := fun K => decide (PySem.W.nsIn K mainGlobals "cells_of" = some (some (.ref (He.fAd K ("cells_of", none)))))
def tt3 : PySem.W.Frag → Bool := fun K => decide (PySem.W.nsIn K mainGlobals "arrivals" = some (some (.ref (He.fAd K ("arrivals", none)))))
def tt4 : PySem.W.Frag → Bool := fun K => decide (PySem.W.nsIn K mainGlobals "_law_box" = some (some (.ref (He.fAd K ("_law_box", none)))))
def tt5 : PySem.W.Frag → Bool := fun K => decide (PySem.W.nsIn K mainGlobals "_law_take" = some (some (.ref (He.fAd K ("_law_take", none)))))
def tt6 : PySem.W.Frag → Bool := fun K => decide (PySem.W.nsIn K mainGlobals "_law_folded" = some (some (.ref (He.fAd K ("_law_folded", none)))))
def tt7 : PySem.W.Frag → Bool := fun K => decide (PySem.W.nsIn K mainGlobals "_law_same" = some (some (.ref (He.fAd K ("_law_same", none)))))
def tt8 : PySem.W.Frag → Bool := fun K => decide (PySem.W.nsIn K mainGlobals "_law_sizes" = some (some (.ref (He.fAd K ("_law_sizes", none)))))
def tt9 : PySem.W.Frag → Bool := fun K => decide (PySem.W.nsIn K mainGlobals "_law_load" = some (some (.ref (He.fAd K ("_law_load", none)))))
def tt10 : PySem.W.Frag → Bool := fun K => decide (PySem.W.nsIn K mainGlobals "_law_spread" = some (some (.ref (He.fAd K ("_law_spread", none)))))
def tt11 : PySem.W.Frag → Bool := fun K => decide (PySem.W.nsIn K mainGlobals "_law_right" = some (some (.ref (He.fAd K ("_law_right", none)))))
def tt12 : PySem.W.Frag → Bool := fun K => decide (PySem.W.nsIn K mainGlobals "law" = some (some (.ref (He.fAd K ("law", none)))))
def tt13 : PySem.W.Frag → Bool := fun K => (He.Fa.str "EVEN" "even").ok K
def tt14 : PySem.W.Frag → Bool := fun K => (He.Fa.str "EARLY" "early").ok K
def tt15 : PySem.W.Frag → Bool := fun K => (He.Fa.str "LATE" "late").ok K
def tt16 : PySem.W.Frag → Bool := fun K => decide (PySem.W.nsIn K mainGlobals "int" = some none)
def tt17 : PySem.W.Frag → Bool := fun K => decide (PySem.W.nsIn K mainGlobals "bool" = some none)
def tt18 : PySem.W.Frag → Bool := fun K => decide (PySem.W.nsIn K mainGlobals "list" = some none)
def tt19 : PySem.W.Frag → Bool := fun K => decide (PySem.W.nsIn K mainGlobals "tuple" = some none)
def tt20 : PySem.W.Frag → Bool := fun K => decide (PySem.W.nsIn K mainGlobals "str" = some none)
def tt21 : PySem.W.Frag → Bool := fun K => decide (PySem.W.nsIn K mainGlobals "len" = some none)
def tt22 : PySem.W.Frag → Bool := fun K => decide (PySem.W.nsIn K mainGlobals "all" = some none)
def tt23 : PySem.W.Frag → Bool := fun K => decide (PySem.W.nsIn K mainGlobals "isinstance" = some none)
def tt24 : PySem.W.Frag → Bool := fun K => decide (PySem.W.nsIn K mainGlobals "range" = some none)
def tt25 : PySem.W.Frag → Bool := fun K => decide (PySem.W.nsIn K mainGlobals "enumerate" = some none)
def tt26 : PySem.W.Frag → Bool := fun K => decide (PySem.W.nsIn K mainGlobals "zip" = some none)
def tt27 : PySem.W.Frag → Bool := fun K => decide (PySem.W.nsIn K mainGlobals "repr" = some none)
def tt28 : PySem.W.Frag → Bool := fun K => decide (PySem.W.nsIn K mainGlobals "abs" = some none)
def tt29 : PySem.W.Frag → Bool := fun K => decide (PySem.W.nsIn K mainGlobals "min" = some none)
def tt30 : PySem.W.Frag → Bool := fun K => decide (PySem.W.nsIn K mainGlobals "max" = some none)
def tt31 : PySem.W.Frag → Bool := fun K => decide (PySem.W.nsIn K mainGlobals "divmod" = some none)
def tt32 : PySem.W.Frag → Bool := fun K => decide (PySem.W.nsIn K mainGlobals "sum" = some none)
def tt33 : PySem.W.Frag → Bool := fun K => decide (PySem.W.nsIn K mainGlobals "sorted" = some none)
def tt34 : PySem.W.Frag → Bool := fun K => decide (PySem.W.nsIn K mainGlobals "any" = some none)
def tt35 : PySem.W.Frag → Bool := fun K => decide (PySem.W.nsIn K mainGlobals "set" = some none)
def tt36 : PySem.W.Frag → Bool := fun K => decide (PySem.W.nsIn K mainGlobals "reversed" = some none)
def tt37 : PySem.W.Frag → Bool := fun K => decide (PySem.W.nsIn K mainGlobals "dict" = some none)
def fnp0 : List He.DefD := [dd0, dd1, dd2, dd3, dd4, dd5, dd6, dd7, dd8, dd9, dd10, dd11, dd12]
def fnpg0 : List He.DefD := fnp0
def fnA : List He.DefD := fnpg0
def ttp0 : List (PySem.W.Frag → Bool) := [tt0, tt1, tt2, tt3, tt4, tt5, tt6, tt7, tt8, tt9, tt10, tt11, tt12, tt13, tt14]
def ttp1 : List (PySem.W.Frag → Bool) := [tt15, tt16, tt17, tt18, tt19, tt20, tt21, tt22, tt23, tt24, tt25, tt26, tt27, tt28, tt29]
def ttp2 : List (PySem.W.Frag → Bool) := [tt30, tt31, tt32, tt33, tt34, tt35, tt36, tt37]
def ttpg0 : List (PySem.W.Frag → Bool) := ttp0 ++ ttp1 ++ ttp2
def ttA : List (PySem.W.Frag → Bool) := ttpg0
def tbA : List (Str × List Str) := []
def nm0 : List PySem.Str := [("EVEN" : PySem.Str), ("EARLY" : PySem.Str), ("LATE" : PySem.Str), ("__name__" : PySem.Str), ("beat_of" : PySem.Str), ("coming_in" : PySem.Str), ("cells_of" : PySem.Str), ("arrivals" : PySem.Str), ("_law_box" : PySem.Str), ("_law_take" : PySem.Str), ("_law_folded" : PySem.Str), ("_law_same" : PySem.Str), ("_law_sizes" : PySem.Str), ("_law_load" : PySem.Str), ("_law_spread" : PySem.Str)]
def nm1 : List PySem.Str := [("_law_right" : PySem.Str)]
def nmg0 : List PySem.Str := nm0 ++ nm1
def nms : List PySem.Str := nmg0
abbrev Rr : PySem.W.OpenRow := PySem.W.OpenLaw.row PySem.Challenge.rw_crossgrants_k87_arrivals_of_loads
abbrev hk : PySem.W.Hook := hookB 1500 fnA ttA tbA
def ob (s : PySem.W.SharedT) : AlB := obsB 1500 fnA ttA tbA (HandSHeadRun.getT s)
theorem ob_eq (s : PySem.W.SharedT) : ob s = hk.obs s.abs := obsB_eq (HandSHeadRun.getT_eq s)
set_option maxHeartbeats 0 in
theorem rD0 (w : World) : RunD Rr 1500 fnpg0 9000 w := by
  intro os
  kernel_rfl
set_option maxHeartbeats 0 in
theorem rT0 (w : World) : RunT Rr 1500 ttpg0 9000 w := by
  intro os
  kernel_rfl
set_option maxHeartbeats 0 in
theorem rA (w : World) : RunA Rr (PySem.W.view Rr.prog [17]) 9000 nms w := by
  intro os
  kernel_rfl
theorem run (w : World) : HandSHeadRun.RunEq Rr (PySem.W.view Rr.prog [17]) hk ob 9000 nms w := run_join (rA w) (fn := fnA) (rD0 w) (B := ttA) (rT0 w) (tb := tbA) (rA w).none
end K87

set_option Elab.async false
set_option linter.all false
set_option maxRecDepth 100000
namespace Cg
open PySem PySem.Spec PyProof.Rows L2
/-! ### calls where no repr is under way around them -/
section
variable {P : Program} {w : World} {K : PySem.W.Frag} {mg : Str → Option Value} {base : Heap}
/-- one call of a def of the text, at one place: its body's walk there -/
theorem run_at {k : Nat} {f : Addr} {x q : Str} {ar : Arguments} {bd : List Stmt} {sc : Scope} {d1 d2 d3 d4 cv d5 oc : Value} {an od : Option Addr} {sl : Array (Option Value)} {N ps : List Str}
    {A : Around} {outer : List Env} {s : Shared} {H : Hp} {args : Args} {us : List Value} {vs : List V} {Q : VK} {E : XK}
    (look : K.lookup f = some ⟨oc, od, .func (PySem.W.fnOf x q ar bd sc d1 d2 d3 d4 an cv d5), sl⟩) (code : PySem.W.codeIn K cv q = true) (S : FnScope N ps sc) (len : vs.length = ps.length)
    (room : Room (k + 1) A) (e0 : Env0 P w K mg base A outer s H) (bnd : BindsTo s (PySem.W.fnOf x q ar bd sc d1 d2 d3 d4 an cv d5) args (ps.zip us)) (rel : Vals vs us)
    (walk : ∃ t, PSs (cxOf CX0 P w K mg base N q sc f cv A outer s H E) bd t ∧ t { nx := fun _ H' => Q .non H', rt := Q } (start N vs) H) :
    codeAny (model P w) A (.call (.ref f) args) (CR CX0 outer P w H s Q E) s := by
  have old : ∀ b o, base.get? b = some o → s.heap.get? b = some o := fun b o e => (e0.bs b o e).1
  have kin := e0.mod.kin.keeps old
  refine codeAny_call_function room.depth (kin _ _ look) rfl S.co S.gen rfl (PySem.W.codeRec_of kin code) (bnd _ _ _ _ ?_)
  refine wpAny_newFunctionEnv_cells S.kind (fun z hz => ?_) ?_
  · obtain ⟨n, v⟩ := z
    cases S.par n (List.of_mem_zip hz).1 with
    | inl q1 => exact .inl q1
    | inr q1 => exact .inr ⟨q1, PySem.W.cellsFrom_some _ _ _ (.inl q1)⟩
  · rintro env rfl s1 ic
    refine ⟨(e0.mod.nolimit.keeps old).keeps ic.toInCall.keep, codeAny_func ?_⟩
    obtain ⟨t, ht, hq⟩ := walk
    have I0 := inv_start (CX := CX0) (E := E) S room.hd e0 len rel ic
    refine wpAny_mono (ht.run [] s1 (start N vs) H _ I0 hq) ?_ (fun _ _ z => z)
    rintro (_ | u | _ | _) s2 got
    all_goals first
      | (obtain ⟨σ2, H2, J, g⟩ := got; exact ⟨V.non, H2, J.os, J.bare, J.base, J.hok, rfl, g⟩)
      | (obtain ⟨v2, σ2, H2, J, rv, g⟩ := got; exact ⟨v2, H2, J.os, J.bare, J.base, J.hok, rv, g⟩)
      | (obtain ⟨_, _, _, g⟩ := got; exact g.elim)
/-- a def's promise, kept where no repr is under way -/
structure FnG (P : Program) (w : World) (K : PySem.W.Frag) (mg : Str → Option Value) (base : Heap) (k : Nat) (f : Addr) (fd : FuncData) (ps : List Str) (sp : Sp) : Prop where
  len : ∀ vs H Q E, sp vs H Q E → vs.length = ps.length
  go : ∀ (A : Around) (outer : List Env) (s : Shared) (H : Hp) (args : Args) (us : List Value) (vs : List V) (Q : VK) (E : XK), A.guards = some [] → Room k A → Env0 P w K mg base A outer s H →
    BindsTo s fd args (ps.zip us) → Vals vs us → sp vs H Q E → codeAny (model P w) A (.call (.ref f) args) (CR CX0 outer P w H s Q E) s
theorem fnG {x q : Str} {st : Stmt} {f : Addr} {fd : FuncData} {N ps : List Str} {k : Nat} {sp : Sp} (F : Fun K x q st f fd) (S : FnScope N ps (defScope st)) (len : ∀ vs H Q E, sp vs H Q E → vs.length = ps.length)
    (walk : ∀ (cv : Value) (A : Around) (outer : List Env) (s : Shared) (H : Hp) (vs : List V) (Q : VK) (E : XK), A.guards = some [] → Room k (A.deeper (envOfC q (defScope st) s.heap.objs.size f cv)) → sp vs H Q E →
      ∃ t, PSs (cxOf CX0 P w K mg base N q (defScope st) f cv A outer s H E).nox (defBody st) t ∧ t { nx := fun _ H' => Q .non H', rt := Q } (start N vs) H) : FnG P w K mg base (k + 1) f fd ps sp := by
  obtain ⟨oc, od, d2, d3, d4, an, cv, d5, sl, rfl, look, code⟩ := F.ex
  refine ⟨len, fun A outer s H args us vs Q E hg room e0 bnd rel h => ?_⟩
  obtain ⟨t, ht, hq⟩ := walk cv A outer s H vs Q E hg (room.deeper _) h
  exact run_at look code S (len _ _ _ _ h) room e0 bnd rel ⟨t, ht.nox, hq⟩
/-- f(e, ..) of such a def -/
theorem pe_callG {X : Cx} {k : Nat} {f : Addr} {fd : FuncData} {ps : List Str} {sp : Sp} {x : Str} {p pos : Pos} {e : Expr} {es : List Expr} {t : TA} (F : FnG X.prog X.w X.K X.mg X.base k f fd ps sp) (hg : X.A.guards = some []) (hr : Room k X.A) (gl : Gl X x)
    (hm : X.mg x = some (.ref f)) (kp : PySem.W.keepIn X.K (.ref f) = true) (b : Binds X.K fd ps []) (ha : PA X (e :: es) t) (hdb : (x == ("__debug__" : Str)) = false := by decide)
    (he : starEach (e :: es) X.env = (false, eval e X.env) :: starEach es X.env := by rfl) (hpl : (backTo pos (starEach es X.env)).any (·.1) = false := by rfl) : PE X (.Call (.Name x p) (e :: es) [] pos) (tCall sp [] E0 t) := by
  constructor
  intro pins s σ H Q I h
  refine wpAny_Call_Name_kw (ld_glob I gl hm (PySem.W.callWith_K (h₀ := X.base) I.ok.mod.kin kp (thn (ha.run pos pins s σ H _ I h) ?_) he hpl) hdb)
  rintro us s1 ⟨vs, H1, I1, rel, q⟩
  refine ⟨I1.kIn, ?_⟩
  rw [List.append_nil] at q
  have hl : us.length = ps.length := by rw [← rel.length]; exact F.len _ _ _ _ q
  have bb := b s1 us I1.kIn (by rw [List.append_nil]; exact hl)
  rw [List.append_nil] at bb
  refine wpAny_call (codeAny_mono (F.go X.A X.stack s1 H1 ⟨us, []⟩ us vs Q E0 hg hr I1.env0 bb rel q) ?_)
  rintro (err | (_ | _ | _ | u)) s2 got
  all_goals first
    | exact I1.after got
    | exact False.elim got
/-- the law itself, called from outside -/
theorem law_at {mb : Str → Option Value} {k : Nat} {fa a : Addr} {fd : FuncData} {x : Str} {sp : Sp} {s1 : Shared} {vs : List Value} {ns : List Int} (kin : K.In s1.heap) (gl : s1.heap.Ns mainGlobals mg) (bl : s1.heap.Ns builtinsNs mb)
    (bb : ∀ y : Str, y ≠ "__name__" → mb y = bootBuiltins y) (lim : s1.heap.NoLimit) (gens : s1.gens = #[]) (ha : s1.heap.get? a = some { cls := .type "list", data := .seq vs.toArray }) (hi : IntsAre vs ns) (hl : ns.length ≤ sizeLine) (room : Room k callerA)
    (F : ∀ base : Heap, K.In base → base.Ns mainGlobals mg → FnG P w K mg base k fa fd [x] sp) (bnd : ∀ (s : Shared) (u : Value), BindsTo s fd ⟨[u], []⟩ [(x, u)])
    (hsp : ∀ H : Hp, SqL K H a (ns.map V.int) → sp [.ref a] H (fun v _ => v = .bl true) E0) :
    codeAny (model P w) callerA (.call (.ref fa) ⟨[.ref a], []⟩) (fun r s' => r = .ok (.ret (.bool true)) ∧ OldK s1.heap s'.heap ∧ s'.os = s1.os ∧ AllBare s'.gens) s1 := by
  have rv := vals_ints hi
  have lv := hi.length
  let ob : Obj := { cls := .type "list", data := .seq vs.toArray }
  -- what is tracked: the script, known, unless it is the module's own
  obtain ⟨H, hS, hok, only⟩ : ∃ H : Hp, SqL K H a (ns.map V.int) ∧ HOk P w H s1.heap ∧ ∀ b u, H b = some u → b = a ∧ u = .frz ob (.lst (ns.map V.int)) ∧ K.lookup b = none := by
    cases hk : K.lookup a with
    | some o =>
      have e := kin a o hk
      rw [ha] at e
      cases e
      exact ⟨fun _ => none, .inr ⟨_, vs.toArray, _, hk, rfl, rfl, rfl, by rw [List.size_toArray, lv]; exact hl, by simpa using rv⟩, (fun _ _ z => nomatch z), fun _ _ z => nomatch z⟩
    | none =>
      have one : ∀ b u, (if b = a then some (HO.frz ob (.lst (ns.map V.int))) else none) = some u → b = a ∧ u = .frz ob (.lst (ns.map V.int)) := fun b u z => by
        by_cases hb : b = a
        · rw [if_pos hb] at z; exact ⟨hb, (Option.some.inj z).symm⟩
        · rw [if_neg hb] at z; cases z
      refine ⟨fun b => if b = a then some (.frz ob (.lst (ns.map V.int))) else none, .inl (.inr ⟨ob, if_pos rfl⟩), fun b u z => ?_, fun b u z => ⟨(one b u z).1, (one b u z).2, by rw [(one b u z).1]; exact hk⟩⟩
      obtain ⟨rfl, rfl⟩ := one b u z
      exact ⟨ha, by rw [List.length_map]; exact hl, vs, _, rv, ha⟩
  have free : ∀ {b : Addr} {o : Obj}, s1.heap.get? b = some o → (∀ es n, o.data = .seq es n → False) → H b = none := fun {b o} e d => by
    cases z : H b with
    | none => rfl
    | some u =>
      obtain ⟨rfl, _, _⟩ := only b u z
      rw [ha] at e
      cases e
      exact (d _ _ rfl).elim
  have nsK : ∀ {b : Addr} {m : Str → Option Value}, s1.heap.Ns b m → (hidT s1.heap H).Ns b m := fun {b m} ⟨o, es, ep, e, d, r⟩ => ⟨o, es, ep, hidT_get e (free e fun _ _ z => by rw [d] at z; cases z), d, r⟩
  have kin' : K.In (hidT s1.heap H) := fun b o e => hidT_get (kin b o e) (by
    cases z : H b with
    | none => rfl
    | some u => rw [(only b u z).2.2] at e; cases e)
  obtain ⟨mc, l1, l2⟩ := lim
  have e0 : Env0 P w K mg (hidT s1.heap H) callerA [] s1 H := ⟨rfl, ⟨kin', nsK gl, ⟨mb, nsK bl, bb⟩, ⟨mc, nsK l1, l2⟩⟩, fun _ _ e => of_hidT e, Nat.le_of_eq (hidT_size _ _), trivial, (fun _ z => nomatch z), hok, .of_eq gens⟩
  refine codeAny_mono ((F _ kin' (nsK gl)).go callerA [] s1 H ⟨[.ref a], []⟩ [.ref a] [.ref a] _ _ rfl room e0 (bnd s1 (.ref a)) (.cons rfl .nil) (hsp H hS)) ?_
  rintro (err | (_ | _ | _ | u)) s2 got
  all_goals first
    | exact False.elim got
    | skip
  obtain ⟨v, H2, os, bare, un, hok2, rel, rfl⟩ := got
  obtain rfl : u = Value.bool true := rel
  refine ⟨rfl, OldK.of_keep fun b o e => ?_, os, bare⟩
  cases z : H b with
  | none => exact un.keep b o e z (fun y => nomatch y) (fun y => nomatch y)
  | some u =>
    obtain ⟨_, rfl, _⟩ := only b u z
    have k1 := (hok b _ z).1
    have k2 := (hok2 b _ (un.frzs b _ _ z)).1
    rw [e] at k1
    cases k1
    exact k2
end
end Cg

set_option Elab.async false
set_option linter.all false
set_option maxRecDepth 100000
namespace Cg
open PySem PySem.Spec PyProof.Rows L2
/-! ### data: what repr makes of them -/
mutual
/-- no dict, no int that is too great for repr, texts of signs -/
def okD : PyData → Bool
  | .none => true
  | .bool _ => true
  | .int i => decide (i.natAbs.log2 < 1920)
  | .str x => PyData.strOk x
  | .list xs => okAll xs
  | .tuple xs => okAll xs
  | .dict _ => false
def okAll : List PyData → Bool
  | [] => true
  | x :: xs => okD x && okAll xs
end
mutual
/-- at least as long as its text -/
def wz : PyData → Nat
  | .none => 4
  | .bool _ => 5
  | .int i => i.natAbs.log2 + 2
  | .str x => 10 * x.length + 2
  | .list xs => wzAll xs + 3
  | .tuple xs => wzAll xs + 3
  | .dict _ => 0
def wzAll : List PyData → Nat
  | [] => 0
  | x :: xs => wz x + 2 + wzAll xs
end
theorem listText_le : ∀ ts : List Str, (listText ts).length ≤ piled ts + 2
  | [] => by decide
  | t :: r => by
    have h := textFrom_length_pos r 1 (("[" : Str) ++ ("" : String) ++ t) (Nat.succ_pos 0)
    have e : (("[" : Str) ++ ("" : String) ++ t).length = 1 + t.length := by
      rw [strLen_append, strLen_append]; rfl
    have e2 : (listText (t :: r)).length = (textFrom 1 (("[" : Str) ++ ("" : String) ++ t) r).length + 1 := by
      show (textFrom 1 (("[" : Str) ++ ("" : String) ++ t) r ++ "]").length = _
      rw [strLen_append]; rfl
    rw [e2, h, e, piled_cons]
    omega
theorem tupleText_le (ts : List Str) : (tupleText ts).length ≤ piled ts + 3 := by
  have e0 : (tupleText ts).length = 1 + (Str.join ", " ts).length + ((if ts.length == 1 then ",)" else ")" : String) : Str).length := by
    show ((("(" : Str) ++ Str.join ", " ts) ++ ((if ts.length == 1 then ",)" else ")" : String) : Str)).length = _
    rw [strLen_append, strLen_append]; rfl
  have e1 : ((if ts.length == 1 then ",)" else ")" : String) : Str).length ≤ 2 := by split <;> decide
  cases ts with
  | nil => decide
  | cons t r =>
    have e2 := join_length_add (t :: r) (by simp)
    omega
mutual
theorem shown_le : ∀ d : PyData, okD d = true → d.showable = true ∧ d.hasDict = false ∧ d.shown.length ≤ wz d
  | .none, _ => ⟨rfl, rfl, by decide⟩
  | .bool b, _ => ⟨rfl, rfl, by cases b <;> decide⟩
  | .int i, h => ⟨h, rfl, by
      show (Str.ofString (toString i)).length ≤ i.natAbs.log2 + 2
      rw [PySem.ofString_length]
      exact int_text_length_le (k := i.natAbs.log2 + 1) (by omega) (by omega)⟩
  | .str x, h => ⟨rfl, rfl, PySem.StrLaws.reprText_len x fun c hc => by
      have h' : x.cps.all (fun c => decide (c < 0x110000)) = true := h
      rw [← Array.all_toList] at h'
      exact Nat.lt_trans (of_decide_eq_true (List.all_eq_true.mp h' c hc)) (by decide)⟩
  | .list xs, h => by
    obtain ⟨a, b, c⟩ := shownAll_le xs h
    refine ⟨a, b, ?_⟩
    show (listText (PyData.shownAll xs)).length ≤ wzAll xs + 3
    have := listText_le (PyData.shownAll xs)
    omega
  | .tuple xs, h => by
    obtain ⟨a, b, c⟩ := shownAll_le xs h
    refine ⟨a, b, ?_⟩
    show (tupleText (PyData.shownAll xs)).length ≤ wzAll xs + 3
    have := tupleText_le (PyData.shownAll xs)
    omega
  | .dict _, h => by cases h
theorem shownAll_le : ∀ xs : List PyData, okAll xs = true → PyData.showableAll xs = true ∧ PyData.hasDictAll xs = false ∧ piled (PyData.shownAll xs) ≤ wzAll xs
  | [], _ => ⟨rfl, rfl, Nat.le_refl _⟩
  | x :: xs, h => by
    have h' : (okD x && okAll xs) = true := h
    rw [Bool.and_eq_true] at h'
    obtain ⟨a, b, c⟩ := shown_le x h'.1
    obtain ⟨a', b', c'⟩ := shownAll_le xs h'.2
    refine ⟨by show (PyData.showable x && PyData.showableAll xs) = true; rw [a, a']; rfl, by show (PyData.hasDict x || PyData.hasDictAll xs) = false; rw [b, b']; rfl, ?_⟩
    show piled (x.shown :: PyData.shownAll xs) ≤ wz x + 2 + wzAll xs
    rw [piled_cons]
    omega
end
/-- repr of data, where no repr is under way -/
def rReprD (K : PySem.W.Frag) : List V → Hp → VK → Prop := fun xs H Q => ∃ (v : V) (d : PyData), xs = [v] ∧ Dp K H v d ∧ okD d = true ∧ d.depth ≤ 40 ∧ wz d ≤ sizeLine ∧ Q (.str d.shown) H
theorem call_reprD {X : Cx} (hg : X.A.guards = some []) (hu : X.A.units + 64 < cLine) : CallR X (.builtin "repr") (rReprD X.K) := by
  intro pins s σ H xs us Q I r h
  obtain ⟨v, d, rfl, hd, ok, dp, wl, q⟩ := h
  obtain ⟨u, rfl, ru⟩ := vals1 r
  obtain ⟨h1, h2, h3⟩ := shown_le d ok
  have h4 : d.shown.length ≤ sizeLine := Nat.le_trans h3 wl
  obtain ⟨as, rd⟩ := Dp.reads I d v u hd ru
  have far : ∀ a : Addr, u = Value.ref a → wpAny (model X.prog X.w) X.A (call (.builtin "repr") [u]) (EP X pins σ Q) X.xe s := fun a e => by
    subst e
    exact repr_of_reads' rd h1 (PyData.noDict_hsm h2) hg (by omega) (fun _ _ e => e) (fun h' t tk hk => ⟨.str d.shown, H, I.kept hk, ⟨t, rfl⟩, q⟩) h4
  cases hd with
  | non =>
    cases ru
    exact PySem.P.repr_of_none ⟨.str _, H, I.tok _, ⟨_, rfl⟩, q⟩
  | bl b =>
    cases ru
    exact PySem.P.repr_of_bool ⟨.str _, H, I.tok _, ⟨_, rfl⟩, q⟩
  | int i =>
    obtain ⟨t, rfl⟩ := ru
    exact PySem.P.repr_of_int (of_decide_eq_true ok) ⟨.str _, H, I.tok _, ⟨_, rfl⟩, q⟩
  | str x =>
    obtain ⟨t, rfl⟩ := ru
    exact PySem.P.repr_of_str ⟨.str _, H, I.tok _, ⟨_, rfl⟩, q⟩ h4
  | lst _ _ => exact far _ ru
  | tup _ _ => exact far _ ru
end Cg

set_option Elab.async false
set_option linter.all false
set_option maxRecDepth 100000
set_option maxHeartbeats 4000000
/-! E0: exceptions that are caught and kept -/
namespace Cg
open PySem PySem.Spec PySem.W PyProof.Rows L2
section
variable {M : Model} {A : Around} {E : Value → Shared → Prop} {s : Shared}
end
/-! ### what an except clause names -/
/-- the classes that the clause's expression names -/
structure TestX (Y : Cx) (t : Expr) (cs : List Value) : Prop where
  run : ∀ {pins : List (Addr × Obj)} {σ : L2.St} {H : Hp} {s : Shared} {cls : Value} {a : Addr} {b : Bool} {Q : Bool → Shared → Prop} {E : Value → Shared → Prop}, Inv Y pins σ H s →
  Looks (model Y.prog Y.w) s.heap (typeOf (.ref a)) cls → exmAny Y.K cls cs = some b → (∀ h' : Heap, (∀ q o, s.heap.get? q = some o → h'.get? q = some o) → Q b { s with heap := h' }) →
  wpAny (model Y.prog Y.w) Y.A (eval t Y.env) (fun c s₁ => wpAny (model Y.prog Y.w) Y.A (excMatches (.ref a) c) Q E s₁) E s
inductive NamesL (Y : Cx) : List Expr → List Value → Prop
  | nil : NamesL Y [] []
  | cons {x : Str} {p : Pos} {c : Value} {es : List Expr} {cs : List Value} (h : Names Y x c) (t : NamesL Y es cs) : NamesL Y (.Name x p :: es) (c :: cs)
section
variable {Y : Cx} {pins : List (Addr × Obj)} {σ : L2.St} {H : Hp} {s : Shared} {E : Value → Shared → Prop} {pos p : Pos} {x : Str} {c : Value} {es : List Expr} {cs : List Value}
theorem named (n : Names Y x c) (iv : Inv Y pins σ H s) {Q : Value → Shared → Prop} (q : Q c s) : wpAny (model Y.prog Y.w) Y.A (eval (.Name x p) Y.env) Q E s := by
  obtain ⟨g1, g2, g3 | ⟨g4, g5, g6⟩⟩ := n
  · exact ld_glob iv g1 g3 q g2
  · exact ld_blt iv g1 g4 g5 q g6 g2
end
/-! ### a caught exception that is kept -/
/-- at a: an exception that was caught, of this class, its dict at d -/
def exK (a : Addr) (cls : Value) (d : Option Addr) : HO := .ext fun h => ∃ oe, h.get? a = some oe ∧ Zc cls d oe ∧ ∃ vs, oe.data = .fields vs
section
variable {X : Cx} {pins : List (Addr × Obj)} {σ : L2.St} {H : Hp} {s : Shared}
end
/-! ### try: .. except (A, B ..) as e: kept = e -/
section
variable {X : Cx} {n : Str} {t : Expr} {cs : List Value} {i : Nat} {body suite : List Stmt} {b₀ : Stmt} {pos pos' : Pos} {tb : WX → TS} {ts : Addr → Value → Option Addr → TS} {Wout : WX}
end
end Cg

set_option Elab.async false
set_option linter.all false
set_option maxRecDepth 100000
set_option maxHeartbeats 4000000
/-! E1: own exceptions over any class of Python's, with one field: raised, asked what they are, their field read -/
namespace Cg
open PySem PySem.Spec PySem.W PySem.Calls PyProof.Rows L2 Builtin Builtin.ObjectAttr
/-- what is wanted of a class of Python's own -/
structure XB (B newId initId : String) (bm : List Value) : Prop where
  bmB : ∃ bmB, ExcBaseFacts B newId initId bmB
  has : bm.contains (.type B) = true
  noA : bm.contains (.type "AttributeError") = false
  noN : bm.contains (.type "NameError") = false
  pass : ∀ self, refuseLoop self "__setattr__" bm = pure ()
  obj : bm.contains (.type "object") = true
  noref : ∀ c : Addr, bm.contains (.ref c) = false
/-! such a class is called: its maker is that of Python's class, then its own __init__ runs -/
section
variable {prog : Program} {w : World} {A : Around} {E : Value → Shared → Prop} {R : Result → Shared → Prop} {hp : Heap} {gs : Array GenState} {dr : Drawn} {tk : Nat} {os : OsState}
variable {nm q : Str} {C N fI : Addr} {bs bm : List Value} {dc : Bool} {sn : List Str} {sub : List Value} {ab : Bool} {col : Option Bool} {dd : Option Addr} {k0 k1 k2 k3 k5 : Option Value} {B newId initId : String} {us : List Value}
end
end Cg

set_option Elab.async false
set_option linter.all false
set_option maxRecDepth 100000
set_option maxHeartbeats 4000000
/-! E2: such an exception with one field, what: made, raised; kept ones asked what they are, their field read -/
namespace Cg
open PySem PySem.Spec PySem.W PySem.Calls PyProof.Rows L2 Builtin Builtin.ObjectAttr
/-! the text of __init__ -/
def xiA (p1 p2 : Pos) : Arguments := { posonlyargs := [], args := [{ arg := "self", annotation := none, pos := p1 }, { arg := "what", annotation := none, pos := p2 }], vararg := none, kwonlyargs := [], kw_defaults := [], kwarg := none, defaults := [] }
def xiB (q1 q2 q3 q4 : Pos) : List Stmt := [.Assign [.Attribute (.Name "self" q1) "what" q2] (.Name "what" q3) q4]
def xiS : Scope := { kind := .function, names := [(PySem.Str.ofString "self", .local), (PySem.Str.ofString "what", .local)], isGenerator := false, isCoroutine := false, more := [] }
/-- what the written part says of such a class, nm, at C, over Python's (its maker newId, its chain bm), and of its __init__, at fI -/
structure XC (K : Frag) (nm : Str) (C fI : Addr) (newId : String) (bm : List Value) : Prop where
  cls : ∃ q N bs sn sub ab col dd k0 k1 k2 k3 k5, K.lookup C = some (excClassObj nm q C N bs bm true sn sub ab col dd k0 k1 k2 k3 k5 newId)
  sa : findIn K (.ref C) "__setattr__" = some (some (.builtin "object.__setattr__"))
  ga : findIn K (.ref C) "__getattribute__" = some (some (.builtin "BaseException.__getattribute__"))
  gg : findIn K (.ref C) "__getattr__" = some none
  no : findIn K (.ref C) "what" = some none
  cl : findIn K (.ref C) "__class__" = some (some (.builtin "object.__class__"))
  ini : findIn K (.ref C) "__init__" = some (some (.ref fI))
  kp : keepIn K (.ref C) = true
  tI : typeIn K (.ref fI) = some (.type "function")
  fn : ∃ (qn : Str) (oc : Value) (od : Option Addr) (doc kV pm : Value) (an : Option Addr) (cdv ct : Value) (osl : Array (Option Value)) (p1 p2 q1 q2 q3 q4 : Pos),
    K.lookup fI = some ⟨oc, od, .func (fnOf "__init__" qn (xiA p1 p2) (xiB q1 q2 q3 q4) xiS .none kV doc pm an cdv ct), osl⟩ ∧ codeIn K cdv qn = true
section
variable {K : Frag} {nm nm' : Str} {C fI C' fI' : Addr} {newId newId' : String} {bm bm' : List Value}
theorem XC.clsIn (T : XC K nm C fI newId bm) : ∃ cd, PySem.W.clsIn K C = some cd ∧ cd.mro = .ref C :: bm ∧ cd.hasDict = true := by
  obtain ⟨q, N, bs, sn, sub, ab, col, dd, k0, k1, k2, k3, k5, h⟩ := T.cls
  refine ⟨{ name := nm, bases := bs, mro := .ref C :: bm, ns := N, qualname := q, hasDict := true, slotNames := sn, subclasses := sub, abstract := ab, collection := col, hasDel := false }, ?_, rfl, rfl⟩
  unfold PySem.W.clsIn
  rw [h]
theorem XC.sub (T : XC K nm C fI newId bm) (b : Value) : subIn K (.ref C) b = some ((Value.ref C :: bm).contains b) := by
  obtain ⟨cd, h1, h2, _⟩ := T.clsIn
  show mroIn K C b = _
  unfold mroIn
  rw [h1, Option.bind_some, h2]
  rfl
theorem XC.ty (T : XC K nm C fI newId bm) : typeIn K (.ref C) = some (.type "type") := by
  obtain ⟨q, N, bs, sn, sub, ab, col, dd, k0, k1, k2, k3, k5, h⟩ := T.cls
  show (K.lookup C).map (·.cls) = _
  rw [h]
  rfl
theorem XC.hd (T : XC K nm C fI newId bm) : hasDictIn K C = true := by
  obtain ⟨cd, h1, _, h3⟩ := T.clsIn
  unfold hasDictIn
  rw [h1]
  exact h3
/-- classes of other names stand elsewhere -/
theorem XC.ne (T : XC K nm C fI newId bm) (T' : XC K nm' C' fI' newId' bm') (h : nm ≠ nm') : C ≠ C' := fun z => by
  subst z
  obtain ⟨q, N, bs, sn, sub, ab, col, dd, k0, k1, k2, k3, k5, h1⟩ := T.cls
  obtain ⟨q', N', bs', sn', sub', ab', col', dd', k0', k1', k2', k3', k5', h2⟩ := T'.cls
  rw [h1] at h2
  have h3 := congrArg Obj.data (Option.some.inj h2)
  have h4 := Data.cls.inj h3
  exact h (congrArg ClassData.name h4)
/-- one of them in an except clause -/
theorem XC.exm (T : XC K nm C fI newId bm) (T' : XC K nm' C' fI' newId' bm') (hB : bm.contains (.type "BaseException") = true) (hB' : bm'.contains (.type "BaseException") = true) (nr : ∀ c : Addr, bm.contains (.ref c) = false) : exmOne K (.ref C) (.ref C') = some (decide (C = C')) := by
  refine exm_ref ?_ T'.hd T'.ty ?_
  · rw [T'.sub, List.contains_cons, hB', Bool.or_true]
  · rw [T.sub, List.contains_cons, nr, Bool.or_false]
    congr 1
    by_cases e : C = C'
    · subst e
      rw [decide_eq_true rfl, beq_self_eq_true]
    · rw [decide_eq_false e, beq_eq_false_iff_ne]
      exact fun z => e (Value.ref.inj z).symm
end
/-- what __init__ leaves of a fresh exception at x -/
structure XInit (h h' : Heap) (x C dx t1 : Addr) (v : Value) : Prop where
  keep : ∀ b o, b ≠ x → h.get? b = some o → h'.get? b = some o
  obj : h'.get? x = some { cls := .ref C, dict := some dx, data := .fields #[.ref t1, .none, .none, .none, .bool false, .none] }
  dbig : h.objs.size ≤ dx
  dne : dx ≠ x
  ns : h'.Ns1 dx (fun y => if y = "what" then some v else none)
/-- a made one -/
structure XMade (h h' : Heap) (e C d : Addr) (v : Value) : Prop where
  keep : ∀ b o, h.get? b = some o → h'.get? b = some o
  new : h.objs.size ≤ e
  obj : ∃ oe vs, h'.get? e = some oe ∧ oe.cls = .ref C ∧ oe.dict = some d ∧ oe.data = .fields vs ∧ vs[1]? = some .none
  dbig : h.objs.size ≤ d
  dne : d ≠ e
  ns : h'.Ns1 d (fun y => if y = "what" then some v else none)
section
variable {prog : Program} {w : World} {A : Around} {E : Value → Shared → Prop} {R : Result → Shared → Prop} {s : Shared} {K : Frag} {nm : Str} {C fI : Addr} {B newId initId : String} {bm : List Value}
end
abbrev xdW (v : V) : HO := .xd [(("what" : Str), v)]
section
variable {X : Cx} {nm : Str} {C fI : Addr} {B newId initId : String} {bm : List Value}
/-! ### a kept one -/
end
end Cg

set_option Elab.async false
set_option linter.all false
set_option maxRecDepth 100000
namespace Cg
open PySem PySem.Spec PyProof.Rows L2 Evl
/-! ### data that are tracked -/
/-- a dict's rows of ints, as they stand and as data -/
def kvI (p : Int × Int) : Key × V := (.inl p.1, .int p.2)
def kdI (p : Int × Int) : PyData × PyData := (.int p.1, .int p.2)
/-- a dict's rows of texts -/
def kz (ns : List Str) (vs : List V) : List (Key × V) := (ns.zip vs).map fun p => (.inr p.1, p.2)
/-- the keys of a dict, none twice: ints, or pairs of ints -/
inductive DKs where
  | i (ks : List Int)
  | p (ks : List (Int × Int))
def keyP (p : Int × Int) : List Key := [.inl p.1, .inl p.2]
def DKs.len : DKs → Nat
  | .i ks => ks.length
  | .p ks => ks.length
def DKs.Nd : DKs → Prop
  | .i ks => ks.Nodup
  | .p ks => ks.Nodup
/-- the dict -/
def DKs.ob : DKs → List V → HO
  | .i ks, vs => .dK ((ks.zip vs).map fun p => (.inl p.1, p.2))
  | .p ks, vs => .dT ((ks.zip vs).map fun p => (keyP p.1, p.2))
def DKs.dat : DKs → PyData
  | .i ks => .list (ks.map .int)
  | .p ks => .tuple (ks.map fun p => .tuple [.int p.1, .int p.2])
/-- the data of an instance (c its class), or of a dict of texts (c None) -/
abbrev recD (c : PyData) (ns : List Str) (ds : List PyData) : PyData := .dict [(.none, c), (.tuple (ns.map PyData.str), .list ds)]
/-- the data of an exception of the class at C with this field: kept; in the air (its dict alone) -/
abbrev exD (C : Addr) (d : PyData) : PyData := .dict [(.bool true, .int (C : Int)), (.none, d)]
abbrev flyD (C : Addr) (d : PyData) : PyData := .dict [(.bool false, .int (C : Int)), (.none, d)]
/-- the data of a dict of ints or pairs -/
abbrev dctD (ks : DKs) (ds : List PyData) : PyData := .dict [(.none, .str ""), (ks.dat, .list ds)]
mutual
inductive Dq (H : Hp) : V → PyData → Prop
  | non : Dq H .non .none
  | bl (b : Bool) : Dq H (.bl b) (.bool b)
  | int (i : Int) : Dq H (.int i) (.int i)
  | str (x : Str) : Dq H (.str x) (.str x)
  | lst {a : Addr} {xs : List V} {ds : List PyData} (e : H a = some (.lst xs)) (h : DqAll H xs ds) : Dq H (.ref a) (.list ds)
  | tup {a : Addr} {xs : List V} {ds : List PyData} (e : H a = some (.tup xs)) (h : DqAll H xs ds) : Dq H (.ref a) (.tuple ds)
  | dic {a : Addr} {kvs : List (Int × Int)} (e : H a = some (.dK (kvs.map kvI))) : Dq H (.ref a) (.dict (kvs.map kdI))
  | ins {a C dx : Addr} {ns : List Str} {vs : List V} {ds : List PyData} (e : H a = some (.ins C dx (ns.zip vs))) (l : ns.length = vs.length) (h : DqAll H vs ds) : Dq H (.ref a) (.dict [(.none, .int (C : Int)), (.tuple (ns.map PyData.str), .list ds)])
  | rc {a : Addr} {ns : List Str} {vs : List V} {ds : List PyData} (e : H a = some (.dK (kz ns vs))) (l : ns.length = vs.length) (h : DqAll H vs ds) : Dq H (.ref a) (.dict [(.none, .none), (.tuple (ns.map PyData.str), .list ds)])
  | dct {a : Addr} {ks : DKs} {vs : List V} {ds : List PyData} (e : H a = some (ks.ob vs)) (l : ks.len = vs.length) (nd : ks.Nd) (h : DqAll H vs ds) : Dq H (.ref a) (.dict [(.none, .str ""), (ks.dat, .list ds)])
  | fz {a : Addr} {o : Obj} {xs : List V} {ds : List PyData} (e : H a = some (.frz o (.tup xs))) (c : o.dict = none) (h : DqAll H xs ds) : Dq H (.ref a) (.dict [(.none, .int (-1)), (.tuple [], .list ds)])
  | exc {a C dx : Addr} {v : V} {d : PyData} (e : H a = some (exK a (.ref C) (some dx))) (e2 : H dx = some (xdW v)) (h : Dq H v d) : Dq H (.ref a) (.dict [(.bool true, .int (C : Int)), (.none, d)])
  | fly {C dx : Addr} {v : V} {d : PyData} (e2 : H dx = some (xdW v)) (h : Dq H v d) : Dq H (.ref dx) (.dict [(.bool false, .int (C : Int)), (.none, d)])
inductive DqAll (H : Hp) : List V → List PyData → Prop
  | nil : DqAll H [] []
  | cons {v : V} {vs : List V} {d : PyData} {ds : List PyData} (h : Dq H v d) (t : DqAll H vs ds) : DqAll H (v :: vs) (d :: ds)
end
section
variable {H H' : Hp} {K : PySem.W.Frag}
mutual
theorem Dq.mono (e : Same H H') : ∀ {v : V} {d : PyData}, Dq H v d → Dq H' v d
  | _, _, .non => .non
  | _, _, .bl b => .bl b
  | _, _, .int i => .int i
  | _, _, .str x => .str x
  | _, _, .lst a h => .lst (e _ _ a) (h.mono e)
  | _, _, .tup a h => .tup (e _ _ a) (h.mono e)
  | _, _, .dic a => .dic (e _ _ a)
  | _, _, .ins a l h => .ins (e _ _ a) l (h.mono e)
  | _, _, .rc a l h => .rc (e _ _ a) l (h.mono e)
  | _, _, .dct a l n h => .dct (e _ _ a) l n (h.mono e)
  | _, _, .fz a c h => .fz (e _ _ a) c (h.mono e)
  | _, _, .exc a b h => .exc (e _ _ a) (e _ _ b) (h.mono e)
  | _, _, .fly b h => .fly (e _ _ b) (h.mono e)
theorem DqAll.mono (e : Same H H') : ∀ {vs : List V} {ds : List PyData}, DqAll H vs ds → DqAll H' vs ds
  | _, _, .nil => .nil
  | _, _, .cons h t => .cons (h.mono e) (t.mono e)
end
mutual
/-- no dict in it -/
def noD : PyData → Bool
  | .none => true
  | .bool _ => true
  | .int _ => true
  | .str _ => true
  | .list xs => noDs xs
  | .tuple xs => noDs xs
  | .dict _ => false
def noDs : List PyData → Bool
  | [] => true
  | x :: xs => noD x && noDs xs
end
mutual
theorem noD_lay : ∀ {d : PyData}, d.canLay0 = true → noD d = true
  | .none, _ => rfl
  | .bool _, _ => rfl
  | .int _, _ => rfl
  | .str _, _ => rfl
  | .list xs, h => noDs_lay (ds := xs) h
  | .tuple xs, h => noDs_lay (ds := xs) h
  | .dict _, h => nomatch h
theorem noDs_lay : ∀ {ds : List PyData}, PyData.canLayAll0 ds = true → noDs ds = true
  | [], _ => rfl
  | x :: xs, h => by
    have h' := (Bool.and_eq_true _ _).mp h
    show (noD x && noDs xs) = true
    rw [noD_lay h'.1, noDs_lay h'.2]
    rfl
end
theorem noD_shaped {d : PyData} (h : SeqAt.shaped d = true) : noD d = true := noD_lay (SeqAt.canLay_of_shaped h)
mutual
theorem noD_ok : ∀ {d : PyData}, okD d = true → noD d = true
  | .none, _ => rfl
  | .bool _, _ => rfl
  | .int _, _ => rfl
  | .str _, _ => rfl
  | .list xs, h => noDs_ok (ds := xs) h
  | .tuple xs, h => noDs_ok (ds := xs) h
  | .dict _, h => nomatch h
theorem noDs_ok : ∀ {ds : List PyData}, okAll ds = true → noDs ds = true
  | [], _ => rfl
  | x :: xs, h => by
    have h' := (Bool.and_eq_true _ _).mp h
    show (noD x && noDs xs) = true
    rw [noD_ok h'.1, noDs_ok h'.2]
    rfl
end
mutual
theorem Dq.dp : ∀ {v : V} {d : PyData}, Dq H v d → noD d = true → Dp K H v d
  | _, _, .non, _ => .non
  | _, _, .bl b, _ => .bl b
  | _, _, .int i, _ => .int i
  | _, _, .str x, _ => .str x
  | _, _, .lst a h, n => .lst (SqL.of a) (h.dp n)
  | _, _, .tup a h, n => .tup (SqT.of a) (h.dp n)
  | _, _, .dic _, n => nomatch n
  | _, _, .ins _ _ _, n => nomatch n
  | _, _, .rc _ _ _, n => nomatch n
  | _, _, .dct _ _ _ _, n => nomatch n
  | _, _, .fz _ _ _, n => nomatch n
  | _, _, .exc _ _ _, n => nomatch n
  | _, _, .fly _ _, n => nomatch n
theorem DqAll.dp : ∀ {vs : List V} {ds : List PyData}, DqAll H vs ds → noDs ds = true → DpAll K H vs ds
  | _, _, .nil, _ => .nil
  | _, _, .cons h t, n => .cons (h.dp ((Bool.and_eq_true _ _).mp n).1) (t.dp ((Bool.and_eq_true _ _).mp n).2)
end
theorem DqAll.len : ∀ {vs : List V} {ds : List PyData}, DqAll H vs ds → vs.length = ds.length
  | _, _, .nil => rfl
  | _, _, .cons _ t => by rw [List.length_cons, List.length_cons, t.len]
theorem DqAll.get : ∀ {vs : List V} {ds : List PyData}, DqAll H vs ds → ∀ {i : Nat} {v : V}, vs[i]? = some v → ∃ d, ds[i]? = some d ∧ Dq H v d
  | _, _, .nil, i, v, h => by simp at h
  | _, _, .cons (d := d) h t, 0, v, e => by
    have e' : _ = v := Option.some.inj e
    subst e'
    exact ⟨d, rfl, h⟩
  | _, _, .cons h t, i + 1, v, e => t.get (i := i) e
theorem DqAll.at : ∀ {vs : List V} {ds : List PyData}, DqAll H vs ds → ∀ {i : Nat} {d : PyData}, ds[i]? = some d → ∃ v, vs[i]? = some v ∧ Dq H v d
  | _, _, .nil, i, v, h => by simp at h
  | _, _, .cons (v := w) h t, 0, v, e => by
    have e' : _ = v := Option.some.inj e
    subst e'
    exact ⟨w, rfl, h⟩
  | _, _, .cons h t, i + 1, v, e => t.at (i := i) e
theorem DqAll.append : ∀ {vs us : List V} {ds es : List PyData}, DqAll H vs ds → DqAll H us es → DqAll H (vs ++ us) (ds ++ es)
  | _, _, _, _, .nil, q => q
  | _, _, _, _, .cons h t, q => .cons h (t.append q)
theorem DqAll.take : ∀ {vs : List V} {ds : List PyData} (n : Nat), DqAll H vs ds → DqAll H (vs.take n) (ds.take n)
  | _, _, 0, _ => .nil
  | _, _, _ + 1, .nil => .nil
  | _, _, n + 1, .cons h t => .cons h (t.take n)
theorem DqAll.drop : ∀ {vs : List V} {ds : List PyData} (n : Nat), DqAll H vs ds → DqAll H (vs.drop n) (ds.drop n)
  | _, _, 0, q => q
  | _, _, _ + 1, .nil => .nil
  | _, _, n + 1, .cons _ t => t.drop n
theorem DqAll.rep {v : V} {d : PyData} (h : Dq H v d) : ∀ n : Nat, DqAll H (List.replicate n v) (List.replicate n d)
  | 0 => .nil
  | n + 1 => .cons h (DqAll.rep h n)
theorem DqAll.ints : ∀ ns : List Int, DqAll H (ns.map V.int) (ns.map PyData.int)
  | [] => .nil
  | n :: r => .cons (.int n) (DqAll.ints r)
theorem Dq.list_inv {v : V} {ds : List PyData} (h : Dq H v (.list ds)) : ∃ a xs, v = .ref a ∧ H a = some (.lst xs) ∧ DqAll H xs ds := by
  cases h with
  | lst e h => exact ⟨_, _, rfl, e, h⟩
theorem Dq.tup_inv {v : V} {ds : List PyData} (h : Dq H v (.tuple ds)) : ∃ a xs, v = .ref a ∧ H a = some (.tup xs) ∧ DqAll H xs ds := by
  cases h with
  | tup e h => exact ⟨_, _, rfl, e, h⟩
theorem Dq.int_inv {v : V} {i : Int} (h : Dq H v (.int i)) : v = .int i := by
  cases h
  rfl
def tyN : PyData → String
  | .none => "NoneType"
  | .bool _ => "bool"
  | .int _ => "int"
  | .str _ => "str"
  | .list _ => "list"
  | .tuple _ => "tuple"
  | .dict _ => "dict"
/-- it is no instance -/
def notI : PyData → Bool
  | .dict ((.none, .int _) :: _) => false
  | .dict ((.bool _, _) :: _) => false
  | _ => true
theorem Dq.ty {v : V} {d : PyData} (h : Dq H v d) (hn : notI d = true) : TyX K H v (.type (tyN d)) := by
  cases h with
  | non => exact .base .non
  | bl b => exact .base (.bl b)
  | int i => exact .base (.int i)
  | str x => exact .base (.str x)
  | lst e _ => exact .base (.lst e)
  | tup e _ => exact .base (.tup e)
  | dic e => exact .base (.dK e)
  | ins e l h => cases hn
  | rc e l h => exact .base (.dK e)
  | @dct a ks vs ds e l nd h =>
    cases ks with
    | i ks => exact .base (.dK e)
    | p ks => exact .base (.dT e)
  | fz e c h => cases hn
  | exc e c h => cases hn
  | fly e h => cases hn
def isInt : PyData → Bool
  | .int _ => true
  | .bool _ => true
  | _ => false
def isBool : PyData → Bool
  | .bool _ => true
  | _ => false
def isList : PyData → Bool
  | .list _ => true
  | _ => false
def isTuple : PyData → Bool
  | .tuple _ => true
  | _ => false
def isStr : PyData → Bool
  | .str _ => true
  | _ => false
theorem kit_int (d : PyData) : kitB (tyN d) "int" = some (isInt d) := by cases d <;> (simp only [tyN, isInt]; decide +kernel)
theorem kit_bool (d : PyData) : kitB (tyN d) "bool" = some (isBool d) := by cases d <;> (simp only [tyN, isBool]; decide +kernel)
theorem kit_list (d : PyData) : kitB (tyN d) "list" = some (isList d) := by cases d <;> (simp only [tyN, isList]; decide +kernel)
theorem kit_tuple (d : PyData) : kitB (tyN d) "tuple" = some (isTuple d) := by cases d <;> (simp only [tyN, isTuple]; decide +kernel)
theorem kit_str (d : PyData) : kitB (tyN d) "str" = some (isStr d) := by cases d <;> (simp only [tyN, isStr]; decide +kernel)
end
/-! ### readings -/
section
variable {K : PySem.W.Frag} {σ : L2.St} {H : Hp} {ta tb te tl : TE} {x v : V} {d : PyData} {T : String} {b : Bool}
theorem ev_isi (ha : Ev ta σ H v) (hd : Dq H v d) (hn : notI d = true) (hk : kitB (tyN d) T = some b) : Ev (tCB (rIsi K) (tCons ta (tCons (tC (.ty T)) tNil))) σ H (.bl b) := fun H1 e Q q =>
  ha H1 e _ fun H2 e2 => ⟨v, .ty T, .type (tyN d), .type T, b, rfl, .ty T, (hd.mono (e.trans e2)).ty hn, kit_ty hk, q H2 e2⟩
end
/-! ### rules whose reading names the written part itself -/
section
variable {X : Cx}
def rTupS (K : PySem.W.Frag) : List V → Hp → VK → Prop := fun xs H Q => ∃ p ys, xs = [.ref p] ∧ ((SqL K H p ys ∧ ∀ l, H l = none → Q (.ref l) (upd H l (.tup ys))) ∨ (SqT K H p ys ∧ Q (.ref p) H))
theorem lenK (K : PySem.W.Frag) (hK : X.K = K := by rfl) : CallR X (.builtin "len") (rLenS K) := by subst hK; exact call_len_seq
theorem isiK (K : PySem.W.Frag) (hK : X.K = K := by rfl) : CallR X (.builtin "isinstance") (rIsi K) := by subst hK; exact call_isi
theorem isiTK (K : PySem.W.Frag) (hK : X.K = K := by rfl) : CallR X (.builtin "isinstance") (rIsiT K) := by subst hK; exact call_isiT
theorem allK (K : PySem.W.Frag) (hK : X.K = K := by rfl) (hc : X.calm = true := by rfl) : CallR X (.builtin "all") (rAll K) := by subst hK; exact cr_all hc
theorem listK (K : PySem.W.Frag) (hK : X.K = K := by rfl) : CallR X (.type "list") (rListS K) := by subst hK; exact call_list_of
theorem tupK (K : PySem.W.Frag) (hK : X.K = K := by rfl) : CallR X (.type "tuple") (rTupS K) := by subst hK; exact call_tuple_of
theorem reprK (K : PySem.W.Frag) (hg : X.A.guards = some []) (hu : X.A.units + 64 < cLine) (hK : X.K = K := by rfl) : CallR X (.builtin "repr") (rReprD K) := by subst hK; exact call_reprD hg hu
theorem ixLK (K : PySem.W.Frag) (hK : X.K = K := by rfl) : IxR X (rIxL K) := by subst hK; exact ix_list
theorem slLK (K : PySem.W.Frag) (hK : X.K = K := by rfl) : SlR X (rSlL K) := by subst hK; exact sl_list
theorem inK (K : PySem.W.Frag) (hK : X.K = K := by rfl) : OpR X (compareOp .In) (rIn K false) := by subst hK; exact op_in_seq
theorem pi_enumK (K : PySem.W.Frag) {e : Expr} {ta : TA} {p pos tpos : Pos} {elts : List Expr} {kk : Nat} (hg : Gl X "enumerate") (hm : X.mg "enumerate" = none) (ha : PA X [e] ta) (hK : X.K = K := by rfl) (hs : starEach [e] X.env = [(false, eval e X.env)] := by rfl) :
    PI X (.Tuple elts kk tpos) (.Call (.Name "enumerate" p) [e] [] pos) (iEnum K ta) := by subst hK; exact pi_enum hg hm ha hs
theorem pg_tupK (K : PySem.W.Frag) {es : List Expr} {k : Nat} {t : TGs} {n : Nat} {pos : Pos} (hc : X.calm = true) (h : PGs X es t) (hK : X.K = K := by rfl) (hn : (assignEach es X.env).length = n := by rfl) (hst : (assignEach es X.env).findIdx? (·.1) = none := by rfl) :
    PG X (.Tuple es k pos) (gTup K n t) := by subst hK; exact pg_tup hc h hn hst
end
/-! ### promises: a truth of one thing -/
/-- a def of the text, where it stands, how it is called, what it promises -/
structure Df (P : Program) (w : World) (K : PySem.W.Frag) (mg : Str → Option Value) (base : Heap) (k : Nat) (x : Str) (st : Stmt) (ps : List Str) (f : Addr) (fd : FuncData) (sp : Sp) : Prop where
  F : Fun K x x st f fd
  g : mg x = some (.ref f)
  b : Binds K fd ps []
  G : FnOk P w K mg base CX0 k f fd ps sp
/-- the built-ins that the text asks are the built-ins still -/
structure Bl (mg : Str → Option Value) : Prop where
  int : mg "int" = none
  bool : mg "bool" = none
  list : mg "list" = none
  tuple : mg "tuple" = none
  str : mg "str" = none
  len : mg "len" = none
  all : mg "all" = none
  isinstance : mg "isinstance" = none
  range : mg "range" = none
  enumerate : mg "enumerate" = none
  zip : mg "zip" = none
  repr : mg "repr" = none
  abs : mg "abs" = none
  min : mg "min" = none
  max : mg "max" = none
  divmod : mg "divmod" = none
end Cg

set_option Elab.async false
set_option linter.all false
set_option maxRecDepth 100000
namespace Cg
open PySem PySem.Spec PyProof.Rows L2 Evl
/-! ### all but some objects is kept -/
def hid (bs : List Addr) (H : Hp) : Hp := fun a => if a ∈ bs then none else H a
def Keep (bs : List Addr) (H H' : Hp) : Prop := Same (hid bs H) (hid bs H')
section
variable {bs cs : List Addr} {H H1 H2 H3 : Hp} {p a : Addr} {o u : HO}
theorem hid_in (h : a ∈ bs) : hid bs H a = none := if_pos h
theorem hid_out (h : a ∉ bs) : hid bs H a = H a := if_neg h
theorem hid_some (h : hid bs H a = some o) : a ∉ bs ∧ H a = some o := by
  by_cases hm : a ∈ bs
  · rw [hid_in hm] at h; cases h
  · rw [hid_out hm] at h; exact ⟨hm, h⟩
theorem hid_same : Same (hid bs H) H := fun b x e => (hid_some e).2
theorem Keep.refl (bs : List Addr) (H : Hp) : Keep bs H H := Same.refl _
theorem Keep.trans (k : Keep bs H H1) (j : Keep bs H1 H2) : Keep bs H H2 := Same.trans k j
theorem Keep.of (e : Same H H1) : Keep bs H H1 := fun b x q => by
  obtain ⟨h1, h2⟩ := hid_some q
  rw [hid_out h1]
  exact e b x h2
theorem Keep.ext (k : Keep bs H H1) (e : Same H1 H2) : Keep bs H H2 := k.trans (.of e)
theorem Keep.new (k : Keep bs H H1) (h : H1 p = none) : Keep bs H (upd H1 p o) := k.ext (Ex.new h)
theorem Keep.put (k : Keep bs H H1) (h : p ∈ bs) : Keep bs H (upd H1 p o) := k.trans fun b x q => by
  obtain ⟨h1, h2⟩ := hid_some q
  rw [hid_out h1, upd_ne (fun z => h1 (by rw [z]; exact h))]
  exact h2
theorem Keep.more (k : Keep bs H H1) (h : ∀ b ∈ bs, b ∈ cs) : Keep cs H H1 := fun b x q => by
  obtain ⟨h1, h2⟩ := hid_some q
  have h3 : b ∉ bs := fun z => h1 (h b z)
  have := k b x (by rw [hid_out h3]; exact h2)
  rw [hid_out h1]
  exact (hid_some this).2
theorem Keep.get (k : Keep bs H H1) (h : a ∉ bs) (e : H a = some o) : H1 a = some o := (hid_some (k a o (by rw [hid_out h]; exact e))).2
theorem Keep.dq {v : V} {d : PyData} (k : Keep bs H H1) (h : Dq (hid bs H) v d) : Dq (hid bs H1) v d := h.mono k
theorem dq_vis {v : V} {d : PyData} (h : Dq (hid bs H) v d) : Dq H v d := h.mono hid_same
theorem hid_less (h : ∀ b ∈ bs, b ∈ cs) : Same (hid cs H) (hid bs H) := fun b x q => by
  obtain ⟨h1, h2⟩ := hid_some q
  rw [hid_out (fun z => h1 (h b z))]
  exact h2
end
/-! ### the box of draws -/
def Box (H : Hp) (b : Addr) (n : Nat) : Prop := ∃ r s c : Int, H b = some (.lst [.int r, .int s, .int c]) ∧ 0 ≤ r ∧ 0 ≤ s ∧ s < 2147483647 ∧ 0 ≤ c ∧ c ≤ n
section
variable {bs : List Addr} {H H1 : Hp} {b : Addr} {n m : Nat}
theorem Box.mono (h : Box H b n) (e : Same H H1) : Box H1 b n := by
  obtain ⟨r, s, c, h1, h2⟩ := h
  exact ⟨r, s, c, e _ _ h1, h2⟩
theorem Box.keep (h : Box H b n) (k : Keep bs H H1) (hb : b ∉ bs) : Box H1 b n := by
  obtain ⟨r, s, c, h1, h2⟩ := h
  exact ⟨r, s, c, k.get hb h1, h2⟩
theorem Box.le (h : Box H b n) (hm : n ≤ m) : Box H b m := by
  obtain ⟨r, s, c, h1, h2, h3, h4, h5, h6⟩ := h
  exact ⟨r, s, c, h1, h2, h3, h4, h5, by omega⟩
theorem Box.is (h : Box H b n) : H b ≠ none := by
  obtain ⟨r, s, c, h1, _⟩ := h
  rw [h1]
  exact fun z => nomatch z
theorem Box.ne {p : Addr} (h : Box H b n) (hp : H p = none) : p ≠ b := fun z => h.is (z ▸ hp)
theorem Box.upd {p : Addr} {o : HO} (h : Box H b n) (hp : H p = none) : Box (L2.upd H p o) b n := h.mono (Ex.new hp)
end
theorem Keep.free {H H1 : Hp} {b p : Addr} {n : Nat} (k : Keep [b] H H1) (hB : Box H1 b n) (hp : H1 p = none) : H p = none := by
  cases hh : H p with
  | none => rfl
  | some o =>
    have hb : p ∉ [b] := by simpa using hB.ne hp
    rw [k.get hb hh] at hp
    cases hp
theorem Box.out {H : Hp} {b p : Addr} {n : Nat} (hB : Box H b n) (hp : H p = none) : p ∉ [b] := by simpa using hB.ne hp
theorem Keep.putNew {H H1 : Hp} {bs : List Addr} {p : Addr} {o : HO} (k : Keep bs H H1) (h : H p = none) : Keep bs H (upd H1 p o) := fun a x q => by
  obtain ⟨q1, q2⟩ := hid_some q
  rw [hid_out q1, upd_ne (ne_of_none q2 h)]
  exact k.get q1 q2
theorem Box.put {H : Hp} {b p : Addr} {n : Nat} {o : HO} (h : Box H b n) (hp : p ≠ b) : Box (L2.upd H p o) b n := by
  obtain ⟨r, s, c, g, g'⟩ := h
  exact ⟨r, s, c, by rw [upd_ne hp.symm]; exact g, g'⟩
/-- what is kept is tracked still -/
theorem Keep.live {H H1 : Hp} {b x : Addr} {n : Nat} (k : Keep [b] H H1) (hB : Box H1 b n) (hx : H x ≠ none) : H1 x ≠ none := by
  by_cases e : x = b
  · subst e; exact hB.is
  · cases hh : H x with
    | none => exact absurd hh hx
    | some o =>
      rw [k.get (by simpa using e) hh]
      exact fun z => nomatch z
/-- what a draw promises -/
def spTake : Sp := fun vs H Q _ => ∃ (b : Addr) (m : Int) (n : Nat), vs = [.ref b, .int m] ∧ Box H b n ∧ n ≤ 1000000000 ∧ 1 ≤ m ∧ m ≤ 10000000 ∧
  ∀ (k : Int) (H' : Hp), 0 ≤ k → k < m → Box H' b (n + 1) → Keep [b] H H' → Q (.int k) H'
theorem ev_cb1 {σ : L2.St} {H : Hp} {r : List V → Hp → VK → Prop} {ta : TE} {x z : V} (h : Ev ta σ H x) (hr : ∀ (H1 : Hp) (Q : VK), Q z H1 → r [x] H1 Q) : Ev (tCB r (tCons ta tNil)) σ H z := ev_cb (ea_cons h ea_nil) fun H1 _ Q q => hr H1 Q (q H1 (Ex.refl _))
theorem ev_cb2 {σ : L2.St} {H : Hp} {r : List V → Hp → VK → Prop} {ta tb : TE} {x y z : V} (h : Ev ta σ H x) (h' : Ev tb σ H y) (hr : ∀ (H1 : Hp) (Q : VK), Q z H1 → r [x, y] H1 Q) : Ev (tCB r (tCons ta (tCons tb tNil))) σ H z := ev_cb (ea_cons h (ea_cons h' ea_nil)) fun H1 _ Q q => hr H1 Q (q H1 (Ex.refl _))
/-- for (k, x) in enumerate(xs), xs left as it is -/
theorem for_enum {K : PySem.W.Frag} {a : Addr} {xs : List V} {g : TG} {tb : TS} {D : Ends} {σ : L2.St} {H : Hp} (Pv : Nat → L2.St → Hp → Prop) (h0 : Pv 0 σ H) (hl : ∀ i σ H, i ≤ xs.length → Pv i σ H → SqL K H a xs)
    (hs : ∀ i x T σ H, xs[i]? = some x → Pv i σ H → H T = none → g (.ref T) σ (upd H T (.tup [.int (i : Nat), x])) fun σ2 H2 => tb { D with nx := Pv (i + 1), ct := Pv (i + 1), bk := D.nx } σ2 H2) (hd : ∀ σ H, Pv xs.length σ H → D.nx σ H) :
    ∃ W : Nat → Nat → L2.St → Hp → Prop, (∃ m, W 0 m σ H) ∧ ∀ i m σ H, W i m σ H → ((Ite K a).stop i H ∧ D.nx σ H) ∨ ((Ite K a).go i H ∧ ∃ N : L2.St → Hp → Prop, (∀ σ' H', N σ' H' → ∃ m', m' < m ∧ W (i + 1) m' σ' H') ∧
      ∀ x H', (Ite K a).yld i H x H' → g x σ H' fun σ2 H2 => tb { D with nx := N, ct := N, bk := D.nx } σ2 H2) := by
  refine ⟨fun i m σ H => i + m = xs.length ∧ Pv i σ H, ⟨xs.length, by omega, h0⟩, fun i m σ H hw => ?_⟩
  obtain ⟨e, p⟩ := hw
  have q := hl i σ H (by omega) p
  cases m with
  | zero =>
    obtain rfl : i = xs.length := by omega
    exact .inl ⟨⟨xs, q, Nat.le_refl _⟩, hd σ H p⟩
  | succ m =>
    have hi : i < xs.length := by omega
    refine .inr ⟨⟨xs, xs[i], q, List.getElem?_eq_getElem hi⟩, Pv (i + 1), fun σ' H' p' => ⟨m, by omega, by omega, p'⟩, fun v H' y => ?_⟩
    obtain ⟨T, x, rfl, hT, rfl, hx⟩ := y
    exact hs i x T σ H (hx xs q) p hT
theorem q_forE {K : PySem.W.Frag} {σ : L2.St} {H : Hp} {tl : TE} {i j : Nat} {xs : List V} {tu tz : TS} {D : Ends} (h : EvL tl σ H xs) (Pv : Addr → Nat → L2.St → Hp → Prop) (h0 : ∀ p H1, H p = none → Same H H1 → H1 p = some (.lst xs) → Pv p 0 σ H1)
    (hl : ∀ p k σ' H', k ≤ xs.length → Pv p k σ' H' → SqL K H' p xs)
    (hs : ∀ p (k : Nat) x T σ' H', xs[k]? = some x → Pv p k σ' H' → H' T = none → tu { D with nx := Pv p (k + 1), ct := Pv p (k + 1), bk := tz D } ((σ'.set i (some (.int (k : Nat)))).set j (some x)) (upd H' T (.tup [.int (k : Nat), x])))
    (hd : ∀ p σ' H', Pv p xs.length σ' H' → tz D σ' H') : tSeq (tFor (iEnum K (tCons tl tNil)) (gTup K 2 (gCons (gName i) (gCons (gName j) gNil))) tu) tz D σ H := by
  refine h H (Ex.refl _) _ fun p H1 np e1 hp => ⟨p, xs, rfl, SqL.of hp, ?_⟩
  refine for_enum (D := { D with nx := tz D }) (Pv p) (h0 p H1 np e1 hp) (hl p) (fun k x T σ' H' hx hP hT => ?_) (hd p)
  exact ⟨T, _, rfl, SqT.of upd_same, rfl, _, _, rfl, _, _, rfl, rfl, hs p k x T σ' H' hx hP hT⟩
end Cg

set_option Elab.async false
set_option linter.all false
set_option maxRecDepth 100000
namespace Cg
open PySem PySem.Spec PyProof.Rows L2 Evl
/-! ### readings by the data: nothing is changed, bs is what may be hidden -/
def Live (bs : List Addr) (H : Hp) : Prop := ∀ x ∈ bs, H x ≠ none
def EvQ (bs : List Addr) (te : TE) (σ : L2.St) (H : Hp) (d : PyData) : Prop := ∀ H1, Same H H1 → ∀ Q : VK, (∀ v H2, Same H1 H2 → Dq (hid bs H2) v d → Q v H2) → te σ H1 Q
def cutG {α : Type} (xs : List α) (lo hi : Option Int) : List α := (xs.drop (HT.sIx xs.length 0 lo)).take (HT.sIx xs.length xs.length hi - HT.sIx xs.length 0 lo)
section
variable {bs : List Addr} {K : PySem.W.Frag} {σ : L2.St} {H H' : Hp} {ta tb te : TE} {v : V} {d e : PyData} {ds es : List PyData} {T : String} {b : Bool}
theorem Live.mono (l : Live bs H) (e : Same H H') : Live bs H' := fun x hx => by
  cases hh : H x with
  | none => exact absurd hh (l x hx)
  | some o => rw [e x o hh]; exact fun z => nomatch z
theorem Live.out {p : Addr} (l : Live bs H) (hp : H p = none) : p ∉ bs := fun z => l p z hp
theorem Live.keep {b : Addr} {n : Nat} (l : Live bs H) (k : Keep [b] H H') (hB : Box H' b n) : Live bs H' := fun x hx => k.live hB (l x hx)
theorem same_hid (e : Same H H') : Same (hid bs H) (hid bs H') := Keep.of e
theorem EvQ.mono (s : Same H H') (h : EvQ bs te σ H d) : EvQ bs te σ H' d := fun H1 a Q q => h H1 (s.trans a) Q q
theorem DqAll.cut {xs : List V} (h : DqAll H xs ds) (lo hi : Option Int) : DqAll H (cutV xs lo hi) (cutG ds lo hi) := by
  unfold cutV cutG
  rw [h.len]
  exact (h.drop _).take _
theorem DqAll.flat {xs : List V} (h : DqAll H xs ds) : ∀ n : Nat, DqAll H (List.replicate n xs).flatten (List.replicate n ds).flatten
  | 0 => .nil
  | n + 1 => by
    rw [List.replicate_succ, List.flatten_cons, List.replicate_succ, List.flatten_cons]
    exact h.append (h.flat n)
mutual
theorem canLay_ok : ∀ d : PyData, okD d = true → d.canLay0 = true
  | .none, _ => rfl
  | .bool _, _ => rfl
  | .int _, _ => rfl
  | .str x, h => h
  | .list xs, h => canLayAll_ok xs h
  | .tuple xs, h => canLayAll_ok xs h
  | .dict _, h => by cases h
theorem canLayAll_ok : ∀ xs : List PyData, okAll xs = true → PyData.canLayAll0 xs = true
  | [], _ => rfl
  | x :: r, h => by
    have h' : (okD x && okAll r) = true := h
    rw [Bool.and_eq_true] at h'
    show (PyData.canLay0 x && PyData.canLayAll0 r) = true
    rw [canLay_ok x h'.1, canLayAll_ok r h'.2] <;> rfl
end
/-! statements -/
variable {D : Ends} {tz : TS}
/-! new lists, comprehensions -/
theorem hid_fresh {D : Addr} {o : HO} (hD : H D = none) : Same (hid bs H) (hid (D :: bs) (upd H D o)) := fun a x q => by
  obtain ⟨h1, h2⟩ := hid_some q
  have hne : a ≠ D := ne_of_none h2 hD
  rw [hid_out (fun z => (List.mem_cons.mp z).elim hne h1), upd_ne hne]
  exact h2
end
/-- such a def, kept where no repr is under way -/
structure DfG (P : Program) (w : World) (K : PySem.W.Frag) (mg : Str → Option Value) (base : Heap) (k : Nat) (x : Str) (st : Stmt) (ps : List Str) (f : Addr) (fd : FuncData) (sp : Sp) : Prop where
  F : Fun K x x st f fd
  g : mg x = some (.ref f)
  b : Binds K fd ps []
  G : FnG P w K mg base k f fd ps sp
end Cg

set_option Elab.async false
set_option linter.all false
set_option maxRecDepth 100000
namespace Cg
open PySem PySem.Spec PyProof.Rows L2 Evl
/-! ### lists of data: what holds of each -/
theorem okAll_iff : ∀ {xs : List PyData}, okAll xs = true ↔ ∀ x ∈ xs, okD x = true
  | [] => ⟨(fun _ _ z => nomatch z), fun _ => rfl⟩
  | x :: r => by
    show (okD x && okAll r) = true ↔ _
    rw [Bool.and_eq_true, okAll_iff (xs := r)]
    exact ⟨fun h y hy => (List.mem_cons.mp hy).elim (fun e => e ▸ h.1) (h.2 y), fun h => ⟨h x (List.mem_cons_self ..), fun y hy => h y (List.mem_cons_of_mem _ hy)⟩⟩
theorem depthAll_iff {k : Nat} : ∀ {xs : List PyData}, PyData.depthAll xs ≤ k ↔ ∀ x ∈ xs, x.depth ≤ k
  | [] => ⟨(fun _ _ z => nomatch z), fun _ => Nat.zero_le _⟩
  | x :: r => by
    show max x.depth (PyData.depthAll r) ≤ k ↔ _
    rw [Nat.max_le, depthAll_iff (xs := r)]
    exact ⟨fun h y hy => (List.mem_cons.mp hy).elim (fun e => e ▸ h.1) (h.2 y), fun h => ⟨h x (List.mem_cons_self ..), fun y hy => h y (List.mem_cons_of_mem _ hy)⟩⟩
theorem wzAll_le {R : Nat} : ∀ {xs : List PyData}, (∀ x ∈ xs, wz x ≤ R) → wzAll xs ≤ (R + 2) * xs.length
  | [], _ => Nat.zero_le _
  | x :: r, h => by
    have h1 := wzAll_le (xs := r) fun y hy => h y (List.mem_cons_of_mem _ hy)
    have h2 := h x (List.mem_cons_self ..)
    show wz x + 2 + wzAll r ≤ (R + 2) * (r.length + 1)
    rw [Nat.mul_succ]
    omega
/-- return all([e for k in range(n)]), each e True, nothing changed that was -/
theorem r_lawAll {K : PySem.W.Frag} {σ : L2.St} {H : Hp} {D : Ends} {ta : TA} {te : TE} {j n : Nat} {vs : List Nat} (ha : EvA ta σ H [.int (n : Int)]) (hn : n ≤ 40000) (hw : ∀ x, wipe ((wipe σ vs).set j (some x)) vs = wipe σ vs)
    (step : ∀ (i : Nat) (H' : Hp) (Q : VK), i < n → Same H H' → (∀ H2, Same H' H2 → Q (.bl true) H2) → te ((wipe σ vs).set j (some (.int (i : Int)))) H' Q) (k : ∀ H', Same H H' → D.rt (.bl true) H') :
    tRet (tCB (rAll K) (tCons (tLc (iRng1 ta) (gName j) tYes te vs) tNil)) D σ H := by
  have go : tLc (iRng1 ta) (gName j) tYes te vs σ H fun x H1 => rAll K [x] H1 D.rt := by
    refine ha H (Ex.refl _) _ fun H1 e1 => ⟨n, rfl, by omega, by omega, fun A nA => ?_⟩
    have toN : ((n : Int)).toNat = n := by omega
    rw [toN]
    refine lc_range (lo := 0) (n := n) (fun i H' => H' A = some (.lst ((List.replicate i true).map V.bl)) ∧ Same H1 H') ⟨upd_same, Ex.new nA⟩ (fun i H' hi hP => ?_) (fun H' hP => ?_)
    · obtain ⟨h1, h2⟩ := hP
      have e0 : (0 : Int) + (i : Int) = (i : Int) := Int.zero_add _
      show wipe ((wipe σ vs).set j (some (.int ((0 : Int) + (i : Int))))) vs = wipe σ vs ∧ te ((wipe σ vs).set j (some (.int ((0 : Int) + (i : Int))))) H' _
      rw [e0]
      refine ⟨hw _, step i H' _ hi (e1.trans h2) fun H2 e2 => ⟨_, e2 _ _ h1, ?_, ?_, fun a o q => ?_⟩⟩
      · rw [List.length_map, List.length_replicate]
        exact Nat.lt_of_le_of_lt (show i ≤ 40000 by omega) (by decide)
      · rw [upd_same, List.replicate_succ', List.map_append]; rfl
      · rw [upd_ne (ne_of_none q nA)]
        exact e2 _ _ (h2 _ _ q)
    · obtain ⟨h1, h2⟩ := hP
      refine ⟨A, List.replicate n true, rfl, SqL.of h1, ?_⟩
      have e : (List.replicate n true).all id = true := List.all_eq_true.mpr fun x hx => by rw [List.eq_of_mem_replicate hx]; rfl
      rw [e]
      exact k H' (e1.trans h2)
  exact go
/-- a box made here is nobody else's -/
theorem same_box {H H1 H2 : Hp} {b : Addr} (e : Same H H1) (nb : H b = none) (k : Keep [b] H1 H2) : Same H H2 := fun a o q => k.get (by simpa using ne_of_none q nb) (e _ _ q)
end Cg

set_option Elab.async false
set_option linter.all false
set_option maxRecDepth 100000
set_option maxHeartbeats 1000000
namespace Cg
open PySem PySem.Spec PyProof.Rows L2 Evl
/-! ### zip of any number of lists, or of tuples -/
def RIt (kd : Bool) (h : Heap) (it a : Addr) (k : Nat) : Prop := match kd with
  | true => h.IsListIter it a k
  | false => h.IsTupleIter it a k
def RSq (kd : Bool) (h : Heap) (a : Addr) (items : Array Value) : Prop := match kd with
  | true => h.IsList a items
  | false => h.IsTuple a items
section
variable {kd : Bool} {h h' : Heap} {it a : Addr} {k : Nat} {items : Array Value}
theorem RIt.keep (x : RIt kd h it a k) (e : ∀ o, h.get? it = some o → h'.get? it = some o) : RIt kd h' it a k := by
  cases kd with
  | true => exact Heap.IsListIter.at x e
  | false => exact Heap.IsTupleIter.at x e
theorem RSq.keep (x : RSq kd h a items) (e : ∀ o, h.get? a = some o → h'.get? a = some o) : RSq kd h' a items := by
  cases kd with
  | true =>
    obtain ⟨o, ho, r⟩ := x
    exact ⟨o, e _ ho, r⟩
  | false =>
    obtain ⟨o, ho, r⟩ := x
    exact ⟨o, e _ ho, r⟩
theorem RIt.obj (x : RIt kd h it a k) : ∃ o, h.get? it = some o ∧ ∀ v, o.data ≠ .cell v := by
  cases kd with
  | true =>
    obtain ⟨o, e, _, d⟩ := x
    exact ⟨o, e, fun v z => by rw [d] at z; cases z⟩
  | false =>
    obtain ⟨o, e, _, d⟩ := x
    exact ⟨o, e, fun v z => by rw [d] at z; cases z⟩
end
section
variable {prog : Program} {w : World} {A : Around} {E : Value → Shared → Prop} {s : Shared} {kd : Bool}
abbrev tObj (vs : Array Value) : Obj := { cls := .type "tuple", data := .seq vs }
/-- the iterators, what they walk, what they give next -/
abbrev Src := Addr × Addr × Value
structure ZApart (z TI TO : Addr) (L : List Src) : Prop where
  nd : (z :: TI :: TO :: L.map (·.1)).Nodup
  src : ∀ t ∈ L, t.2.1 ≠ z ∧ t.2.1 ≠ TO ∧ t.2.1 ∉ L.map (·.1)
/-- the iterators' records -/
def itObj (kd : Bool) (a : Addr) : Obj := match kd with
  | true => { cls := .type "list_iterator", data := .fields #[.ref a, .int 0 0] }
  | false => { cls := .type "tuple_iterator", data := .fields #[.ref a, .int 0 0] }
theorem rit_new {a : Addr} {h : Heap} : RIt kd (h.push (itObj kd a)) h.objs.size a 0 := by
  cases kd with
  | true => exact ⟨_, Heap.get?_push_size _ rfl, rfl, rfl⟩
  | false => exact ⟨_, Heap.get?_push_size _ rfl, rfl, rfl⟩
end
/-! ### for column in zip(*rows), as a comprehension walks it -/
def SqK (kd : Bool) (K : PySem.W.Frag) (H : Hp) (a : Addr) (xs : List V) : Prop := match kd with
  | true => SqL K H a xs
  | false => SqT K H a xs
theorem SqK.get {X : Cx} {pins : List (Addr × Obj)} {σ : L2.St} {H : Hp} {s : Shared} {kd : Bool} {a : Addr} {xs : List V} (I : Inv X pins σ H s) (h : SqK kd X.K H a xs) : ∃ its : List Value, Vals xs its ∧ RSq kd s.heap a its.toArray := by
  cases kd with
  | true =>
    obtain ⟨its, r, p, _⟩ := I.list h
    exact ⟨its, r, p.isList⟩
  | false =>
    obtain ⟨its, r, p, _⟩ := I.tuple h
    exact ⟨its, r, p⟩
theorem RSq.lt {kd : Bool} {h : Heap} {a : Addr} {items : Array Value} (x : RSq kd h a items) : a < h.objs.size := by
  cases kd with
  | true =>
    obtain ⟨o, ho, _⟩ := x
    exact Heap.lt_size ho
  | false =>
    obtain ⟨o, ho, _⟩ := x
    exact Heap.lt_size ho
end Cg

set_option Elab.async false
set_option linter.all false
set_option maxRecDepth 100000
set_option maxHeartbeats 1000000
namespace Cg
open PySem PySem.Spec PyProof.Rows L2 Evl
/-! ### enumerate of a list or a tuple that stands still -/
theorem draws_row {prog : Program} {w : World} {A : Around} {kd : Bool} (hh : A.handled = none) (it a : Addr) (hne : a ≠ it) (items : Array Value) : Draws prog w A it [it, a] items.size (fun i v => items[i]? = some v) (fun i h => RIt kd h it a i ∧ RSq kd h a items) := by
  cases kd with
  | true => exact Draws.list hh it a hne items
  | false => exact Draws.tuple hh it a hne items
section
variable {prog : Program} {w : World} {A : Around} {E : Value → Shared → Prop} {s : Shared} {kd : Bool}
theorem enum_tup (l : Addr) (items : Array Value) : Meets (Builtin.«enumerate.__new__» ⟨[.type "enumerate", .ref l], []⟩) (fun _ R s => s.heap.IsTuple l items ∧
      R (.ok (.ret (.ref (s.heap.push (itObj false l)).objs.size))) { s with heap := (s.heap.push (itObj false l)).push { cls := .type "enumerate", data := .fields #[.none, .bool false, .ref s.heap.objs.size, rawInt 0, .none, .none] } }) :=
  .of_wp fun prog w A R s h => by
    obtain ⟨hp, g, d, tk, os⟩ := s
    obtain ⟨hl, h⟩ := h
    have hsub := sub_enumerate
    obtain ⟨o, ho, r⟩ := id hl
    have hL : Heap.IsTuple (Shared.heap ⟨hp, g, d, tk, os⟩) l items := hl
    wp_walk using AutoSeq1.wpAny_loadPart' ho
    refine wpAny_stack_any fun _ => wpAny_pure ?_
    split
    · rename_i c _ _ _ _ _
      cases (c == Value.type "enumerate") <;> (wp_walk using AutoSeq1.wpAny_loadPart' ho, wpAny_pyIter_tuple hL; exact ⟨_, rfl, h⟩)
    · wp_walk using AutoSeq1.wpAny_loadPart' ho, wpAny_pyIter_tuple hL
      exact ⟨_, rfl, h⟩
theorem call_enum {l : Addr} {items : Array Value} {Q : Value → Shared → Prop} (hL : RSq kd s.heap l items)
    (h : ∀ h', IsEnum h' (s.heap.objs.size + 1) s.heap.objs.size 0 .none → RIt kd h' s.heap.objs.size l 0 → (∀ b o, s.heap.get? b = some o → h'.get? b = some o) → Q (.ref (s.heap.objs.size + 1)) { s with heap := h' }) :
    wpAny (model prog w) A (call (.type "enumerate") [.ref l]) Q E s := by
  cases kd with
  | true => exact call_enumerate_list hL fun h' a1 a2 _ a4 => h h' a1 a2 a4
  | false =>
    refine callType_new F.called_enumerate (by decide) (F.typeCall_enumerate_1 _) (F.newCall_enumerate_1 _) (fun obj => F.args_object_init_2 obj _) F.entry_enumerate_new (enum_tup l items) ⟨hL, ?_⟩
    have hz : (s.heap.push (itObj false l)).objs.size = s.heap.objs.size + 1 := Heap.size_push ..
    have he : ((s.heap.push (itObj false l)).push { cls := .type "enumerate", data := .fields #[.none, .bool false, .ref s.heap.objs.size, rawInt 0, .none, .none] }).get? (s.heap.push (itObj false l)).objs.size = some { cls := .type "enumerate", data := .fields #[.none, .bool false, .ref s.heap.objs.size, rawInt 0, .none, .none] } := Heap.get?_push_size _ rfl
    show _ ∧ _
    rw [hz] at he ⊢
    exact ⟨⟨_, he, rfl⟩, h _ he ((rit_new (kd := false)).keep fun o e => Heap.get?_push_of_some _ e) fun b o x => Heap.get?_push_of_some _ (Heap.get?_push_of_some _ x)⟩
end
def ItE (K : PySem.W.Frag) (kd : Bool) (a : Addr) (xs : List V) : It :=
  ⟨fun i H => SqK kd K H a xs ∧ i < xs.length, fun i H v H' => ∃ T, v = .ref T ∧ H T = none ∧ H' = upd H T (.tup [.int (i : Nat), xs.getD i .non]), fun i H => SqK kd K H a xs ∧ xs.length ≤ i⟩
theorem turn_enumK {P : Program} {w : World} {K : PySem.W.Frag} {elts : List Expr} {kk : Nat} {tpos : Pos} {kd : Bool} {xs : List V} {a e it : Addr} (hei : e ≠ it) (hai : a ≠ it) (hae : a ≠ e) :
    Turn P w K (.Tuple elts kk tpos) (ItE K kd a xs) [e, it] e (fun i h => (∃ old, IsEnum h e it ((i : Nat) : Int) old) ∧ RIt kd h it a i ∧ i ≤ xs.length) where
  mem := List.mem_cons_self ..
  obj := fun i h st b hb => by
    obtain ⟨⟨old, he⟩, hi, _⟩ := st
    rcases List.mem_cons.mp hb with rfl | hb
    · exact ⟨_, he, fun v q => nomatch q⟩
    · rw [List.mem_singleton.mp hb]
      exact hi.obj
  keep := fun i h h' st k => by
    obtain ⟨⟨old, he⟩, hi, hl⟩ := st
    exact ⟨⟨old, k e (List.mem_cons_self ..) _ he⟩, hi.keep fun o q => k it (List.mem_cons_of_mem _ (List.mem_cons_self ..)) o q, hl⟩
  item := by
    intro X hP hw hK hc i pins s σ H E I hf st hg
    subst hP hw hK
    obtain ⟨⟨old, he⟩, hi, _⟩ := st
    obtain ⟨sq, hlt⟩ := hg
    obtain ⟨its, rv, rq⟩ := SqK.get I sq
    have hlen := rv.length
    obtain ⟨u, hu, ru⟩ := rv.get (List.getElem?_eq_getElem hlt)
    have hel : e < s.heap.objs.size := Heap.lt_size he
    have hil : it < s.heap.objs.size := by
      obtain ⟨o, ho, _⟩ := hi.obj
      exact Heap.lt_size ho
    refine wpAny_pyNext_enum_itemD (draws_row (kd := kd) (A := X.A.in1) (I.ok.hd hc) it a hai its.toArray) he ⟨hi, rq⟩ (by simp; omega) hei (by simp; exact ⟨hei, hae.symm⟩) fun x h' tk hP ho hst hT hsz hk => ?_
    have ex : x = u := by
      have h1 : its[i]? = some x := by simpa using hP
      rw [hu] at h1
      exact (Option.some.inj h1).symm
    subst ex
    refine ⟨_, rfl, wpAny_letOwnedTupleGo_enum (s := { s with heap := h', toks := tk + 1 }) ho fun h2 he2 sb => ?_⟩
    have hT2 : h2.get? s.heap.objs.size = some (tObj #[.int i tk, x]) := (sb.2 _ (Nat.ne_of_gt hel)).trans hT
    have eg : xs.getD i .non = xs[i] := by rw [List.getD_eq_getElem?_getD, List.getElem?_eq_getElem hlt]; rfl
    have new : ObjOk X.prog X.w (upd H s.heap.objs.size (.tup [.int (i : Nat), xs.getD i .non])) h2 s.heap.objs.size (.tup [.int (i : Nat), xs.getD i .non]) :=
      ⟨by show 2 ≤ sizeLine; decide, [.int i tk, x], .cons ⟨_, rfl⟩ (.cons (by rw [eg]; exact ru) .nil), ⟨_, hT2, rfl, _, rfl⟩⟩
    have I1 : Inv X pins σ (upd H s.heap.objs.size (.tup [.int (i : Nat), xs.getD i .non])) { s with heap := h2, toks := tk + 1 } :=
      I.turnedNew (ch := [e, it]) (fun b ob hb q => (sb.2 b (fun z => hb (by rw [z]; exact List.mem_cons_self ..))).trans (hk b ob (fun z => hb (by rw [z]; exact List.mem_cons_self ..)) (fun z => hb (by rw [z]; exact List.mem_cons_of_mem _ (List.mem_cons_self ..))) q)) hf (Nat.le_refl _) new
    refine ⟨.ref s.heap.objs.size, _, I1, rfl, ⟨_, rfl, I.hok.fresh (Nat.le_refl _), rfl⟩, ⟨⟨x, ?_⟩, hst.1.keep fun o q => (sb.2 it hei.symm).trans q, hlt⟩, fun b hb => ?_⟩
    · have e1 : ((i + 1 : Nat) : Int) = (i : Int) + 1 := by omega
      rw [e1]
      exact he2
    · have hb' : b < s.heap.objs.size := by
        rcases List.mem_cons.mp hb with rfl | hb
        · exact hel
        · rw [List.mem_singleton.mp hb]; exact hil
      rw [upd_ne (Nat.ne_of_lt hb')]
      exact (hf b hb).1
  done := by
    intro X hP hw hK hc i pins s σ H E I hf st hg
    subst hP hw hK
    obtain ⟨⟨old, he⟩, hi, hl⟩ := st
    obtain ⟨sq, hle⟩ := hg
    obtain ⟨its, rv, rq⟩ := SqK.get I sq
    have hlen := rv.length
    obtain rfl : i = xs.length := by omega
    obtain ⟨f0, f1, f2, f3, f4, f5⟩ := hf it (List.mem_cons_of_mem _ (List.mem_cons_self ..))
    have hsz : its.toArray.size = xs.length := by rw [List.size_toArray]; omega
    exact wpAny_pyNext_enum_endD (draws_row (kd := kd) (A := X.A.in1) (I.ok.hd hc) it a hai its.toArray) he ⟨by rw [hsz]; exact hi, rq⟩ fun h' eb => ⟨rfl, I.turned (t' := s.toks) (fun b o hb q => eb b o hb q) f0 f1 f3 f4 f5⟩
  self := fun A i s Q E st h => by
    obtain ⟨⟨_, he⟩, _⟩ := st
    exact wpAny_pyIter_enum he h
def iEnumK (K : PySem.W.Frag) (ta : TA) : TI := fun σ H R => ta σ H fun vs H1 => ∃ (kd : Bool) (a : Addr) (xs : List V), vs = [.ref a] ∧ SqK kd K H1 a xs ∧ R (ItE K kd a xs) H1
theorem pi_enumS (K : PySem.W.Frag) {X : Cx} {e : Expr} {ta : TA} {p pos tpos : Pos} {elts : List Expr} {kk : Nat} (hg : Gl X "enumerate") (hm : X.mg "enumerate" = none) (ha : PA X [e] ta) (hK : X.K = K := by rfl) (hs : starEach [e] X.env = [(false, eval e X.env)] := by rfl) :
    PI X (.Tuple elts kk tpos) (.Call (.Name "enumerate" p) [e] [] pos) (iEnumK K ta) := by
  subst hK
  constructor
  intro pins s σ H R I h
  refine Call_ (ld_blt I hg hm boot_enumerate (PyProof.Rows.callWith_type1 (thn (ha.run pos pins s σ H _ I h) ?_) hs rfl))
  rintro us s1 ⟨vs, H1, I1, r1, kd, a, xs, rfl, sq, q⟩
  obtain ⟨u, rfl, ru⟩ := vals1 r1
  obtain rfl : u = Value.ref a := ru
  obtain ⟨its, rv, rq⟩ := SqK.get I1 sq
  have hal := rq.lt
  refine call_enum rq fun h' he hit hk => wpAny_pyIter_enum he ?_
  have I2 : Inv X pins σ H1 { s1 with heap := h' } := I1.kept (t' := s1.toks) hk
  refine ⟨s1.heap.objs.size + 1, [s1.heap.objs.size + 1, s1.heap.objs.size], _, _, H1, rfl, I2, turn_enumK (kd := kd) (xs := xs) (Nat.succ_ne_self _) (Nat.ne_of_lt hal) (Nat.ne_of_lt (Nat.lt_succ_of_lt hal)), ⟨⟨.none, he⟩, hit, Nat.zero_le _⟩, fun b hb => ?_, q⟩
  have hle : s1.heap.objs.size ≤ b := by
    rcases List.mem_cons.mp hb with rfl | hb
    · exact Nat.le_succ _
    · rw [List.mem_singleton.mp hb]; exact Nat.le_refl _
  exact I1.fpOk hle (I1.hok.fresh hle)
end Cg

set_option Elab.async false
set_option linter.all false
set_option maxRecDepth 100000
set_option maxHeartbeats 1000000
namespace Cg
open PySem PySem.Spec PyProof.Rows L2 Evl
/-! ### a walk of n turns -/
theorem it_by {J : It} {n : Nat} {Body : V → Hp → (Hp → Prop) → Prop} {Fn : Hp → Prop} {H0 : Hp} (Pv : Nat → Hp → Prop) (h0 : Pv 0 H0) (hgo : ∀ i H, i < n → Pv i H → J.go i H) (hst : ∀ H, Pv n H → J.stop n H) (hs : ∀ i x H H', i < n → Pv i H → J.yld i H x H' → Body x H' (Pv (i + 1))) (hd : ∀ H, Pv n H → Fn H) :
    ∃ W : Nat → Nat → Hp → Prop, (∃ m, W 0 m H0) ∧ ∀ i m H, W i m H → (J.stop i H ∧ Fn H) ∨ (J.go i H ∧ ∃ Nx : Hp → Prop, (∀ H', Nx H' → ∃ m', m' < m ∧ W (i + 1) m' H') ∧ ∀ x H', J.yld i H x H' → Body x H' Nx) := by
  refine ⟨fun i m H => i + m = n ∧ Pv i H, ⟨n, by omega, h0⟩, fun i m H hw => ?_⟩
  obtain ⟨e, p⟩ := hw
  cases m with
  | zero =>
    obtain rfl : i = n := by omega
    exact .inl ⟨hst H p, hd H p⟩
  | succ m => exact .inr ⟨hgo i H (by omega) p, Pv (i + 1), fun H' p' => ⟨m, by omega, by omega, p'⟩, fun x H' y => hs i x H H' (by omega) p y⟩
/-- a list, or a tuple, of data -/
def seqD (kd : Bool) (ds : List PyData) : PyData := match kd with
  | true => .list ds
  | false => .tuple ds
theorem Dq.seq_inv {H : Hp} {v : V} {kd : Bool} {ds : List PyData} (h : Dq H v (seqD kd ds)) : ∃ a xs, v = .ref a ∧ (∀ {K : PySem.W.Frag} {H' : Hp}, Same H H' → SqK kd K H' a xs) ∧ DqAll H xs ds := by
  cases kd with
  | true =>
    obtain ⟨a, xs, e, hh, r⟩ := h.list_inv
    exact ⟨a, xs, e, fun s => SqL.of (s _ _ hh), r⟩
  | false =>
    obtain ⟨a, xs, e, hh, r⟩ := h.tup_inv
    exact ⟨a, xs, e, fun s => SqT.of (s _ _ hh), r⟩
section
variable {bs : List Addr} {K : PySem.W.Frag} {σ : L2.St} {H H' : Hp} {ta tb te tl : TE} {d e : PyData} {ds es : List PyData}
end
end Cg

set_option Elab.async false
set_option linter.all false
set_option maxRecDepth 100000
set_option maxHeartbeats 1000000
namespace Cg
open PySem PySem.Spec PyProof.Rows L2 Evl
theorem pi_zipS (K : PySem.W.Frag) {X : Cx} {e e2 : Expr} {ta : TA} {p pos tpos : Pos} {elts : List Expr} {kk : Nat} (hg : Gl X "zip") (hm : X.mg "zip" = none) (ha : PA X [e, e2] ta) (hK : X.K = K := by rfl)
    (hs : starEach [e, e2] X.env = (false, eval e X.env) :: starEach [e2] X.env := by rfl) (hpl : (backTo pos (starEach [e2] X.env)).any (·.1) = false := by rfl) : PI X (.Tuple elts kk tpos) (.Call (.Name "zip" p) [e, e2] [] pos) (RZ.iZipA K ta) := by
  subst hK
  exact RZ.pi_zipA hg hm ha hs hpl
/-- tables of numbers -/
abbrev Mat := List (List Int)
def rowD (kd : Bool) (r : List Int) : PyData := seqD kd (r.map PyData.int)
def tabD (k1 k2 : Bool) (M : Mat) : PyData := seqD k1 (M.map (rowD k2))
theorem ints_inv {H : Hp} : ∀ {xs : List V} {ns : List Int}, DqAll H xs (ns.map PyData.int) → xs = ns.map V.int
  | _, [], .nil => rfl
  | _, n :: r, .cons h t => by rw [h.int_inv, ints_inv t]; rfl
/-- a new list of new lists of numbers -/
structure NewTab (H H' : Hp) (p : Addr) (as : List Addr) (M : Mat) : Prop where
  np : H p = none
  hp : H' p = some (.lst (as.map V.ref))
  len : as.length = M.length
  nd : as.Nodup
  row : ∀ (j : Nat) (a : Addr) (r : List Int), as[j]? = some a → M[j]? = some r → a ≠ p ∧ H a = none ∧ H' a = some (.lst (r.map V.int))
theorem rows_dq {H' : Hp} : ∀ {as : List Addr} {M : Mat}, as.length = M.length → (∀ (j : Nat) (a : Addr) (r : List Int), as[j]? = some a → M[j]? = some r → H' a = some (.lst (r.map V.int))) → DqAll H' (as.map V.ref) (M.map (rowD true))
  | [], [], _, _ => .nil
  | [], _ :: _, z, _ => nomatch z
  | _ :: _, [], z, _ => nomatch z
  | a :: as, r :: M, len, row => .cons (.lst (row 0 a r rfl rfl) (DqAll.ints r)) (rows_dq (by simpa using len) fun j b s h1 h2 => row (j + 1) b s h1 h2)
theorem NewTab.get {H H' : Hp} {p : Addr} {as : List Addr} {M : Mat} (t : NewTab H H' p as M) {a : Addr} (ha : a ∈ as) : a ≠ p ∧ H a = none ∧ ∃ r ∈ M, H' a = some (.lst (r.map V.int)) := by
  obtain ⟨j, hj, e⟩ := List.mem_iff_getElem.mp ha
  have h1 : as[j]? = some a := by rw [List.getElem?_eq_getElem hj, e]
  have hj2 : j < M.length := by rw [← t.len]; exact hj
  obtain ⟨q1, q2, q3⟩ := t.row j a M[j] h1 (List.getElem?_eq_getElem hj2)
  exact ⟨q1, q2, M[j], List.getElem_mem hj2, q3⟩
theorem NewTab.dq {H H' : Hp} {p : Addr} {as : List Addr} {M : Mat} (t : NewTab H H' p as M) {bs : List Addr} (l : Live bs H) : Dq (hid bs H') (.ref p) (tabD true true M) := by
  refine .lst (by rw [hid_out (l.out t.np)]; exact t.hp) (rows_dq t.len fun j a r h1 h2 => ?_)
  obtain ⟨_, q2, q3⟩ := t.row j a r h1 h2
  rw [hid_out (l.out q2)]
  exact q3
theorem NewTab.old {H0 H H' H2 : Hp} {p : Addr} {as : List Addr} {M : Mat} (t : NewTab H H' p as M) (s : Same H0 H) (s2 : Same H' H2) : NewTab H0 H2 p as M :=
  ⟨fresh_back s t.np, s2 _ _ t.hp, t.len, t.nd, fun j a r h1 h2 => by
    obtain ⟨q1, q2, q3⟩ := t.row j a r h1 h2
    exact ⟨q1, fresh_back s q2, s2 _ _ q3⟩⟩
section
variable {bs : List Addr} {K : PySem.W.Frag} {σ : L2.St} {H H1 : Hp} {te tl : TE} {ds : List PyData}
end
end Cg

set_option Elab.async false
set_option linter.all false
set_option maxRecDepth 100000
set_option maxHeartbeats 1000000
namespace Cg
open PySem PySem.Spec PyProof.Rows L2 Evl
section
variable {bs : List Addr} {K : PySem.W.Frag} {σ : L2.St} {H H1 : Hp} {ta tb te tl : TE} {v u : V} {d : PyData} {ds : List PyData}
theorem kit_two (d : PyData) : PySem.W.kitAny K (.type (tyN d)) [.type "list", .type "tuple"] = some (isList d || isTuple d) := by
  refine kitAny_cons (kit_ty (kit_list d)) (fun h => ?_) fun h => by rw [h]; rfl
  rw [h, Bool.false_or]
  refine kitAny_cons (kit_ty (kit_tuple d)) (fun h => ?_) fun h => h
  rw [h]
  exact kitAny_nil
/-- isinstance(x, (list, tuple)) -/
theorem ev_isi2 (ha : Ev ta σ H v) (hd : Dq H v d) (hn : notI d = true) : Ev (tCB (rIsiT K) (tCons ta (tCons (tTup (tCons (tC (.ty "list")) (tCons (tC (.ty "tuple")) tNil))) tNil))) σ H (.bl (isList d || isTuple d)) := fun H1 e Q q =>
  ha H1 e _ fun H2 e2 => ⟨by show 2 ≤ _; decide, fun p np => ⟨v, p, [.ty "list", .ty "tuple"], .type (tyN d), [.type "list", .type "tuple"], isList d || isTuple d, rfl, upd_same, .cons (.ty _) (.cons (.ty _) .nil), (hd.mono ((e.trans e2).trans (Ex.new np))).ty hn, kit_two d, q _ (e2.trans (Ex.new np))⟩⟩
/-- all([e for x, y in zip(a, b)]), a and b the same data, each e True -/
theorem ev_allZ {kd : Bool} {i j : Nat} {vs : List Nat} (ha : Ev ta σ H v) (hb : Ev tb σ H u) (hv : Dq H v (seqD kd ds)) (hu : Dq H u (seqD kd ds)) (hz : ds.length ≤ 40000) (hw : ∀ x y, wipe (((wipe σ vs).set i (some x)).set j (some y)) vs = wipe σ vs)
    (he : ∀ (x y : V) (d : PyData) (H1 : Hp), d ∈ ds → Dq H1 x d → Dq H1 y d → Ev te (((wipe σ vs).set i (some x)).set j (some y)) H1 (.bl true)) :
    Ev (tCB (rAll K) (tCons (tLc (RZ.iZipA K (tCons ta (tCons tb tNil))) (gTup K 2 (gCons (gName i) (gCons (gName j) gNil))) tYes te vs) tNil)) σ H (.bl true) := fun H0 e0 Q q => by
  refine ha H0 e0 _ fun H1 e1 => hb H1 (e0.trans e1) _ fun H2 e2 => ?_
  have s2 : Same H H2 := (e0.trans e1).trans e2
  obtain ⟨a, xs, rfl, hsx, hx⟩ := (hv.mono s2).seq_inv
  obtain ⟨b, ys, rfl, hsy, hy⟩ := (hu.mono s2).seq_inv
  have lx := hx.len
  have ly := hy.len
  have core : ∀ J : It, (∀ k H', k < ds.length → Same H2 H' → J.go k H') → (∀ H', Same H2 H' → J.stop ds.length H') → (∀ k H' w H'', k < ds.length → Same H2 H' → J.yld k H' w H'' → ∃ T x y, w = .ref T ∧ H' T = none ∧ H'' = upd H' T (.tup [x, y]) ∧ xs[k]? = some x ∧ ys[k]? = some y) →
      ∀ D, H2 D = none → ∃ W : Nat → Nat → Hp → Prop, (∃ m, W 0 m (upd H2 D (.lst []))) ∧ ∀ i' m H', W i' m H' → (J.stop i' H' ∧ rAll K [.ref D] H' Q) ∨ (J.go i' H' ∧ ∃ Nx : Hp → Prop, (∀ H'', Nx H'' → ∃ m', m' < m ∧ W (i' + 1) m' H'') ∧ ∀ x H'', J.yld i' H' x H'' → gTup K 2 (gCons (gName i) (gCons (gName j) gNil)) x (wipe σ vs) H'' fun σ2 H3 => wipe σ2 vs = wipe σ vs ∧ tYes σ2 H3 fun b H4 =>
        if b = true then te σ2 H4 fun y H5 => ∃ acc, H5 D = some (.lst acc) ∧ acc.length < sizeLine ∧ Nx (upd H5 D (.lst (acc ++ [y]))) else Nx H4) := fun J hgo hst hyl D hD => by
    refine it_by (J := J) (n := ds.length) (Body := fun x H' Nx => gTup K 2 (gCons (gName i) (gCons (gName j) gNil)) x (wipe σ vs) H' fun σ2 H2 => wipe σ2 vs = wipe σ vs ∧ tYes σ2 H2 fun b H3 => if b = true then te σ2 H3 fun y H4 => ∃ acc, H4 D = some (.lst acc) ∧ acc.length < sizeLine ∧ Nx (upd H4 D (.lst (acc ++ [y]))) else Nx H3)
      (fun k H' => H' D = some (.lst ((List.replicate k true).map V.bl)) ∧ Same H2 H') ⟨upd_same, Ex.new hD⟩ (fun k H' hk hP => hgo k H' hk hP.2) (fun H' hP => hst H' hP.2) (fun k x H' H3 hk hP hY => ?_) (fun H' hP => ?_)
    · obtain ⟨h1, h2⟩ := hP
      obtain ⟨T, x1, y1, rfl, hT, rfl, gx, gy⟩ := hyl k H' x H3 hk h2 hY
      obtain ⟨d, gd, dx⟩ := hx.get gx
      obtain ⟨d', gd', dy⟩ := hy.get gy
      have ed : d' = d := Option.some.inj (gd'.symm.trans gd)
      subst ed
      have sT : Same H2 (upd H' T (.tup [x1, y1])) := h2.trans (Ex.new hT)
      refine ⟨T, _, rfl, SqT.of upd_same, rfl, _, _, rfl, _, _, rfl, rfl, hw _ _, ?_⟩
      show te _ (upd H' T (.tup [x1, y1])) fun y H4 => ∃ acc, H4 D = some (.lst acc) ∧ acc.length < sizeLine ∧ _
      refine he x1 y1 d' _ (List.mem_of_getElem? gd) (dx.mono sT) (dy.mono sT) _ (Ex.refl _) _ fun H4 e4 => ⟨_, e4 _ _ (Ex.new hT _ _ h1), ?_, ?_, fun a o q => ?_⟩
      · rw [List.length_map, List.length_replicate]
        exact Nat.lt_of_le_of_lt (show k ≤ 40000 by omega) (by decide)
      · rw [upd_same, List.replicate_succ', List.map_append]; rfl
      · rw [upd_ne (ne_of_none q hD)]
        exact e4 _ _ (sT _ _ q)
    · obtain ⟨h1, h2⟩ := hP
      refine ⟨D, List.replicate ds.length true, rfl, SqL.of h1, ?_⟩
      have e : (List.replicate ds.length true).all id = true := List.all_eq_true.mpr fun x hx => by rw [List.eq_of_mem_replicate hx]; rfl
      rw [e]
      exact q H' ((e1.trans e2).trans h2)
  refine ⟨a, b, xs, ys, rfl, ?_⟩
  cases kd with
  | true =>
    refine .inl ⟨hsx (Same.refl _), hsy (Same.refl _), core (Itz K a b) (fun k H' hk s => ?_) (fun H' s => ⟨xs, ys, hsx s, hsy s, .inl (by omega)⟩) fun k H' w H'' hk s hY => ?_⟩
    · exact ⟨xs, ys, xs[k]'(by omega), ys[k]'(by omega), hsx s, hsy s, List.getElem?_eq_getElem _, List.getElem?_eq_getElem _⟩
    · obtain ⟨T, x, y, e1, e2, e3, e4, e5⟩ := hY
      exact ⟨T, x, y, e1, e2, e3, e4 xs (hsx s), e5 ys (hsy s)⟩
  | false =>
    refine .inr ⟨hsx (Same.refl _), hsy (Same.refl _), core (RZ.ItzT K a b) (fun k H' hk s => ?_) (fun H' s => ⟨xs, ys, hsx s, hsy s, .inl (by omega)⟩) fun k H' w H'' hk s hY => ?_⟩
    · exact ⟨xs, ys, xs[k]'(by omega), ys[k]'(by omega), hsx s, hsy s, List.getElem?_eq_getElem _, List.getElem?_eq_getElem _⟩
    · obtain ⟨T, x, y, e1, e2, e3, e4, e5⟩ := hY
      exact ⟨T, x, y, e1, e2, e3, e4 xs (hsx s), e5 ys (hsy s)⟩
/-- data of so few depths, of no great lists -/
def Okn : Nat → PyData → Prop
  | 0, _ => False
  | n + 1, .list xs => xs.length ≤ 40000 ∧ ∀ x ∈ xs, Okn n x
  | n + 1, .tuple xs => xs.length ≤ 40000 ∧ ∀ x ∈ xs, Okn n x
  | _ + 1, .dict _ => False
  | _ + 1, _ => True
/-- alike, kind by kind: what is promised of the same data -/
def spSame (n : Nat) : Sp := fun vs H Q _ => ∃ v u d, vs = [v, u] ∧ Dq H v d ∧ Dq H u d ∧ Okn n d ∧ RetV (.bl true) H Q
theorem spv_same {n : Nat} {d : PyData} (hv : Dq H v d) (hu : Dq H u d) (h : Okn n d) : SpV (spSame n) [v, u] H (.bl true) := fun H1 e Q q E => ⟨v, u, d, rfl, hv.mono e, hu.mono e, h, fun H2 e2 => q H2 e2⟩
end
end Cg

set_option Elab.async false
set_option linter.all false
set_option maxRecDepth 100000
set_option maxHeartbeats 1000000
namespace Cg
open PySem PySem.Spec PyProof.Rows L2 Evl
section
variable {bs : List Addr} {K : PySem.W.Frag} {σ : L2.St} {H H1 : Hp} {ta tb te tl : TE} {v u : V} {d : PyData} {ds : List PyData}
theorem Live.cons {p : Addr} {o : HO} (l : Live bs H) (h : H p = some o) : Live (p :: bs) H := fun y hy => by
  rcases List.mem_cons.mp hy with rfl | hy
  · rw [h]; exact fun z => nomatch z
  · exact l y hy
end
end Cg

set_option Elab.async false
set_option linter.all false
set_option maxRecDepth 100000
set_option maxHeartbeats 1000000
namespace Cg
open PySem PySem.Spec PyProof.Rows L2 Evl
/-! ### what the three tell -/
def turnM (m : Nat) (M : Mat) : Mat := (List.range m).map fun j => M.map fun r => r.getD j 0
def outB (I O : List Int) (i j : Nat) : Bool := inV (.int (i : Nat)) (I.map V.int) || inV (.int (j : Nat)) (O.map V.int)
def Small (M : Mat) : Prop := M.length ≤ 12 ∧ ∀ r ∈ M, r.length ≤ 12
section
variable {P : Program} {w : World} {K : PySem.W.Frag} {mg : Str → Option Value} {base : Heap} {f f1 f2 f3 f4 : Addr} {fd fd1 fd2 fd3 fd4 : FuncData}
end
section
variable {P : Program} {w : World} {K : PySem.W.Frag} {mg : Str → Option Value} {base : Heap} {f f1 f2 f3 f4 : Addr} {fd fd1 fd2 fd3 fd4 : FuncData}
def spBox (K : PySem.W.Frag) : Sp := fun vs H Q _ => ∃ (a : Addr) (ns : List Int) (k : Nat), vs = [.ref a, .int (k : Int)] ∧ SqL K H a (ns.map V.int) ∧ k ≤ 1000 ∧ ∀ (b : Addr) (H' : Hp), Same H H' → H b = none → Box H' b 0 → Q (.ref b) H'
theorem cut_hi (xs : List V) (n : Nat) : cutV xs none (some (n : Int)) = xs.take n := by
  unfold cutV
  rw [HT.sIx_none, HT.sIx_nat, Nat.sub_zero, List.drop_zero]
  by_cases h : n ≤ xs.length
  · rw [Nat.min_eq_left h]
  · rw [Nat.min_eq_right (by omega), List.take_of_length_le (Nat.le_refl _), List.take_of_length_le (by omega)]
theorem cut_both (xs : List V) (n m : Nat) : cutV xs (some (n : Int)) (some (m : Int)) = (xs.drop n).take (m - n) := by
  unfold cutV
  rw [HT.sIx_nat, HT.sIx_nat]
  by_cases h : n ≤ xs.length
  · rw [Nat.min_eq_left h]
    by_cases h2 : m ≤ xs.length
    · rw [Nat.min_eq_left h2]
    · rw [Nat.min_eq_right (by omega), List.take_of_length_le (by rw [List.length_drop]; omega), List.take_of_length_le (by rw [List.length_drop]; omega)]
  · rw [Nat.min_eq_right (show xs.length ≤ n by omega), List.drop_of_length_le (Nat.le_refl _), List.drop_of_length_le (show xs.length ≤ n by omega), List.take_nil, List.take_nil]
def spFold (K : PySem.W.Frag) : Sp := fun vs H Q _ => ∃ (a : Addr) (ns : List Int) (z : Nat), vs = [.ref a, .int (z : Int)] ∧ SqL K H a (ns.map V.int) ∧ 1 ≤ z ∧ z ≤ 1000 ∧ ns.length ≤ 1000 ∧
  ∀ (l : Addr) (ms : List Int) (H' : Hp), Same H H' → H l = none → H' l = some (.lst (ms.map V.int)) → ms.length = min z ns.length → Q (.ref l) H'
end
section
variable {P : Program} {w : World} {K : PySem.W.Frag} {mg : Str → Option Value} {base : Heap} {f f1 f2 f3 f4 : Addr} {fd fd1 fd2 fd3 fd4 : FuncData}
end
section
variable {P : Program} {w : World} {K : PySem.W.Frag} {mg : Str → Option Value} {base : Heap} {f f1 f2 f3 f4 : Addr} {fd fd1 fd2 fd3 fd4 : FuncData}
end
section
variable {P : Program} {w : World} {K : PySem.W.Frag} {mg : Str → Option Value} {base : Heap} {f f1 f2 f3 f4 : Addr} {fd fd1 fd2 fd3 fd4 : FuncData}
theorem ev_lenSq {σ : L2.St} {H : Hp} {ta : TE} {v : V} {kd : Bool} {ds : List PyData} (ha : Ev ta σ H v) (hd : Dq H v (seqD kd ds)) : Ev (tCB (rLenS K) (tCons ta tNil)) σ H (.int (ds.length : Int)) := fun H1 e Q q => ha H1 e _ fun H2 e2 => by
  obtain ⟨p, xs, rfl, hs, hx⟩ := (hd.mono (e.trans e2)).seq_inv
  have h1 : SqK kd K H2 p xs := hs (Same.refl _)
  refine ⟨p, xs, rfl, ?_, ?_⟩
  · cases kd with
    | true => exact .inl h1
    | false => exact .inr h1
  · rw [hx.len]
    exact q H2 e2
theorem ne_self {b : Bool} : (!decide (V.bl b = V.bl b)) = false := by rw [decide_eq_true rfl]; rfl
end
section
variable {P : Program} {w : World} {K : PySem.W.Frag} {mg : Str → Option Value} {base : Heap} {f f1 f2 f3 f4 : Addr} {fd fd1 fd2 fd3 fd4 : FuncData}
def Bits (M : Mat) : Prop := ∀ r ∈ M, ∀ x ∈ r, x = 0 ∨ x = 1
end
section
variable {P : Program} {w : World} {K : PySem.W.Frag} {mg : Str → Option Value} {base : Heap} {f f1 f2 f3 f4 : Addr} {fd fd1 fd2 fd3 fd4 : FuncData}
end
/-- n rows of m numbers 0 or 1 -/
structure Tab (n m : Nat) (M : Mat) : Prop where
  len : M.length = n
  row : ∀ r ∈ M, r.length = m
  bit : Bits M
section
variable {n m : Nat} {M : Mat}
theorem Tab.small (t : Tab n m M) (hn : n ≤ 12) (hm : m ≤ 12) : Small M := ⟨by rw [t.len]; exact hn, fun r hr => by rw [t.row r hr]; exact hm⟩
theorem Tab.ne (t : Tab n m M) (hn : 1 ≤ n) : M ≠ [] := fun z => by
  have := t.len
  rw [z] at this
  simp at this
  omega
theorem map_range {β : Type} (f : List Int → β) (M : Mat) : M.map f = (List.range M.length).map fun i => f (M.getD i []) := by
  apply List.ext_getElem
  · simp
  · intro i h1 h2
    rw [List.length_map] at h1
    rw [List.getElem_map, List.getElem_map, List.getElem_range, List.getD_eq_getElem?_getD, List.getElem?_eq_getElem h1]
    rfl
theorem row_range (r : List Int) : (List.range r.length).map (fun j => r.getD j 0) = r := by
  apply List.ext_getElem
  · simp
  · intro i h1 h2
    rw [List.getElem_map, List.getElem_range, List.getD_eq_getElem?_getD, List.getElem?_eq_getElem h2]
    rfl
theorem getD_map {α β : Type} (f : α → β) (xs : List α) (i : Nat) (a : α) (b : β) (h : i < xs.length) : (xs.map f).getD i b = f (xs.getD i a) := by
  rw [List.getD_eq_getElem?_getD, List.getD_eq_getElem?_getD, List.getElem?_map, List.getElem?_eq_getElem h]
  rfl
theorem Tab.twice (t : Tab n m M) : turnM n (turnM m M) = M := by
  have e := map_range (fun r : List Int => r) M
  rw [List.map_id'] at e
  conv => rhs; rw [e]
  unfold turnM
  rw [t.len]
  refine List.map_congr_left fun i hi => ?_
  have hi' := List.mem_range.mp hi
  rw [List.map_map]
  have hr : (M.getD i []).length = m := by
    rw [List.getD_eq_getElem?_getD, List.getElem?_eq_getElem (by rw [t.len]; exact hi')]
    exact t.row _ (List.getElem_mem _)
  rw [← row_range (M.getD i []), hr]
  refine List.map_congr_left fun j _ => ?_
  show (M.map fun r => r.getD j 0).getD i 0 = _
  exact getD_map (fun r : List Int => r.getD j 0) M i [] 0 (by rw [t.len]; exact hi')
end
section
variable {bs : List Addr} {K : PySem.W.Frag} {σ : L2.St} {H : Hp} {ta tb tc : TE} {M : Mat}
end
theorem not_and (a c : Bool) (x : Int) : x * (if (!a && !c) = true then 1 else 0) = if (a || c) = true then 0 else x := by
  cases a <;> cases c <;> simp
theorem Tab.put {n m : Nat} {M : Mat} (t : Tab n m M) {k : Nat} {r : List Int} (hr : M[k]? = some r) {x : Int} (hx : x = 0 ∨ x = 1) : Tab n m (M.set k (r.set 0 x)) := by
  have hm := List.mem_of_getElem? hr
  refine ⟨by rw [List.length_set]; exact t.len, fun u hu => ?_, fun u hu => ?_⟩
  · rcases List.mem_or_eq_of_mem_set hu with hu | rfl
    · exact t.row u hu
    · rw [List.length_set]; exact t.row r hm
  · rcases List.mem_or_eq_of_mem_set hu with hu | rfl
    · exact t.bit u hu
    · intro y hy
      rcases List.mem_or_eq_of_mem_set hy with hy | rfl
      · exact t.bit r hm y hy
      · exact hx
section
variable {P : Program} {w : World} {K : PySem.W.Frag} {mg : Str → Option Value} {base : Heap} {f f1 f2 f3 f4 f5 f6 f7 f8 f9 : Addr} {fd fd1 fd2 fd3 fd4 fd5 fd6 fd7 fd8 fd9 : FuncData}
end
end Cg

set_option Elab.async false
set_option linter.all false
set_option maxRecDepth 100000
set_option maxHeartbeats 1000000
namespace Cg
open PySem PySem.Spec PyProof.Rows L2 Evl
/-! ### what a name holds, by value: shared data, or what is its own -/
inductive T where
  | sh (d : PyData) : T
  | lst (ts : List T) : T
  | tup (ts : List T) : T
  /-- a dict of its own, of ints to ints -/
  | dic (kvs : List (Int × Int)) : T
  /-- an instance of its own, at a, of the class at C; a dict of its own, of texts -/
  | ins (a C : Addr) (ns : List Str) (ts : List T) : T
  | rc (a : Addr) (ns : List Str) (ts : List T) : T
  /-- a dict of its own, at a, of ints or pairs of ints to things -/
  | dct (a : Addr) (ks : DKs) (ts : List T) : T
  /-- shared data that stand at a -/
  | shr (a : Addr) (d : PyData) : T
  /-- a tuple with what is its own in it, at a -/
  | tpa (a : Addr) (ts : List T) : T
  /-- a list of its own, at a -/
  | lsa (a : Addr) (ts : List T) : T
mutual
def T.data : T → PyData
  | .sh d => d
  | .shr _ d => d
  | .lst ts => .list (T.datas ts)
  | .tup ts => .tuple (T.datas ts)
  | .tpa _ ts => .tuple (T.datas ts)
  | .dic kvs => .dict (kvs.map kdI)
  | .ins _ C ns ts => recD (.int (C : Int)) ns (T.datas ts)
  | .rc _ ns ts => recD .none ns (T.datas ts)
  | .dct _ ks ts => dctD ks (T.datas ts)
  | .lsa _ ts => .list (T.datas ts)
def T.datas : List T → List PyData
  | [] => []
  | t :: ts => t.data :: T.datas ts
end
theorem datas_map : ∀ ts : List T, T.datas ts = ts.map T.data
  | [] => rfl
  | t :: ts => by
    show t.data :: T.datas ts = t.data :: ts.map T.data
    rw [datas_map ts]
mutual
/-- no list in it -/
def imm : PyData → Bool
  | .list _ => false
  | .dict _ => false
  | .tuple xs => immAll xs
  | _ => true
def immAll : List PyData → Bool
  | [] => true
  | x :: xs => imm x && immAll xs
end
mutual
/-- what is shared in it has no list -/
def T.clean : T → Bool
  | .sh d => imm d
  | .shr _ d => imm d
  | .lst ts => T.cleans ts
  | .tup ts => T.cleans ts
  | .tpa _ ts => T.cleans ts
  | .dic _ => true
  | .ins _ _ _ ts => T.cleans ts
  | .rc _ _ ts => T.cleans ts
  | .dct _ _ ts => T.cleans ts
  | .lsa _ ts => T.cleans ts
def T.cleans : List T → Bool
  | [] => true
  | t :: ts => t.clean && T.cleans ts
end
/-- a slot -/
inductive Sl where
  | no : Sl
  | box : Sl
  | is (t : T) : Sl
  /-- a dict of its own, of ints to what never changes -/
  | dic (kvs : List (Key × V)) : Sl
  /-- a dict that is walked -/
  | dcF (kvs : List (Int × Int)) : Sl
  /-- that very address, nothing more is known of it -/
  | pin (a : Addr) : Sl
abbrev Env := List Sl
/-- no tuple, no exception's things -/
def Hard : HO → Prop
  | .tup _ => False
  | .xd _ => False
  | _ => True
/-- nothing that is hidden is a tuple, or an exception's -/
def NoTup (bs : List Addr) (H : Hp) : Prop := ∀ a ∈ bs, ∀ o, H a = some o → Hard o
section
variable {b bs cs hs : List Addr} {H H' : Hp} {v : V} {t : T} {d : PyData}
mutual
theorem dq_imm (hn : NoTup bs H) : ∀ {v : V} {d : PyData}, Dq H v d → imm d = true → Dq (hid bs H) v d
  | _, _, .non, _ => .non
  | _, _, .bl b, _ => .bl b
  | _, _, .int i, _ => .int i
  | _, _, .str x, _ => .str x
  | _, _, .lst _ _, h => by cases h
  | _, _, .dic _, h => by cases h
  | _, _, .ins _ _ _, h => by cases h
  | _, _, .rc _ _ _, h => by cases h
  | _, _, .dct _ _ _ _, h => by cases h
  | _, _, .fz _ _ _, h => by cases h
  | _, _, .exc _ _ _, h => by cases h
  | _, _, .fly _ _, h => by cases h
  | _, _, .tup e h, hi => .tup (by rw [hid_out (fun z => hn _ z _ e)]; exact e) (dqAll_imm hn h hi)
theorem dqAll_imm (hn : NoTup bs H) : ∀ {vs : List V} {ds : List PyData}, DqAll H vs ds → immAll ds = true → DqAll (hid bs H) vs ds
  | _, _, .nil, _ => .nil
  | _, _, .cons h t, hi => by
    have hi' := Bool.and_eq_true _ _ ▸ hi
    exact .cons (dq_imm hn h hi'.1) (dqAll_imm hn t hi'.2)
end
mutual
inductive Rep (bs : List Addr) (H : Hp) : V → T → List Addr → Prop
  | sh {v : V} {d : PyData} (h : Dq (hid bs H) v d) : Rep bs H v (.sh d) []
  | lst {a : Addr} {vs : List V} {ts : List T} {A : List Addr} (e : H a = some (.lst vs)) (h : RepL bs H vs ts A) : Rep bs H (.ref a) (.lst ts) (a :: A)
  | tup {a : Addr} {vs : List V} {ts : List T} {A : List Addr} (e : H a = some (.tup vs)) (h : RepL bs H vs ts A) : Rep bs H (.ref a) (.tup ts) A
  | dic {a : Addr} {kvs : List (Int × Int)} (e : H a = some (.dK (kvs.map kvI))) : Rep bs H (.ref a) (.dic kvs) [a]
  | ins {a C dx : Addr} {ns : List Str} {vs : List V} {ts : List T} {A : List Addr} (e : H a = some (.ins C dx (ns.zip vs))) (e2 : H dx = some (.own a)) (l : ns.length = vs.length) (h : RepL bs H vs ts A) : Rep bs H (.ref a) (.ins a C ns ts) (a :: dx :: A)
  | rc {a : Addr} {ns : List Str} {vs : List V} {ts : List T} {A : List Addr} (e : H a = some (.dK (kz ns vs))) (l : ns.length = vs.length) (h : RepL bs H vs ts A) : Rep bs H (.ref a) (.rc a ns ts) (a :: A)
  | shr {a : Addr} {d : PyData} (h : Dq (hid bs H) (.ref a) d) : Rep bs H (.ref a) (.shr a d) []
  | tpa {a : Addr} {vs : List V} {ts : List T} {A : List Addr} (e : H a = some (.tup vs)) (h : RepL bs H vs ts A) : Rep bs H (.ref a) (.tpa a ts) A
  | dct {a : Addr} {ks : DKs} {vs : List V} {ts : List T} {A : List Addr} (e : H a = some (ks.ob vs)) (l : ks.len = vs.length) (nd : ks.Nd) (h : RepL bs H vs ts A) : Rep bs H (.ref a) (.dct a ks ts) (a :: A)
  | lsa {a : Addr} {vs : List V} {ts : List T} {A : List Addr} (e : H a = some (.lst vs)) (h : RepL bs H vs ts A) : Rep bs H (.ref a) (.lsa a ts) (a :: A)
inductive RepL (bs : List Addr) (H : Hp) : List V → List T → List Addr → Prop
  | nil : RepL bs H [] [] []
  | cons {v : V} {vs : List V} {t : T} {ts : List T} {A B : List Addr} (h : Rep bs H v t A) (k : RepL bs H vs ts B) : RepL bs H (v :: vs) (t :: ts) (A ++ B)
end
mutual
theorem Rep.chg (hn : NoTup bs H) (k : Same (hid bs H) (hid cs H')) : ∀ {v : V} {t : T} {A : List Addr}, (∀ a ∈ A, ∀ o, H a = some o → H' a = some o) → Rep bs H v t A → Rep cs H' v t A
  | _, _, _, _, .sh h => .sh (h.mono k)
  | _, _, _, _, .shr h => .shr (h.mono k)
  | _, _, _, hA, .lst e h => .lst (hA _ (List.mem_cons_self ..) _ e) (RepL.chg hn k (fun a ha => hA a (List.mem_cons_of_mem _ ha)) h)
  | _, _, _, hA, .tup e h => .tup ((hid_some (k _ _ (by rw [hid_out (fun z => hn _ z _ e)]; exact e))).2) (RepL.chg hn k hA h)
  | _, _, _, hA, .tpa e h => .tpa ((hid_some (k _ _ (by rw [hid_out (fun z => hn _ z _ e)]; exact e))).2) (RepL.chg hn k hA h)
  | _, _, _, hA, .dic e => .dic (hA _ (List.mem_singleton.mpr rfl) _ e)
  | _, _, _, hA, .ins e e2 l h => .ins (hA _ (List.mem_cons_self ..) _ e) (hA _ (List.mem_cons_of_mem _ (List.mem_cons_self ..)) _ e2) l (RepL.chg hn k (fun a ha => hA a (List.mem_cons_of_mem _ (List.mem_cons_of_mem _ ha))) h)
  | _, _, _, hA, .lsa e h => .lsa (hA _ (List.mem_cons_self ..) _ e) (RepL.chg hn k (fun a ha => hA a (List.mem_cons_of_mem _ ha)) h)
  | _, _, _, hA, .rc e l h => .rc (hA _ (List.mem_cons_self ..) _ e) l (RepL.chg hn k (fun a ha => hA a (List.mem_cons_of_mem _ ha)) h)
  | _, _, _, hA, .dct e l nd h => .dct (hA _ (List.mem_cons_self ..) _ e) l nd (RepL.chg hn k (fun a ha => hA a (List.mem_cons_of_mem _ ha)) h)
theorem RepL.chg (hn : NoTup bs H) (k : Same (hid bs H) (hid cs H')) : ∀ {vs : List V} {ts : List T} {A : List Addr}, (∀ a ∈ A, ∀ o, H a = some o → H' a = some o) → RepL bs H vs ts A → RepL cs H' vs ts A
  | _, _, _, _, .nil => .nil
  | _, _, _, hA, .cons h t => .cons (Rep.chg hn k (fun a ha => hA a (List.mem_append_left _ ha)) h) (RepL.chg hn k (fun a ha => hA a (List.mem_append_right _ ha)) t)
end
mutual
theorem Rep.data (hn : NoTup hs H) (hh : ∀ a ∈ hs, a ∈ bs) : ∀ {v : V} {t : T} {A : List Addr}, (∀ a ∈ A, a ∉ hs) → Rep bs H v t A → Dq (hid hs H) v t.data
  | _, _, _, _, .sh h => h.mono (hid_less hh)
  | _, _, _, _, .shr h => h.mono (hid_less hh)
  | _, _, _, hA, .lst e h => .lst (by rw [hid_out (hA _ (List.mem_cons_self ..))]; exact e) (RepL.datas hn hh (fun a ha => hA a (List.mem_cons_of_mem _ ha)) h)
  | _, _, _, hA, .tup e h => .tup (by rw [hid_out (fun z => hn _ z _ e)]; exact e) (RepL.datas hn hh hA h)
  | _, _, _, hA, .tpa e h => .tup (by rw [hid_out (fun z => hn _ z _ e)]; exact e) (RepL.datas hn hh hA h)
  | _, _, _, hA, .dic e => .dic (by rw [hid_out (hA _ (List.mem_singleton.mpr rfl))]; exact e)
  | _, _, _, hA, .ins e e2 l h => .ins (by rw [hid_out (hA _ (List.mem_cons_self ..))]; exact e) l (RepL.datas hn hh (fun a ha => hA a (List.mem_cons_of_mem _ (List.mem_cons_of_mem _ ha))) h)
  | _, _, _, hA, .lsa e h => .lst (by rw [hid_out (hA _ (List.mem_cons_self ..))]; exact e) (RepL.datas hn hh (fun a ha => hA a (List.mem_cons_of_mem _ ha)) h)
  | _, _, _, hA, .rc e l h => .rc (by rw [hid_out (hA _ (List.mem_cons_self ..))]; exact e) l (RepL.datas hn hh (fun a ha => hA a (List.mem_cons_of_mem _ ha)) h)
  | _, _, _, hA, .dct e l nd h => .dct (by rw [hid_out (hA _ (List.mem_cons_self ..))]; exact e) l nd (RepL.datas hn hh (fun a ha => hA a (List.mem_cons_of_mem _ ha)) h)
theorem RepL.datas (hn : NoTup hs H) (hh : ∀ a ∈ hs, a ∈ bs) : ∀ {vs : List V} {ts : List T} {A : List Addr}, (∀ a ∈ A, a ∉ hs) → RepL bs H vs ts A → DqAll (hid hs H) vs (T.datas ts)
  | _, _, _, _, .nil => .nil
  | _, _, _, hA, .cons h t => .cons (Rep.data hn hh (fun a ha => hA a (List.mem_append_left _ ha)) h) (RepL.datas hn hh (fun a ha => hA a (List.mem_append_right _ ha)) t)
end
/-- something stands there, no tuple -/
def Own (H : Hp) (a : Addr) : Prop := ∃ o, H a = some o ∧ Hard o
theorem own_lst {a : Addr} {xs : List V} (e : H a = some (.lst xs)) : Own H a := ⟨_, e, trivial⟩
theorem own_ins {a C dx : Addr} {fs : List (Str × V)} (e : H a = some (.ins C dx fs)) : Own H a := ⟨_, e, trivial⟩
theorem own_own {a x : Addr} (e : H a = some (.own x)) : Own H a := ⟨_, e, trivial⟩
theorem own_dic {a : Addr} {kvs : List (Key × V)} (e : H a = some (.dK kvs)) : Own H a := ⟨_, e, trivial⟩
theorem own_dct {a : Addr} {ks : DKs} {vs : List V} (e : H a = some (ks.ob vs)) : Own H a := ⟨_, e, by cases ks <;> exact trivial⟩
mutual
theorem Rep.own : ∀ {v : V} {t : T} {A : List Addr}, Rep bs H v t A → ∀ a ∈ A, Own H a
  | _, _, _, .sh h => fun _ z => nomatch z
  | _, _, _, .shr h => fun _ z => nomatch z
  | _, _, _, .lst e h => fun a ha => by
    rcases List.mem_cons.mp ha with rfl | ha
    · exact own_lst e
    · exact RepL.own h a ha
  | _, _, _, .tup e h => fun a ha => RepL.own h a ha
  | _, _, _, .tpa e h => fun a ha => RepL.own h a ha
  | _, _, _, .dic e => fun a ha => by rw [List.mem_singleton.mp ha]; exact own_dic e
  | _, _, _, .ins e e2 l h => fun a ha => by
    rcases List.mem_cons.mp ha with rfl | ha
    · exact own_ins e
    · rcases List.mem_cons.mp ha with rfl | ha
      · exact own_own e2
      · exact RepL.own h a ha
  | _, _, _, .lsa e h => fun a ha => by
    rcases List.mem_cons.mp ha with rfl | ha
    · exact own_lst e
    · exact RepL.own h a ha
  | _, _, _, .rc e l h => fun a ha => by
    rcases List.mem_cons.mp ha with rfl | ha
    · exact own_dic e
    · exact RepL.own h a ha
  | _, _, _, .dct e l nd h => fun a ha => by
    rcases List.mem_cons.mp ha with rfl | ha
    · exact own_dct e
    · exact RepL.own h a ha
theorem RepL.own : ∀ {vs : List V} {ts : List T} {A : List Addr}, RepL bs H vs ts A → ∀ a ∈ A, Own H a
  | _, _, _, .nil => fun _ z => nomatch z
  | _, _, _, .cons h t => fun a ha => by
    rcases List.mem_append.mp ha with ha | ha
    · exact Rep.own h a ha
    · exact RepL.own t a ha
end
mutual
theorem Rep.clean (hn : NoTup cs H) : ∀ {v : V} {t : T} {A : List Addr}, Rep bs H v t A → t.clean = true → Rep cs H v t A
  | _, _, _, .sh h, hc => .sh (dq_imm hn (dq_vis h) hc)
  | _, _, _, .shr h, hc => .shr (dq_imm hn (dq_vis h) hc)
  | _, _, _, .lst e h, hc => .lst e (RepL.clean hn h hc)
  | _, _, _, .tup e h, hc => .tup e (RepL.clean hn h hc)
  | _, _, _, .tpa e h, hc => .tpa e (RepL.clean hn h hc)
  | _, _, _, .dic e, _ => .dic e
  | _, _, _, .ins e e2 l h, hc => .ins e e2 l (RepL.clean hn h hc)
  | _, _, _, .rc e l h, hc => .rc e l (RepL.clean hn h hc)
  | _, _, _, .dct e l nd h, hc => .dct e l nd (RepL.clean hn h hc)
  | _, _, _, .lsa e h, hc => .lsa e (RepL.clean hn h hc)
theorem RepL.clean (hn : NoTup cs H) : ∀ {vs : List V} {ts : List T} {A : List Addr}, RepL bs H vs ts A → T.cleans ts = true → RepL cs H vs ts A
  | _, _, _, .nil, _ => .nil
  | _, _, _, .cons h t, hc => by
    have hc' := Bool.and_eq_true _ _ ▸ hc
    exact .cons (Rep.clean hn h hc'.1) (RepL.clean hn t hc'.2)
end
theorem RepL.len : ∀ {vs : List V} {ts : List T} {A : List Addr}, RepL bs H vs ts A → vs.length = ts.length
  | _, _, _, .nil => rfl
  | _, _, _, .cons _ t => by rw [List.length_cons, List.length_cons, t.len]
theorem RepL.append : ∀ {vs us : List V} {ts ss : List T} {A B : List Addr}, RepL bs H vs ts A → RepL bs H us ss B → RepL bs H (vs ++ us) (ts ++ ss) (A ++ B)
  | _, _, _, _, _, _, .nil, q => q
  | _, _, _, _, _, _, .cons h t, q => by
    rw [List.append_assoc]
    exact .cons h (t.append q)
theorem RepL.one {A : List Addr} (h : Rep bs H v t A) : RepL bs H [v] [t] A := by
  have := RepL.cons h RepL.nil
  rw [List.append_nil] at this
  exact this
theorem RepL.shs : ∀ {vs : List V} {ds : List PyData}, DqAll (hid bs H) vs ds → RepL bs H vs (ds.map T.sh) []
  | _, _, .nil => .nil
  | _, _, .cons h t => .cons (A := []) (B := []) (.sh h) (RepL.shs t)
/-! slots -/
inductive RelE (b bs : List Addr) (H : Hp) : L2.St → Env → List Addr → Prop
  | nil : RelE b bs H [] [] []
  | no {x : Option V} {σ : L2.St} {ε : Env} {F : List Addr} (h : RelE b bs H σ ε F) : RelE b bs H (x :: σ) (.no :: ε) F
  | box {a : Addr} {σ : L2.St} {ε : Env} {F : List Addr} (e : b = [a]) (h : RelE b bs H σ ε F) : RelE b bs H (some (.ref a) :: σ) (.box :: ε) F
  | is {v : V} {t : T} {A : List Addr} {σ : L2.St} {ε : Env} {F : List Addr} (r : Rep bs H v t A) (h : RelE b bs H σ ε F) : RelE b bs H (some v :: σ) (.is t :: ε) (A ++ F)
  | dic {a : Addr} {kvs : List (Key × V)} {σ : L2.St} {ε : Env} {F : List Addr} (e : H a = some (.dK kvs)) (h : RelE b bs H σ ε F) : RelE b bs H (some (.ref a) :: σ) (.dic kvs :: ε) ([a] ++ F)
  | dcF {a : Addr} {o : Obj} {kvs : List (Int × Int)} {σ : L2.St} {ε : Env} {F : List Addr} (e : hid bs H a = some (.frz o (.dK (kvs.map kvI)))) (h : RelE b bs H σ ε F) : RelE b bs H (some (.ref a) :: σ) (.dcF kvs :: ε) F
  | pin {a : Addr} {σ : L2.St} {ε : Env} {F : List Addr} (h : RelE b bs H σ ε F) : RelE b bs H (some (.ref a) :: σ) (.pin a :: ε) F
theorem RelE.chg (hn : NoTup bs H) (k : Same (hid bs H) (hid cs H')) : ∀ {σ : L2.St} {ε : Env} {F : List Addr}, (∀ a ∈ F, ∀ o, H a = some o → H' a = some o) → RelE b bs H σ ε F → RelE b cs H' σ ε F
  | _, _, _, _, .nil => .nil
  | _, _, _, hF, .no h => .no (RelE.chg hn k hF h)
  | _, _, _, hF, .box e h => .box e (RelE.chg hn k hF h)
  | _, _, _, hF, .is r h => .is (Rep.chg hn k (fun a ha => hF a (List.mem_append_left _ ha)) r) (RelE.chg hn k (fun a ha => hF a (List.mem_append_right _ ha)) h)
  | _, _, _, hF, .dic e h => .dic (hF _ (List.mem_append_left _ (List.mem_singleton.mpr rfl)) _ e) (RelE.chg hn k (fun a ha => hF a (List.mem_append_right _ ha)) h)
  | _, _, _, hF, .dcF e h => .dcF (k _ _ e) (RelE.chg hn k hF h)
  | _, _, _, hF, .pin h => .pin (RelE.chg hn k hF h)
theorem RelE.own : ∀ {σ : L2.St} {ε : Env} {F : List Addr}, RelE b bs H σ ε F → ∀ a ∈ F, Own H a
  | _, _, _, .nil => fun _ z => nomatch z
  | _, _, _, .no h => h.own
  | _, _, _, .box e h => h.own
  | _, _, _, .is r h => fun a ha => by
    rcases List.mem_append.mp ha with ha | ha
    · exact r.own a ha
    · exact h.own a ha
  | _, _, _, .dic e h => fun a ha => by
    rcases List.mem_append.mp ha with ha | ha
    · rw [List.mem_singleton.mp ha]; exact own_dic e
    · exact h.own a ha
  | _, _, _, .dcF _ h => h.own
  | _, _, _, .pin h => h.own
/-- what stands in a slot -/
inductive RepS (b bs : List Addr) (H : Hp) : Option V → Sl → List Addr → Prop
  | no {x : Option V} : RepS b bs H x .no []
  | box {a : Addr} (e : b = [a]) : RepS b bs H (some (.ref a)) .box []
  | is {v : V} {t : T} {A : List Addr} (r : Rep bs H v t A) : RepS b bs H (some v) (.is t) A
  | dic {a : Addr} {kvs : List (Key × V)} (e : H a = some (.dK kvs)) : RepS b bs H (some (.ref a)) (.dic kvs) [a]
  | dcF {a : Addr} {o : Obj} {kvs : List (Int × Int)} (e : hid bs H a = some (.frz o (.dK (kvs.map kvI)))) : RepS b bs H (some (.ref a)) (.dcF kvs) []
  | pin {a : Addr} : RepS b bs H (some (.ref a)) (.pin a) []
theorem RelE.cons {x : Option V} {l : Sl} {A F : List Addr} {σ : L2.St} {ε : Env} (r : RepS b bs H x l A) (h : RelE b bs H σ ε F) : RelE b bs H (x :: σ) (l :: ε) (A ++ F) := by
  cases r with
  | no => exact .no h
  | box e => exact .box e h
  | is r => exact .is r h
  | dic e => exact .dic e h
  | dcF e => exact .dcF e h
  | pin => exact .pin h
/-- one slot taken out, another put in -/
theorem RelE.at : ∀ {σ : L2.St} {ε : Env} {F : List Addr}, RelE b bs H σ ε F → ∀ {i : Nat} {l : Sl}, ε[i]? = some l → ∃ x A F1 F2, σ[i]? = some x ∧ RepS b bs H x l A ∧ F = F1 ++ (A ++ F2) ∧
    ∀ {cs : List Addr} {H' : Hp} {y : Option V} {m : Sl} {B : List Addr}, NoTup bs H → Same (hid bs H) (hid cs H') → (∀ a ∈ F1 ++ F2, ∀ o, H a = some o → H' a = some o) → RepS b cs H' y m B → RelE b cs H' (σ.set i y) (ε.set i m) (F1 ++ (B ++ F2))
  | _, _, _, .nil, i, l, e => by simp at e
  | x :: σ, l' :: ε, F, h, 0, l, e => by
    have e' : l' = l := Option.some.inj e
    subst e'
    have go : ∀ {A F' : List Addr}, RepS b bs H x l' A → RelE b bs H σ ε F' → F = A ++ F' → ∃ x' A F1 F2, (x :: σ)[0]? = some x' ∧ RepS b bs H x' l' A ∧ F = F1 ++ (A ++ F2) ∧
        ∀ {cs : List Addr} {H' : Hp} {y : Option V} {m : Sl} {B : List Addr}, NoTup bs H → Same (hid bs H) (hid cs H') → (∀ a ∈ F1 ++ F2, ∀ o, H a = some o → H' a = some o) → RepS b cs H' y m B → RelE b cs H' ((x :: σ).set 0 y) ((l' :: ε).set 0 m) (F1 ++ (B ++ F2)) := fun {A F'} r h' eF =>
      ⟨x, A, [], F', rfl, r, eF, fun {cs H' y m B} hn k hF rB => by
        show RelE b cs H' (y :: σ) (m :: ε) (B ++ F')
        exact RelE.cons rB (RelE.chg hn k hF h')⟩
    cases h with
    | no h => exact go .no h rfl
    | box e2 h => exact go (.box e2) h rfl
    | is r h => exact go (.is r) h rfl
    | dic e2 h => exact go (.dic e2) h rfl
    | dcF e2 h => exact go (.dcF e2) h rfl
    | pin h => exact go .pin h rfl
  | x :: σ, l' :: ε, F, h, i + 1, l, e => by
    have go : ∀ {A F' : List Addr}, RepS b bs H x l' A → RelE b bs H σ ε F' → F = A ++ F' → ∃ x' A F1 F2, (x :: σ)[i + 1]? = some x' ∧ RepS b bs H x' l A ∧ F = F1 ++ (A ++ F2) ∧
        ∀ {cs : List Addr} {H' : Hp} {y : Option V} {m : Sl} {B : List Addr}, NoTup bs H → Same (hid bs H) (hid cs H') → (∀ a ∈ F1 ++ F2, ∀ o, H a = some o → H' a = some o) → RepS b cs H' y m B → RelE b cs H' ((x :: σ).set (i + 1) y) ((l' :: ε).set (i + 1) m) (F1 ++ (B ++ F2)) := fun {A F'} r h' eF => by
      obtain ⟨x', A2, F1, F2, q1, q2, q3, q4⟩ := h'.at (i := i) (l := l) e
      refine ⟨x', A2, A ++ F1, F2, q1, q2, by rw [eF, q3, List.append_assoc], fun {cs H' y m B} hn k hF rB => ?_⟩
      rw [List.append_assoc]
      refine RelE.cons ?_ (q4 hn k (fun a ha => hF a (by rw [List.append_assoc]; exact List.mem_append_right _ ha)) rB)
      cases r with
      | no => exact .no
      | box e2 => exact .box e2
      | is r => exact .is (Rep.chg hn k (fun a ha => hF a (by rw [List.append_assoc]; exact List.mem_append_left _ ha)) r)
      | dic e2 => exact .dic (hF _ (by rw [List.append_assoc]; exact List.mem_append_left _ (List.mem_singleton.mpr rfl)) _ e2)
      | dcF e2 => exact .dcF (k _ _ e2)
      | pin => exact .pin
    cases h with
    | no h => exact go .no h rfl
    | box e2 h => exact go (.box e2) h rfl
    | is r h => exact go (.is r) h rfl
    | dic e2 h => exact go (.dic e2) h rfl
    | dcF e2 h => exact go (.dcF e2) h rfl
    | pin h => exact go .pin h rfl
theorem RelE.len : ∀ {σ : L2.St} {ε : Env} {F : List Addr}, RelE b bs H σ ε F → σ.length = ε.length
  | _, _, _, .nil => rfl
  | _, _, _, .no h => by rw [List.length_cons, List.length_cons, h.len]
  | _, _, _, .box _ h => by rw [List.length_cons, List.length_cons, h.len]
  | _, _, _, .is _ h => by rw [List.length_cons, List.length_cons, h.len]
  | _, _, _, .dic _ h => by rw [List.length_cons, List.length_cons, h.len]
  | _, _, _, .dcF _ h => by rw [List.length_cons, List.length_cons, h.len]
  | _, _, _, .pin h => by rw [List.length_cons, List.length_cons, h.len]
theorem set_beyond {α : Type} : ∀ {xs : List α} {i : Nat} {x : α}, xs[i]? = none → xs.set i x = xs
  | [], _, _, _ => rfl
  | _ :: _, 0, _, h => by cases h
  | y :: ys, i + 1, x, h => by
    show y :: ys.set i x = y :: ys
    rw [set_beyond (xs := ys) h]
end
end Cg

set_option Elab.async false
set_option linter.all false
set_option maxRecDepth 100000
set_option maxHeartbeats 1000000
namespace Cg
open PySem PySem.Spec PyProof.Rows L2 Evl
/-! ### slots by value and slots as they are: b the box, bs what is hidden, P what is pinned, F what the slots own -/
structure Base where
  b : List Addr
  bs0 : List Addr
  P : Hp
  V : Hp
structure Rel (c : Base) (bs F : List Addr) (σ : L2.St) (H : Hp) (ε : Env) (N : Nat) : Prop where
  env : RelE c.b bs H σ ε F
  nd : F.Nodup
  sub : ∀ a ∈ F, a ∈ bs
  off : ∀ a ∈ F, c.P a = none
  nb : ∀ a ∈ F, a ∉ c.bs0
  up : ∀ a ∈ c.bs0, a ∈ bs
  bb : ∀ a ∈ c.b, a ∈ c.bs0
  offb : ∀ a ∈ c.b, c.P a = none
  live : Live bs H
  nt : NoTup bs H
  box : ∀ a ∈ c.b, Box H a N
  pin : Same c.P H
  vis : Same c.V (hid bs H)
/-- only the box was changed -/
structure Out (c : Base) (H H' : Hp) (N : Nat) : Prop where
  keep : Keep c.b H H'
  box : ∀ a ∈ c.b, Box H' a N
section
variable {c : Base} {bs F A B hs : List Addr} {σ : L2.St} {H H' H1 H2 : Hp} {ε : Env} {N N' N1 N2 : Nat} {v : V} {t : T} {d : PyData}
theorem Out.trans (o : Out c H H1 N1) (p : Out c H1 H2 N2) : Out c H H2 N2 := ⟨o.keep.trans p.keep, p.box⟩
theorem Out.ext (o : Out c H H1 N1) (e : Same H1 H2) : Out c H H2 N1 := ⟨o.keep.ext e, fun a ha => (o.box a ha).mono e⟩
theorem Rel.self (r : Rel c bs F σ H ε N) : Out c H H N := ⟨Keep.refl _ _, r.box⟩
theorem Rel.ofSame (r : Rel c bs F σ H ε N) (e : Same H H') : Out c H H' N := r.self.ext e
theorem Rel.bin (r : Rel c bs F σ H ε N) : ∀ a ∈ c.b, a ∈ bs := fun a ha => r.up a (r.bb a ha)
theorem Rel.fb (r : Rel c bs F σ H ε N) : ∀ a ∈ F, a ∉ c.b := fun a ha z => r.nb a ha (r.bb a z)
theorem box_tup {a : Addr} {o : HO} (h : Box H a N) (z : H a = some o) : Hard o := by
  obtain ⟨_, _, _, e, _⟩ := h
  rw [e] at z
  cases z
  trivial
/-- what is live and kept stands -/
theorem out_get {a : Addr} {o : HO} (k : Out c H H' N) (hb : a ∉ c.b) (e : H a = some o) : H' a = some o := k.keep.get hb e
theorem out_live (k : Out c H H' N) (l : Live bs H) : Live bs H' := fun a ha => by
  by_cases hb : a ∈ c.b
  · exact (k.box a hb).is
  · cases e : H a with
    | none => exact absurd e (l a ha)
    | some o => rw [out_get k hb e]; exact fun z => nomatch z
theorem out_notup (k : Out c H H' N) (l : Live bs H) (n : NoTup bs H) : NoTup bs H' := fun a ha xs z => by
  by_cases hb : a ∈ c.b
  · exact box_tup (k.box a hb) z
  · cases e : H a with
    | none => exact (l a ha e).elim
    | some o =>
      rw [out_get k hb e] at z
      exact n a ha xs (e.trans z)
theorem out_keep (k : Out c H H' N) (h : ∀ a ∈ c.b, a ∈ bs) : Keep bs H H' := k.keep.more h
theorem Rel.out (r : Rel c bs F σ H ε N) (k : Out c H H' N') : Rel c bs F σ H' ε N' where
  env := RelE.chg r.nt (out_keep k r.bin) (fun a ha o e => out_get k (r.fb a ha) e) r.env
  nd := r.nd
  sub := r.sub
  off := r.off
  nb := r.nb
  up := r.up
  bb := r.bb
  offb := r.offb
  live := out_live k r.live
  nt := out_notup k r.live r.nt
  box := k.box
  pin := fun a o e => out_get k (fun z => by rw [r.offb a z] at e; cases e) (r.pin a o e)
  vis := r.vis.trans (out_keep k r.bin)
theorem Rel.ext (r : Rel c bs F σ H ε N) (e : Same H H') : Rel c bs F σ H' ε N := r.out (r.ofSame e)
/-- something that is its own, new since H0 -/
structure Nw (bs A : List Addr) (H0 H : Hp) (v : V) (t : T) : Prop where
  rep : Rep (A ++ bs) H v t A
  nd : A.Nodup
  new : ∀ a ∈ A, H0 a = none
structure NwL (bs A : List Addr) (H0 H : Hp) (vs : List V) (ts : List T) : Prop where
  rep : RepL (A ++ bs) H vs ts A
  nd : A.Nodup
  new : ∀ a ∈ A, H0 a = none
theorem own_notup (h : ∀ a ∈ A, Own H a) (n : NoTup bs H) : NoTup (A ++ bs) H := fun a ha xs z => by
  rcases List.mem_append.mp ha with ha | ha
  · obtain ⟨o, e, no⟩ := h a ha
    rw [e] at z
    exact Option.some.inj z ▸ no
  · exact n a ha xs z
theorem own_live (h : ∀ a ∈ A, Own H a) (l : Live bs H) : Live (A ++ bs) H := fun a ha => by
  rcases List.mem_append.mp ha with ha | ha
  · obtain ⟨ys, e, _⟩ := h a ha
    rw [e]
    exact fun z => nomatch z
  · exact l a ha
theorem Nw.sh (h : Dq (hid bs H') v d) : Nw bs [] H H' v (.sh d) := ⟨.sh h, List.nodup_nil, fun _ z => nomatch z⟩
theorem Nw.data (n : Nw bs A H H' v t) (l : Live bs H) (m : NoTup bs H') : Dq (hid bs H') v t.data :=
  Rep.data m (fun a ha => List.mem_append_right _ ha) (fun a ha z => l a z (n.new a ha)) n.rep
theorem NwL.datas {vs : List V} {ts : List T} (n : NwL bs A H H' vs ts) (l : Live bs H) (m : NoTup bs H') : DqAll (hid bs H') vs (T.datas ts) :=
  RepL.datas m (fun a ha => List.mem_append_right _ ha) (fun a ha z => l a z (n.new a ha)) n.rep
/-- visible stays visible while new ones are hidden -/
theorem vis_step (k : Out c H1 H2 N) (hb : ∀ a ∈ c.b, a ∈ bs) (hB : ∀ a ∈ B, H1 a = none) : Same (hid bs H1) (hid (B ++ bs) H2) := fun a o e => by
  obtain ⟨h1, h2⟩ := hid_some e
  have h3 : a ∉ B ++ bs := fun z => by
    rcases List.mem_append.mp z with z | z
    · rw [hB a z] at h2; cases h2
    · exact h1 z
  rw [hid_out h3]
  exact out_get k (fun z => h1 (hb a z)) h2
theorem Nw.step (n : Nw bs A H H1 v t) (k : Out c H1 H2 N) (l : Live bs H) (m : NoTup bs H1) (hb : ∀ a ∈ c.b, a ∈ bs) : Nw bs A H H2 v t := by
  have nb : ∀ a ∈ A, a ∉ c.b := fun a ha z => l a (hb a z) (n.new a ha)
  exact ⟨Rep.chg (own_notup n.rep.own m) (out_keep k fun a ha => List.mem_append_right _ (hb a ha)) (fun a ha o e => out_get k (nb a ha) e) n.rep, n.nd, n.new⟩
theorem NwL.step {vs : List V} {ts : List T} (n : NwL bs A H H1 vs ts) (k : Out c H1 H2 N) (l : Live bs H) (m : NoTup bs H1) (hb : ∀ a ∈ c.b, a ∈ bs) : NwL bs A H H2 vs ts := by
  have nb : ∀ a ∈ A, a ∉ c.b := fun a ha z => l a (hb a z) (n.new a ha)
  exact ⟨RepL.chg (own_notup n.rep.own m) (out_keep k fun a ha => List.mem_append_right _ (hb a ha)) (fun a ha o e => out_get k (nb a ha) e) n.rep, n.nd, n.new⟩
theorem NwL.nil : NwL bs [] H H' [] [] := ⟨.nil, List.nodup_nil, fun _ z => nomatch z⟩
/-- new ones side by side: the first stood when the second came -/
theorem side {A B : List Addr} {H1 : Hp} (ha : ∀ a ∈ A, H1 a ≠ none) (hb : ∀ a ∈ B, H1 a = none) : ∀ a ∈ A, a ∉ B := fun a h z => ha a h (hb a z)
theorem nodup_app {A B : List Addr} (hA : A.Nodup) (hB : B.Nodup) (h : ∀ a ∈ A, a ∉ B) : (A ++ B).Nodup := List.nodup_append.mpr ⟨hA, hB, fun a ha b hb e => h a ha (e ▸ hb)⟩
theorem own_some {A : List Addr} (h : ∀ a ∈ A, Own H a) : ∀ a ∈ A, H a ≠ none := fun a ha => by
  obtain ⟨xs, e, _⟩ := h a ha
  rw [e]
  exact fun z => nomatch z
theorem hid_perm {cs : List Addr} (h : ∀ a, a ∈ cs → a ∈ bs) : Same (hid bs H) (hid cs H) := hid_less h
theorem Rep.perm {cs : List Addr} (n : NoTup bs H) (h : ∀ a, a ∈ cs → a ∈ bs) (r : Rep bs H v t A) : Rep cs H v t A := Rep.chg n (hid_perm h) (fun _ _ _ e => e) r
theorem RepL.perm {vs : List V} {ts : List T} {cs : List Addr} (n : NoTup bs H) (h : ∀ a, a ∈ cs → a ∈ bs) (r : RepL bs H vs ts A) : RepL cs H vs ts A := RepL.chg n (hid_perm h) (fun _ _ _ e => e) r
/-- the slots, with more hidden that is new -/
theorem Rel.hide (r : Rel c bs F σ H ε N) (k : Out c H H1 N1) (hA : ∀ a ∈ A, H a = none) (ho : ∀ a ∈ A, Own H1 a) : Rel c (A ++ bs) F σ H1 ε N1 where
  env := RelE.chg r.nt (vis_step k r.bin hA) (fun a ha o e => out_get k (r.fb a ha) e) r.env
  nd := r.nd
  sub := fun a ha => List.mem_append_right _ (r.sub a ha)
  off := r.off
  nb := r.nb
  up := fun a ha => List.mem_append_right _ (r.up a ha)
  bb := r.bb
  offb := r.offb
  live := own_live ho (out_live k r.live)
  nt := own_notup ho (out_notup k r.live r.nt)
  box := k.box
  pin := (r.out k).pin
  vis := r.vis.trans (vis_step k r.bin hA)
theorem NwL.snoc {vs : List V} {ts : List T} {B : List Addr} (r : Rel c bs F σ H ε N) (k1 : Out c H H1 N1) (n : NwL bs A H H1 vs ts) (k : Out c H1 H2 N2) (q : Nw (A ++ bs) B H1 H2 v t) : NwL bs (A ++ B) H H2 (vs ++ [v]) (ts ++ [t]) := by
  have r1 := r.hide k1 n.new n.rep.own
  have nb : ∀ a ∈ A, a ∉ c.b := fun a ha z => r.live a (r.bin a z) (n.new a ha)
  have hAB := side (own_some n.rep.own) q.new
  have hk : ∀ a, H1 a = none → H a = none := fun a e => by
    by_cases hb : a ∈ c.b
    · exact absurd e (k1.box a hb).is
    · cases e2 : H a with
      | none => rfl
      | some o => rw [out_get k1 hb e2] at e; cases e
  have e1 : Same (hid (A ++ bs) H1) (hid (A ++ B ++ bs) H2) := fun a o e => by
    have := vis_step (bs := A ++ bs) k (fun a ha => List.mem_append_right _ (r.bin a ha)) q.new a o e
    obtain ⟨h1, h2⟩ := hid_some this
    rw [hid_out fun z => h1 ?_]
    · exact h2
    · rcases List.mem_append.mp z with z | z
      · rcases List.mem_append.mp z with z | z
        · exact List.mem_append_right _ (List.mem_append_left _ z)
        · exact List.mem_append_left _ z
      · exact List.mem_append_right _ (List.mem_append_right _ z)
  have ra : RepL (A ++ B ++ bs) H2 vs ts A := RepL.chg r1.nt e1 (fun a ha o e => out_get k (nb a ha) e) n.rep
  have r2 := r1.hide k q.new q.rep.own
  have rb : Rep (A ++ B ++ bs) H2 v t B := Rep.perm r2.nt (fun a z => by
    rcases List.mem_append.mp z with z | z
    · rcases List.mem_append.mp z with z | z
      · exact List.mem_append_right _ (List.mem_append_left _ z)
      · exact List.mem_append_left _ z
    · exact List.mem_append_right _ (List.mem_append_right _ z)) q.rep
  exact ⟨ra.append (RepL.one rb), nodup_app n.nd q.nd hAB, fun a ha => (List.mem_append.mp ha).elim (n.new a) fun h => hk a (q.new a h)⟩
theorem nodup_mid {F1 A B F2 : List Addr} (h : (F1 ++ (A ++ F2)).Nodup) (hB : B.Nodup) (h1 : ∀ a ∈ B, a ∉ F1 ∧ a ∉ F2) : (F1 ++ (B ++ F2)).Nodup := by
  obtain ⟨n1, n2, n3⟩ := List.nodup_append.mp h
  obtain ⟨_, n5, _⟩ := List.nodup_append.mp n2
  refine nodup_app n1 (nodup_app hB n5 fun a ha => (h1 a ha).2) fun a ha z => ?_
  rcases List.mem_append.mp z with z | z
  · exact (h1 a z).1 ha
  · exact n3 a ha a (List.mem_append_right _ z) rfl
/-- a slot set -/
theorem Rel.set {i : Nat} (r : Rel c bs F σ H ε N) (k : Out c H H1 N1) (n : Nw bs A H H1 v t) : ∃ F', Rel c (A ++ bs) F' (σ.set i (some v)) H1 (ε.set i (.is t)) N1 := by
  have r1 := r.hide k n.new n.rep.own
  cases hl : ε[i]? with
  | none =>
    have hs : σ[i]? = none := by
      rw [List.getElem?_eq_none_iff] at hl ⊢
      rw [r.env.len]
      exact hl
    rw [set_beyond hl, set_beyond hs]
    exact ⟨F, r1⟩
  | some l =>
    obtain ⟨x, A0, F1, F2, q1, q2, rfl, q4⟩ := r1.env.at hl
    have hm : ∀ a ∈ F1 ++ (A ++ F2), a ∈ F1 ++ (A0 ++ F2) ∨ a ∈ A := fun a ha => by
      rcases List.mem_append.mp ha with h | h
      · exact .inl (List.mem_append_left _ h)
      · rcases List.mem_append.mp h with h | h
        · exact .inr h
        · exact .inl (List.mem_append_right _ (List.mem_append_right _ h))
    have hA : ∀ a ∈ A, a ∉ F1 ++ (A0 ++ F2) := fun a ha z => r.live a (r.sub a z) (n.new a ha)
    refine ⟨F1 ++ (A ++ F2), q4 r1.nt (Same.refl _) (fun _ _ _ e => e) (.is n.rep), nodup_mid r.nd n.nd fun a ha => ⟨fun z => hA a ha (List.mem_append_left _ z), fun z => hA a ha (List.mem_append_right _ (List.mem_append_right _ z))⟩, fun a ha => ?_, fun a ha => ?_, fun a ha => ?_, r1.up, r1.bb, r1.offb, r1.live, r1.nt, r1.box, r1.pin, r1.vis⟩
    · rcases hm a ha with h | h
      · exact r1.sub a h
      · exact List.mem_append_left _ h
    · rcases hm a ha with h | h
      · exact r1.off a h
      · cases e : c.P a with
        | none => rfl
        | some o =>
          have := r.pin a o e
          rw [n.new a h] at this
          cases this
    · rcases hm a ha with h | h
      · exact r1.nb a h
      · exact fun z => r.live a (r.up a z) (n.new a h)
/-! ### expressions -/
abbrev WE := Env → Nat → (PyData → Nat → Prop) → Prop
abbrev WB := Env → Nat → (Bool → Nat → Prop) → Prop
abbrev WA := Env → Nat → (List PyData → Nat → Prop) → Prop
abbrev WT := Env → Nat → (T → Nat → Prop) → Prop
abbrev WTs := Env → Nat → (List T → Nat → Prop) → Prop
def SimE (te : TE) (we : WE) : Prop := ∀ {c : Base} {bs F : List Addr} {σ : L2.St} {H : Hp} {ε : Env} {N : Nat} {R : PyData → Nat → Prop} {Q : VK}, Rel c bs F σ H ε N → we ε N R → (∀ v d N' H', R d N' → Out c H H' N' → Dq (hid bs H') v d → Q v H') → te σ H Q
def SimB (te : TT) (we : WB) : Prop := ∀ {c : Base} {bs F : List Addr} {σ : L2.St} {H : Hp} {ε : Env} {N : Nat} {R : Bool → Nat → Prop} {Q : Bool → Hp → Prop}, Rel c bs F σ H ε N → we ε N R → (∀ b N' H', R b N' → Out c H H' N' → Q b H') → te σ H Q
def SimA (te : TA) (we : WA) : Prop := ∀ {c : Base} {bs F : List Addr} {σ : L2.St} {H : Hp} {ε : Env} {N : Nat} {R : List PyData → Nat → Prop} {Q : List V → Hp → Prop}, Rel c bs F σ H ε N → we ε N R → (∀ vs ds N' H', R ds N' → Out c H H' N' → DqAll (hid bs H') vs ds → Q vs H') → te σ H Q
def SimT (te : TE) (we : WT) : Prop := ∀ {c : Base} {bs F : List Addr} {σ : L2.St} {H : Hp} {ε : Env} {N : Nat} {R : T → Nat → Prop} {Q : VK}, Rel c bs F σ H ε N → we ε N R → (∀ v t A N' H', R t N' → Out c H H' N' → Nw bs A H H' v t → Q v H') → te σ H Q
def SimTs (te : TA) (we : WTs) : Prop := ∀ {c : Base} {bs F : List Addr} {σ : L2.St} {H : Hp} {ε : Env} {N : Nat} {R : List T → Nat → Prop} {Q : List V → Hp → Prop}, Rel c bs F σ H ε N → we ε N R → (∀ vs ts A N' H', R ts N' → Out c H H' N' → NwL bs A H H' vs ts → Q vs H') → te σ H Q
theorem out_dq (k : Out c H H' N) (hb : ∀ a ∈ c.b, a ∈ bs) (h : Dq (hid bs H) v d) : Dq (hid bs H') v d := h.mono (out_keep k hb)
theorem out_dqs {vs : List V} {ds : List PyData} (k : Out c H H' N) (hb : ∀ a ∈ c.b, a ∈ bs) (h : DqAll (hid bs H) vs ds) : DqAll (hid bs H') vs ds := h.mono (out_keep k hb)
end
/-- data, freshly shared -/
def wSh (we : WE) : WT := fun ε N R => we ε N fun d N' => R (.sh d) N'
theorem sim_sh {te : TE} {we : WE} (h : SimE te we) : SimT te (wSh we) := fun r w q => h r w fun v d N' H' hR o hd => q v (.sh d) [] N' H' hR o (.sh hd)
def wFz (wt : WT) : WE := fun ε N R => wt ε N fun t N' => R t.data N'
theorem sim_fz {te : TE} {wt : WT} (h : SimT te wt) : SimE te (wFz wt) := fun r w q => h r w fun v t A N' H' hR o n => q v t.data N' H' hR o (n.data r.live (out_notup o r.live r.nt))
/-! ### the view: all slots as data -/
def Sl.view : Sl → Sl
  | .is t => .is (.sh t.data)
  | .dic _ => .no
  | .dcF _ => .no
  | .pin _ => .no
  | l => l
def viewE (ε : Env) : Env := ε.map Sl.view
section
variable {c : Base} {bs F A : List Addr} {σ : L2.St} {H H' : Hp} {ε : Env} {N N' : Nat}
theorem view_env (hn : NoTup c.b H) (hc : ∀ a ∈ c.b, a ∈ bs) : ∀ {σ : L2.St} {ε : Env} {F : List Addr}, (∀ a ∈ F, a ∉ c.b) → RelE c.b bs H σ ε F → RelE c.b c.b H σ (viewE ε) []
  | _, _, _, _, .nil => .nil
  | _, _, _, hF, .no h => .no (view_env hn hc hF h)
  | _, _, _, hF, .box e h => .box e (view_env hn hc hF h)
  | _, _, _, hF, .is r h => RelE.is (A := []) (.sh (Rep.data hn hc (fun a ha => hF a (List.mem_append_left _ ha)) r)) (view_env hn hc (fun a ha => hF a (List.mem_append_right _ ha)) h)
  | _, _, _, hF, .dic e h => .no (view_env hn hc (fun a ha => hF a (List.mem_append_right _ ha)) h)
  | _, _, _, hF, .dcF e h => .no (view_env hn hc hF h)
  | _, _, _, hF, .pin h => .no (view_env hn hc hF h)
theorem Rel.view (r : Rel c bs F σ H ε N) : Rel { c with bs0 := c.b } c.b [] σ H (viewE ε) N where
  env := view_env (fun a ha => r.nt a (r.bin a ha)) r.bin r.fb r.env
  nd := List.nodup_nil
  sub := fun _ z => nomatch z
  off := fun _ z => nomatch z
  nb := fun _ z => nomatch z
  up := fun _ h => h
  bb := fun _ h => h
  offb := r.offb
  live := fun a ha => r.live a (r.bin a ha)
  nt := fun a ha => r.nt a (r.bin a ha)
  box := r.box
  pin := r.pin
  vis := r.vis.trans (hid_less r.bin)
end
/-- data without lists, from the view -/
def wVw (we : WE) : WE := fun ε N R => we (viewE ε) N fun d N' => imm d = true ∧ R d N'
theorem sim_vw {te : TE} {we : WE} (h : SimE te we) : SimE te (wVw we) := fun r w q => h r.view w fun v d N' H' hR o hd =>
  q v d N' H' hR.2 ⟨o.keep, o.box⟩ (dq_imm (out_notup ⟨o.keep, o.box⟩ r.live r.nt) (dq_vis hd) hR.1)
/-- a truth, from the view -/
def wVb (we : WB) : WB := fun ε N R => we (viewE ε) N R
theorem sim_vb {te : TT} {we : WB} (h : SimB te we) : SimB te (wVb we) := fun r w q => h r.view w fun b N' H' hR o => q b N' H' hR ⟨o.keep, o.box⟩
/-- something new that is clean, from the view -/
def wVt (wt : WT) : WT := fun ε N R => wt (viewE ε) N fun t N' => t.clean = true ∧ R t N'
theorem sim_vt {te : TE} {wt : WT} (h : SimT te wt) : SimT te (wVt wt) := fun {c bs F σ H ε N R Q} r w q => h r.view w fun v t A N' H' hR o n => by
  have o' : Out c H H' N' := ⟨o.keep, o.box⟩
  refine q v t A N' H' hR.2 o' ⟨Rep.clean (own_notup n.rep.own (out_notup o' r.live r.nt)) n.rep hR.1, n.nd, n.new⟩
end Cg

set_option Elab.async false
set_option linter.all false
set_option maxRecDepth 100000
set_option maxHeartbeats 1000000
namespace Cg
open PySem PySem.Spec PyProof.Rows L2 Evl
/-! ### names, constants, arguments -/
def wVar (i : Nat) : WE := fun ε N R => match ε[i]? with
  | some (.is (.sh d)) => R d N
  | some (.is (.shr _ d)) => R d N
  | _ => False
def wC (d : PyData) : WE := fun _ N R => R d N
section
variable {ta tb tc te : TE} {wa wb wc we : WE} {t u : TT} {w w' : WB} {tas : TA} {was : WA}
theorem sim_var {i : Nat} : SimE (tVar i) (wVar i) := fun {c bs F σ H ε N R Q} r h q => by
  have h' : (match ε[i]? with | some (.is (.sh d)) => R d N | some (.is (.shr _ d)) => R d N | _ => False) := h
  split at h'
  · rename_i d e
    obtain ⟨x, A, F1, F2, hx, hr, _, _⟩ := r.env.at e
    cases hr with
    | is hr => cases hr with
      | sh hd => exact ⟨_, hx, q _ d N H h' r.self hd⟩
  · rename_i a d e
    obtain ⟨x, A, F1, F2, hx, hr, _, _⟩ := r.env.at e
    cases hr with
    | is hr => cases hr with
      | shr hd => exact ⟨_, hx, q _ d N H h' r.self hd⟩
  · exact h'.elim
theorem sim_int {i : Int} : SimE (tC (.int i)) (wC (.int i)) := fun r h q => q _ _ _ _ h r.self (.int i)
theorem sim_bl {b : Bool} : SimE (tC (.bl b)) (wC (.bool b)) := fun r h q => q _ _ _ _ h r.self (.bl b)
theorem sim_str {x : Str} : SimE (tC (.str x)) (wC (.str x)) := fun r h q => q _ _ _ _ h r.self (.str x)
def wNil : WA := fun _ N R => R [] N
def wCons (we : WE) (wa : WA) : WA := fun ε N R => we ε N fun d N1 => wa ε N1 fun ds N2 => R (d :: ds) N2
theorem sim_nil : SimA tNil wNil := fun r h q => q _ _ _ _ h r.self .nil
theorem sim_cons (h : SimE te we) (k : SimA tas was) : SimA (tCons te tas) (wCons we was) := fun r w q => h r w fun v d N1 H1 w1 o1 hd => k (r.out o1) w1 fun vs ds N2 H2 w2 o2 hds => q (v :: vs) (d :: ds) N2 H2 w2 (o1.trans o2) (.cons (out_dq o2 r.bin hd) hds)
/-! ### operators -/
abbrev O2 := PyData → PyData → (PyData → Prop) → Prop
def OpD (r : R2) (o : O2) : Prop := ∀ {hs : List Addr} {H : Hp} {x y : V} {d e : PyData} {S : PyData → Prop} {Q : VK}, Live hs H → Dq (hid hs H) x d → Dq (hid hs H) y e → o d e S → (∀ z f H', S f → Same H H' → Dq (hid hs H') z f → Q z H') → r x y H Q
def wOp (o : O2) (wa wb : WE) : WE := fun ε N R => wa ε N fun d N1 => wb ε N1 fun e N2 => o d e fun f => R f N2
theorem sim_op {r : R2} {o : O2} (ho : OpD r o) (ha : SimE ta wa) (hb : SimE tb wb) : SimE (tOp r ta tb) (wOp o wa wb) := fun rl w q => ha rl w fun v d N1 H1 w1 o1 hd => hb (rl.out o1) w1 fun u e N2 H2 w2 o2 he =>
  ho (out_live (o1.trans o2) rl.live) (out_dq o2 rl.bin hd) he w2 fun z f H3 hS e3 hz => q z f N2 H3 hS ((o1.trans o2).ext e3) hz
theorem OpD.or {r r' : R2} {o o' : O2} (h : OpD r o) (h' : OpD r' o') : OpD (fun x y H Q => r x y H Q ∨ r' x y H Q) (fun d e S => o d e S ∨ o' d e S) := fun l hx hy w q => w.elim (fun w => .inl (h l hx hy w q)) fun w => .inr (h' l hx hy w q)
theorem OpD.imp {r : R2} {o o' : O2} (h : OpD r o) (k : ∀ d e S, o' d e S → o d e S) : OpD r o' := fun l hx hy w q => h l hx hy (k _ _ _ w) q
theorem OpD.weak {r r' : R2} {o : O2} (h : OpD r o) (k : ∀ x y H Q, r x y H Q → r' x y H Q) : OpD r' o := fun l hx hy w q => k _ _ _ _ (h l hx hy w q)
def oI (C : Int → Int → Prop) (g : Int → Int → PyData) : O2
  | .int i, .int j, S => C i j ∧ S (g i j)
  | _, _, _ => False
def oI0 (g : Int → Int → PyData) : O2
  | .int i, .int j, S => S (g i j)
  | _, _, _ => False
theorem od_I0 {g : Int → Int → V} {g' : Int → Int → PyData} (h : ∀ (H : Hp) i j, Dq H (g i j) (g' i j)) : OpD (rI0 g) (oI0 g') := fun {hs H x y d e S Q} l hx hy w q => by
  cases hx <;> cases hy <;> first | exact False.elim w | exact ⟨_, _, rfl, rfl, q _ _ H w (Same.refl _) (h _ _ _)⟩
theorem od_I {C : Int → Int → Prop} {g : Int → Int → V} {g' : Int → Int → PyData} (h : ∀ (H : Hp) i j, Dq H (g i j) (g' i j)) : OpD (rI C g) (oI C g') := fun {hs H x y d e S Q} l hx hy w q => by
  cases hx <;> cases hy <;> first | exact False.elim w | exact ⟨_, _, rfl, rfl, w.1, q _ _ H w.2 (Same.refl _) (h _ _ _)⟩
abbrev oSub : O2 := oI0 fun i j => .int (i - j)
abbrev oFdiv : O2 := oI CDiv fun i j => .int (i / j)
abbrev oMod : O2 := oI (fun _ j => 0 < j) fun i j => .int (i % j)
abbrev oGt : O2 := oI0 fun i j => .bool (decide (j < i))
abbrev oMulI : O2 := oI CMul fun i j => .int (i * j)
abbrev oAddI : O2 := oI0 fun i j => .int (i + j)
theorem od_sub : OpD (rI0 fun i j => .int (i - j)) oSub := od_I0 fun _ _ _ => .int _
theorem od_fdiv : OpD (rI CDiv fun i j => .int (i / j)) oFdiv := od_I fun _ _ _ => .int _
theorem od_mod : OpD (rI (fun _ j => 0 < j) fun i j => .int (i % j)) oMod := od_I fun _ _ _ => .int _
theorem od_gt : OpD (rI0 fun i j => .bl (decide (j < i))) oGt := od_I0 fun _ _ _ => .bl _
theorem od_mulI : OpD (rI CMul fun i j => .int (i * j)) oMulI := od_I fun _ _ _ => .int _
theorem od_addI : OpD (rI0 fun i j => .int (i + j)) oAddI := od_I0 fun _ _ _ => .int _
/-! new lists -/
/-- r gives a new list of what o tells -/
def OpN (r : R2) (o : PyData → PyData → (List PyData → Prop) → Prop) : Prop := ∀ {hs : List Addr} {H : Hp} {x y : V} {d e : PyData} {S : List PyData → Prop} {Q : VK}, Live hs H → Dq (hid hs H) x d → Dq (hid hs H) y e → o d e S → (∀ p xs ds, S ds → H p = none → DqAll (hid hs H) xs ds → Q (.ref p) (upd H p (.lst xs))) → r x y H Q
theorem OpN.d {r : R2} {o : PyData → PyData → (List PyData → Prop) → Prop} (h : OpN r o) : OpD r (fun d e S => o d e fun ds => S (.list ds)) := fun {hs H x y d e S Q} l hx hy w q => h l hx hy w fun p xs ds hS np hd =>
  q _ _ _ hS (Ex.new np) (.lst (by rw [hid_out (l.out np), upd_same]) (hd.mono (same_hid (Ex.new np))))
def oCat : PyData → PyData → (List PyData → Prop) → Prop
  | .list a, .list b, S => a.length + b.length ≤ 1000000 ∧ S (a ++ b)
  | _, _, _ => False
theorem on_cat : OpN rCat oCat := fun {hs H x y d e S Q} l hx hy w q => by
  cases hx <;> cases hy <;> first | exact False.elim w | skip
  rename_i a xs ds e1 h1 a2 xs2 ds2 e2 h2
  exact ⟨_, _, _, _, rfl, rfl, (hid_some e1).2, (hid_some e2).2, by rw [h1.len, h2.len]; exact Nat.le_trans w.1 (by decide), fun p np => q p _ _ w.2 np (h1.append h2)⟩
def oRep : PyData → PyData → (List PyData → Prop) → Prop
  | .list a, .int k, S => (0 ≤ k ∧ k ≤ 1000000 ∧ a.length * k.toNat ≤ 1000000) ∧ S (List.replicate k.toNat a).flatten
  | _, _, _ => False
theorem on_rep : OpN rRep oRep := fun {hs H x y d e S Q} l hx hy w q => by
  cases hx <;> cases hy <;> first | exact False.elim w | skip
  rename_i a xs ds e1 h1 i
  have hk : 0 ≤ i ∧ i ≤ 1000000 := ⟨w.1.1, w.1.2.1⟩
  exact ⟨_, _, _, rfl, rfl, (hid_some e1).2, by omega, by omega, by rw [h1.len]; exact Nat.le_trans w.1.2.2 (by decide), fun p np => q p _ _ w.2 np (h1.flat _)⟩
def oAdd : O2
  | .int i, .int j, S => S (.int (i + j))
  | .list a, .list b, S => a.length + b.length ≤ 1000000 ∧ S (.list (a ++ b))
  | .str a, .str b, S => a.length + b.length ≤ 1000000 ∧ S (.str (a ++ b))
  | _, _, _ => False
def rStrs : R2 := fun x y H Q => ∃ i j, x = .str i ∧ y = .str j ∧ i.length + j.length ≤ sizeLine ∧ Q (.str (i ++ j)) H
def rAddU : R2 := fun x y H Q => (rI0 fun i j => .int (i + j)) x y H Q ∨ rCat x y H Q ∨ rStrs x y H Q
theorem op_addU {X : Cx} : OpR X (binaryOp .Add) rAddU := op_add.or (op_cat.or op_add_str)
theorem od_add : OpD rAddU oAdd := fun {hs H x y d e S Q} l hx hy w q => by
  cases d <;> cases e <;> first | exact False.elim w | skip
  · exact .inl (od_addI l hx hy w q)
  · obtain ⟨w1, w2⟩ := w
    cases hx
    cases hy
    exact .inr (.inr ⟨_, _, rfl, rfl, Nat.le_trans w1 (by decide), q _ _ H w2 (Same.refl _) (.str _)⟩)
  · exact .inr (.inl (on_cat.d l hx hy w q))
def oMul : O2
  | .int i, .int j, S => CMul i j ∧ S (.int (i * j))
  | .list a, .int k, S => (0 ≤ k ∧ k ≤ 1000000 ∧ a.length * k.toNat ≤ 1000000) ∧ S (.list (List.replicate k.toNat a).flatten)
  | _, _, _ => False
def rMulU : R2 := fun x y H Q => (rI CMul fun i j => .int (i * j)) x y H Q ∨ rRep x y H Q
theorem op_mulU {X : Cx} : OpR X (binaryOp .Mult) rMulU := op_mul.or op_rep
theorem od_mul : OpD rMulU oMul := fun {hs H x y d e S Q} l hx hy w q => by
  cases d <;> cases e <;> first | exact False.elim w | skip
  · exact .inl (od_mulI l hx hy w q)
  · exact .inr (on_rep.d l hx hy w q)
/-! alike or not -/
def atomD : PyData → Bool
  | .list _ => false
  | .tuple _ => false
  | .dict _ => false
  | _ => true
def mixD : PyData → PyData → Bool
  | .int _, .bool _ => true
  | .bool _, .int _ => true
  | _, _ => false
def eqS (d e : PyData) : Bool := match d, e with
  | .int i, .int j => i == j
  | .bool i, .bool j => i == j
  | .str i, .str j => i == j
  | .none, .none => true
  | _, _ => false
/-- both atoms: as they are; else by their data -/
def oEq : O2 := fun d e S => if atomD d && atomD e && !mixD d e then S (.bool (eqS d e)) else SeqAt.shaped d = true ∧ SeqAt.shaped e = true ∧ S (.bool (PyData.eqv d e))
def oNe : O2 := fun d e S => if atomD d && atomD e && !mixD d e then S (.bool (!eqS d e)) else SeqAt.shaped d = true ∧ SeqAt.shaped e = true ∧ S (.bool (!PyData.eqv d e))
def rEqU (K : PySem.W.Frag) : R2 := fun x y H Q => rEq x y H Q ∨ rEqD K x y H Q
def rNeU (K : PySem.W.Frag) : R2 := fun x y H Q => rNe x y H Q ∨ rNeD K x y H Q
theorem op_eqU {X : Cx} (K : PySem.W.Frag) (hu : X.A.units + 64 < cLine) (hK : X.K = K := by rfl) : OpR X (compareOp .Eq) (rEqU K) := by subst hK; exact op_eq.or (op_eqD hu)
theorem op_neU {X : Cx} (K : PySem.W.Frag) (hu : X.A.units + 64 < cLine) (hK : X.K = K := by rfl) : OpR X (compareOp .NotEq) (rNeU K) := by subst hK; exact op_ne.or (op_neD hu)
theorem scal_of {H : Hp} {x y : V} {d e : PyData} (hx : Dq H x d) (hy : Dq H y e) (h : (atomD d && atomD e && !mixD d e) = true) : scal x y = true ∧ decide (x = y) = eqS d e := by
  cases hx <;> cases hy <;> first
    | (simp [atomD, mixD] at h; done)
    | exact ⟨rfl, dec_int⟩
    | exact ⟨rfl, dec_bl⟩
    | exact ⟨rfl, dec_str⟩
    | exact ⟨rfl, by simp [eqS]⟩
theorem od_eq {K : PySem.W.Frag} : OpD (rEqU K) oEq := fun {hs H x y d e S Q} l hx hy w q => by
  unfold oEq at w
  split at w
  · rename_i h
    obtain ⟨h1, h2⟩ := scal_of hx hy h
    exact .inl ⟨h1, q _ _ H w (Same.refl _) (by rw [h2]; exact .bl _)⟩
  · exact .inr ⟨d, e, (dq_vis hx).dp (noD_shaped w.1), (dq_vis hy).dp (noD_shaped w.2.1), w.1, w.2.1, q _ _ H w.2.2 (Same.refl _) (.bl _)⟩
theorem od_ne {K : PySem.W.Frag} : OpD (rNeU K) oNe := fun {hs H x y d e S Q} l hx hy w q => by
  unfold oNe at w
  split at w
  · rename_i h
    obtain ⟨h1, h2⟩ := scal_of hx hy h
    exact .inl ⟨h1, q _ _ H w (Same.refl _) (by rw [h2]; exact .bl _)⟩
  · exact .inr ⟨d, e, (dq_vis hx).dp (noD_shaped w.1), (dq_vis hy).dp (noD_shaped w.2.1), w.1, w.2.1, q _ _ H w.2.2 (Same.refl _) (.bl _)⟩
def isNone : PyData → Bool
  | .none => true
  | _ => false
def oIs : O2 := fun d e S => isNone e = true ∧ S (.bool (isNone d))
def oIsNot : O2 := fun d e S => isNone e = true ∧ S (.bool (!isNone d))
/-! items -/
def intsOf : List PyData → Option (List Int)
  | [] => some []
  | .int i :: r => (intsOf r).map (i :: ·)
  | _ :: _ => none
theorem intsOf_map : ∀ ns : List Int, intsOf (ns.map PyData.int) = some ns
  | [] => rfl
  | n :: r => by
    show (intsOf (r.map PyData.int)).map (n :: ·) = _
    rw [intsOf_map r]
    rfl
theorem intsOf_some : ∀ {ds : List PyData} {ns : List Int}, intsOf ds = some ns → ds = ns.map PyData.int
  | [], ns, h => by
    have e : [] = ns := Option.some.inj h
    rw [← e]
    rfl
  | .int i :: r, ns, h => by
    have h' : (intsOf r).map (i :: ·) = some ns := h
    cases e : intsOf r with
    | none => rw [e] at h'; cases h'
    | some ms =>
      rw [e] at h'
      have e2 : i :: ms = ns := Option.some.inj h'
      rw [← e2, intsOf_some e]
      rfl
  | .none :: _, _, h => by cases h
  | .bool _ :: _, _, h => by cases h
  | .str _ :: _, _, h => by cases h
  | .list _ :: _, _, h => by cases h
  | .tuple _ :: _, _, h => by cases h
  | .dict _ :: _, _, h => by cases h
def seqOf : PyData → Option (List PyData)
  | .list a => some a
  | .tuple a => some a
  | _ => none
theorem seqOf_seqD (kd : Bool) (ds : List PyData) : seqOf (seqD kd ds) = some ds := by cases kd <;> rfl
theorem Dq.seqOf {H : Hp} {K : PySem.W.Frag} {v : V} {d : PyData} {ds : List PyData} (h : Dq H v d) (e : seqOf d = some ds) : ∃ a xs, v = .ref a ∧ (∀ {H' : Hp}, Same H H' → (SqL K H' a xs ∨ SqT K H' a xs)) ∧ DqAll H xs ds := by
  cases h with
  | lst e1 h1 =>
    have e2 := Option.some.inj e
    subst e2
    exact ⟨_, _, rfl, fun s => .inl (SqL.of (s _ _ e1)), h1⟩
  | tup e1 h1 =>
    have e2 := Option.some.inj e
    subst e2
    exact ⟨_, _, rfl, fun s => .inr (SqT.of (s _ _ e1)), h1⟩
  | _ => cases e
def oIx : O2
  | .list a, .int i, S => ∃ d, atI a i = some d ∧ S d
  | .tuple a, .int i, S => ∃ d, atI a i = some d ∧ S d
  | _, _, _ => False
theorem atI_get {H : Hp} {xs : List V} {ds : List PyData} {i : Int} {d : PyData} (h : DqAll H xs ds) (e : atI ds i = some d) : ∃ v, atI xs i = some v ∧ Dq H v d := by
  unfold atI at e ⊢
  rw [h.len]
  cases hn : ixN ds.length i with
  | none => rw [hn] at e; cases e
  | some j =>
    rw [hn] at e
    obtain ⟨v, h1, h2⟩ := h.at (i := j) (d := d) e
    exact ⟨v, h1, h2⟩
theorem od_ix {K : PySem.W.Frag} : OpD (rIx K) oIx := fun {hs H x y d e S Q} l hx hy w q => by
  cases d <;> cases e <;> first | exact False.elim w | skip
  all_goals
    obtain ⟨f, hf, hS⟩ := w
    cases hx
    cases hy
    rename_i e1 h1
    obtain ⟨v, h2, h3⟩ := atI_get h1 hf
    first
      | exact .inl ⟨_, _, _, v, rfl, rfl, SqL.of (hid_some e1).2, h2, q _ _ H hS (Same.refl _) h3⟩
      | exact .inr (.inl ⟨_, _, _, v, rfl, rfl, SqT.of (hid_some e1).2, h2, q _ _ H hS (Same.refl _) h3⟩)
def oIn (neg : Bool) : O2 := fun d e S => match d, seqOf e with
  | .int k, some ds => match intsOf ds with
    | some ns => S (.bool (if neg then !ns.contains k else ns.contains k))
    | none => False
  | _, _ => False
theorem inV_ints (k : Int) (ns : List Int) : inV (.int k) (ns.map V.int) = ns.contains k := by
  unfold inV
  rw [List.any_map]
  induction ns with
  | nil => rfl
  | cons n r ih =>
    rw [List.any_cons, List.contains_cons, ih]
    congr 1
    show eqV (.int n) (.int k) = (k == n)
    unfold eqV
    rw [Bool.eq_iff_iff]
    simp
    exact eq_comm
theorem od_in {K : PySem.W.Frag} {neg : Bool} : OpD (rIn K neg) (oIn neg) := fun {hs H x y d e S Q} l hx hy w q => by
  unfold oIn at w
  split at w
  · rename_i k ds he
    cases hx
    split at w
    · rename_i ns hns
      obtain ⟨a, xs, rfl, hs1, h1⟩ := hy.seqOf (K := K) he
      rw [intsOf_some hns] at h1
      have e3 := ints_inv h1
      subst e3
      refine ⟨a, _, rfl, hs1 hid_same, rfl, ?_, ?_⟩
      · rw [List.all_map]
        exact List.all_eq_true.mpr fun _ _ => rfl
      · rw [inV_ints]
        exact q _ _ H w (Same.refl _) (.bl _)
    · exact w.elim
  · exact w.elim
/-! ### one operand -/
abbrev O1 := PyData → (PyData → Prop) → Prop
def wUn (o : O1) (wa : WE) : WE := fun ε N R => wa ε N fun d N1 => o d fun f => R f N1
def oNeg : O1
  | .int i, S => S (.int (-i))
  | _, _ => False
/-! ### tests -/
def wTest (we : WE) : WB := fun ε N R => we ε N fun d N1 => match d with
  | .bool b => R b N1
  | _ => False
theorem sim_test (h : SimE te we) : SimB (tTest te) (wTest we) := fun r w q => h r w fun v d N1 H1 w1 o1 hd => by
  cases hd <;> first | exact False.elim w1 | exact ⟨_, rfl, q _ N1 H1 w1 o1⟩
theorem sim_tB (h : SimE te we) : SimB (tB te) (wTest we) := fun r w q => h r w fun v d N1 H1 w1 o1 hd => by
  cases hd <;> first | exact False.elim w1 | exact ⟨_, rfl, q _ N1 H1 w1 o1⟩
def wYes : WB := fun _ N R => R true N
theorem sim_yes : SimB tYes wYes := fun r w q => q _ _ _ w r.self
def wNot (w : WB) : WB := fun ε N R => w ε N fun b N1 => R (!b) N1
theorem sim_not (h : SimB t w) : SimB (tNot t) (wNot w) := fun r ww q => h r ww fun b N1 H1 w1 o1 => q _ _ _ w1 o1
def wAnd (w w' : WB) : WB := fun ε N R => w ε N fun b N1 => match b with
  | true => w' ε N1 R
  | false => R false N1
def wOr (w w' : WB) : WB := fun ε N R => w ε N fun b N1 => match b with
  | true => R true N1
  | false => w' ε N1 R
theorem sim_and (h : SimB t w) (k : SimB u w') : SimB (tAnd t u) (wAnd w w') := fun {c bs F σ H ε N R Q} r ww q => h r ww fun b N1 H1 w1 o1 => by
  cases b with
  | true => exact k (r.out o1) w1 fun b2 N2 H2 w2 o2 => q _ _ _ w2 (o1.trans o2)
  | false => exact q _ _ _ w1 o1
theorem sim_or (h : SimB t w) (k : SimB u w') : SimB (tOr t u) (wOr w w') := fun {c bs F σ H ε N R Q} r ww q => h r ww fun b N1 H1 w1 o1 => by
  cases b with
  | false => exact k (r.out o1) w1 fun b2 N2 H2 w2 o2 => q _ _ _ w2 (o1.trans o2)
  | true => exact q _ _ _ w1 o1
def wAndV (wa wb : WE) : WE := fun ε N R => wa ε N fun d N1 => match d with
  | .bool true => wb ε N1 R
  | .bool false => R (.bool false) N1
  | _ => False
def wOrV (wa wb : WE) : WE := fun ε N R => wa ε N fun d N1 => match d with
  | .bool true => R (.bool true) N1
  | .bool false => wb ε N1 R
  | _ => False
def wNotV (wa : WE) : WE := fun ε N R => wa ε N fun d N1 => match d with
  | .bool b => R (.bool !b) N1
  | _ => False
theorem sim_andV (h : SimE ta wa) (k : SimE tb wb) : SimE (tAndV ta tb) (wAndV wa wb) := fun {c bs F σ H ε N R Q} r ww q => h r ww fun v d N1 H1 w1 o1 hd => by
  cases hd <;> first | exact False.elim w1 | skip
  rename_i b
  refine ⟨b, rfl, ?_⟩
  cases b with
  | true => exact iteT (k (r.out o1) w1 fun v2 d2 N2 H2 w2 o2 hd2 => q _ _ _ _ w2 (o1.trans o2) hd2)
  | false => exact iteF (q _ _ _ _ w1 o1 (.bl false))
def wIf (w : WB) (wa wb : WE) : WE := fun ε N R => w ε N fun b N1 => match b with
  | true => wa ε N1 R
  | false => wb ε N1 R
def wIfT (w : WB) (wa wb : WT) : WT := fun ε N R => w ε N fun b N1 => match b with
  | true => wa ε N1 R
  | false => wb ε N1 R
theorem Nw.back {c : Base} {bs A : List Addr} {H H1 H2 : Hp} {v : V} {t : T} {N : Nat} (o : Out c H H1 N) (n : Nw bs A H1 H2 v t) : Nw bs A H H2 v t := ⟨n.rep, n.nd, fun a ha => by
  have e := n.new a ha
  by_cases hb : a ∈ c.b
  · exact absurd e (o.box a hb).is
  · cases e2 : H a with
    | none => rfl
    | some x => rw [out_get o hb e2] at e; cases e⟩
theorem sim_ifT {ta tb : TE} {wa wb : WT} (h : SimB t w) (ha : SimT ta wa) (hb : SimT tb wb) : SimT (tIf t ta tb) (wIfT w wa wb) := fun {c bs F σ H ε N R Q} r ww q => h r ww fun b N1 H1 w1 o1 => by
  cases b with
  | true => exact iteT (ha (r.out o1) w1 fun v2 d2 A N2 H2 w2 o2 n => q _ _ _ _ _ w2 (o1.trans o2) (n.back o1))
  | false => exact iteF (hb (r.out o1) w1 fun v2 d2 A N2 H2 w2 o2 n => q _ _ _ _ _ w2 (o1.trans o2) (n.back o1))
/-- a op b op c -/
def wChain (o o' : O2) (wa wb wc : WE) : WE := fun ε N R => wa ε N fun d N1 => wb ε N1 fun e N2 => o d e fun f => match f with
  | .bool true => wc ε N2 fun g N3 => o' e g fun f => R f N3
  | .bool false => R (.bool false) N2
  | _ => False
/-! ### displays -/
def wLst (wa : WA) : WE := fun ε N R => wa ε N fun ds N1 => ds.length ≤ 100000 ∧ R (.list ds) N1
def wTup (wa : WA) : WE := fun ε N R => wa ε N fun ds N1 => ds.length ≤ 100000 ∧ R (.tuple ds) N1
theorem sim_lst (h : SimA tas was) : SimE (tLst tas) (wLst was) := fun r w q => h r w fun vs ds N1 H1 w1 o1 hd => ⟨by rw [hd.len]; exact Nat.le_trans w1.1 (by decide), fun p np =>
  q _ _ N1 _ w1.2 (o1.ext (Ex.new np)) (.lst (by rw [hid_out ((out_live o1 r.live).out np), upd_same]) (hd.mono (same_hid (Ex.new np))))⟩
theorem sim_tup (h : SimA tas was) : SimE (tTup tas) (wTup was) := fun r w q => h r w fun vs ds N1 H1 w1 o1 hd => ⟨by rw [hd.len]; exact Nat.le_trans w1.1 (by decide), fun p np =>
  q _ _ N1 _ w1.2 (o1.ext (Ex.new np)) (.tup (by rw [hid_out ((out_live o1 r.live).out np), upd_same]) (hd.mono (same_hid (Ex.new np))))⟩
def wNilT : WTs := fun _ N R => R [] N
end
end Cg

set_option Elab.async false
set_option linter.all false
set_option maxRecDepth 100000
set_option maxHeartbeats 1000000
namespace Cg
open PySem PySem.Spec PyProof.Rows L2 Evl
section
variable {ta tb tc te : TE} {wa wb wc we : WE} {t u : TT} {w w' : WB} {tas : TA} {was : WA} {c : Base} {bs F A B : List Addr} {σ : L2.St} {H H1 H2 H' : Hp} {ε : Env} {N N1 N2 : Nat}
/-! ### lists of what is its own -/
theorem mem3 {A B C : List Addr} {a : Addr} (h : a ∈ A ++ B ++ C) : a ∈ B ++ (A ++ C) := by
  rcases List.mem_append.mp h with h | h
  · rcases List.mem_append.mp h with h | h
    · exact List.mem_append_right _ (List.mem_append_left _ h)
    · exact List.mem_append_left _ h
  · exact List.mem_append_right _ (List.mem_append_right _ h)
theorem NwL.cons {v : V} {tt : T} {vs : List V} {ts : List T} (r : Rel c bs F σ H ε N) (k1 : Out c H H1 N1) (n : Nw bs A H H1 v tt) (k : Out c H1 H2 N2) (q : NwL (A ++ bs) B H1 H2 vs ts) : NwL bs (A ++ B) H H2 (v :: vs) (tt :: ts) := by
  have r1 := r.hide k1 n.new n.rep.own
  have nb : ∀ a ∈ A, a ∉ c.b := fun a ha z => r.live a (r.bin a z) (n.new a ha)
  have hAB := side (own_some n.rep.own) q.new
  have hk : ∀ a, H1 a = none → H a = none := fun a e => by
    by_cases hb : a ∈ c.b
    · exact absurd e (k1.box a hb).is
    · cases e2 : H a with
      | none => rfl
      | some o => rw [out_get k1 hb e2] at e; cases e
  have e1 : Same (hid (A ++ bs) H1) (hid (A ++ B ++ bs) H2) := fun a o e => by
    have := vis_step (bs := A ++ bs) k (fun a ha => List.mem_append_right _ (r.bin a ha)) q.new a o e
    obtain ⟨h1, h2⟩ := hid_some this
    rw [hid_out fun z => h1 (mem3 z)]
    exact h2
  have ra : Rep (A ++ B ++ bs) H2 v tt A := Rep.chg r1.nt e1 (fun a ha o e => out_get k (nb a ha) e) n.rep
  have r2 := r1.hide k q.new q.rep.own
  have rb : RepL (A ++ B ++ bs) H2 vs ts B := RepL.perm r2.nt (fun a z => mem3 z) q.rep
  exact ⟨.cons ra rb, nodup_app n.nd q.nd hAB, fun a ha => (List.mem_append.mp ha).elim (n.new a) fun h => hk a (q.new a h)⟩
def wConsT (w : WT) (ws : WTs) : WTs := fun ε N R => w ε N fun t N1 => ws ε N1 fun ts N2 => R (t :: ts) N2
theorem sim_nilT : SimTs tNil wNilT := fun r h q => q _ _ [] _ _ h r.self .nil
theorem sim_consT {wt : WT} {ws : WTs} (h : SimT te wt) (k : SimTs tas ws) : SimTs (tCons te tas) (wConsT wt ws) := fun r w q => h r w fun v t A N1 H1 w1 o1 n => k (r.hide o1 n.new n.rep.own) w1 fun vs ts B N2 H2 w2 o2 n2 =>
  q (v :: vs) (t :: ts) (A ++ B) N2 H2 w2 (o1.trans o2) (NwL.cons r o1 n o2 n2)
/-- a new list of them -/
theorem Nw.lst {vs : List V} {ts : List T} {p : Addr} (r : Rel c bs F σ H ε N) (o : Out c H H1 N1) (n : NwL bs A H H1 vs ts) (np : H1 p = none) : Nw bs (p :: A) H (upd H1 p (.lst vs)) (.ref p) (.lst ts) := by
  have hk : ∀ a, H1 a = none → H a = none := fun a e => by
    by_cases hb : a ∈ c.b
    · exact absurd e (o.box a hb).is
    · cases e2 : H a with
      | none => rfl
      | some x => rw [out_get o hb e2] at e; cases e
  have r1 := r.hide o n.new n.rep.own
  have pA : p ∉ A := fun z => own_some n.rep.own p z np
  refine ⟨.lst upd_same (RepL.chg r1.nt ?_ (fun a ha x e => ?_) n.rep), List.nodup_cons.mpr ⟨pA, n.nd⟩, fun a ha => ?_⟩
  · intro a x e
    obtain ⟨h1, h2⟩ := hid_some e
    have hne : a ≠ p := ne_of_none h2 np
    show hid (p :: (A ++ bs)) (upd H1 p (HO.lst vs)) a = some x
    rw [hid_out (fun z => (List.mem_cons.mp z).elim hne h1), upd_ne hne]
    exact h2
  · rw [upd_ne (ne_of_none e np)]
    exact e
  · rcases List.mem_cons.mp ha with rfl | ha
    · exact hk _ np
    · exact n.new a ha
def wLstT (ws : WTs) : WT := fun ε N R => ws ε N fun ts N1 => ts.length ≤ 100000 ∧ R (.lst ts) N1
theorem sim_lstT {ws : WTs} (h : SimTs tas ws) : SimT (tLst tas) (wLstT ws) := fun r w q => h r w fun vs ts A N1 H1 w1 o1 n => ⟨by rw [n.rep.len]; exact Nat.le_trans w1.1 (by decide), fun p np =>
  q _ _ (p :: A) N1 _ w1.2 (o1.ext (Ex.new np)) (Nw.lst r o1 n np)⟩
def wTupT (ws : WTs) : WT := fun ε N R => ws ε N fun ts N1 => ts.length ≤ 100000 ∧ R (.tup ts) N1
theorem Nw.tup {vs : List V} {ts : List T} {p : Addr} (r : Rel c bs F σ H ε N) (o : Out c H H1 N1) (n : NwL bs A H H1 vs ts) (np : H1 p = none) : Nw bs A H (upd H1 p (.tup vs)) (.ref p) (.tup ts) := by
  have r1 := r.hide o n.new n.rep.own
  refine ⟨.tup upd_same (RepL.chg r1.nt (same_hid (Ex.new np)) (fun a ha x e => ?_) n.rep), n.nd, n.new⟩
  rw [upd_ne (ne_of_none e np)]
  exact e
theorem sim_tupT {ws : WTs} (h : SimTs tas ws) : SimT (tTup tas) (wTupT ws) := fun r w q => h r w fun vs ts A N1 H1 w1 o1 n => ⟨by rw [n.rep.len]; exact Nat.le_trans w1.1 (by decide), fun p np =>
  q _ _ A N1 _ w1.2 (o1.ext (Ex.new np)) (Nw.tup r o1 n np)⟩
/-- a new list of shared data -/
theorem Nw.shs {xs : List V} {ds : List PyData} {p : Addr} (o : Out c H H1 N1) (hd : DqAll (hid bs H1) xs ds) (np : H1 p = none) : Nw bs [p] H (upd H1 p (.lst xs)) (.ref p) (.lst (ds.map T.sh)) := by
  have hk : H p = none := by
    by_cases hb : p ∈ c.b
    · exact absurd np (o.box p hb).is
    · cases e2 : H p with
      | none => rfl
      | some x => rw [out_get o hb e2] at np; cases np
  exact ⟨.lst upd_same (RepL.shs (hd.mono (hid_fresh np))), List.nodup_cons.mpr ⟨List.not_mem_nil, List.nodup_nil⟩, fun a ha => by rw [List.mem_singleton.mp ha]; exact hk⟩
def wOpT (o : PyData → PyData → (List PyData → Prop) → Prop) (wa wb : WE) : WT := fun ε N R => wa ε N fun d N1 => wb ε N1 fun e N2 => o d e fun ds => R (.lst (ds.map T.sh)) N2
theorem OpN.weak {r r' : R2} {o : PyData → PyData → (List PyData → Prop) → Prop} (h : OpN r o) (k : ∀ x y H Q, r x y H Q → r' x y H Q) : OpN r' o := fun l hx hy w q => k _ _ _ _ (h l hx hy w q)
/-! ### calls of built-ins -/
abbrev OC := List PyData → (PyData → Prop) → Prop
def CbD (r : List V → Hp → VK → Prop) (o : OC) : Prop := ∀ {hs : List Addr} {H : Hp} {xs : List V} {ds : List PyData} {S : PyData → Prop} {Q : VK}, Live hs H → DqAll (hid hs H) xs ds → o ds S → (∀ z f H', S f → Same H H' → Dq (hid hs H') z f → Q z H') → r xs H Q
def wCb (o : OC) (was : WA) : WE := fun ε N R => was ε N fun ds N1 => o ds fun f => R f N1
theorem sim_cb {r : List V → Hp → VK → Prop} {o : OC} (ho : CbD r o) (ha : SimA tas was) : SimE (tCB r tas) (wCb o was) := fun rl w q => ha rl w fun vs ds N1 H1 w1 o1 hd => ho (out_live o1 rl.live) hd w1 fun z f H3 hS e3 hz => q z f N1 H3 hS (o1.ext e3) hz
def CbN (r : List V → Hp → VK → Prop) (o : List PyData → (List PyData → Prop) → Prop) : Prop := ∀ {hs : List Addr} {H : Hp} {xs : List V} {ds : List PyData} {S : List PyData → Prop} {Q : VK}, Live hs H → DqAll (hid hs H) xs ds → o ds S → (∀ p ys es, S es → H p = none → DqAll (hid hs H) ys es → Q (.ref p) (upd H p (.lst ys))) → r xs H Q
theorem CbN.d {r : List V → Hp → VK → Prop} {o : List PyData → (List PyData → Prop) → Prop} (h : CbN r o) : CbD r (fun ds S => o ds fun es => S (.list es)) := fun l hx w q => h l hx w fun p xs ds hS np hd =>
  q _ _ _ hS (Ex.new np) (.lst (by rw [hid_out (l.out np), upd_same]) (hd.mono (same_hid (Ex.new np))))
def wCbT (o : List PyData → (List PyData → Prop) → Prop) (was : WA) : WT := fun ε N R => was ε N fun ds N1 => o ds fun es => R (.lst (es.map T.sh)) N1
theorem dq1 {H : Hp} {xs : List V} {d : PyData} (h : DqAll H xs [d]) : ∃ v, xs = [v] ∧ Dq H v d := by
  cases h with
  | cons h t => cases t with
    | nil => exact ⟨_, rfl, h⟩
theorem dq2 {H : Hp} {xs : List V} {d e : PyData} (h : DqAll H xs [d, e]) : ∃ v u, xs = [v, u] ∧ Dq H v d ∧ Dq H u e := by
  cases h with
  | cons h t =>
    obtain ⟨u, rfl, hu⟩ := dq1 t
    exact ⟨_, _, rfl, h, hu⟩
def oLen : OC
  | [d], S => match seqOf d with
    | some ds => S (.int ds.length)
    | none => False
  | _, _ => False
theorem cb_len {K : PySem.W.Frag} : CbD (rLenS K) oLen := fun {hs H xs ds S Q} l hx w q => by
  match ds, w with
  | [d], w =>
    obtain ⟨v, rfl, hv⟩ := dq1 hx
    have w' : (match seqOf d with | some ds => S (.int ds.length) | none => False) := w
    split at w'
    · rename_i es he
      obtain ⟨a, ys, rfl, hs1, h1⟩ := hv.seqOf (K := K) he
      exact ⟨a, ys, rfl, hs1 hid_same, q _ _ H w' (Same.refl _) (by rw [h1.len]; exact .int _)⟩
    · exact w'.elim
def oInt : OC
  | [.int i], S => S (.int i)
  | [.bool b], S => S (.int (if b then 1 else 0))
  | _, _ => False
theorem cb_int : CbD (fun xs H Q => (∃ i, xs = [.int i] ∧ Q (.int i) H) ∨ ∃ k, xs = [.bl k] ∧ Q (.int (if k then 1 else 0)) H) oInt := fun {hs H xs ds S Q} l hx w q => by
  match ds, w with
  | [.int i], w =>
    obtain ⟨v, rfl, hv⟩ := dq1 hx
    cases hv
    exact .inl ⟨_, rfl, q _ _ H w (Same.refl _) (.int _)⟩
  | [.bool b], w =>
    obtain ⟨v, rfl, hv⟩ := dq1 hx
    cases hv
    exact .inr ⟨_, rfl, q _ _ H w (Same.refl _) (.int _)⟩
def oAbs : OC
  | [.int i], S => S (.int (if i < 0 then -i else i))
  | _, _ => False
def oMin2 : OC
  | [.int i, .int j], S => S (.int (if j < i then j else i))
  | _, _ => False
def oMax2 : OC
  | [.int i, .int j], S => S (.int (if j > i then j else i))
  | _, _ => False
theorem cb_min2 : CbD (fun xs H Q => ∃ i j, xs = [.int i, .int j] ∧ Q (.int (if j < i then j else i)) H) oMin2 := fun {hs H xs ds S Q} l hx w q => by
  match ds, w with
  | [.int i, .int j], w =>
    obtain ⟨v, u, rfl, hv, hu⟩ := dq2 hx
    cases hv
    cases hu
    exact ⟨_, _, rfl, q _ _ H w (Same.refl _) (.int _)⟩
def boolsOf : List PyData → Option (List Bool)
  | [] => some []
  | .bool i :: r => (boolsOf r).map (i :: ·)
  | _ :: _ => none
theorem boolsOf_map : ∀ ns : List Bool, boolsOf (ns.map PyData.bool) = some ns
  | [] => rfl
  | n :: r => by
    show (boolsOf (r.map PyData.bool)).map (n :: ·) = _
    rw [boolsOf_map r]
    rfl
def oAll : OC
  | [.list ds], S => match boolsOf ds with
    | some bs => S (.bool (bs.all id))
    | none => False
  | _, _ => False
def oSum : OC
  | [.list ds], S => match intsOf ds with
    | some ns => S (.int ns.sum)
    | none => False
  | _, _ => False
theorem ints_of {H : Hp} {xs : List V} {ds : List PyData} {ns : List Int} (h : DqAll H xs ds) (e : intsOf ds = some ns) : xs = ns.map V.int := by
  rw [intsOf_some e] at h
  exact ints_inv h
def oList : List PyData → (List PyData → Prop) → Prop
  | [d], S => match seqOf d with
    | some ds => S ds
    | none => False
  | _, _ => False
def oListD : OC := fun ds S => oList ds fun es => S (.list es)
def oTuple : OC
  | [d], S => match seqOf d with
    | some ds => S (.tuple ds)
    | none => False
  | _, _ => False
theorem cb_tuple {K : PySem.W.Frag} : CbD (rTupS K) oTuple := fun {hs H xs ds S Q} l hx w q => by
  match ds, w with
  | [d], w =>
    obtain ⟨v, rfl, hv⟩ := dq1 hx
    cases hv <;> first | exact False.elim w | skip
    · rename_i a ys es e1 h1
      exact ⟨a, ys, rfl, .inl ⟨SqL.of (hid_some e1).2, fun p np => q _ _ _ w (Ex.new np) (.tup (by rw [hid_out (l.out np), upd_same]) (h1.mono (same_hid (Ex.new np))))⟩⟩
    · rename_i a ys es e1 h1
      exact ⟨a, ys, rfl, .inr ⟨SqT.of (hid_some e1).2, q _ _ H w (Same.refl _) (.tup e1 h1)⟩⟩
def oRepr : OC
  | [d], S => (okD d = true ∧ d.depth ≤ 40 ∧ wz d ≤ 1000000) ∧ S (.str d.shown)
  | _, _ => False
theorem cb_repr {K : PySem.W.Frag} : CbD (rReprD K) oRepr := fun {hs H xs ds S Q} l hx w q => by
  match ds, w with
  | [d], w =>
    obtain ⟨v, rfl, hv⟩ := dq1 hx
    exact ⟨v, d, rfl, (dq_vis hv).dp (noD_ok w.1.1), w.1.1, w.1.2.1, Nat.le_trans w.1.2.2 (by decide), q _ _ H w.2 (Same.refl _) (.str _)⟩
/-! isinstance -/
def wIs (f : PyData → Bool) (wa : WE) : WE := fun ε N R => wa ε N fun d N1 => notI d = true ∧ R (.bool (f d)) N1
/-! list(range(n)) -/
def wRgL (wa : WE) : WT := fun ε N R => wa ε N fun d N1 => match d with
  | .int n => (0 ≤ n ∧ n ≤ 100000) ∧ R (.lst ((List.range n.toNat).map fun (k : Nat) => T.sh (.int (k : Int)))) N1
  | _ => False
/-! slices -/
abbrev WO := Env → Nat → (Option Int → Nat → Prop) → Prop
def SimO (to : TO) (wo : WO) : Prop := ∀ {c : Base} {bs F : List Addr} {σ : L2.St} {H : Hp} {ε : Env} {N : Nat} {R : Option Int → Nat → Prop} {Q : Option Int → Hp → Prop}, Rel c bs F σ H ε N → wo ε N R → (∀ x N' H', R x N' → Out c H H' N' → Q x H') → to σ H Q
def wNoPart : WO := fun _ N R => R none N
def wPart (we : WE) : WO := fun ε N R => we ε N fun d N1 => match d with
  | .int i => R (some i) N1
  | _ => False
theorem sim_noPart : SimO tNoPart wNoPart := fun r w q => q _ _ _ w r.self
theorem sim_part (h : SimE te we) : SimO (tPart te) (wPart we) := fun r w q => h r w fun v d N1 H1 w1 o1 hd => by
  cases hd <;> first | exact False.elim w1 | exact ⟨_, rfl, q _ N1 H1 w1 o1⟩
def wSl (we : WE) (wl wh : WO) : WE := fun ε N R => we ε N fun d N1 => wl ε N1 fun lo N2 => wh ε N2 fun hi N3 => match d with
  | .list a => R (.list (cutG a lo hi)) N3
  | _ => False
def wSlT (we : WE) (wl wh : WO) : WT := fun ε N R => we ε N fun d N1 => wl ε N1 fun lo N2 => wh ε N2 fun hi N3 => match d with
  | .list a => R (.lst ((cutG a lo hi).map T.sh)) N3
  | _ => False
/-- xs[::-1] -/
def wRevT (we : WE) : WT := fun ε N R => we ε N fun d N1 => match d with
  | .list a => R (.lst (a.reverse.map T.sh)) N1
  | _ => False
/-! methods that tell something -/
def BmD (r : V → List V → Hp → VK → Prop) (o : PyData → List PyData → (PyData → Prop) → Prop) : Prop := ∀ {hs : List Addr} {H : Hp} {x : V} {xs : List V} {d : PyData} {ds : List PyData} {S : PyData → Prop} {Q : VK}, Live hs H → Dq (hid hs H) x d → DqAll (hid hs H) xs ds → o d ds S → (∀ z f H', S f → Same H H' → Dq (hid hs H') z f → Q z H') → r x xs H Q
theorem tyV_dq {K : PySem.W.Frag} {H : Hp} {v : V} {d : PyData} (h : Dq H v d) (hl : isList d = true) : tyV K "list" v H := by
  cases h <;> first | cases hl | skip
  rename_i e1 h1
  exact .inl ⟨rfl, _, SqL.of e1⟩
def wBmL (o : PyData → List PyData → (PyData → Prop) → Prop) (wa : WE) (was : WA) : WE := fun ε N R => wa ε N fun d N1 => isList d = true ∧ was ε N1 fun ds N2 => o d ds fun f => R f N2
theorem sim_bmL {K : PySem.W.Frag} {r : V → List V → Hp → VK → Prop} {o : PyData → List PyData → (PyData → Prop) → Prop} (ho : BmD r o) (ha : SimE ta wa) (hs : SimA tas was) : SimE (tBM K "list" r ta tas) (wBmL o wa was) := fun rl w q => ha rl w fun v d N1 H1 w1 o1 hd =>
  ⟨tyV_dq (dq_vis hd) w1.1, hs (rl.out o1) w1.2 fun vs ds N2 H2 w2 o2 hds => ho (out_live (o1.trans o2) rl.live) (out_dq o2 rl.bin hd) hds w2 fun z f H3 hS e3 hz => q z f N2 H3 hS ((o1.trans o2).ext e3) hz⟩
/-! ### a reading that is one of two -/
end
end Cg

set_option Elab.async false
set_option linter.all false
set_option maxRecDepth 100000
set_option maxHeartbeats 1000000
namespace Cg
open PySem PySem.Spec PyProof.Rows L2 Evl
/-! ### what is walked -/
structure Yl (hs : List Addr) (J : It) (ds : List PyData) (H : Hp) : Prop where
  go : ∀ k H' gs, k < ds.length → Same (hid hs H) (hid gs H') → J.go k H'
  stop : ∀ H' gs, Same (hid hs H) (hid gs H') → J.stop ds.length H'
  yld : ∀ k x H' H'' gs, k < ds.length → Same (hid hs H) (hid gs H') → Live gs H' → J.yld k H' x H'' → Same H' H'' ∧ ∃ d, ds[k]? = some d ∧ Dq (hid gs H'') x d
abbrev WI := Env → Nat → (List PyData → Nat → Prop) → Prop
def SimI (ti : TI) (wi : WI) : Prop := ∀ {c : Base} {bs F : List Addr} {σ : L2.St} {H : Hp} {ε : Env} {N : Nat} {R : List PyData → Nat → Prop} {Q : It → Hp → Prop}, Rel c bs F σ H ε N → wi ε N R → (∀ J ds N' H', R ds N' → Out c H H' N' → Yl bs J ds H' → Q J H') → ti σ H Q
section
variable {ta tb tc te : TE} {wa wb wc we : WE} {t u : TT} {w w' : WB} {tas : TA} {was : WA} {c : Base} {bs F A B hs : List Addr} {σ : L2.St} {H H1 H2 H' : Hp} {ε : Env} {N N1 N2 : Nat}
theorem yl_lt {xs : List V} {ds : List PyData} {k : Nat} (h : DqAll H xs ds) (hk : k < ds.length) : ∃ x, xs[k]? = some x := ⟨_, List.getElem?_eq_getElem (by rw [h.len]; exact hk)⟩
theorem yl_list {K : PySem.W.Frag} {a : Addr} {xs : List V} {ds : List PyData} (e : hid hs H a = some (.lst xs)) (h : DqAll (hid hs H) xs ds) : Yl hs (Itl K a) ds H := by
  have at' : ∀ H' gs, Same (hid hs H) (hid gs H') → SqL K H' a xs := fun H' gs k => SqL.of (hid_some (k _ _ e)).2
  refine ⟨fun k H' gs hk kp => ?_, fun H' gs kp => ⟨xs, at' H' gs kp, by rw [h.len]; exact Nat.le_refl _⟩, fun k x H' H'' gs hk kp _ y => ?_⟩
  · obtain ⟨x, hx⟩ := yl_lt h hk
    exact ⟨xs, x, at' H' gs kp, hx⟩
  · obtain ⟨rfl, hx⟩ := y
    obtain ⟨d, h1, h2⟩ := h.get (hx xs (at' _ gs kp))
    exact ⟨Same.refl _, d, h1, h2.mono kp⟩
theorem yl_tup {K : PySem.W.Frag} {a : Addr} {xs : List V} {ds : List PyData} (e : hid hs H a = some (.tup xs)) (h : DqAll (hid hs H) xs ds) : Yl hs (Itt K a) ds H := by
  have at' : ∀ H' gs, Same (hid hs H) (hid gs H') → SqT K H' a xs := fun H' gs k => SqT.of (hid_some (k _ _ e)).2
  refine ⟨fun k H' gs hk kp => ?_, fun H' gs kp => ⟨xs, at' H' gs kp, by rw [h.len]; exact Nat.le_refl _⟩, fun k x H' H'' gs hk kp _ y => ?_⟩
  · obtain ⟨x, hx⟩ := yl_lt h hk
    exact ⟨xs, x, at' H' gs kp, hx⟩
  · obtain ⟨rfl, hx⟩ := y
    obtain ⟨d, h1, h2⟩ := h.get (hx xs (at' _ gs kp))
    exact ⟨Same.refl _, d, h1, h2.mono kp⟩
/-- for x in a list or a tuple -/
def iSeq (K : PySem.W.Frag) (tl : TE) : TI := fun σ H R => tl σ H fun x H1 => ∃ a, x = .ref a ∧ (((∃ xs, SqL K H1 a xs) ∧ R (Itl K a) H1) ∨ ((∃ xs, SqT K H1 a xs) ∧ R (Itt K a) H1))
theorem pi_seq {X : Cx} (K : PySem.W.Frag) {tg l : Expr} {tl : TE} (hl : PE X l tl) (hK : X.K = K := by rfl) : PI X tg l (iSeq K tl) := by
  subst hK
  refine ⟨fun pins s σ H R I h => ?_⟩
  refine thn (hl.run pins s σ H _ I h) fun v s1 ⟨x, H1, I1, r1, q1⟩ => ?_
  obtain ⟨a, e, ⟨⟨xs, hq⟩, q⟩ | ⟨⟨xs, hq⟩, q⟩⟩ := q1
  · subst e
    cases r1
    obtain ⟨its, rv, p, hz⟩ := I1.list hq
    refine wpAny_pyIter_list p.isList ?_
    refine ⟨s1.heap.objs.size, [s1.heap.objs.size], _, _, H1, rfl, I1.kept (t' := s1.toks) fun b o e => Heap.get?_push_of_some _ e, turn_list a _, ⟨_, Heap.get?_push_size _ rfl, rfl, rfl⟩, fun b hb => ?_, q⟩
    have e : b = s1.heap.objs.size := by simpa using hb
    subst e
    exact I1.fpOk (Nat.le_refl _) (I1.hok.fresh (Nat.le_refl _))
  · subst e
    cases r1
    obtain ⟨its, rv, p, hz⟩ := I1.tuple hq
    refine wpAny_pyIter_tuple (show s1.heap.IsTuple a its.toArray from p) ?_
    refine ⟨s1.heap.objs.size, [s1.heap.objs.size], _, _, H1, rfl, I1.kept (t' := s1.toks) fun b o e => Heap.get?_push_of_some _ e, turn_tuple a _, ⟨_, Heap.get?_push_size _ rfl, rfl, rfl⟩, fun b hb => ?_, q⟩
    have e : b = s1.heap.objs.size := by simpa using hb
    subst e
    exact I1.fpOk (Nat.le_refl _) (I1.hok.fresh (Nat.le_refl _))
def wIt (we : WE) : WI := fun ε N R => we ε N fun d N1 => match seqOf d with
  | some ds => R ds N1
  | none => False
theorem sim_it {K : PySem.W.Frag} (h : SimE te we) : SimI (iSeq K te) (wIt we) := fun {c bs F σ H ε N R Q} r w q => h r w fun v d N1 H1 w1 o1 hd => by
  cases hd <;> first | exact False.elim w1 | skip
  · rename_i a xs ds e1 h1
    exact ⟨a, rfl, .inl ⟨⟨xs, SqL.of (hid_some e1).2⟩, q _ _ N1 H1 w1 o1 (yl_list e1 h1)⟩⟩
  · rename_i a xs ds e1 h1
    exact ⟨a, rfl, .inr ⟨⟨xs, SqT.of (hid_some e1).2⟩, q _ _ N1 H1 w1 o1 (yl_tup e1 h1)⟩⟩
def rngD (lo : Int) (n : Nat) : List PyData := (List.range n).map fun (k : Nat) => PyData.int (lo + (k : Int))
theorem rngD_len (lo : Int) (n : Nat) : (rngD lo n).length = n := by unfold rngD; rw [List.length_map, List.length_range]
theorem rngD_at {lo : Int} {n k : Nat} (h : k < n) : (rngD lo n)[k]? = some (.int (lo + (k : Int))) := by
  unfold rngD
  rw [List.getElem?_map, List.getElem?_range h]
  rfl
theorem rng_get {lo : Int} {n k : Nat} {d : PyData} (h : (rngD lo n)[k]? = some d) : k < n ∧ d = .int (lo + (k : Int)) := by
  have hk : k < n := by
    have := (List.getElem?_eq_some_iff.mp h).1
    rw [rngD_len] at this
    exact this
  rw [rngD_at hk] at h
  exact ⟨hk, (Option.some.inj h).symm⟩
theorem yl_rng (lo : Int) (n : Nat) : Yl hs (Itr lo n) (rngD lo n) H := by
  refine ⟨fun k H' _ hk _ => by rw [rngD_len] at hk; exact hk, fun H' _ _ => by rw [rngD_len]; exact Nat.le_refl _, fun k x H' H'' _ hk _ _ y => ?_⟩
  rw [rngD_len] at hk
  obtain ⟨rfl, rfl⟩ := y
  exact ⟨Same.refl _, _, rngD_at hk, .int _⟩
theorem sim_rng1 (h : SimE te we) : SimI (iRng1 (tCons te tNil)) (fun ε N R => we ε N fun d N1 => match d with
    | .int n => (-1000000 ≤ n ∧ n ≤ 1000000) ∧ R (rngD 0 n.toNat) N1
    | _ => False) := fun {c bs F σ H ε N R Q} r w q => h r w fun v d N1 H1 w1 o1 hd => by
  cases hd <;> first | exact False.elim w1 | skip
  obtain ⟨⟨h1, h2⟩, w2⟩ := w1
  exact ⟨_, rfl, by omega, by omega, q _ _ N1 H1 w2 o1 (yl_rng 0 _)⟩
def wRng1 (we : WE) : WI := fun ε N R => we ε N fun d N1 => match d with
  | .int n => (-1000000 ≤ n ∧ n ≤ 1000000) ∧ R (rngD 0 n.toNat) N1
  | _ => False
theorem sim_r1 (h : SimE te we) : SimI (iRng1 (tCons te tNil)) (wRng1 we) := sim_rng1 h
/-- enumerate(xs) -/
def enumD (ds : List PyData) : List PyData := ds.mapIdx fun k d => .tuple [.int (k : Nat), d]
theorem enumD_len (ds : List PyData) : (enumD ds).length = ds.length := List.length_mapIdx
theorem enumD_at {ds : List PyData} {k : Nat} {d : PyData} (h : ds[k]? = some d) : (enumD ds)[k]? = some (.tuple [.int (k : Nat), d]) := by
  unfold enumD
  rw [List.getElem?_mapIdx, h]
  rfl
def wEnum (we : WE) : WI := fun ε N R => we ε N fun d N1 => match seqOf d with
  | some ds => R (enumD ds) N1
  | none => False
theorem yl_enum {K : PySem.W.Frag} {kd : Bool} {a : Addr} {xs : List V} {ds : List PyData} (hq : ∀ H' gs, Same (hid hs H) (hid gs H') → SqK kd K H' a xs) (h : DqAll (hid hs H) xs ds) : Yl hs (ItE K kd a xs) (enumD ds) H := by
  have hl := h.len
  refine ⟨fun k H' gs hk kp => ⟨hq H' gs kp, by rw [enumD_len] at hk; rw [hl]; exact hk⟩, fun H' gs kp => ⟨hq H' gs kp, by rw [enumD_len, hl]; exact Nat.le_refl _⟩, fun k x H' H'' gs hk kp lv y => ?_⟩
  obtain ⟨T, rfl, hT, rfl⟩ := y
  rw [enumD_len] at hk
  have hx : xs[k]? = some (xs.getD k .non) := by rw [List.getD_eq_getElem?_getD, List.getElem?_eq_getElem (by rw [hl]; exact hk)]; rfl
  obtain ⟨d, h1, h2⟩ := h.get hx
  refine ⟨Ex.new hT, _, enumD_at h1, .tup (by rw [hid_out (lv.out hT), upd_same]) (.cons (.int _) (.cons ?_ .nil))⟩
  exact (h2.mono kp).mono (same_hid (Ex.new hT))
theorem sim_enum {K : PySem.W.Frag} (h : SimE te we) : SimI (iEnumK K (tCons te tNil)) (wEnum we) := fun {c bs F σ H ε N R Q} r w q => h r w fun v d N1 H1 w1 o1 hd => by
  cases hd <;> first | exact False.elim w1 | skip
  · rename_i a xs ds e1 h1
    exact ⟨true, a, xs, rfl, SqL.of (hid_some e1).2, q _ _ N1 H1 w1 o1 (yl_enum (fun H' gs kp => SqL.of (hid_some (kp _ _ e1)).2) h1)⟩
  · rename_i a xs ds e1 h1
    exact ⟨false, a, xs, rfl, SqT.of (hid_some e1).2, q _ _ N1 H1 w1 o1 (yl_enum (fun H' gs kp => SqT.of (hid_some (kp _ _ e1)).2) h1)⟩
theorem wipe_get (σ : L2.St) (i : Nat) : ∀ vs : List Nat, (L2.wipe σ vs)[i]? = if i ∈ vs then σ[i]?.map (fun _ => none) else σ[i]?
  | [] => by simp [L2.wipe]
  | v :: vs => by
    show ((L2.wipe σ vs).set v none)[i]? = _
    rw [List.getElem?_set]
    have ih := wipe_get σ i vs
    by_cases h : v = i
    · subst h
      rw [if_pos rfl, if_pos (List.mem_cons_self ..), wipe_length]
      cases e : σ[v]? with
      | none => rw [if_neg (by have := List.getElem?_eq_none_iff.mp e; omega)]; rfl
      | some x => rw [if_pos (List.getElem?_eq_some_iff.mp e).1]; rfl
    · rw [if_neg h, ih]
      by_cases h2 : i ∈ vs
      · rw [if_pos h2, if_pos (List.mem_cons_of_mem _ h2)]
      · rw [if_neg h2, if_neg (fun z => (List.mem_cons.mp z).elim (fun e => h e.symm) h2)]
theorem wipe_set {σ : L2.St} {j : Nat} {x : Option V} {vs : List Nat} (h : j ∈ vs) : L2.wipe (σ.set j x) vs = L2.wipe σ vs := by
  apply List.ext_getElem?
  intro i
  rw [wipe_get, wipe_get]
  by_cases hi : i ∈ vs
  · rw [if_pos hi, if_pos hi]
    rw [List.getElem?_set]
    by_cases h2 : j = i
    · subst h2
      rw [if_pos rfl]
      cases e : σ[j]? with
      | none => rw [if_neg (by have := List.getElem?_eq_none_iff.mp e; omega)]
      | some y => rw [if_pos (List.getElem?_eq_some_iff.mp e).1]; rfl
    · rw [if_neg h2]
  · rw [if_neg hi, if_neg hi, List.getElem?_set, if_neg (fun (z : j = i) => hi (z ▸ h))]
theorem wipe_wipe (σ : L2.St) (vs : List Nat) : L2.wipe (L2.wipe σ vs) vs = L2.wipe σ vs := by
  apply List.ext_getElem?
  intro i
  rw [wipe_get, wipe_get]
  by_cases hi : i ∈ vs
  · rw [if_pos hi, if_pos hi]
    cases σ[i]? <;> rfl
  · rw [if_neg hi, if_neg hi]
/-! ### targets, given what is shared; their names are among vs -/
abbrev WG := PyData → Env → (Env → Prop) → Prop
abbrev WGs := List PyData → Env → (Env → Prop) → Prop
def SimG (vs : List Nat) (g : TG) (wg : WG) : Prop := ∀ {c : Base} {bs F : List Addr} {σ : L2.St} {H : Hp} {ε : Env} {N : Nat} {v : V} {d : PyData} {R : Env → Prop} {Q : L2.St → Hp → Prop}, Rel c bs F σ H ε N → Dq (hid bs H) v d → wg d ε R → (∀ F' σ' ε', Rel c bs F' σ' H ε' N → L2.wipe σ' vs = L2.wipe σ vs → R ε' → Q σ' H) → g v σ H Q
def SimGs (vs : List Nat) (g : TGs) (wg : WGs) : Prop := ∀ {c : Base} {bs F : List Addr} {σ : L2.St} {H : Hp} {ε : Env} {N : Nat} {us : List V} {ds : List PyData} {R : Env → Prop} {Q : L2.St → Hp → Prop}, Rel c bs F σ H ε N → DqAll (hid bs H) us ds → wg ds ε R → (∀ F' σ' ε', Rel c bs F' σ' H ε' N → L2.wipe σ' vs = L2.wipe σ vs → R ε' → Q σ' H) → g us σ H Q
def wName (i : Nat) : WG := fun d ε R => R (ε.set i (.is (.sh d)))
def wGNil : WGs := fun ds ε R => ds = [] ∧ R ε
def wGCons (g : WG) (gs : WGs) : WGs := fun ds ε R => match ds with
  | d :: r => g d ε fun ε' => gs r ε' R
  | [] => False
def wGTup (n : Nat) (gs : WGs) : WG := fun d ε R => match d with
  | .tuple ds => ds.length = n ∧ gs ds ε R
  | _ => False
variable {vs : List Nat}
theorem sim_name {i : Nat} (hi : i ∈ vs) : SimG vs (gName i) (wName i) := fun {c bs F σ H ε N v d R Q} r hd w q => by
  obtain ⟨F', r'⟩ := r.set (i := i) r.self (Nw.sh (H := H) hd)
  exact q F' _ _ r' (wipe_set hi) w
theorem sim_gnil : SimGs vs gNil wGNil := fun {c bs F σ H ε N us ds R Q} r hd w q => by
  obtain ⟨rfl, w⟩ := w
  cases hd
  exact ⟨rfl, q _ _ _ r rfl w⟩
theorem sim_gcons {g : TG} {gs : TGs} {wg : WG} {wgs : WGs} (h : SimG vs g wg) (k : SimGs vs gs wgs) : SimGs vs (gCons g gs) (wGCons wg wgs) := fun {c bs F σ H ε N us ds R Q} r hd w q => by
  cases hd with
  | nil => exact w.elim
  | cons h1 t1 => exact ⟨_, _, rfl, h r h1 w fun F' σ' ε' r' e' w' => k r' t1 w' fun F2 σ2 ε2 r2 e2 w2 => q F2 σ2 ε2 r2 (e2.trans e') w2⟩
theorem sim_gtup {K : PySem.W.Frag} {n : Nat} {gs : TGs} {wgs : WGs} (k : SimGs vs gs wgs) : SimG vs (gTup K n gs) (wGTup n wgs) := fun {c bs F σ H ε N v d R Q} r hd w q => by
  cases hd <;> first | exact False.elim w | skip
  rename_i a xs ds e1 h1
  exact ⟨a, xs, rfl, SqT.of (hid_some e1).2, by rw [h1.len]; exact w.1, k r h1 w.2 q⟩
/-! ### comprehensions -/
def wipeE (ε : Env) : List Nat → Env
  | [] => ε
  | v :: vs => (wipeE ε vs).set v .no
theorem set_no (r : Rel c bs F σ H ε N) (i : Nat) (x : Option V) : ∃ F', Rel c bs F' (σ.set i x) H (ε.set i .no) N := by
  cases hl : ε[i]? with
  | none =>
    have hs : σ[i]? = none := by
      rw [List.getElem?_eq_none_iff] at hl ⊢
      rw [r.env.len]
      exact hl
    rw [set_beyond hl, set_beyond hs]
    exact ⟨F, r⟩
  | some l =>
    obtain ⟨y, A0, F1, F2, q1, q2, rfl, q4⟩ := r.env.at hl
    have hm : ∀ a ∈ F1 ++ ([] ++ F2), a ∈ F1 ++ (A0 ++ F2) := fun a ha => by
      rcases List.mem_append.mp ha with h | h
      · exact List.mem_append_left _ h
      · exact List.mem_append_right _ (List.mem_append_right _ h)
    exact ⟨F1 ++ ([] ++ F2), q4 r.nt (Same.refl _) (fun _ _ _ e => e) .no, nodup_mid r.nd List.nodup_nil (fun _ z => nomatch z), fun a ha => r.sub a (hm a ha), fun a ha => r.off a (hm a ha), fun a ha => r.nb a (hm a ha), r.up, r.bb, r.offb, r.live, r.nt, r.box, r.pin, r.vis⟩
theorem rel_wipe (r : Rel c bs F σ H ε N) (vs : List Nat) : ∃ F', Rel c bs F' (L2.wipe σ vs) H (wipeE ε vs) N := by
  induction vs with
  | nil => exact ⟨F, r⟩
  | cons v vs ih =>
    obtain ⟨F', r'⟩ := ih
    exact set_no r' v none
theorem RepL.snoc' {us : List V} {ts : List T} {v : V} {t : T} {cs : List Addr} (rw1 : Rel c (A ++ cs) F σ H1 ε N1) (ra : RepL (A ++ cs) H1 us ts A) (nd : A.Nodup) (nb : ∀ a ∈ A, a ∉ c.b) (k : Out c H1 H2 N2) (q : Nw (A ++ cs) B H1 H2 v t) : RepL (A ++ B ++ cs) H2 (us ++ [v]) (ts ++ [t]) (A ++ B) ∧ (A ++ B).Nodup := by
  have hAB := side (own_some ra.own) q.new
  have e1 : Same (hid (A ++ cs) H1) (hid (A ++ B ++ cs) H2) := fun a o e => by
    have := vis_step (bs := A ++ cs) k rw1.bin q.new a o e
    obtain ⟨h1, h2⟩ := hid_some this
    rw [hid_out fun z => h1 (mem3 z)]
    exact h2
  have ra' : RepL (A ++ B ++ cs) H2 us ts A := RepL.chg rw1.nt e1 (fun a ha o e => out_get k (nb a ha) e) ra
  have r2 := rw1.hide k q.new q.rep.own
  have rb : Rep (A ++ B ++ cs) H2 v t B := Rep.perm r2.nt (fun a z => mem3 z) q.rep
  exact ⟨ra'.append (RepL.one rb), nodup_app nd q.nd hAB⟩
theorem out_none {a : Addr} (o : Out c H H1 N1) (e : H1 a = none) : H a = none := by
  by_cases hb : a ∈ c.b
  · exact absurd e (o.box a hb).is
  · cases e2 : H a with
    | none => rfl
    | some x => rw [out_get o hb e2] at e; cases e
/-- [e for x in .. if ..], each one its own -/
def wLcT (wi : WI) (wg : WG) (wt : WB) (w : WT) (vs : List Nat) : WT := fun ε N R => wi ε N fun ds N1 => ds.length ≤ 40000 ∧ ∃ I : Nat → List T → Nat → Prop, I 0 [] N1 ∧
  (∀ k d ts M, ds[k]? = some d → I k ts M → wg d (wipeE ε vs) fun ε2 => wt ε2 M fun b M2 => match b with
    | true => w ε2 M2 fun t M3 => I (k + 1) (ts ++ [t]) M3
    | false => I (k + 1) ts M2) ∧ ∀ ts M, I ds.length ts M → R (.lst ts) M
theorem sim_lcT {ti : TI} {wi : WI} {g : TG} {wg : WG} {tt : TT} {wt : WB} {te : TE} {w : WT} (hi : SimI ti wi) (hg : SimG vs g wg) (ht : SimB tt wt) (he : SimT te w) : SimT (tLc ti g tt te vs) (wLcT wi wg wt w vs) := fun {c bs F σ H ε N R Q} r ww q => hi r ww fun J ds N1 H1 w1 o1 Y D nD => by
  obtain ⟨hz, I, i0, step, fin⟩ := w1
  have r1 := r.out o1
  have Dbs : D ∉ bs := r1.live.out nD
  have Db : D ∉ c.b := fun z => Dbs (r.bin D z)
  -- what stands at each turn
  let Pv : Nat → Hp → Prop := fun k H' => ∃ (acc : List V) (ts : List T) (A : List Addr) (M : Nat), H' D = some (.lst acc) ∧ I k ts M ∧ ts.length ≤ k ∧ Out c H1 H' M ∧ RepL (A ++ (D :: bs)) H' acc ts A ∧ A.Nodup ∧ (∀ a ∈ A, H1 a = none) ∧ D ∉ A
  have world : ∀ {k : Nat} {H' : Hp} {acc : List V} {ts : List T} {A : List Addr} {M : Nat}, H' D = some (.lst acc) → Out c H1 H' M → RepL (A ++ (D :: bs)) H' acc ts A → (∀ a ∈ A, H1 a = none) → Rel c (A ++ (D :: bs)) F σ H' ε M := fun {k H' acc ts A M} hD o ra hn => by
    have := r1.hide (A := A ++ [D]) o (fun a ha => (List.mem_append.mp ha).elim (hn a) fun h => by rw [List.mem_singleton.mp h]; exact nD) (fun a ha => (List.mem_append.mp ha).elim (ra.own a) fun h => by rw [List.mem_singleton.mp h]; exact own_lst hD)
    rw [List.append_assoc] at this
    exact this
  have vis : ∀ {H' : Hp} {A : List Addr} {M : Nat}, Out c H1 H' M → (∀ a ∈ A, H1 a = none) → Same (hid bs H1) (hid (A ++ (D :: bs)) H') := fun {H' A M} o hn => by
    have := vis_step (bs := bs) (B := A ++ [D]) o r.bin (fun a ha => (List.mem_append.mp ha).elim (hn a) fun h => by rw [List.mem_singleton.mp h]; exact nD)
    rw [List.append_assoc] at this
    exact this
  refine it_by (J := J) (n := ds.length) (Body := fun x H' Nx => g x (L2.wipe σ vs) H' fun σ2 H2 => L2.wipe σ2 vs = L2.wipe σ vs ∧ tt σ2 H2 fun b H3 => if b = true then te σ2 H3 fun y H4 => ∃ acc, H4 D = some (.lst acc) ∧ acc.length < sizeLine ∧ Nx (upd H4 D (.lst (acc ++ [y]))) else Nx H3)
    Pv ⟨[], [], [], N1, upd_same, i0, Nat.le_refl _, ⟨(Keep.refl _ _).new nD, fun a ha => (r1.box a ha).upd nD⟩, .nil, List.nodup_nil, (fun _ z => nomatch z), List.not_mem_nil⟩
    (fun k H' hk hP => ?_) (fun H' hP => ?_) (fun k x H' H'' hk hP hy => ?_) (fun H' hP => ?_)
  · obtain ⟨acc, ts, A, M, hD, hI, hl, o, ra, nd, hn, dA⟩ := hP
    exact Y.go k H' _ hk (vis o hn)
  · obtain ⟨acc, ts, A, M, hD, hI, hl, o, ra, nd, hn, dA⟩ := hP
    exact Y.stop H' _ (vis o hn)
  · obtain ⟨acc, ts, A, M, hD, hI, hl, o, ra, nd, hn, dA⟩ := hP
    have rw0 := world (k := k) hD o ra hn
    obtain ⟨sm, d, gd, dx⟩ := Y.yld k x H' H'' _ hk (vis o hn) rw0.live hy
    have rw1 := rw0.ext sm
    obtain ⟨Fw, rw2⟩ := rel_wipe rw1 vs
    refine hg rw2 dx (step k d ts M gd hI) fun F3 σ3 ε3 r3 e3 w3 => ⟨e3.trans (wipe_wipe σ vs), ?_⟩
    refine ht r3 w3 fun b M2 H3 w4 o3 => ?_
    have oo : Out c H1 H3 M2 := (o.ext sm).trans o3
    have nb : ∀ a ∈ A, a ∉ c.b := fun a ha z => r1.live a (r.bin a z) (hn a ha)
    have ra3 : RepL (A ++ (D :: bs)) H3 acc ts A := RepL.chg rw0.nt (out_keep ((rw0.ofSame sm).trans o3) rw0.bin) (fun a ha x e => out_get o3 (nb a ha) (sm _ _ e)) ra
    have hD3 : H3 D = some (.lst acc) := out_get o3 Db (sm _ _ hD)
    cases b with
    | false => exact iteF ⟨acc, ts, A, M2, hD3, w4, by omega, oo, ra3, nd, hn, dA⟩
    | true =>
      refine iteT ?_
      have r4 := r3.out o3
      refine he r4 w4 fun v t B M3 H4 w5 o4 n => ?_
      have hD4 : H4 D = some (.lst acc) := out_get o4 Db hD3
      refine ⟨acc, hD4, ?_, acc ++ [v], ts ++ [t], A ++ B, M3, upd_same, w5, ?_, ?_, ?_, ?_, ?_, ?_⟩
      · have := ra.len
        exact Nat.lt_of_le_of_lt (show acc.length ≤ 40000 by omega) (by decide)
      · rw [List.length_append]
        exact Nat.add_le_add_right hl 1
      · exact ⟨(oo.trans o4).keep.putNew nD, fun a ha => ((oo.trans o4).box a ha).put (fun z => Db (z ▸ ha))⟩
      · obtain ⟨rr, nn⟩ := RepL.snoc' r4 ra3 nd nb o4 n
        have dB : D ∉ A ++ B := fun z => (List.mem_append.mp z).elim dA fun h => by
          have := n.new D h
          rw [hD3] at this
          cases this
        have r5 := r4.hide o4 n.new n.rep.own
        have nt5 : NoTup (A ++ B ++ (D :: bs)) H4 := fun a ha => r5.nt a (mem3 ha)
        refine RepL.chg nt5 ?_ (fun a ha x e => by rw [upd_ne (fun (z : a = D) => dB (by rw [← z]; exact ha))]; exact e) rr
        exact (Keep.refl _ _).put (List.mem_append_right _ (List.mem_cons_self ..))
      · exact (RepL.snoc' r4 ra3 nd nb o4 n).2
      · intro a ha
        rcases List.mem_append.mp ha with h | h
        · exact hn a h
        · exact out_none oo (n.new a h)
      · intro z
        rcases List.mem_append.mp z with h | h
        · exact dA h
        · have := n.new D h
          rw [hD3] at this
          cases this
  · obtain ⟨acc, ts, A, M, hD, hI, hl, o, ra, nd, hn, dA⟩ := hP
    have rw0 := world (k := 0) hD o ra hn
    refine q (.ref D) (.lst ts) (D :: A) M H' (fin ts M hI) (o1.trans o) ⟨.lst hD (RepL.perm rw0.nt (fun a ha => ?_) ra), List.nodup_cons.mpr ⟨dA, nd⟩, fun a ha => ?_⟩
    · rcases List.mem_cons.mp ha with rfl | ha
      · exact List.mem_append_right _ (List.mem_cons_self ..)
      · rcases List.mem_append.mp ha with h | h
        · exact List.mem_append_left _ h
        · exact List.mem_append_right _ (List.mem_cons_of_mem _ h)
    · rcases List.mem_cons.mp ha with rfl | ha
      · exact out_none o1 nD
      · exact out_none o1 (hn a ha)
/-- .. each one shared -/
def wLc (wi : WI) (wg : WG) (wt : WB) (w : WE) (vs : List Nat) : WE := fun ε N R => wi ε N fun ds N1 => ds.length ≤ 40000 ∧ ∃ I : Nat → List PyData → Nat → Prop, I 0 [] N1 ∧
  (∀ k d es M, ds[k]? = some d → I k es M → wg d (wipeE ε vs) fun ε2 => wt ε2 M fun b M2 => match b with
    | true => w ε2 M2 fun e M3 => I (k + 1) (es ++ [e]) M3
    | false => I (k + 1) es M2) ∧ ∀ es M, I ds.length es M → R (.list es) M
theorem sim_lc {ti : TI} {wi : WI} {g : TG} {wg : WG} {tt : TT} {wt : WB} {te : TE} {w : WE} (hi : SimI ti wi) (hg : SimG vs g wg) (ht : SimB tt wt) (he : SimE te w) : SimE (tLc ti g tt te vs) (wLc wi wg wt w vs) := fun {c bs F σ H ε N R Q} r ww q => hi r ww fun J ds N1 H1 w1 o1 Y D nD => by
  obtain ⟨hz, I, i0, step, fin⟩ := w1
  have r1 := r.out o1
  have Dbs : D ∉ bs := r1.live.out nD
  have Db : D ∉ c.b := fun z => Dbs (r.bin D z)
  have world : ∀ {H' : Hp} {acc : List V} {M : Nat}, H' D = some (.lst acc) → Out c H1 H' M → Rel c (D :: bs) F σ H' ε M := fun {H' acc M} hD o =>
    r1.hide (A := [D]) o (fun a ha => by rw [List.mem_singleton.mp ha]; exact nD) (fun a ha => by rw [List.mem_singleton.mp ha]; exact own_lst hD)
  have vis : ∀ {H' : Hp} {M : Nat}, Out c H1 H' M → Same (hid bs H1) (hid (D :: bs) H') := fun {H' M} o => vis_step (bs := bs) (B := [D]) o r.bin (fun a ha => by rw [List.mem_singleton.mp ha]; exact nD)
  refine it_by (J := J) (n := ds.length) (Body := fun x H' Nx => g x (L2.wipe σ vs) H' fun σ2 H2 => L2.wipe σ2 vs = L2.wipe σ vs ∧ tt σ2 H2 fun b H3 => if b = true then te σ2 H3 fun y H4 => ∃ acc, H4 D = some (.lst acc) ∧ acc.length < sizeLine ∧ Nx (upd H4 D (.lst (acc ++ [y]))) else Nx H3)
    (fun k H' => ∃ (acc : List V) (es : List PyData) (M : Nat), H' D = some (.lst acc) ∧ I k es M ∧ es.length ≤ k ∧ Out c H1 H' M ∧ DqAll (hid (D :: bs) H') acc es) ⟨[], [], N1, upd_same, i0, Nat.le_refl _, ⟨(Keep.refl _ _).new nD, fun a ha => (r1.box a ha).upd nD⟩, .nil⟩
    (fun k H' hk hP => ?_) (fun H' hP => ?_) (fun k x H' H'' hk hP hy => ?_) (fun H' hP => ?_)
  · obtain ⟨acc, es, M, hD, hI, hl, o, da⟩ := hP
    exact Y.go k H' _ hk (vis o)
  · obtain ⟨acc, es, M, hD, hI, hl, o, da⟩ := hP
    exact Y.stop H' _ (vis o)
  · obtain ⟨acc, es, M, hD, hI, hl, o, da⟩ := hP
    have rw0 := world hD o
    obtain ⟨sm, d, gd, dx⟩ := Y.yld k x H' H'' _ hk (vis o) rw0.live hy
    have rw1 := rw0.ext sm
    obtain ⟨Fw, rw2⟩ := rel_wipe rw1 vs
    refine hg rw2 dx (step k d es M gd hI) fun F3 σ3 ε3 r3 e3 w3 => ⟨e3.trans (wipe_wipe σ vs), ?_⟩
    refine ht r3 w3 fun b M2 H3 w4 o3 => ?_
    have oo : Out c H1 H3 M2 := (o.ext sm).trans o3
    have da3 : DqAll (hid (D :: bs) H3) acc es := da.mono (out_keep ((rw0.ofSame sm).trans o3) rw0.bin)
    have hD3 : H3 D = some (.lst acc) := out_get o3 Db (sm _ _ hD)
    cases b with
    | false => exact iteF ⟨acc, es, M2, hD3, w4, by omega, oo, da3⟩
    | true =>
      refine iteT ?_
      have r4 := r3.out o3
      refine he r4 w4 fun v f M3 H4 w5 o4 hv => ?_
      have hD4 : H4 D = some (.lst acc) := out_get o4 Db hD3
      have kk : Keep (D :: bs) H4 (upd H4 D (.lst (acc ++ [v]))) := (Keep.refl _ _).put (List.mem_cons_self ..)
      refine ⟨acc, hD4, ?_, acc ++ [v], es ++ [f], M3, upd_same, w5, ?_, ?_, ?_⟩
      · have := da.len
        exact Nat.lt_of_le_of_lt (show acc.length ≤ 40000 by omega) (by decide)
      · rw [List.length_append]
        exact Nat.add_le_add_right hl 1
      · exact ⟨(oo.trans o4).keep.putNew nD, fun a ha => ((oo.trans o4).box a ha).put (fun z => Db (z ▸ ha))⟩
      · exact ((da3.mono (out_keep o4 r4.bin)).append (.cons hv .nil)).mono kk
  · obtain ⟨acc, es, M, hD, hI, hl, o, da⟩ := hP
    exact q (.ref D) (.list es) M H' (fin es M hI) (o1.trans o) (.lst (by rw [hid_out Dbs]; exact hD) (da.mono (hid_less fun a ha => List.mem_cons_of_mem _ ha)))
end
/-! ### statements -/
structure EW where
  nx : Env → Nat → Prop
  rt : T → Nat → Prop
  bk : Env → Nat → Prop
  ct : Env → Nat → Prop
  /-- told, with what the slots hold then -/
  rx : T → Env → Nat → Prop
  /-- raised: the exception in the air; what is wished of it upon the heap -/
  xe : PyData → Env → Nat → Prop
  w : L2.WX
abbrev WS := EW → Env → Nat → Prop
def EW.seq (D : EW) (k : Env → Nat → Prop) : EW := { D with nx := k }
def EW.loop (D : EW) (i : Env → Nat → Prop) : EW := { D with nx := i, ct := i, bk := D.nx }
def EW.fn (R : T → Nat → Prop) : EW := ⟨fun _ M => R (.sh .none) M, R, fun _ _ => False, fun _ _ => False, fun _ _ _ => False, fun _ _ _ => False, fun _ _ _ _ => False⟩
structure Ret (c : Base) (v : V) (t : T) (A : List Addr) (H : Hp) (N : Nat) : Prop where
  rep : Rep (A ++ c.bs0) H v t A
  nd : A.Nodup
  off : ∀ a ∈ A, c.P a = none
  nb : ∀ a ∈ A, a ∉ c.bs0
  box : ∀ a ∈ c.b, Box H a N
  pin : Same c.P H
structure Mt (c : Base) (DW : EW) (D : Ends) : Prop where
  nx : ∀ {bs F : List Addr} {σ : L2.St} {H : Hp} {ε : Env} {N : Nat}, Rel c bs F σ H ε N → DW.nx ε N → D.nx σ H
  rt : ∀ {v : V} {t : T} {A : List Addr} {H : Hp} {N : Nat}, Ret c v t A H N → DW.rt t N → D.rt v H
  bk : ∀ {bs F : List Addr} {σ : L2.St} {H : Hp} {ε : Env} {N : Nat}, Rel c bs F σ H ε N → DW.bk ε N → D.bk σ H
  ct : ∀ {bs F : List Addr} {σ : L2.St} {H : Hp} {ε : Env} {N : Nat}, Rel c bs F σ H ε N → DW.ct ε N → D.ct σ H
  rx : ∀ {bs F A : List Addr} {σ : L2.St} {H : Hp} {ε : Env} {N : Nat} {v : V} {t : T}, Rel c bs F σ H ε N → Rep bs H v t A → A.Nodup → (∀ a ∈ A, a ∈ bs ∧ a ∉ F ∧ c.P a = none ∧ a ∉ c.bs0) → DW.rx t ε N → D.rt v H
  xe : ∀ {bs F : List Addr} {σ : L2.St} {H : Hp} {ε : Env} {N : Nat} {C dx : Addr} {d : PyData}, Rel c bs F (σ ++ [some (.ref dx)]) H (ε ++ [.is (.sh (flyD C d))]) N → σ.length = ε.length → DW.xe (flyD C d) ε N → DW.w (.ref C) (some dx) σ H
def SimS (ts : TS) (ws : WS) : Prop := ∀ {c : Base} {bs F : List Addr} {σ : L2.St} {H : Hp} {ε : Env} {N : Nat} {DW : EW} {D : Ends}, Rel c bs F σ H ε N → ws DW ε N → Mt c DW D → ts D σ H
section
variable {ta tb te : TE} {wa wb we : WE} {wt : WT} {t : TT} {w : WB} {ts us : TS} {ws wu : WS} {tas : TA} {was : WA} {c : Base} {bs F A B : List Addr} {σ : L2.St} {H H1 : Hp} {ε : Env} {N N1 : Nat} {v : V} {x : T}
/-- told at the end: something new, or shared -/
theorem Rel.ret (r : Rel c bs F σ H ε N) (o : Out c H H1 N1) (n : Nw bs A H H1 v x) : Ret c v x A H1 N1 := by
  have r1 := r.hide o n.new n.rep.own
  refine ⟨Rep.perm r1.nt (fun a ha => (List.mem_append.mp ha).elim (List.mem_append_left _) fun h => List.mem_append_right _ (r.up a h)) n.rep, n.nd, fun a ha => ?_, fun a ha z => r.live a (r.up a z) (n.new a ha), o.box, r1.pin⟩
  cases e : c.P a with
  | none => rfl
  | some y =>
    have := r.pin a y e
    rw [n.new a ha] at this
    cases this
def wSkip : WS := fun D ε N => D.nx ε N
def wSeq (ws wu : WS) : WS := fun D ε N => ws { D with nx := wu D } ε N
def wBreak : WS := fun D ε N => D.bk ε N
def wCont : WS := fun D ε N => D.ct ε N
theorem sim_skip : SimS tNext wSkip := fun r h m => m.nx r h
theorem sim_seq (h : SimS ts ws) (k : SimS us wu) : SimS (tSeq ts us) (wSeq ws wu) := fun {c bs F σ H ε N DW D} r w m => h (DW := { DW with nx := wu DW }) (D := { D with nx := us D }) r w ⟨fun r2 w2 => k r2 w2 m, m.rt, m.bk, m.ct, m.rx, m.xe⟩
def wRet (wt : WT) : WS := fun D ε N => wt ε N fun t N' => D.rt t N'
theorem sim_ret (h : SimT te wt) : SimS (tRet te) (wRet wt) := fun r w m => h r w fun v t A N' H' hR o n => m.rt (r.ret o n) hR
def wRetN : WS := fun D ε N => D.rt (.sh .none) N
/-- return x, x its own -/
def wRetV (i : Nat) : WS := fun D ε N => match ε[i]? with
  | some (.is t) => D.rt t N
  | _ => False
theorem sim_retV {i : Nat} : SimS (tRet (tVar i)) (wRetV i) := fun {c bs F σ H ε N DW D} r w m => by
  have w' : (match ε[i]? with | some (.is t) => DW.rt t N | _ => False) := w
  split at w'
  · rename_i t e
    obtain ⟨y, A, F1, F2, hx, hr, rfl, _⟩ := r.env.at e
    cases hr with
    | is hr =>
      have hA : ∀ a ∈ A, a ∈ F1 ++ (A ++ F2) := fun a ha => List.mem_append_right _ (List.mem_append_left _ ha)
      refine ⟨_, hx, m.rt ⟨Rep.perm r.nt (fun a ha => (List.mem_append.mp ha).elim (fun h => r.sub a (hA a h)) (r.up a)) hr, ?_, fun a ha => r.off a (hA a ha), fun a ha => r.nb a (hA a ha), r.box, r.pin⟩ w'⟩
      exact (List.nodup_append.mp (List.nodup_append.mp r.nd).2.1).1
  · exact w'.elim
def wIfS (w : WB) (ws wu : WS) : WS := fun D ε N => w ε N fun b N1 => match b with
  | true => ws D ε N1
  | false => wu D ε N1
theorem sim_ifS (h : SimB t w) (ha : SimS ts ws) (hb : SimS us wu) : SimS (tIfS t ts us) (wIfS w ws wu) := fun {c bs F σ H ε N DW D} r ww m => h r ww fun b N1 H1 w1 o1 => by
  cases b with
  | true => exact iteT (ha (r.out o1) w1 m)
  | false => exact iteF (hb (r.out o1) w1 m)
/-- x = e, what e tells its own -/
def wAsgT (i : Nat) (wt : WT) : WS := fun D ε N => wt ε N fun t N' => D.nx (ε.set i (.is t)) N'
theorem sim_asgT {i : Nat} (h : SimT te wt) : SimS (tAsg te (gName i)) (wAsgT i wt) := fun {c bs F σ H ε N DW D} r w m => h r w fun v t A N' H' hR o n => by
  obtain ⟨F', r'⟩ := r.set (i := i) o n
  exact m.nx r' hR
/-- x = e, shared; a, b = e -/
def wAsg (we : WE) (wg : WG) : WS := fun D ε N => we ε N fun d N' => wg d ε fun ε' => D.nx ε' N'
theorem sim_asg {vs : List Nat} {g : TG} {wg : WG} (h : SimE te we) (hg : SimG vs g wg) : SimS (tAsg te g) (wAsg we wg) := fun {c bs F σ H ε N DW D} r w m => h r w fun v d N' H' hR o hd => hg (r.out o) hd hR fun F' σ' ε' r' _ w' => m.nx r' w'
theorem RepL.two {us : List V} {t u : T} {A : List Addr} (h : RepL bs H us [t, u] A) : ∃ v w A1 A2, us = [v, w] ∧ Rep bs H v t A1 ∧ Rep bs H w u A2 ∧ A = A1 ++ A2 := by
  cases h with
  | cons h1 k1 => cases k1 with
    | cons h2 k2 => cases k2 with
      | nil => exact ⟨_, _, _, _, rfl, h1, h2, by rw [List.append_nil]⟩
theorem pin_none {a : Addr} (r : Rel c bs F σ H ε N) (e : H a = none) : c.P a = none := by
  cases h : c.P a with
  | none => rfl
  | some y =>
    rw [r.pin a y h] at e
    cases e
/-- a slot set to what is hidden already, and nobody else's -/
theorem Rel.put {i : Nat} (r : Rel c bs F σ H ε N) (h : Rep bs H v x A) (nd : A.Nodup) (hA : ∀ a ∈ A, a ∈ bs ∧ a ∉ F ∧ c.P a = none ∧ a ∉ c.bs0) : ∃ F', Rel c bs F' (σ.set i (some v)) H (ε.set i (.is x)) N ∧ ∀ a ∈ F', a ∈ F ∨ a ∈ A := by
  cases hl : ε[i]? with
  | none =>
    have hs : σ[i]? = none := by
      rw [List.getElem?_eq_none_iff] at hl ⊢
      rw [r.env.len]
      exact hl
    rw [set_beyond hl, set_beyond hs]
    exact ⟨F, r, fun a ha => .inl ha⟩
  | some l =>
    obtain ⟨y, A0, F1, F2, q1, q2, rfl, q4⟩ := r.env.at hl
    have hm : ∀ a ∈ F1 ++ (A ++ F2), a ∈ F1 ++ (A0 ++ F2) ∨ a ∈ A := fun a ha => by
      rcases List.mem_append.mp ha with h | h
      · exact .inl (List.mem_append_left _ h)
      · rcases List.mem_append.mp h with h | h
        · exact .inr h
        · exact .inl (List.mem_append_right _ (List.mem_append_right _ h))
    refine ⟨F1 ++ (A ++ F2), ⟨q4 r.nt (Same.refl _) (fun _ _ _ e => e) (.is h), nodup_mid r.nd nd fun a ha => ⟨fun z => (hA a ha).2.1 (List.mem_append_left _ z), fun z => (hA a ha).2.1 (List.mem_append_right _ (List.mem_append_right _ z))⟩, fun a ha => (hm a ha).elim (r.sub a) fun z => (hA a z).1, fun a ha => (hm a ha).elim (r.off a) fun z => (hA a z).2.2.1, fun a ha => (hm a ha).elim (r.nb a) fun z => (hA a z).2.2.2, r.up, r.bb, r.offb, r.live, r.nt, r.box, r.pin, r.vis⟩, hm⟩
def wDrop (we : WE) : WS := fun D ε N => we ε N fun _ N' => D.nx ε N'
/-! ### what is its own, changed in place -/
theorem set_same {α : Type} : ∀ {xs : List α} {i : Nat} {x : α}, xs[i]? = some x → xs.set i x = xs
  | [], _, _, h => by cases h
  | y :: ys, 0, x, h => by
    have e : y = x := Option.some.inj h
    rw [e]
    rfl
  | y :: ys, i + 1, x, h => by
    show y :: ys.set i x = y :: ys
    rw [set_same (xs := ys) h]
theorem mem_mid {F1 A0 F2 : List Addr} {a x : Addr} (h : x ∈ F1 ++ (a :: A0 ++ F2)) : x ∈ F1 ∨ x = a ∨ x ∈ A0 ∨ x ∈ F2 := by
  rcases List.mem_append.mp h with h | h
  · exact .inl h
  · rcases List.mem_append.mp h with h | h
    · rcases List.mem_cons.mp h with h | h
      · exact .inr (.inl h)
      · exact .inr (.inr (.inl h))
    · exact .inr (.inr (.inr h))
/-- the list of slot i, and what comes of it when it stands otherwise -/
theorem Rel.mutate {i : Nat} {ts : List T} (r : Rel c bs F σ H ε N) (hl : ε[i]? = some (.is (.lst ts))) : ∃ a vs A0, σ[i]? = some (some (.ref a)) ∧ H a = some (.lst vs) ∧ RepL bs H vs ts A0 ∧ A0.Nodup ∧ a ∉ A0 ∧ a ∈ bs ∧ a ∉ c.b ∧ (∀ x ∈ A0, x ∈ bs) ∧ a ∈ F ∧ (∀ x ∈ A0, x ∈ F) ∧
    ∀ {vs' : List V} {ts' : List T} {A' : List Addr}, RepL bs H vs' ts' A' → A'.Nodup → a ∉ A' → (∀ x ∈ A', x ∈ A0 ∨ (x ∈ bs ∧ x ∉ F ∧ c.P x = none ∧ x ∉ c.bs0)) → ∃ F', Rel c bs F' σ (upd H a (.lst vs')) (ε.set i (.is (.lst ts'))) N := by
  obtain ⟨y, A, F1, F2, q1, q2, rfl, q4⟩ := r.env.at hl
  cases q2 with
  | is q2 => cases q2 with
    | lst e h =>
      rename_i a vs A0
      have nd2 := (List.nodup_append.mp (List.nodup_append.mp r.nd).2.1).1
      have hnd := List.nodup_cons.mp nd2
      have hmem : ∀ x ∈ a :: A0, x ∈ F1 ++ (a :: A0 ++ F2) := fun x hx => List.mem_append_right _ (List.mem_append_left _ hx)
      have ain := hmem a (List.mem_cons_self ..)
      have abs := r.sub a ain
      refine ⟨a, vs, A0, q1, e, h, hnd.2, hnd.1, abs, r.fb a ain, fun x hx => r.sub x (hmem x (List.mem_cons_of_mem _ hx)), ain, fun x hx => hmem x (List.mem_cons_of_mem _ hx), fun {vs' ts' A'} h' nd' ha' hx' => ?_⟩
      have aout : ∀ x ∈ F1 ++ F2, x ≠ a := fun x hx z => by
        subst z
        obtain ⟨_, p2, p3⟩ := List.nodup_append.mp r.nd
        rcases List.mem_append.mp hx with h | h
        · exact p3 x h x (List.mem_append_left _ (List.mem_cons_self ..)) rfl
        · exact (List.nodup_append.mp p2).2.2 x (List.mem_cons_self ..) x h rfl
      have A0out : ∀ x ∈ A0, x ∉ F1 ∧ x ∉ F2 := fun x hx => by
        obtain ⟨_, p2, p3⟩ := List.nodup_append.mp r.nd
        exact ⟨fun z => p3 x z x (List.mem_append_left _ (List.mem_cons_of_mem _ hx)) rfl, fun z => (List.nodup_append.mp p2).2.2 x (List.mem_cons_of_mem _ hx) x z rfl⟩
      have kk : Keep bs H (upd H a (.lst vs')) := (Keep.refl _ _).put abs
      have rr : RepL bs (upd H a (.lst vs')) vs' ts' A' := RepL.chg r.nt kk (fun x hx o e => by rw [upd_ne (fun (z : x = a) => ha' (z ▸ hx))]; exact e) h'
      have env := q4 (cs := bs) (H' := upd H a (.lst vs')) (y := some (.ref a)) (m := .is (.lst ts')) r.nt kk (fun x hx o e => by rw [upd_ne (aout x hx)]; exact e) (.is (.lst upd_same rr))
      rw [set_same q1] at env
      have hm : ∀ x ∈ F1 ++ (a :: A' ++ F2), x ∈ F1 ++ (a :: A0 ++ F2) ∨ (x ∈ A' ∧ x ∉ A0) := fun x hx => by
        rcases mem_mid hx with h | h | h | h
        · exact .inl (List.mem_append_left _ h)
        · rw [h]; exact .inl ain
        · by_cases hA : x ∈ A0
          · exact .inl (hmem x (List.mem_cons_of_mem _ hA))
          · exact .inr ⟨h, hA⟩
        · exact .inl (List.mem_append_right _ (List.mem_append_right _ h))
      have hnew : ∀ x, x ∈ A' ∧ x ∉ A0 → x ∈ bs ∧ x ∉ F1 ++ (a :: A0 ++ F2) ∧ c.P x = none ∧ x ∉ c.bs0 := fun x hx => (hx' x hx.1).elim (fun z => absurd z hx.2) id
      refine ⟨F1 ++ (a :: A' ++ F2), env, nodup_mid r.nd (List.nodup_cons.mpr ⟨ha', nd'⟩) fun x hx => ?_, fun x hx => (hm x hx).elim (r.sub x) fun z => (hnew x z).1, fun x hx => (hm x hx).elim (r.off x) fun z => (hnew x z).2.2.1, fun x hx => (hm x hx).elim (r.nb x) fun z => (hnew x z).2.2.2, r.up, r.bb, r.offb, fun x hx => ?_, fun x hx xs z => ?_, fun x hx => ?_, fun x o e => ?_, r.vis.trans kk⟩
      · rcases List.mem_cons.mp hx with h | h
        · subst h
          exact ⟨fun z => aout x (List.mem_append_left _ z) rfl, fun z => aout x (List.mem_append_right _ z) rfl⟩
        · by_cases hA : x ∈ A0
          · exact A0out x hA
          · have := (hnew x ⟨h, hA⟩).2.1
            exact ⟨fun z => this (List.mem_append_left _ z), fun z => this (List.mem_append_right _ (List.mem_append_right _ z))⟩
      · by_cases hxa : x = a
        · subst hxa; rw [upd_same]; exact fun z => nomatch z
        · rw [upd_ne hxa]; exact r.live x hx
      · by_cases hxa : x = a
        · subst hxa; rw [upd_same] at z; cases z; trivial
        · rw [upd_ne hxa] at z; exact r.nt x hx xs z
      · exact (r.box x hx).put (fun z => r.fb a ain (z ▸ hx))
      · rw [upd_ne (fun (z : x = a) => by rw [z, r.off a ain] at e; cases e)]
        exact r.pin x o e
/-- what is new, hidden and nobody's -/
theorem nw_fact {a : Addr} (r : Rel c bs F σ H ε N) (hn : H a = none) (ha : a ∈ A) : a ∈ A ++ bs ∧ a ∉ F ∧ c.P a = none ∧ a ∉ c.bs0 := ⟨List.mem_append_left _ ha, fun z => r.live a (r.sub a z) hn, pin_none r hn, fun z => r.live a (r.up a z) hn⟩
theorem slot_own {i : Nat} {ts : List T} (r : Rel c bs F σ H ε N) (hl : ε[i]? = some (.is (.lst ts))) : ∃ a, σ[i]? = some (some (.ref a)) ∧ a ∉ c.b ∧ ∃ vs, H a = some (.lst vs) := by
  obtain ⟨a, vs, A0, h1, h2, _, _, _, _, hb, _⟩ := r.mutate hl
  exact ⟨a, h1, hb, vs, h2⟩
/-- a list of one's own in slot i -/
def ownL (ε : Env) (i : Nat) : Option (List T) := match ε[i]? with
  | some (.is (.lst ts)) => some ts
  | _ => none
theorem ownL_some {i : Nat} {ts : List T} (h : ownL ε i = some ts) : ε[i]? = some (.is (.lst ts)) := by
  unfold ownL at h
  split at h
  · rename_i us e
    rw [e, Option.some.inj h]
  · cases h
def onOwn (i : Nat) (k : List T → Env → Nat → Prop) (ε : Env) (N : Nat) : Prop := match ownL ε i with
  | some ts => k ts ε N
  | none => False
theorem onOwn_some {i : Nat} {k : List T → Env → Nat → Prop} (h : onOwn i k ε N) : ∃ ts, ε[i]? = some (.is (.lst ts)) ∧ k ts ε N := by
  unfold onOwn at h
  split at h
  · rename_i ts e
    exact ⟨ts, ownL_some e, h⟩
  · exact h.elim
/-- x.append(e) -/
def wApp (i : Nat) (wt : WT) : WS := fun D => onOwn i fun ts ε N => wt ε N fun t N' => ts.length ≤ 100000 ∧ D.nx (ε.set i (.is (.lst (ts ++ [t])))) N'
theorem sim_app {K : PySem.W.Frag} {i : Nat} (h : SimT te wt) : SimS (tDrop (tBM K "list" rAppend (tVar i) (tCons te tNil))) (wApp i wt) := fun {c bs F σ H ε N DW D} r w m => by
  obtain ⟨ts, hl, w⟩ := onOwn_some w
  obtain ⟨a, hs, hab, vs, hH⟩ := slot_own r hl
  refine ⟨.ref a, hs, .inl ⟨rfl, vs, SqL.of hH⟩, h r w fun v t B N' H' hR o n => ?_⟩
  have r1 := r.hide o n.new n.rep.own
  obtain ⟨a2, vs2, A0, g1, g2, g3, g4, g5, g6, g7, g8, g9, g10, g11⟩ := r1.mutate hl
  have ea : a2 = a := by
    have := g1.symm.trans hs
    cases this
    rfl
  subst ea
  have dis : ∀ x ∈ A0, x ∉ B := fun x hx z => r.live x (r.sub x (g10 x hx)) (n.new x z)
  obtain ⟨F', r2⟩ := g11 (g3.append (RepL.one n.rep)) (nodup_app g4 n.nd dis) (fun z => (List.mem_append.mp z).elim g5 fun h => r.live a2 (r.sub a2 g9) (n.new a2 h)) (fun x hx => (List.mem_append.mp hx).elim .inl fun h => .inr (nw_fact r (n.new x h) h))
  exact ⟨a2, vs2, v, rfl, rfl, g2, by rw [g3.len]; exact Nat.lt_of_le_of_lt hR.1 (by decide), m.nx r2 hR.2⟩
/-! parts of a row of things -/
theorem RepL.split : ∀ {vs : List V} {ts : List T} {A : List Addr}, RepL bs H vs ts A → ∀ {k : Nat} {t : T}, ts[k]? = some t → ∃ v A1 Av A2, vs[k]? = some v ∧ Rep bs H v t Av ∧ A = A1 ++ (Av ++ A2) ∧ RepL bs H (vs.eraseIdx k) (ts.eraseIdx k) (A1 ++ A2) ∧
    ∀ {v' : V} {t' : T} {B : List Addr}, Rep bs H v' t' B → RepL bs H (vs.set k v') (ts.set k t') (A1 ++ (B ++ A2))
  | _, _, _, .nil, k, t, e => by cases e
  | _, _, _, .cons (v := v) (A := A) (B := B) h q, 0, t, e => by
    have e' := Option.some.inj e
    subst e'
    refine ⟨v, [], A, B, rfl, h, rfl, q, fun {v' t' B'} h' => ?_⟩
    exact RepL.cons (A := B') (B := B) h' q
  | _, _, _, .cons (v := v) (A := A) (B := B) h q, k + 1, t, e => by
    obtain ⟨v2, A1, Av, A2, p1, p2, p3, p4, p5⟩ := q.split (k := k) (t := t) e
    refine ⟨v2, A ++ A1, Av, A2, p1, p2, by rw [p3, List.append_assoc], ?_, fun {v' t' B'} h' => ?_⟩
    · rw [List.append_assoc]
      exact .cons h p4
    · rw [List.append_assoc]
      exact .cons h (p5 h')
/-- x.reverse(), x.clear() -/
def wRev (i : Nat) : WS := fun D => onOwn i fun ts ε N => D.nx (ε.set i (.is (.lst ts.reverse))) N
def wClr (i : Nat) : WS := fun D => onOwn i fun ts ε N => D.nx (ε.set i (.is (.lst []))) N
/-- x.extend(e), what e has being shared -/
def wExt (i : Nat) (we : WE) : WS := fun D => onOwn i fun ts ε N => we ε N fun d N' => match d with
  | .list ds => ts.length + ds.length ≤ 100000 ∧ D.nx (ε.set i (.is (.lst (ts ++ ds.map T.sh)))) N'
  | _ => False
/-- x[k] = e -/
def wSet (i : Nat) (wk : WE) (wt : WT) : WS := fun D => onOwn i fun ts ε N => wt ε N fun t N1 => wk ε N1 fun d N2 => match d with
  | .int k => ∃ j, ixN ts.length k = some j ∧ D.nx (ε.set i (.is (.lst (ts.set j t)))) N2
  | _ => False
/-- y = x.pop(k), what is popped being shared -/
def wPop (i : Nat) (wk : WE) (wg : WG) : WS := fun D => onOwn i fun ts ε N => wk ε N fun d N1 => match d with
  | .int k => (0 ≤ k ∧ k < ts.length ∧ k ≤ 1000000) ∧ ∃ d, ts[k.toNat]? = some (.sh d) ∧ wg d (ε.set i (.is (.lst (ts.eraseIdx k.toNat)))) fun ε' => D.nx ε' N1
  | _ => False
end
end Cg

set_option Elab.async false
set_option linter.all false
set_option maxRecDepth 100000
set_option maxHeartbeats 1000000
namespace Cg
open PySem PySem.Spec PyProof.Rows L2 Evl
section
variable {ta tb te : TE} {wa wb we : WE} {wt : WT} {t : TT} {w : WB} {ts us : TS} {ws wu : WS} {tas : TA} {was : WA} {c : Base} {bs F A B : List Addr} {σ : L2.St} {H H1 : Hp} {ε : Env} {N N1 : Nat} {v : V} {x : T} {vs : List Nat}
/-! ### loops -/
def pinB (c : Base) (bs F : List Addr) (H : Hp) : Base := { c with P := hid (F ++ c.b) H, V := hid bs H }
theorem Rel.pinned (r : Rel c bs F σ H ε N) : Rel (pinB c bs F H) bs F σ H ε N where
  env := r.env
  nd := r.nd
  sub := r.sub
  off := fun a ha => hid_in (List.mem_append_left _ ha)
  nb := r.nb
  up := r.up
  bb := r.bb
  offb := fun a ha => hid_in (List.mem_append_right _ ha)
  live := r.live
  nt := r.nt
  box := r.box
  pin := hid_same
  vis := Same.refl _
theorem Rel.pins (r : Rel c bs F σ H ε N) : Same c.P (hid (F ++ c.b) H) := fun a o e => by
  rw [hid_out]
  · exact r.pin a o e
  · intro z
    rcases List.mem_append.mp z with z | z
    · rw [r.off a z] at e; cases e
    · rw [r.offb a z] at e; cases e
theorem same_none {P Q : Hp} {a : Addr} (s : Same P Q) (e : Q a = none) : P a = none := by
  cases h : P a with
  | none => rfl
  | some o => rw [s a o h] at e; cases e
theorem Rel.unpin {bs' F' : List Addr} {σ' : L2.St} {H' : Hp} {ε' : Env} {M : Nat} (r : Rel c bs F σ H ε N) (q : Rel (pinB c bs F H) bs' F' σ' H' ε' M) : Rel c bs' F' σ' H' ε' M where
  env := q.env
  nd := q.nd
  sub := q.sub
  off := fun a ha => same_none r.pins (q.off a ha)
  nb := q.nb
  up := q.up
  bb := q.bb
  offb := r.offb
  live := q.live
  nt := q.nt
  box := q.box
  pin := r.pins.trans q.pin
  vis := r.vis.trans q.vis
theorem Ret.unpin {M : Nat} {H' : Hp} (r : Rel c bs F σ H ε N) (q : Ret (pinB c bs F H) v x A H' M) : Ret c v x A H' M := ⟨q.rep, q.nd, fun a ha => same_none r.pins (q.off a ha), q.nb, q.box, r.pins.trans q.pin⟩
/-- for .. in ..: I is what holds ahead of each turn -/
def wFor (wi : WI) (wg : WG) (wb : WS) : WS := fun D ε N => wi ε N fun ds N1 => ∃ I : Nat → Env → Nat → Prop, I 0 ε N1 ∧ (∀ k d ε M, ds[k]? = some d → I k ε M → wg d ε fun ε2 => wb { D with nx := I (k + 1), ct := I (k + 1), bk := D.nx } ε2 M) ∧ ∀ ε M, I ds.length ε M → D.nx ε M
theorem sim_for {ti : TI} {wi : WI} {g : TG} {wg : WG} (hi : SimI ti wi) (hg : SimG vs g wg) (hb : SimS ts ws) : SimS (tFor ti g ts) (wFor wi wg ws) := fun {c bs F σ H ε N DW D} r w m => hi r w fun J ds N1 H1 w1 o1 Y => by
  obtain ⟨I, i0, step, fin⟩ := w1
  have r1 := r.out o1
  refine ⟨fun i k σ' H' => i + k = ds.length ∧ ∃ bs' F' ε' M, Rel (pinB c bs F H1) bs' F' σ' H' ε' M ∧ I i ε' M, ⟨ds.length, by omega, bs, F, ε, N1, r1.pinned, i0⟩, fun i k σ' H' hw => ?_⟩
  obtain ⟨e, bs', F', ε', M, q, hI⟩ := hw
  cases k with
  | zero =>
    obtain rfl : i = ds.length := by omega
    exact .inl ⟨Y.stop H' bs' q.vis, m.nx (r1.unpin q) (fin ε' M hI)⟩
  | succ k =>
    refine .inr ⟨Y.go i H' bs' (by omega) q.vis, fun σ2 H2 => ∃ bs2 F2 ε2 M2, Rel (pinB c bs F H1) bs2 F2 σ2 H2 ε2 M2 ∧ I (i + 1) ε2 M2, fun σ2 H2 h2 => ⟨k, by omega, by omega, h2⟩, fun y H2 hy => ?_⟩
    obtain ⟨sm, d, gd, dx⟩ := Y.yld i y H' H2 bs' (by omega) q.vis q.live hy
    refine hg (q.ext sm) dx (step i d ε' M gd hI) fun F3 σ3 ε3 r3 _ w3 => hb r3 w3 ⟨fun r4 w4 => ⟨_, _, _, _, r4, w4⟩, fun r4 w4 => m.rt (r4.unpin r1) w4, fun r4 w4 => m.nx (r1.unpin r4) w4, fun r4 w4 => ⟨_, _, _, _, r4, w4⟩, fun r4 p4 n4 a4 w4 => m.rx (r1.unpin r4) p4 n4 (fun a ha => ⟨(a4 a ha).1, (a4 a ha).2.1, same_none r1.pins (a4 a ha).2.2.1, (a4 a ha).2.2.2⟩) w4, fun r4 l4 w4 => m.xe (r1.unpin r4) l4 w4⟩
/-! ### what was its own is shared from now on -/
theorem Rel.freeze {i : Nat} {y : T} (r : Rel c bs F σ H ε N) (hl : ε[i]? = some (.is y)) : ∃ bs' F', Rel c bs' F' σ H (ε.set i (.is (.sh y.data))) N := by
  obtain ⟨z, A, F1, F2, q1, q2, rfl, q4⟩ := r.env.at hl
  cases q2 with
  | is q2 =>
    rename_i v
    have hA : ∀ a ∈ A, a ∈ F1 ++ (A ++ F2) := fun a ha => List.mem_append_right _ (List.mem_append_left _ ha)
    let bs' := bs.filter fun a => !decide (a ∈ A)
    have hs : ∀ a, a ∈ bs' ↔ a ∈ bs ∧ a ∉ A := fun a => by
      show a ∈ bs.filter _ ↔ _
      rw [List.mem_filter]
      simp
    have less : Same (hid bs H) (hid bs' H) := hid_less fun a ha => ((hs a).mp ha).1
    have nt' : NoTup bs' H := fun a ha => r.nt a ((hs a).mp ha).1
    have dq : Dq (hid bs' H) v y.data := Rep.data nt' (fun a ha => ((hs a).mp ha).1) (fun a ha z => ((hs a).mp z).2 ha) q2
    have env := q4 (cs := bs') (H' := H) (y := some v) (m := .is (.sh y.data)) r.nt less (fun _ _ _ e => e) (.is (.sh dq))
    rw [set_same q1] at env
    have hm : ∀ a ∈ F1 ++ ([] ++ F2), a ∈ F1 ++ (A ++ F2) ∧ a ∉ A := fun a ha => by
      obtain ⟨_, p2, p3⟩ := List.nodup_append.mp r.nd
      rcases List.mem_append.mp ha with h | h
      · exact ⟨List.mem_append_left _ h, fun z => p3 a h a (List.mem_append_left _ z) rfl⟩
      · exact ⟨List.mem_append_right _ (List.mem_append_right _ h), fun z => (List.nodup_append.mp p2).2.2 a z a h rfl⟩
    exact ⟨bs', F1 ++ ([] ++ F2), env, nodup_mid r.nd List.nodup_nil (fun _ z => nomatch z), fun a ha => (hs a).mpr ⟨r.sub a (hm a ha).1, (hm a ha).2⟩, fun a ha => r.off a (hm a ha).1, fun a ha => r.nb a (hm a ha).1, fun a ha => (hs a).mpr ⟨r.up a ha, fun z => r.nb a (hA a z) ha⟩, r.bb, r.offb, fun a ha => r.live a ((hs a).mp ha).1, nt', r.box, r.pin, r.vis.trans less⟩
def wFrz (i : Nat) (ws : WS) : WS := fun D ε N => match ε[i]? with
  | some (.is y) => ws D (ε.set i (.is (.sh y.data))) N
  | _ => False
theorem sim_frz {i : Nat} (h : SimS ts ws) : SimS ts (wFrz i ws) := fun {c bs F σ H ε N DW D} r w m => by
  have w' : (match ε[i]? with | some (.is y) => ws DW (ε.set i (.is (.sh y.data))) N | _ => False) := w
  split at w'
  · rename_i y e
    obtain ⟨bs', F', r'⟩ := r.freeze e
    exact h r' w' m
  · exact w'.elim
/-! ### defs -/
abbrev WF := List PyData → Nat → (T → Nat → Prop) → Prop
def env0 (bx : Bool) (ds : List PyData) (k : Nat) : Env := (if bx then [Sl.box] else []) ++ (ds.map (fun d => Sl.is (.sh d)) ++ List.replicate k Sl.no)
def wFn (bx : Bool) (n k : Nat) (ws : WS) : WF := fun ds N R => ds.length = n ∧ ws (EW.fn R) (env0 bx ds k) N
def spW (bx : Bool) (n : Nat) (w : WF) : Sp := fun vs H Q _ => ∃ (b bs : List Addr) (us : List V) (ds : List PyData) (N : Nat) (R : T → Nat → Prop), vs = b.map V.ref ++ us ∧ b.length = (if bx then 1 else 0) ∧ us.length = n ∧ (∀ a ∈ b, a ∈ bs) ∧ Live bs H ∧ NoTup bs H ∧ (∀ a ∈ b, Box H a N) ∧ DqAll (hid bs H) us ds ∧ w ds N R ∧
  ∀ v t A N' H', R t N' → Keep b H H' → (∀ a ∈ b, Box H' a N') → Nw bs A H H' v t → Q v H'
theorem spW_len {bx : Bool} {n : Nat} {w : WF} {vs : List V} {H : Hp} {Q : VK} {E : XK} (h : spW bx n w vs H Q E) : vs.length = (if bx then 1 else 0) + n := by
  obtain ⟨b, bs, us, ds, N, R, rfl, hb, hu, _⟩ := h
  rw [List.length_append, List.length_map, hb, hu]
theorem env_start {b bs : List Addr} {bx : Bool} (hb : b.length = (if bx then 1 else 0)) {us : List V} {ds : List PyData} (h : DqAll (hid bs H) us ds) (k : Nat) : RelE b bs H (((b.map V.ref ++ us).map some) ++ List.replicate k none) (env0 bx ds k) [] := by
  have tail : ∀ k : Nat, RelE b bs H (List.replicate k none) (List.replicate k Sl.no) [] := fun k => by
    induction k with
    | zero => exact .nil
    | succ k ih => exact .no ih
  have mid : ∀ {us : List V} {ds : List PyData}, DqAll (hid bs H) us ds → RelE b bs H (us.map some ++ List.replicate k none) (ds.map (fun d => Sl.is (.sh d)) ++ List.replicate k Sl.no) [] := fun {us ds} h => by
    induction us generalizing ds with
    | nil =>
      cases h
      exact tail k
    | cons u us ih =>
      cases h with
      | cons h1 t1 => exact RelE.is (A := []) (.sh h1) (ih t1)
  unfold env0
  cases bx with
  | false =>
    have e : b = [] := List.length_eq_zero_iff.mp hb
    subst e
    exact mid h
  | true =>
    match b, hb with
    | [a], _ => exact .box rfl (mid h)
/-- a def's body, from its promise -/
theorem run_w {bx : Bool} {n k : Nat} {Nm : List Str} {vs : List V} {Q : VK} {E : XK} (h : SimS ts ws) (hN : Nm.length = (if bx then 1 else 0) + n + k) (sp : spW bx n (wFn bx n k ws) vs H Q E) : ts { nx := fun _ H' => Q .non H', rt := Q } (L2.start Nm vs) H := by
  have hl := spW_len sp
  obtain ⟨b, bs, us, ds, N, R, rfl, hb, hu, hsub, lv, nt, bx', hd, ⟨_, hw⟩, q⟩ := sp
  have es : L2.start Nm (b.map V.ref ++ us) = ((b.map V.ref ++ us).map some) ++ List.replicate k none := by
    unfold L2.start
    rw [hl, hN]
    congr 2
    omega
  rw [es]
  let c : Base := ⟨b, bs, hid b H, hid bs H⟩
  have r : Rel c bs [] (((b.map V.ref ++ us).map some) ++ List.replicate k none) H (env0 bx ds k) N := ⟨env_start hb hd k, List.nodup_nil, (fun _ z => nomatch z), (fun _ z => nomatch z), (fun _ z => nomatch z), fun _ h => h, hsub, fun a ha => hid_in ha, lv, nt, bx', hid_same, Same.refl _⟩
  have ret : ∀ {v : V} {t : T} {A : List Addr} {H' : Hp} {M : Nat}, Ret c v t A H' M → R t M → Q v H' := fun {v t A H' M} rt hR => by
    have kp : Keep b H H' := fun a o e => by
      obtain ⟨h1, h2⟩ := hid_some e
      rw [hid_out h1]
      exact rt.pin a o e
    refine q v t A M H' hR kp rt.box ⟨rt.rep, rt.nd, fun a ha => ?_⟩
    have h1 : hid b H a = none := rt.off a ha
    rw [hid_out (fun z => rt.nb a ha (hsub a z))] at h1
    exact h1
  exact h r hw ⟨fun r2 w2 => ret (r2.ret r2.self (Nw.sh .non)) w2, fun rt w2 => ret rt w2, fun _ w2 => w2.elim, fun _ w2 => w2.elim, fun _ _ _ _ w2 => w2.elim, fun _ _ w2 => w2.elim⟩
/-! ### calls of defs -/
def wCallT (f : WF) (was : WA) : WT := fun ε N R => was ε N fun ds N1 => f ds 0 fun t _ => R t N1
def wCall (f : WF) (was : WA) : WE := fun ε N R => was ε N fun ds N1 => f ds 0 fun t _ => R t.data N1
theorem sim_callT {n : Nat} {f : WF} (hn : ∀ {ds N R}, f ds N R → ds.length = n) (h : SimA tas was) : SimT (tCall (spW false n f) [] E0 tas) (wCallT f was) := fun {c bs F σ H ε N R Q} r w q => h r w fun us ds N1 H1 w1 o1 hd => by
  show spW false n f (us ++ []) H1 Q E0
  rw [List.append_nil]
  refine ⟨[], bs, us, ds, 0, fun t _ => R t N1, rfl, rfl, hd.len.trans (hn w1), (fun _ z => nomatch z), out_live o1 r.live, out_notup o1 r.live r.nt, (fun _ z => nomatch z), hd, w1, fun v t A N' H' hR kp _ n => ?_⟩
  have sm : Same H1 H' := fun a o e => kp.get List.not_mem_nil e
  exact q v t A N1 H' hR (o1.ext sm) (n.back o1)
theorem sim_call {n : Nat} {f : WF} (hn : ∀ {ds N R}, f ds N R → ds.length = n) (h : SimA tas was) : SimE (tCall (spW false n f) [] E0 tas) (wCall f was) := by
  show SimE _ (wFz (wCallT f was))
  exact sim_fz (sim_callT hn h)
def isBox (ε : Env) (i : Nat) : Bool := match ε[i]? with
  | some .box => true
  | _ => false
theorem box_slot {i : Nat} (r : Rel c bs F σ H ε N) (h : isBox ε i = true) : ∃ a, c.b = [a] ∧ σ[i]? = some (some (.ref a)) := by
  unfold isBox at h
  split at h
  · rename_i e
    obtain ⟨x, A, F1, F2, hx, hr, _, _⟩ := r.env.at e
    cases hr with
    | box eb => exact ⟨_, eb, hx⟩
  · cases h
def wCallBT (i : Nat) (f : WF) (was : WA) : WT := fun ε N R => isBox ε i = true ∧ was ε N fun ds N1 => f ds N1 R
def wCallB (i : Nat) (f : WF) (was : WA) : WE := fun ε N R => isBox ε i = true ∧ was ε N fun ds N1 => f ds N1 fun t N2 => R t.data N2
theorem sim_callBT {n i : Nat} {f : WF} (hn : ∀ {ds N R}, f ds N R → ds.length = n) (h : SimA tas was) : SimT (tCall (spW true n f) [] E0 (tCons (tVar i) tas)) (wCallBT i f was) := fun {c bs F σ H ε N R Q} r w q => by
  obtain ⟨hb, w⟩ := w
  obtain ⟨a, eb, hs⟩ := box_slot r hb
  refine ⟨.ref a, hs, h r w fun us ds N1 H1 w1 o1 hd => ?_⟩
  show spW true n f (.ref a :: us ++ []) H1 Q E0
  rw [List.append_nil]
  have r1 := r.out o1
  refine ⟨c.b, bs, us, ds, N1, R, by rw [eb]; rfl, by rw [eb]; rfl, hd.len.trans (hn w1), r.bin, r1.live, r1.nt, r1.box, hd, w1, fun v t A N' H' hR kp bx n => ?_⟩
  exact q v t A N' H' hR (o1.trans ⟨kp, bx⟩) (n.back o1)
theorem sim_callB {n i : Nat} {f : WF} (hn : ∀ {ds N R}, f ds N R → ds.length = n) (h : SimA tas was) : SimE (tCall (spW true n f) [] E0 (tCons (tVar i) tas)) (wCallB i f was) := by
  show SimE _ (wFz (wCallBT i f was))
  exact sim_fz (sim_callBT hn h)
end
end Cg

set_option Elab.async false
set_option linter.all false
set_option maxRecDepth 100000
set_option maxHeartbeats 1000000
namespace Cg
open PySem PySem.Spec PyProof.Rows L2 Evl
section
variable {ta tb te : TE} {wa wb we : WE} {wt : WT} {t : TT} {w : WB} {ts us : TS} {ws wu : WS} {tas : TA} {was : WA} {c : Base} {bs F A B : List Addr} {σ : L2.St} {H H1 : Hp} {ε : Env} {N N1 : Nat} {v : V} {x : T}
/-! ### several names at once -/
def setsV : List Nat → List V → L2.St → L2.St
  | i :: is, v :: vs, σ => setsV is vs (σ.set i (some v))
  | _, _, σ => σ
def setsE : List Nat → List T → Env → Env
  | i :: is, t :: ts, ε => setsE is ts (ε.set i (.is t))
  | _, _, ε => ε
theorem Rel.puts : ∀ {is : List Nat} {vs : List V} {ts : List T} {A F : List Addr} {σ : L2.St} {ε : Env}, Rel c bs F σ H ε N → RepL bs H vs ts A → A.Nodup → (∀ a ∈ A, a ∈ bs ∧ a ∉ F ∧ c.P a = none ∧ a ∉ c.bs0) → ∃ F', Rel c bs F' (setsV is vs σ) H (setsE is ts ε) N
  | [], _, _, _, F, _, _, r, _, _, _ => by
    unfold setsV setsE
    exact ⟨F, r⟩
  | i :: is, _, _, _, F, _, _, r, .nil, _, _ => ⟨F, r⟩
  | i :: is, _, _, _, F, _, _, r, .cons (A := A1) (B := A2) h1 k1, nd, hA => by
    obtain ⟨n1, n2, n3⟩ := List.nodup_append.mp nd
    obtain ⟨F1, r2, m2⟩ := r.put (i := i) h1 n1 fun a ha => hA a (List.mem_append_left _ ha)
    have := Rel.puts (is := is) r2 k1 n2 fun a ha => by
      obtain ⟨f1, f2, f3⟩ := hA a (List.mem_append_right _ ha)
      refine ⟨f1, fun z => ?_, f3⟩
      cases m2 a z with
      | inl h => exact f2 h
      | inr h => exact n3 a h a ha rfl
    exact this
def wParN (is : List Nat) (wts : WTs) : WS := fun D ε N => wts ε N fun ts N' => ts.length = is.length ∧ D.nx (setsE is ts ε) N'
theorem par_core {is : List Nat} {vs : List V} {ts : List T} {H' : Hp} {N' : Nat} (r : Rel c bs F σ H ε N) (o : Out c H H' N') (n : NwL bs A H H' vs ts) : ∃ F', Rel c (A ++ bs) F' (setsV is vs σ) H' (setsE is ts ε) N' :=
  (r.hide o n.new n.rep.own).puts n.rep n.nd fun a ha => nw_fact r (n.new a ha) ha
theorem two_of {vs : List V} (h : vs.length = 2) : ∃ v u, vs = [v, u] := by
  match vs, h with
  | [v, u], _ => exact ⟨v, u, rfl⟩
theorem sim_par2 {i j : Nat} {wts : WTs} (h : SimTs tas wts) : SimS (tPar i j tas) (wParN [i, j] wts) := fun {c bs F σ H ε N DW D} r w m => h r w fun vs ts A N' H' hR o n => by
  obtain ⟨v, u, rfl⟩ := two_of (n.rep.len.trans hR.1)
  obtain ⟨F', r'⟩ := par_core (is := [i, j]) r o n
  exact ⟨v, u, rfl, m.nx r' hR.2⟩
/-- by a tuple that is laid and taken apart -/
theorem NwL.ext {vs : List V} {ts : List T} {H2 : Hp} (r : Rel c bs F σ H ε N) (o : Out c H H1 N1) (n : NwL bs A H H1 vs ts) (e : Same H1 H2) : NwL bs A H H2 vs ts := ⟨RepL.chg (r.hide o n.new n.rep.own).nt (same_hid e) (fun a _ x h => e a x h) n.rep, n.nd, n.new⟩
theorem sim_parG2 {K : PySem.W.Frag} {i j : Nat} {wts : WTs} (h : SimTs tas wts) : SimS (tAsg (tTup tas) (gTup K 2 (gCons (gName i) (gCons (gName j) gNil)))) (wParN [i, j] wts) := fun {c bs F σ H ε N DW D} r w m => h r w fun vs ts A N' H' hR o n => by
  obtain ⟨v, u, rfl⟩ := two_of (n.rep.len.trans hR.1)
  refine ⟨by show 2 ≤ _; decide, fun p np => ⟨p, _, rfl, SqT.of upd_same, rfl, v, _, rfl, u, _, rfl, rfl, ?_⟩⟩
  obtain ⟨F', r'⟩ := par_core (is := [i, j]) r (o.ext (Ex.new (o := .tup [v, u]) np)) (n.ext r o (Ex.new np))
  exact m.nx r' hR.2
/-! ### truth -/
def truD : PyData → Option Bool
  | .none => some false
  | .bool b => some b
  | .int i => some (i != 0)
  | .list a => some (!a.isEmpty)
  | .tuple a => some (!a.isEmpty)
  | _ => none
def wTru (we : WE) : WB := fun ε N R => we ε N fun d N1 => match truD d with
  | some b => R b N1
  | none => False
end
/-! ### draws -/
def w_take : WF := fun ds N R => match ds with
  | [.int m] => (1 ≤ m ∧ m ≤ 10000000 ∧ N ≤ 1000000000) ∧ ∀ k : Nat, (k : Int) < m → R (.sh (.int (k : Int))) (N + 1)
  | _ => False
theorem w_take_len {ds : List PyData} {N : Nat} {R : T → Nat → Prop} (h : w_take ds N R) : ds.length = 1 := by
  unfold w_take at h
  split at h
  · rfl
  · exact h.elim
theorem sp_take {vs : List V} {H : Hp} {Q : VK} {E : XK} (h : spW true 1 w_take vs H Q E) : spTake vs H Q E := by
  obtain ⟨b, bs, us, ds, N, R, rfl, hb, hu, hsub, lv, nt, bx, hd, hw, q⟩ := h
  match b, hb with
  | [a], _ =>
    unfold w_take at hw
    split at hw
    · rename_i m
      obtain ⟨v, rfl, hv⟩ := dq1 hd
      cases hv
      obtain ⟨⟨h1, h2, h3⟩, hk⟩ := hw
      refine ⟨a, m, N, rfl, bx a (List.mem_singleton.mpr rfl), h3, h1, h2, fun k H' k0 k1 hB kp => ?_⟩
      have e : k = ((k.toNat : Nat) : Int) := by omega
      rw [e]
      refine q _ _ [] (N + 1) H' (hk k.toNat (by omega)) kp (fun x hx => ?_) (Nw.sh (.int _))
      rw [List.mem_singleton.mp hx]
      exact hB
    · exact hw.elim
/-! ### alike, kind by kind -/
def w_same (n : Nat) : WF := fun ds N R => match ds with
  | [d, e] => d = e ∧ Okn n d ∧ R (.sh (.bool true)) N
  | _ => False
theorem w_same_len {n : Nat} {ds : List PyData} {N : Nat} {R : T → Nat → Prop} (h : w_same n ds N R) : ds.length = 2 := by
  unfold w_same at h
  split at h
  · rfl
  · exact h.elim
theorem sp_same {n : Nat} {vs : List V} {H : Hp} {Q : VK} {E : XK} (h : spW false 2 (w_same n) vs H Q E) : spSame n vs H Q E := by
  obtain ⟨b, bs, us, ds, N, R, rfl, hb, hu, hsub, lv, nt, bx, hd, hw, q⟩ := h
  have eb : b = [] := List.length_eq_zero_iff.mp hb
  subst eb
  unfold w_same at hw
  split at hw
  · rename_i d e
    obtain ⟨v, u, rfl, hv, hu2⟩ := dq2 hd
    obtain ⟨rfl, hok, hR⟩ := hw
    refine ⟨v, u, d, rfl, dq_vis hv, dq_vis hu2, hok, fun H2 e2 => q _ _ [] N H2 hR (Keep.of e2) (fun _ z => nomatch z) (Nw.sh (.bl true))⟩
  · exact hw.elim
/-! ### the law's one turn, and the law -/
/-- asked of a box: True, at most C draws -/
def spRt (L C : Nat) : Sp := fun vs H Q _ => ∃ (b : Addr) (N : Nat), vs = [.ref b] ∧ Box H b N ∧ N ≤ L ∧ ∀ H', Keep [b] H H' → Box H' b (N + C) → Q (.bl true) H'
theorem sp_right {L C : Nat} {f : WF} (hf : ∀ N, N ≤ L → f [] N fun t N' => t.data = .bool true ∧ N' ≤ N + C) {vs : List V} {H : Hp} {Q : VK} {E : XK} (h : spRt L C vs H Q E) : spW true 0 f vs H Q E := by
  obtain ⟨b, N, rfl, hB, hN, q⟩ := h
  refine ⟨[b], [b], [], [], N, _, rfl, rfl, rfl, fun _ h => h, fun a ha => ?_, fun a ha xs => ?_, fun a ha => ?_, .nil, hf N hN, fun v t A N' H' hR kp bx n => ?_⟩
  · rw [List.mem_singleton.mp ha]; exact hB.is
  · rw [List.mem_singleton.mp ha]; exact box_tup hB
  · rw [List.mem_singleton.mp ha]; exact hB
  · have hBx := bx b (List.mem_singleton.mpr rfl)
    have hd := n.data (fun a ha => by rw [List.mem_singleton.mp ha]; exact hB.is) (fun a ha xs => by rw [List.mem_singleton.mp ha]; exact box_tup hBx)
    rw [hR.1] at hd
    cases hd
    exact q H' kp (hBx.le hR.2)
def spLaw (K : PySem.W.Frag) : Sp := fun vs H Q _ => ∃ (a : Addr) (ns : List Int), vs = [.ref a] ∧ SqL K H a (ns.map V.int) ∧ ns.length ≤ 63 ∧ ∀ H', Q (.bl true) H'
/-- the built-ins that the text asks are the built-ins still -/
structure Bm (mg : Str → Option Value) : Prop where
  int : mg "int" = none
  bool : mg "bool" = none
  list : mg "list" = none
  tuple : mg "tuple" = none
  str : mg "str" = none
  len : mg "len" = none
  all : mg "all" = none
  isinstance : mg "isinstance" = none
  range : mg "range" = none
  enumerate : mg "enumerate" = none
  zip : mg "zip" = none
  repr : mg "repr" = none
  abs : mg "abs" = none
  min : mg "min" = none
  max : mg "max" = none
  divmod : mg "divmod" = none
  sum : mg "sum" = none
  sorted : mg "sorted" = none
  any : mg "any" = none
  set : mg "set" = none
  reversed : mg "reversed" = none
  dict : mg "dict" = none
theorem Bm.bl {mg : Str → Option Value} (B : Bm mg) : Bl mg := ⟨B.int, B.bool, B.list, B.tuple, B.str, B.len, B.all, B.isinstance, B.range, B.enumerate, B.zip, B.repr, B.abs, B.min, B.max, B.divmod⟩
section
variable {X : Cx}
theorem ixSK (K : PySem.W.Frag) (hK : X.K = K := by rfl) : IxR X (rIx K) := by subst hK; exact ix_seq
end
end Cg

set_option Elab.async false
set_option linter.all false
set_option maxRecDepth 100000
set_option maxHeartbeats 1000000
namespace Cg
open PySem PySem.Spec PyProof.Rows L2 Evl
/-! ### equations for reckoning -/
section
variable {ε : Env} {N : Nat} {R : PyData → Nat → Prop} {S : PyData → Prop} {d e : PyData} {i : Nat} {t : T} {D : EW} {ts : List T} {a b : List PyData} {x y : Int} {p q : Bool} {kd : Bool}
def atSh (o : Option Sl) (k : PyData → Prop) : Prop := match o with
  | some (.is (.sh d)) => k d
  | some (.is (.shr _ d)) => k d
  | _ => False
def atIs (o : Option Sl) (k : T → Prop) : Prop := match o with
  | some (.is t) => k t
  | _ => False
def atOwn (o : Option Sl) (k : List T → Prop) : Prop := match o with
  | some (.is (.lst ts)) => k ts
  | _ => False
def atBox (o : Option Sl) : Prop := match o with
  | some .box => True
  | _ => False
def bIf (b : Bool) (A B : Prop) : Prop := match b with
  | true => A
  | false => B
def dBool (d : PyData) (k : Bool → Prop) : Prop := match d with
  | .bool b => k b
  | _ => False
def dInt (d : PyData) (k : Int → Prop) : Prop := match d with
  | .int b => k b
  | _ => False
def dTup (d : PyData) (k : List PyData → Prop) : Prop := match d with
  | .tuple b => k b
  | _ => False
def dList (d : PyData) (k : List PyData → Prop) : Prop := match d with
  | .list b => k b
  | _ => False
def dSeq (d : PyData) (k : List PyData → Prop) : Prop := match seqOf d with
  | some ds => k ds
  | none => False
def dTru (d : PyData) (k : Bool → Prop) : Prop := match truD d with
  | some b => k b
  | none => False
def dCons (ds : List PyData) (k : PyData → List PyData → Prop) : Prop := match ds with
  | d :: r => k d r
  | [] => False
section
variable {k : PyData → Prop} {kt : T → Prop} {kl : List T → Prop} {kb : Bool → Prop} {ki : Int → Prop} {kd' : List PyData → Prop} {A B : Prop}
theorem atSh_shr {a : Addr} : atSh (some (.is (.shr a d))) k = k d := propext Iff.rfl
theorem atSh_is : atSh (some (.is (.sh d))) k = k d := propext Iff.rfl
theorem atIs_is : atIs (some (.is t)) kt = kt t := propext Iff.rfl
theorem atOwn_is : atOwn (some (.is (.lst ts))) kl = kl ts := propext Iff.rfl
theorem atBox_is : atBox (some .box) = True := propext Iff.rfl
theorem bIf_t : bIf true A B = A := propext Iff.rfl
theorem bIf_f : bIf false A B = B := propext Iff.rfl
theorem bIf_not : bIf (!p) A B = bIf p B A := by cases p <;> exact propext Iff.rfl
theorem bIf_of (h : p = true → A) (h' : p = false → B) : bIf p A B := by cases p with | true => exact h rfl | false => exact h' rfl
theorem bIf_dec {Q : Prop} [Decidable Q] (h : Q → A) (h' : ¬ Q → B) : bIf (decide Q) A B := bIf_of (fun e => h (of_decide_eq_true e)) fun e => h' (of_decide_eq_false e)
theorem dBool_is : dBool (.bool p) kb = kb p := propext Iff.rfl
theorem dInt_is : dInt (.int x) ki = ki x := propext Iff.rfl
theorem dTup_is : dTup (.tuple a) kd' = kd' a := propext Iff.rfl
theorem dList_is : dList (.list a) kd' = kd' a := propext Iff.rfl
theorem dSeq_list : dSeq (.list a) kd' = kd' a := propext Iff.rfl
theorem dSeq_tup : dSeq (.tuple a) kd' = kd' a := propext Iff.rfl
theorem dSeq_seq : dSeq (seqD kd a) kd' = kd' a := by cases kd <;> exact propext Iff.rfl
theorem dTru_none : dTru .none kb = kb false := propext Iff.rfl
theorem dTru_bool : dTru (.bool p) kb = kb p := propext Iff.rfl
theorem dTru_int : dTru (.int x) kb = kb (x != 0) := propext Iff.rfl
theorem dTru_list : dTru (.list a) kb = kb (!a.isEmpty) := propext Iff.rfl
theorem dTru_tup : dTru (.tuple a) kb = kb (!a.isEmpty) := propext Iff.rfl
theorem dCons_is {kc : PyData → List PyData → Prop} : dCons (d :: a) kc = kc d a := propext Iff.rfl
end
section
variable {RT : T → Nat → Prop} {RA : List PyData → Nat → Prop} {RB : Bool → Nat → Prop} {RO : Option Int → Nat → Prop} {RTs : List T → Nat → Prop} {RG : Env → Prop} {we wa wb wc : WE} {wt wu : WT} {wts : WTs} {was : WA} {ws wv : WS} {w w' : WB} {wo wo' : WO} {wg : WG} {wgs : WGs} {o o' : O2} {o1 : O1} {oc : OC} {on : PyData → PyData → (List PyData → Prop) → Prop} {ocn : List PyData → (List PyData → Prop) → Prop} {f : WF} {is : List Nat} {j : Nat} {g : PyData → Bool}
theorem wVar_eq : wVar i ε N R = atSh ε[i]? fun d => R d N := propext Iff.rfl
theorem wC_eq : wC d ε N R = R d N := propext Iff.rfl
theorem wRetV_eq : wRetV i D ε N = atIs ε[i]? fun t => D.rt t N := propext Iff.rfl
theorem wFrz_eq : wFrz i ws D ε N = atIs ε[i]? fun t => ws D (ε.set i (.is (.sh t.data))) N := propext Iff.rfl
theorem isBox_eq : (isBox ε i = true) = atBox ε[i]? := by
  unfold isBox atBox
  cases ε[i]? with
  | none => exact propext ⟨(fun h => nomatch h), fun h => h.elim⟩
  | some l => cases l with
    | no => exact propext ⟨(fun h => nomatch h), fun h => h.elim⟩
    | box => exact propext ⟨fun _ => True.intro, fun _ => rfl⟩
    | is t => exact propext ⟨(fun h => nomatch h), fun h => h.elim⟩
    | dic _ => exact propext ⟨(fun h => nomatch h), fun h => h.elim⟩
    | dcF _ => exact propext ⟨(fun h => nomatch h), fun h => h.elim⟩
    | pin _ => exact propext ⟨(fun h => nomatch h), fun h => h.elim⟩
theorem onOwn_eq {k : List T → Env → Nat → Prop} : onOwn i k ε N = atOwn ε[i]? fun ts => k ts ε N := by
  unfold onOwn ownL atOwn
  cases ε[i]? with
  | none => rfl
  | some l => cases l with
    | no => rfl
    | box => rfl
    | is t => cases t <;> rfl
    | dic _ => rfl
    | dcF _ => rfl
    | pin _ => rfl
theorem wNil_eq : wNil ε N RA = RA [] N := propext Iff.rfl
theorem wCons_eq : wCons we was ε N RA = we ε N fun d N1 => was ε N1 fun ds N2 => RA (d :: ds) N2 := propext Iff.rfl
theorem wOp_eq : wOp o wa wb ε N R = wa ε N fun d N1 => wb ε N1 fun e N2 => o d e fun f => R f N2 := propext Iff.rfl
theorem wOpT_eq : wOpT on wa wb ε N RT = wa ε N fun d N1 => wb ε N1 fun e N2 => on d e fun ds => RT (.lst (ds.map T.sh)) N2 := propext Iff.rfl
theorem wUn_eq : wUn o1 wa ε N R = wa ε N fun d N1 => o1 d fun f => R f N1 := propext Iff.rfl
theorem wCb_eq : wCb oc was ε N R = was ε N fun ds N1 => oc ds fun f => R f N1 := propext Iff.rfl
theorem wCbT_eq : wCbT ocn was ε N RT = was ε N fun ds N1 => ocn ds fun es => RT (.lst (es.map T.sh)) N1 := propext Iff.rfl
theorem wTest_eq : wTest we ε N RB = we ε N fun d N1 => dBool d fun b => RB b N1 := propext Iff.rfl
theorem wTru_eq : wTru we ε N RB = we ε N fun d N1 => dTru d fun b => RB b N1 := propext Iff.rfl
theorem wYes_eq : wYes ε N RB = RB true N := propext Iff.rfl
theorem wNot_eq : wNot w ε N RB = w ε N fun b N1 => RB (!b) N1 := propext Iff.rfl
theorem wAnd_eq : wAnd w w' ε N RB = w ε N fun b N1 => bIf b (w' ε N1 RB) (RB false N1) := propext Iff.rfl
theorem wOr_eq : wOr w w' ε N RB = w ε N fun b N1 => bIf b (RB true N1) (w' ε N1 RB) := propext Iff.rfl
theorem wAndV_eq : wAndV wa wb ε N R = wa ε N fun d N1 => dBool d fun b => bIf b (wb ε N1 R) (R (.bool false) N1) := by
  refine congrArg (wa ε N) (funext fun d => funext fun N1 => ?_)
  cases d <;> first | rfl | skip
  rename_i b
  cases b <;> rfl
theorem wOrV_eq : wOrV wa wb ε N R = wa ε N fun d N1 => dBool d fun b => bIf b (R (.bool true) N1) (wb ε N1 R) := by
  refine congrArg (wa ε N) (funext fun d => funext fun N1 => ?_)
  cases d <;> first | rfl | skip
  rename_i b
  cases b <;> rfl
theorem wNotV_eq : wNotV wa ε N R = wa ε N fun d N1 => dBool d fun b => R (.bool !b) N1 := propext Iff.rfl
theorem wIf_eq : wIf w wa wb ε N R = w ε N fun b N1 => bIf b (wa ε N1 R) (wb ε N1 R) := propext Iff.rfl
theorem wIfT_eq : wIfT w wt wu ε N RT = w ε N fun b N1 => bIf b (wt ε N1 RT) (wu ε N1 RT) := propext Iff.rfl
theorem wChain_eq : wChain o o' wa wb wc ε N R = wa ε N fun d N1 => wb ε N1 fun e N2 => o d e fun f => dBool f fun b => bIf b (wc ε N2 fun g N3 => o' e g fun f => R f N3) (R (.bool false) N2) := by
  refine congrArg (wa ε N) (funext fun d => funext fun N1 => congrArg (wb ε N1) (funext fun e => funext fun N2 => congrArg (o d e) (funext fun f => ?_)))
  cases f <;> first | rfl | skip
  rename_i b
  cases b <;> rfl
theorem wLst_eq : wLst was ε N R = was ε N fun ds N1 => ds.length ≤ 100000 ∧ R (.list ds) N1 := propext Iff.rfl
theorem wTup_eq : wTup was ε N R = was ε N fun ds N1 => ds.length ≤ 100000 ∧ R (.tuple ds) N1 := propext Iff.rfl
theorem wNilT_eq : wNilT ε N RTs = RTs [] N := propext Iff.rfl
theorem wConsT_eq : wConsT wt wts ε N RTs = wt ε N fun t N1 => wts ε N1 fun ts N2 => RTs (t :: ts) N2 := propext Iff.rfl
theorem wLstT_eq : wLstT wts ε N RT = wts ε N fun ts N1 => ts.length ≤ 100000 ∧ RT (.lst ts) N1 := propext Iff.rfl
theorem wTupT_eq : wTupT wts ε N RT = wts ε N fun ts N1 => ts.length ≤ 100000 ∧ RT (.tup ts) N1 := propext Iff.rfl
theorem wSh_eq : wSh we ε N RT = we ε N fun d N' => RT (.sh d) N' := propext Iff.rfl
theorem wFz_eq : wFz wt ε N R = wt ε N fun t N' => R t.data N' := propext Iff.rfl
theorem wVw_eq : wVw we ε N R = we (viewE ε) N fun d N' => imm d = true ∧ R d N' := propext Iff.rfl
theorem wVb_eq : wVb w ε N RB = w (viewE ε) N RB := propext Iff.rfl
theorem wVt_eq : wVt wt ε N RT = wt (viewE ε) N fun t N' => t.clean = true ∧ RT t N' := propext Iff.rfl
theorem view_nil : viewE [] = [] := by rw [viewE, List.map_nil]
theorem view_cons {l : Sl} : viewE (l :: ε) = l.view :: viewE ε := by rw [viewE, List.map_cons, viewE]
theorem view_no : Sl.view .no = .no := by unfold Sl.view; rfl
theorem view_box : Sl.view .box = .box := by unfold Sl.view; rfl
theorem view_is : Sl.view (.is t) = .is (.sh t.data) := by unfold Sl.view; rfl
theorem wCall_eq : wCall f was ε N R = was ε N fun ds N1 => f ds 0 fun t _ => R t.data N1 := propext Iff.rfl
theorem wCallT_eq : wCallT f was ε N RT = was ε N fun ds N1 => f ds 0 fun t _ => RT t N1 := propext Iff.rfl
theorem wCallB_eq : wCallB i f was ε N R = (isBox ε i = true ∧ was ε N fun ds N1 => f ds N1 fun t N2 => R t.data N2) := propext Iff.rfl
theorem wCallBT_eq : wCallBT i f was ε N RT = (isBox ε i = true ∧ was ε N fun ds N1 => f ds N1 RT) := propext Iff.rfl
theorem wIs_eq : wIs g wa ε N R = wa ε N fun d N1 => notI d = true ∧ R (.bool (g d)) N1 := propext Iff.rfl
theorem notI_none : notI .none = true := rfl
theorem notI_bool {b : Bool} : notI (.bool b) = true := rfl
theorem notI_int {i : Int} : notI (.int i) = true := rfl
theorem notI_str {x : Str} : notI (.str x) = true := rfl
theorem notI_list {ds : List PyData} : notI (.list ds) = true := rfl
theorem notI_tup {ds : List PyData} : notI (.tuple ds) = true := rfl
theorem notI_seq {k : Bool} {ds : List PyData} : notI (seqD k ds) = true := by cases k <;> rfl
theorem wNoPart_eq : wNoPart ε N RO = RO none N := propext Iff.rfl
theorem wPart_eq : wPart we ε N RO = we ε N fun d N1 => dInt d fun i => RO (some i) N1 := propext Iff.rfl
theorem wSl_eq : wSl we wo wo' ε N R = we ε N fun d N1 => wo ε N1 fun lo N2 => wo' ε N2 fun hi N3 => dList d fun a => R (.list (cutG a lo hi)) N3 := propext Iff.rfl
theorem wSlT_eq : wSlT we wo wo' ε N RT = we ε N fun d N1 => wo ε N1 fun lo N2 => wo' ε N2 fun hi N3 => dList d fun a => RT (.lst ((cutG a lo hi).map T.sh)) N3 := propext Iff.rfl
theorem wRevT_eq : wRevT we ε N RT = we ε N fun d N1 => dList d fun a => RT (.lst (a.reverse.map T.sh)) N1 := propext Iff.rfl
theorem wRgL_eq : wRgL we ε N RT = we ε N fun d N1 => dInt d fun n => (0 ≤ n ∧ n ≤ 100000) ∧ RT (.lst ((List.range n.toNat).map fun (k : Nat) => T.sh (.int (k : Int)))) N1 := propext Iff.rfl
theorem wSkip_eq : wSkip D ε N = D.nx ε N := propext Iff.rfl
theorem wBreak_eq : wBreak D ε N = D.bk ε N := propext Iff.rfl
theorem wCont_eq : wCont D ε N = D.ct ε N := propext Iff.rfl
theorem wSeq_eq : wSeq ws wv D ε N = ws (D.seq (wv D)) ε N := propext Iff.rfl
theorem seq_nx {k : Env → Nat → Prop} : (D.seq k).nx ε N = k ε N := propext Iff.rfl
theorem seq_rt {k : Env → Nat → Prop} : (D.seq k).rt t N = D.rt t N := propext Iff.rfl
theorem seq_bk {k : Env → Nat → Prop} : (D.seq k).bk ε N = D.bk ε N := propext Iff.rfl
theorem seq_ct {k : Env → Nat → Prop} : (D.seq k).ct ε N = D.ct ε N := propext Iff.rfl
theorem loop_nx {k : Env → Nat → Prop} : (D.loop k).nx ε N = k ε N := propext Iff.rfl
theorem loop_rt {k : Env → Nat → Prop} : (D.loop k).rt t N = D.rt t N := propext Iff.rfl
theorem loop_bk {k : Env → Nat → Prop} : (D.loop k).bk ε N = D.nx ε N := propext Iff.rfl
theorem loop_ct {k : Env → Nat → Prop} : (D.loop k).ct ε N = k ε N := propext Iff.rfl
theorem fn_nx {R : T → Nat → Prop} : (EW.fn R).nx ε N = R (.sh .none) N := propext Iff.rfl
theorem fn_rt {R : T → Nat → Prop} : (EW.fn R).rt t N = R t N := propext Iff.rfl
theorem wRet_eq : wRet wt D ε N = wt ε N fun t N' => D.rt t N' := propext Iff.rfl
theorem wRetN_eq : wRetN D ε N = D.rt (.sh .none) N := propext Iff.rfl
theorem wIfS_eq : wIfS w ws wv D ε N = w ε N fun b N1 => bIf b (ws D ε N1) (wv D ε N1) := propext Iff.rfl
theorem wAsgT_eq : wAsgT i wt D ε N = wt ε N fun t N' => D.nx (ε.set i (.is t)) N' := propext Iff.rfl
theorem wAsg_eq : wAsg we wg D ε N = we ε N fun d N' => wg d ε fun ε' => D.nx ε' N' := propext Iff.rfl
theorem wParN_eq : wParN is wts D ε N = wts ε N fun ts N' => ts.length = is.length ∧ D.nx (setsE is ts ε) N' := propext Iff.rfl
theorem setsE_cons {i : Nat} {is : List Nat} {t : T} {ts : List T} : setsE (i :: is) (t :: ts) ε = setsE is ts (ε.set i (.is t)) := by rw [setsE]
theorem setsE_nil : setsE [] ts ε = ε := by cases ts <;> rfl
theorem wDrop_eq : wDrop we D ε N = we ε N fun _ N' => D.nx ε N' := propext Iff.rfl
theorem wName_eq : wName i d ε RG = RG (ε.set i (.is (.sh d))) := propext Iff.rfl
theorem wGNil_eq : wGNil a ε RG = (a = [] ∧ RG ε) := propext Iff.rfl
theorem wGCons_eq : wGCons wg wgs a ε RG = dCons a fun d r => wg d ε fun ε' => wgs r ε' RG := propext Iff.rfl
theorem wGTup_eq : wGTup j wgs d ε RG = dTup d fun ds => ds.length = j ∧ wgs ds ε RG := propext Iff.rfl
theorem wApp_eq : wApp i wt D ε N = atOwn ε[i]? fun ts => wt ε N fun t N' => ts.length ≤ 100000 ∧ D.nx (ε.set i (.is (.lst (ts ++ [t])))) N' := onOwn_eq
theorem wRev_eq : wRev i D ε N = atOwn ε[i]? fun ts => D.nx (ε.set i (.is (.lst ts.reverse))) N := onOwn_eq
theorem wClr_eq : wClr i D ε N = atOwn ε[i]? fun ts => D.nx (ε.set i (.is (.lst []))) N := onOwn_eq
theorem wExt_eq : wExt i we D ε N = atOwn ε[i]? fun ts => we ε N fun d N' => dList d fun ds => ts.length + ds.length ≤ 100000 ∧ D.nx (ε.set i (.is (.lst (ts ++ ds.map T.sh)))) N' := onOwn_eq
theorem wSet_eq : wSet i we wt D ε N = atOwn ε[i]? fun ts => wt ε N fun t N1 => we ε N1 fun d N2 => dInt d fun k => ∃ j, ixN ts.length k = some j ∧ D.nx (ε.set i (.is (.lst (ts.set j t)))) N2 := onOwn_eq
theorem wPop_eq : wPop i we wg D ε N = atOwn ε[i]? fun ts => we ε N fun d N1 => dInt d fun k => (0 ≤ k ∧ k < ts.length ∧ k ≤ 1000000) ∧ ∃ d, ts[k.toNat]? = some (.sh d) ∧ wg d (ε.set i (.is (.lst (ts.eraseIdx k.toNat)))) fun ε' => D.nx ε' N1 := onOwn_eq
theorem wipe_nil : wipeE ε [] = ε := by rw [wipeE]
theorem wipe_cons : wipeE ε (i :: is) = (wipeE ε is).set i .no := by rw [wipeE]
theorem env0_f : env0 false a j = a.map (fun d => Sl.is (.sh d)) ++ List.replicate j Sl.no := by
  unfold env0
  rw [if_neg (by decide), List.nil_append]
theorem env0_t : env0 true a j = Sl.box :: (a.map (fun d => Sl.is (.sh d)) ++ List.replicate j Sl.no) := by
  unfold env0
  rw [if_pos rfl]
  rfl
end
theorem oI_int {C : Int → Int → Prop} {g : Int → Int → PyData} : oI C g (.int x) (.int y) S = (C x y ∧ S (g x y)) := propext Iff.rfl
theorem oI0_int {g : Int → Int → PyData} : oI0 g (.int x) (.int y) S = S (g x y) := propext Iff.rfl
theorem oAdd_int : oAdd (.int x) (.int y) S = S (.int (x + y)) := propext Iff.rfl
theorem oAdd_list : oAdd (.list a) (.list b) S = (a.length + b.length ≤ 1000000 ∧ S (.list (a ++ b))) := propext Iff.rfl
theorem oMul_int : oMul (.int x) (.int y) S = (CMul x y ∧ S (.int (x * y))) := propext Iff.rfl
theorem oMul_list : oMul (.list a) (.int x) S = ((0 ≤ x ∧ x ≤ 1000000 ∧ a.length * x.toNat ≤ 1000000) ∧ S (.list (List.replicate x.toNat a).flatten)) := propext Iff.rfl
theorem oNeg_int : oNeg (.int x) S = S (.int (-x)) := propext Iff.rfl
theorem oEq_int : oEq (.int x) (.int y) S = S (.bool (x == y)) := propext Iff.rfl
theorem oEq_bool : oEq (.bool p) (.bool q) S = S (.bool (p == q)) := propext Iff.rfl
theorem oEq_nn : oEq .none .none S = S (.bool true) := propext Iff.rfl
theorem oEq_in : oEq (.int x) .none S = S (.bool false) := propext Iff.rfl
theorem oEq_ni : oEq .none (.int x) S = S (.bool false) := propext Iff.rfl
theorem oNe_int : oNe (.int x) (.int y) S = S (.bool (!(x == y))) := propext Iff.rfl
theorem oNe_bool : oNe (.bool p) (.bool q) S = S (.bool (!(p == q))) := propext Iff.rfl
theorem oNe_nn : oNe .none .none S = S (.bool false) := propext Iff.rfl
theorem oNe_in : oNe (.int x) .none S = S (.bool true) := propext Iff.rfl
theorem oNe_ni : oNe .none (.int x) S = S (.bool true) := propext Iff.rfl
theorem oEq_list : oEq (.list a) (.list b) S = (SeqAt.shaped (.list a) = true ∧ SeqAt.shaped (.list b) = true ∧ S (.bool (PyData.eqv (.list a) (.list b)))) := propext Iff.rfl
theorem oNe_list : oNe (.list a) (.list b) S = (SeqAt.shaped (.list a) = true ∧ SeqAt.shaped (.list b) = true ∧ S (.bool (!PyData.eqv (.list a) (.list b)))) := propext Iff.rfl
theorem oEq_tup : oEq (.tuple a) (.tuple b) S = (SeqAt.shaped (.tuple a) = true ∧ SeqAt.shaped (.tuple b) = true ∧ S (.bool (PyData.eqv (.tuple a) (.tuple b)))) := propext Iff.rfl
theorem oNe_tup : oNe (.tuple a) (.tuple b) S = (SeqAt.shaped (.tuple a) = true ∧ SeqAt.shaped (.tuple b) = true ∧ S (.bool (!PyData.eqv (.tuple a) (.tuple b)))) := propext Iff.rfl
theorem oEq_str {u v : Str} : oEq (.str u) (.str v) S = S (.bool (u == v)) := propext Iff.rfl
theorem oNe_str {u v : Str} : oNe (.str u) (.str v) S = S (.bool (!(u == v))) := propext Iff.rfl
theorem oIx_list : oIx (.list a) (.int x) S = ∃ d, atI a x = some d ∧ S d := propext Iff.rfl
theorem oIx_tup : oIx (.tuple a) (.int x) S = ∃ d, atI a x = some d ∧ S d := propext Iff.rfl
theorem oIx_seq : oIx (seqD kd a) (.int x) S = ∃ d, atI a x = some d ∧ S d := by cases kd <;> exact propext Iff.rfl
theorem oLen_list : oLen [.list a] S = S (.int a.length) := propext Iff.rfl
theorem oLen_tup : oLen [.tuple a] S = S (.int a.length) := propext Iff.rfl
theorem oLen_seq : oLen [seqD kd a] S = S (.int a.length) := by cases kd <;> exact propext Iff.rfl
theorem oInt_int : oInt [.int x] S = S (.int x) := propext Iff.rfl
theorem oInt_bool : oInt [.bool p] S = S (.int (if p then 1 else 0)) := propext Iff.rfl
theorem oAbs_int : oAbs [.int x] S = S (.int (if x < 0 then -x else x)) := propext Iff.rfl
theorem oMin2_int : oMin2 [.int x, .int y] S = S (.int (if y < x then y else x)) := propext Iff.rfl
theorem oMax2_int : oMax2 [.int x, .int y] S = S (.int (if y > x then y else x)) := propext Iff.rfl
theorem oAll_is {bs : List Bool} : oAll [.list (bs.map PyData.bool)] S = S (.bool (bs.all id)) := by
  show (match boolsOf (bs.map PyData.bool) with | some bs => S (.bool (bs.all id)) | none => False) = _
  rw [boolsOf_map]
theorem oSum_is {ns : List Int} : oSum [.list (ns.map PyData.int)] S = S (.int ns.sum) := by
  show (match intsOf (ns.map PyData.int) with | some ns => S (.int ns.sum) | none => False) = _
  rw [intsOf_map]
theorem oListD_list : oListD [.list a] S = S (.list a) := propext Iff.rfl
theorem oListD_tup : oListD [.tuple a] S = S (.list a) := propext Iff.rfl
theorem oListD_seq : oListD [seqD kd a] S = S (.list a) := by cases kd <;> exact propext Iff.rfl
theorem oTuple_list : oTuple [.list a] S = S (.tuple a) := propext Iff.rfl
theorem oTuple_tup : oTuple [.tuple a] S = S (.tuple a) := propext Iff.rfl
theorem oTuple_seq : oTuple [seqD kd a] S = S (.tuple a) := by cases kd <;> exact propext Iff.rfl
theorem oRepr_is : oRepr [d] S = ((okD d = true ∧ d.depth ≤ 40 ∧ wz d ≤ 1000000) ∧ S (.str d.shown)) := propext Iff.rfl
theorem oIs_none : oIs d .none S = S (.bool (isNone d)) := by
  show (isNone .none = true ∧ _) = _
  exact propext ⟨fun h => h.2, fun h => ⟨rfl, h⟩⟩
theorem oIsNot_none : oIsNot d .none S = S (.bool (!isNone d)) := by
  show (isNone .none = true ∧ _) = _
  exact propext ⟨fun h => h.2, fun h => ⟨rfl, h⟩⟩
theorem oIn_list {neg : Bool} {ns : List Int} : oIn neg (.int x) (.list (ns.map PyData.int)) S = S (.bool (if neg then !ns.contains x else ns.contains x)) := by
  show (match intsOf (ns.map PyData.int) with | some ns => S (.bool (if neg then !ns.contains x else ns.contains x)) | none => False) = _
  rw [intsOf_map]
theorem oIn_seq {neg : Bool} {ns : List Int} : oIn neg (.int x) (seqD kd (ns.map PyData.int)) S = S (.bool (if neg then !ns.contains x else ns.contains x)) := by
  cases kd
  · show (match intsOf (ns.map PyData.int) with | some ns => S (.bool (if neg then !ns.contains x else ns.contains x)) | none => False) = _
    rw [intsOf_map]
  · exact oIn_list
variable {SL : List PyData → Prop}
theorem oList_list : oList [.list a] SL = SL a := propext Iff.rfl
theorem oList_tup : oList [.tuple a] SL = SL a := propext Iff.rfl
theorem oList_seq : oList [seqD kd a] SL = SL a := by cases kd <;> exact propext Iff.rfl
theorem oCat_list : oCat (.list a) (.list b) SL = (a.length + b.length ≤ 1000000 ∧ SL (a ++ b)) := propext Iff.rfl
theorem oRep_list : oRep (.list a) (.int x) SL = ((0 ≤ x ∧ x ≤ 1000000 ∧ a.length * x.toNat ≤ 1000000) ∧ SL (List.replicate x.toNat a).flatten) := propext Iff.rfl
theorem w_take_is {RT : T → Nat → Prop} {m : Int} : w_take [.int m] N RT = ((1 ≤ m ∧ m ≤ 10000000 ∧ N ≤ 1000000000) ∧ ∀ k : Nat, (k : Int) < m → RT (.sh (.int (k : Int))) (N + 1)) := propext Iff.rfl
theorem w_same_is {n : Nat} {RT : T → Nat → Prop} : w_same n [d, e] N RT = (d = e ∧ Okn n d ∧ RT (.sh (.bool true)) N) := propext Iff.rfl
theorem atI_l0 {α : Type} {u : α} {l : List α} : atI (u :: l) 0 = some u := atI_nat (j := 0) rfl
theorem atI_l1 {α : Type} {u v : α} {l : List α} : atI (u :: v :: l) 1 = some v := atI_nat (j := 1) rfl
theorem atI_l2 {α : Type} {u v w : α} {l : List α} : atI (u :: v :: w :: l) 2 = some w := atI_nat (j := 2) rfl
/-! ### loops -/
variable {we : WE} {wg : WG} {wb : WS}
/-- for k in range(n) -/
theorem for_r1 {n : Nat} (I : Nat → Env → Nat → Prop) (he : ∀ R, R (.int (n : Int)) N → we ε N R) (hn : n ≤ 1000000) (h0 : I 0 ε N) (hs : ∀ k ε M, k < n → I k ε M → wg (.int (k : Int)) ε fun ε2 => wb (D.loop (I (k + 1))) ε2 M) (hd : ∀ ε M, I n ε M → D.nx ε M) : wFor (wRng1 we) wg wb D ε N := by
  refine he _ ?_
  have toN : ((n : Int)).toNat = n := by omega
  refine ⟨⟨by omega, by omega⟩, I, h0, fun k d ε M hd' hI => ?_, fun ε M hI => hd ε M ?_⟩
  · obtain ⟨hk, rfl⟩ := rng_get hd'
    rw [toN] at hk
    have := hs k ε M hk hI
    rw [Int.zero_add]
    exact this
  · rw [rngD_len, toN] at hI
    exact hI
/-- for x in a list -/
theorem for_it {ds : List PyData} (I : Nat → Env → Nat → Prop) (he : ∀ R, R d N → we ε N R) (hd0 : seqOf d = some ds) (h0 : I 0 ε N) (hs : ∀ k x ε M, ds[k]? = some x → I k ε M → wg x ε fun ε2 => wb (D.loop (I (k + 1))) ε2 M) (hd : ∀ ε M, I ds.length ε M → D.nx ε M) : wFor (wIt we) wg wb D ε N := by
  refine he _ ?_
  show (match seqOf d with | some ds => _ | none => False)
  rw [hd0]
  exact ⟨I, h0, hs, hd⟩
/-! ### comprehensions -/
variable {wt : WB} {w : WE} {vs : List Nat} {wT : WT} {RT : T → Nat → Prop}
/-- [e for k in range(n)], with draws: what holds so far -/
theorem lc_r1 {n : Nat} (I : Nat → List PyData → Nat → Prop) (he : ∀ R, R (.int (n : Int)) N → we ε N R) (hn : n ≤ 40000) (h0 : I 0 [] N) (hs : ∀ k es M, k < n → I k es M → wg (.int (k : Int)) (wipeE ε vs) fun ε2 => w ε2 M fun e M2 => I (k + 1) (es ++ [e]) M2) (hd : ∀ es M, I n es M → R (.list es) M) : wLc (wRng1 we) wg wYes w vs ε N R := by
  refine he _ ?_
  have toN : ((n : Int)).toNat = n := by omega
  refine ⟨⟨by omega, by omega⟩, by rw [rngD_len]; omega, I, h0, fun k d es M hd' hI => ?_, fun es M hI => hd es M ?_⟩
  · obtain ⟨hk, rfl⟩ := rng_get hd'
    rw [toN] at hk
    have := hs k es M hk hI
    rw [Int.zero_add]
    exact this
  · rw [rngD_len, toN] at hI
    exact hI
theorem lcT_r1 {n : Nat} (I : Nat → List T → Nat → Prop) (he : ∀ R, R (.int (n : Int)) N → we ε N R) (hn : n ≤ 40000) (h0 : I 0 [] N) (hs : ∀ k es M, k < n → I k es M → wg (.int (k : Int)) (wipeE ε vs) fun ε2 => wT ε2 M fun e M2 => I (k + 1) (es ++ [e]) M2) (hd : ∀ es M, I n es M → RT (.lst es) M) : wLcT (wRng1 we) wg wYes wT vs ε N RT := by
  refine he _ ?_
  have toN : ((n : Int)).toNat = n := by omega
  refine ⟨⟨by omega, by omega⟩, by rw [rngD_len]; omega, I, h0, fun k d es M hd' hI => ?_, fun es M hI => hd es M ?_⟩
  · obtain ⟨hk, rfl⟩ := rng_get hd'
    rw [toN] at hk
    have := hs k es M hk hI
    rw [Int.zero_add]
    exact this
  · rw [rngD_len, toN] at hI
    exact hI
/-- [e for k in range(n)], nothing drawn -/
theorem lc_rp {n : Nat} (g : Nat → PyData) (he : ∀ R, R (.int (n : Int)) N → we ε N R) (hn : n ≤ 40000) (hs : ∀ k (R : PyData → Nat → Prop), k < n → R (g k) N → wg (.int (k : Int)) (wipeE ε vs) fun ε2 => w ε2 N R) (hd : R (.list ((List.range n).map g)) N) : wLc (wRng1 we) wg wYes w vs ε N R := by
  refine lc_r1 (fun k es M => es = (List.range k).map g ∧ M = N) he hn ⟨rfl, rfl⟩ (fun k es M hk hI => ?_) fun es M hI => ?_
  · obtain ⟨rfl, rfl⟩ := hI
    refine hs k _ hk ⟨?_, rfl⟩
    rw [List.range_succ, List.map_append]
    rfl
  · obtain ⟨rfl, rfl⟩ := hI
    exact hd
theorem lcT_rp {n : Nat} (g : Nat → T) (he : ∀ R, R (.int (n : Int)) N → we ε N R) (hn : n ≤ 40000) (hs : ∀ k (R : T → Nat → Prop), k < n → R (g k) N → wg (.int (k : Int)) (wipeE ε vs) fun ε2 => wT ε2 N R) (hd : RT (.lst ((List.range n).map g)) N) : wLcT (wRng1 we) wg wYes wT vs ε N RT := by
  refine lcT_r1 (fun k es M => es = (List.range k).map g ∧ M = N) he hn ⟨rfl, rfl⟩ (fun k es M hk hI => ?_) fun es M hI => ?_
  · obtain ⟨rfl, rfl⟩ := hI
    refine hs k _ hk ⟨?_, rfl⟩
    rw [List.range_succ, List.map_append]
    rfl
  · obtain ⟨rfl, rfl⟩ := hI
    exact hd
/-! ### data alike -/
/-- of few depths, to be compared -/
def Shp (n : Nat) (d : PyData) : Prop := d.canLay0 = true ∧ d.depth ≤ n
theorem Shp.shaped {n : Nat} (h : Shp n d) (hn : n ≤ 64) : SeqAt.shaped d = true := by
  show (d.canLay0 && decide (d.depth ≤ 64)) = true
  rw [h.1, decide_eq_true (Nat.le_trans h.2 hn)]
  rfl
theorem Shp.int {n : Nat} (x : Int) : Shp n (.int x) := ⟨rfl, Nat.zero_le _⟩
theorem Shp.bool {n : Nat} (x : Bool) : Shp n (.bool x) := ⟨rfl, Nat.zero_le _⟩
theorem Shp.none {n : Nat} : Shp n .none := ⟨rfl, Nat.zero_le _⟩
theorem lay_iff : ∀ {xs : List PyData}, PyData.canLayAll0 xs = true ↔ ∀ x ∈ xs, x.canLay0 = true
  | [] => ⟨(fun _ _ z => nomatch z), fun _ => rfl⟩
  | x :: r => by
    show (x.canLay0 && PyData.canLayAll0 r) = true ↔ _
    rw [Bool.and_eq_true, lay_iff (xs := r)]
    exact ⟨fun h y hy => (List.mem_cons.mp hy).elim (fun e => e ▸ h.1) (h.2 y), fun h => ⟨h x (List.mem_cons_self ..), fun y hy => h y (List.mem_cons_of_mem _ hy)⟩⟩
theorem Shp.list {n : Nat} {xs : List PyData} (h : ∀ x ∈ xs, Shp n x) : Shp (n + 1) (.list xs) := ⟨lay_iff.mpr fun x hx => (h x hx).1, by
  show PyData.depthAll xs + 1 ≤ n + 1
  exact Nat.add_le_add_right (depthAll_iff.mpr fun x hx => (h x hx).2) 1⟩
theorem Shp.tuple {n : Nat} {xs : List PyData} (h : ∀ x ∈ xs, Shp n x) : Shp (n + 1) (.tuple xs) := ⟨lay_iff.mpr fun x hx => (h x hx).1, by
  show PyData.depthAll xs + 1 ≤ n + 1
  exact Nat.add_le_add_right (depthAll_iff.mpr fun x hx => (h x hx).2) 1⟩
theorem Shp.up {n m : Nat} (h : Shp n d) (hm : n ≤ m) : Shp m d := ⟨h.1, Nat.le_trans h.2 hm⟩
theorem Shp.ints (ns : List Int) : Shp 1 (.list (ns.map PyData.int)) := Shp.list fun x hx => by
  obtain ⟨i, _, rfl⟩ := List.mem_map.mp hx
  exact Shp.int i
theorem Shp.self {n : Nat} (h : Shp n d) : PyData.eqv d d = true := PySem.SeqAt.eqv_refl d h.1
/-! ### data to be shown -/
def Rp (n b : Nat) (d : PyData) : Prop := okD d = true ∧ d.depth ≤ n ∧ wz d ≤ b
theorem Rp.int {x : Int} (h : x.natAbs < 1048576) : Rp 0 22 (.int x) := by
  have hl : x.natAbs.log2 < 20 := by
    by_cases h0 : x.natAbs = 0
    · rw [h0]; decide
    · exact (Nat.log2_lt h0).mpr h
  refine ⟨?_, Nat.le_refl _, ?_⟩
  · show decide (x.natAbs.log2 < 1920) = true
    exact decide_eq_true (by omega)
  · show x.natAbs.log2 + 2 ≤ 22
    omega
theorem Rp.list {n b m : Nat} {xs : List PyData} (h : ∀ x ∈ xs, Rp n b x) (hm : xs.length ≤ m) : Rp (n + 1) ((b + 2) * m + 3) (.list xs) := by
  refine ⟨okAll_iff.mpr fun x hx => (h x hx).1, ?_, ?_⟩
  · show PyData.depthAll xs + 1 ≤ n + 1
    exact Nat.add_le_add_right (depthAll_iff.mpr fun x hx => (h x hx).2.1) 1
  · show wzAll xs + 3 ≤ _
    have h1 := wzAll_le (R := b) fun x hx => (h x hx).2.2
    have h2 : (b + 2) * xs.length ≤ (b + 2) * m := Nat.mul_le_mul_left _ hm
    omega
theorem Rp.tuple {n b m : Nat} {xs : List PyData} (h : ∀ x ∈ xs, Rp n b x) (hm : xs.length ≤ m) : Rp (n + 1) ((b + 2) * m + 3) (.tuple xs) := by
  refine ⟨okAll_iff.mpr fun x hx => (h x hx).1, ?_, ?_⟩
  · show PyData.depthAll xs + 1 ≤ n + 1
    exact Nat.add_le_add_right (depthAll_iff.mpr fun x hx => (h x hx).2.1) 1
  · show wzAll xs + 3 ≤ _
    have h1 := wzAll_le (R := b) fun x hx => (h x hx).2.2
    have h2 : (b + 2) * xs.length ≤ (b + 2) * m := Nat.mul_le_mul_left _ hm
    omega
theorem Rp.seq {n b m : Nat} {xs : List PyData} (kd : Bool) (h : ∀ x ∈ xs, Rp n b x) (hm : xs.length ≤ m) : Rp (n + 1) ((b + 2) * m + 3) (seqD kd xs) := by
  cases kd
  · exact Rp.tuple h hm
  · exact Rp.list h hm
theorem Rp.up {n b n' b' : Nat} (h : Rp n b d) (hn : n ≤ n') (hb : b ≤ b') : Rp n' b' d := ⟨h.1, Nat.le_trans h.2.1 hn, Nat.le_trans h.2.2 hb⟩
theorem Rp.ok {n b : Nat} (h : Rp n b d) (hn : n ≤ 40) (hb : b ≤ 1000000) : okD d = true ∧ d.depth ≤ 40 ∧ wz d ≤ 1000000 := h.up hn hb
theorem Rp.ints {ns : List Int} {m : Nat} (h : ∀ x ∈ ns, x.natAbs < 1048576) (hm : ns.length ≤ m) : Rp 1 (24 * m + 3) (.list (ns.map PyData.int)) := Rp.list (fun x hx => by
  obtain ⟨i, hi, rfl⟩ := List.mem_map.mp hx
  exact Rp.int (h i hi)) (by rw [List.length_map]; exact hm)
/-! ### data of few depths -/
theorem Okn.int {n : Nat} {x : Int} : Okn (n + 1) (.int x) := True.intro
theorem Okn.none {n : Nat} : Okn (n + 1) .none := True.intro
theorem Okn.bool {n : Nat} {x : Bool} : Okn (n + 1) (.bool x) := True.intro
theorem Okn.str {n : Nat} {x : Str} : Okn (n + 1) (.str x) := True.intro
theorem Okn.list {n : Nat} {xs : List PyData} (h : ∀ x ∈ xs, Okn n x) (hl : xs.length ≤ 40000) : Okn (n + 1) (.list xs) := ⟨hl, h⟩
theorem Okn.tuple {n : Nat} {xs : List PyData} (h : ∀ x ∈ xs, Okn n x) (hl : xs.length ≤ 40000) : Okn (n + 1) (.tuple xs) := ⟨hl, h⟩
theorem all_nil {α : Type} {p : α → Prop} : ∀ x ∈ ([] : List α), p x := fun _ z => nomatch z
theorem all_cons {α : Type} {p : α → Prop} {u : α} {l : List α} (h : p u) (k : ∀ x ∈ l, p x) : ∀ x ∈ u :: l, p x := fun x hx => by
  rcases List.mem_cons.mp hx with e | hx
  · rw [e]; exact h
  · exact k x hx
theorem all_map {α β : Type} {p : β → Prop} {f : α → β} {l : List α} (h : ∀ x ∈ l, p (f x)) : ∀ y ∈ l.map f, p y := fun y hy => by
  obtain ⟨x, hx, rfl⟩ := List.mem_map.mp hy
  exact h x hx
end
end Cg

set_option Elab.async false
set_option linter.all false
set_option maxRecDepth 100000
set_option maxHeartbeats 1000000
namespace Cg
open PySem PySem.Spec PyProof.Rows L2 Evl
theorem FnG.imp {P : Program} {w : World} {K : PySem.W.Frag} {mg : Str → Option Value} {base : Heap} {k : Nat} {f : Addr} {fd : FuncData} {ps : List Str} {sp sp' : Sp} (F : FnG P w K mg base k f fd ps sp) (h : ∀ vs H Q E, sp' vs H Q E → sp vs H Q E) : FnG P w K mg base k f fd ps sp' :=
  ⟨fun vs H Q E q => F.len vs H Q E (h _ _ _ _ q), fun A outer s H args us vs Q E hg hr he hb hv hs => F.go A outer s H args us vs Q E hg hr he hb hv (h _ _ _ _ hs)⟩
theorem set_get_ne {σ : L2.St} {i j : Nat} {x : Option V} {y : Option V} (h : σ[i]? = some y) (hne : j ≠ i) : (σ.set j x)[i]? = some y := by rw [List.getElem?_set_ne hne]; exact h
theorem set_get_eq {σ : L2.St} {i : Nat} {x : Option V} (h : i < σ.length) : (σ.set i x)[i]? = some x := by rw [List.getElem?_set_self h]
/-- return all([_law_right(_law_box(cells, k)) for k in range(..)]) -/
theorem law_comp {K : PySem.W.Frag} {σ : L2.St} {H : Hp} {D : Ends} {ta : TA} {n s j L C : Nat} {l : Addr} {ms : List Int} (ha : EvA ta σ H [.int (n : Int)]) (hn : n ≤ 1000) (hs : σ[s]? = some (some (.ref l))) (hjs : j ≠ s) (hj : j < σ.length)
    (hS : ∀ H', Same H H' → SqL K H' l (ms.map V.int)) (hD : ∀ H', D.rt (.bl true) H') :
    tRet (tCB (rAll K) (tCons (tLc (iRng1 ta) (gName j) tYes (tCall (spRt L C) [] E0 (tCons (tCall (spBox K) [] E0 (tCons (tVar s) (tCons (tVar j) tNil))) tNil)) [j]) tNil)) D σ H := by
  refine r_lawAll ha (by omega) (fun x => by rw [wipe_set (List.mem_singleton.mpr rfl), wipe_wipe]) (fun i H2 Q2 hi e2 k2 => ?_) fun H2 _ => hD H2
  refine ⟨.ref l, ?_, .int (i : Int), ?_, l, ms, i, rfl, hS H2 e2, by omega, fun b H3 e3 nb hB => ⟨b, 0, rfl, hB, Nat.zero_le _, fun H4 k4 b4 => k2 H4 (same_box e3 nb k4)⟩⟩
  · refine set_get_ne ?_ hjs
    rw [wipe_get, if_neg (fun z => hjs (List.mem_singleton.mp z).symm)]
    exact hs
  · exact set_get_eq (by rw [wipe_length]; exact hj)
/-- max(m, len(xs)) -/
theorem ev_maxN {K : PySem.W.Frag} {σ : L2.St} {H : Hp} {i m : Nat} {l : Addr} {xs : List V} (hs : σ[i]? = some (some (.ref l))) (hh : SqL K H l xs) :
    EvA (tCons (tCB (fun xs H Q => ∃ i j, xs = [V.int i, V.int j] ∧ Q (V.int (if j > i then j else i)) H) (tCons (tC (.int (m : Int))) (tCons (tCB (rLenS K) (tCons (tVar i) tNil)) tNil))) tNil) σ H [.int ((max m xs.length : Nat) : Int)] := by
  refine ea_cons (ev_is (ev_cb2 ev_c (ev_len (ev_var hs) hh) fun H1 Q q => ⟨_, _, rfl, q⟩) ?_) ea_nil
  split
  · rw [Nat.max_eq_right (by omega)]
  · rw [Nat.max_eq_left (by omega)]
end Cg

set_option Elab.async false
set_option linter.all false
set_option maxRecDepth 100000
set_option maxHeartbeats 1000000
namespace Cg
open PySem PySem.Spec PyProof.Rows L2 Evl
/-! ### zip of several rows into several names -/
end Cg

set_option Elab.async false
set_option linter.all false
set_option maxRecDepth 100000
set_option maxHeartbeats 1000000
namespace Cg
open PySem PySem.Spec PyProof.Rows L2 Evl
section
variable {ta tb tc te : TE} {wa wb wc we : WE} {t u : TT} {w w' : WB} {tas : TA} {was : WA} {c : Base} {bs F A B hs : List Addr} {σ : L2.St} {H H1 H2 H' : Hp} {ε : Env} {N N1 N2 N' : Nat} {vs vs1 : List Nat}
/-! ### one list changes, and the box -/
theorem Rel.outD {D : Addr} (r : Rel c (D :: bs) F σ H ε N) (hDF : D ∉ F) (hDb : D ∉ c.b) (hP : c.P D = none) (k : Keep (D :: c.b) H H') (hb : ∀ a ∈ c.b, Box H' a N') (hD : ∃ acc, H' D = some (.lst acc)) : Rel c (D :: bs) F σ H' ε N' := by
  have kb : Keep (D :: bs) H H' := k.more fun a ha => by
    rcases List.mem_cons.mp ha with rfl | ha
    · exact List.mem_cons_self ..
    · exact r.bin a ha
  have get : ∀ a o, a ≠ D → a ∉ c.b → H a = some o → H' a = some o := fun a o h1 h2 e => k.get (fun z => (List.mem_cons.mp z).elim h1 h2) e
  refine ⟨RelE.chg r.nt kb (fun a ha o e => get a o (fun z => hDF (z ▸ ha)) (r.fb a ha) e) r.env, r.nd, r.sub, r.off, r.nb, r.up, r.bb, r.offb, fun a ha => ?_, fun a ha xs z => ?_, hb, fun a o e => ?_, r.vis.trans kb⟩
  · by_cases h1 : a = D
    · obtain ⟨acc, e⟩ := hD
      rw [h1, e]
      exact fun z => nomatch z
    · by_cases h2 : a ∈ c.b
      · exact (hb a h2).is
      · cases e : H a with
        | none => exact absurd e (r.live a ha)
        | some o => rw [get a o h1 h2 e]; exact fun z => nomatch z
  · by_cases h1 : a = D
    · obtain ⟨acc, e⟩ := hD
      rw [h1, e] at z
      cases z
      trivial
    · by_cases h2 : a ∈ c.b
      · exact box_tup (hb a h2) z
      · cases e : H a with
        | none => exact (r.live a ha e).elim
        | some o =>
          rw [get a o h1 h2 e] at z
          exact r.nt a ha xs (e.trans z)
  · refine get a o (fun z => ?_) (fun z => ?_) (r.pin a o e)
    · rw [z, hP] at e; cases e
    · rw [r.offb a z] at e; cases e
theorem Rel.more {D : Addr} (r : Rel c bs F σ H ε N) (h : D ∉ F) (hb : D ∈ bs) : Rel { c with bs0 := D :: c.bs0 } bs F σ H ε N :=
  ⟨r.env, r.nd, r.sub, r.off, fun a ha z => (List.mem_cons.mp z).elim (fun e => h (e ▸ ha)) (r.nb a ha), fun a ha => (List.mem_cons.mp ha).elim (fun e => e ▸ hb) (r.up a), fun a ha => List.mem_cons_of_mem _ (r.bb a ha), r.offb, r.live, r.nt, r.box, r.pin, r.vis⟩
/-- [e for x in .. if .. for y in .. if ..] -/
def wLcT2 (wi : WI) (wg : WG) (wt : WB) (wi1 : WI) (wg1 : WG) (wt1 : WB) (w : WE) (vs vs1 : List Nat) : WT := fun ε N R => wi ε N fun ds N1 => ∃ I : Nat → List PyData → Nat → Prop, I 0 [] N1 ∧
  (∀ k d es M, ds[k]? = some d → I k es M → wg d (wipeE ε vs) fun ε2 => wt ε2 M fun b M2 => bIf b (wi1 ε2 M2 fun ds1 M3 => ∃ I1 : Nat → List PyData → Nat → Prop, I1 0 es M3 ∧
    (∀ j d1 es1 M4, ds1[j]? = some d1 → I1 j es1 M4 → wg1 d1 (wipeE ε2 vs1) fun ε3 => wt1 ε3 M4 fun b1 M5 => bIf b1 (w ε3 M5 fun e M6 => es1.length ≤ 100000 ∧ I1 (j + 1) (es1 ++ [e]) M6) (I1 (j + 1) es1 M5)) ∧ ∀ es1 M4, I1 ds1.length es1 M4 → I (k + 1) es1 M4) (I (k + 1) es M2)) ∧ ∀ es M, I ds.length es M → R (.lst (es.map T.sh)) M
theorem sim_lcT2 {ti ti1 : TI} {wi wi1 : WI} {g g1 : TG} {wg wg1 : WG} {tt tt1 : TT} {wt wt1 : WB} {te : TE} {w : WE} (hi : SimI ti wi) (hg : SimG vs g wg) (ht : SimB tt wt) (hi1 : SimI ti1 wi1) (hg1 : SimG vs1 g1 wg1) (ht1 : SimB tt1 wt1) (he : SimE te w) : SimT (tLc2 ti g tt ti1 g1 tt1 te vs vs1) (wLcT2 wi wg wt wi1 wg1 wt1 w vs vs1) := fun {c bs F σ H ε N R Q} r ww q => hi r ww fun J ds N1 H1 w1 o1 Y D nD => by
  obtain ⟨I, i0, step, fin⟩ := w1
  have r1 := r.out o1
  have Dbs : D ∉ bs := r1.live.out nD
  have Db : D ∉ c.b := fun z => Dbs (r.bin D z)
  have DF : D ∉ F := fun z => Dbs (r.sub D z)
  have DP : c.P D = none := pin_none r1 nD
  let cD : Base := { c with bs0 := D :: c.bs0 }
  have world : ∀ {H' : Hp} {acc : List V} {M : Nat}, H' D = some (.lst acc) → Out c H1 H' M → Rel cD (D :: bs) F σ H' ε M := fun {H' acc M} hD o =>
    (r1.hide (A := [D]) o (fun a ha => by rw [List.mem_singleton.mp ha]; exact nD) (fun a ha => by rw [List.mem_singleton.mp ha]; exact own_lst hD)).more DF (List.mem_cons_self ..)
  have vis : ∀ {H' : Hp} {M : Nat}, Out c H1 H' M → Same (hid bs H1) (hid (D :: bs) H') := fun {H' M} o => vis_step (bs := bs) (B := [D]) o r.bin (fun a ha => by rw [List.mem_singleton.mp ha]; exact nD)
  refine it_by (J := J) (n := ds.length) (Body := fun x H' Nx => g x (L2.wipe σ vs) H' fun σ2 H2 => L2.wipe σ2 vs = L2.wipe σ vs ∧ tt σ2 H2 fun b H3 =>
      if b = true then ti1 σ2 H3 fun J1 H4 => ∃ W1 : Nat → Nat → Hp → Prop, (∃ m, W1 0 m H4) ∧ ∀ j k H, W1 j k H →
        (J1.stop j H ∧ Nx H) ∨ (J1.go j H ∧ ∃ Nx1 : Hp → Prop, (∀ H', Nx1 H' → ∃ k', k' < k ∧ W1 (j + 1) k' H') ∧ ∀ x H', J1.yld j H x H' → g1 x (L2.wipe σ2 vs1) H' fun σ3 H5 => L2.wipe σ3 vs1 = L2.wipe σ2 vs1 ∧ tt1 σ3 H5 fun b H6 =>
          if b = true then te σ3 H6 fun y H7 => ∃ acc, H7 D = some (.lst acc) ∧ acc.length < sizeLine ∧ Nx1 (upd H7 D (.lst (acc ++ [y]))) else Nx1 H6)
      else Nx H3)
    (fun k H' => ∃ (acc : List V) (es : List PyData) (M : Nat), H' D = some (.lst acc) ∧ I k es M ∧ Out c H1 H' M ∧ DqAll (hid (D :: bs) H') acc es) ⟨[], [], N1, upd_same, i0, ⟨(Keep.refl _ _).new nD, fun a ha => (r1.box a ha).upd nD⟩, .nil⟩
    (fun k H' hk hP => ?_) (fun H' hP => ?_) (fun k x H' H'' hk hP hy => ?_) (fun H' hP => ?_)
  · obtain ⟨acc, es, M, hD, hI, o, da⟩ := hP
    exact Y.go k H' _ hk (vis o)
  · obtain ⟨acc, es, M, hD, hI, o, da⟩ := hP
    exact Y.stop H' _ (vis o)
  · obtain ⟨acc, es, M, hD, hI, o, da⟩ := hP
    have rw0 := world hD o
    obtain ⟨sm, d, gd, dx⟩ := Y.yld k x H' H'' _ hk (vis o) rw0.live hy
    have rw1 := rw0.ext sm
    obtain ⟨Fw, rw2⟩ := rel_wipe rw1 vs
    refine hg rw2 dx (step k d es M gd hI) fun F3 σ3 ε3 r3 e3 w3 => ⟨e3.trans (wipe_wipe σ vs), ?_⟩
    refine ht r3 w3 fun b M2 H3 w4 o3 => ?_
    have o3' : Out c H'' H3 M2 := ⟨o3.keep, o3.box⟩
    have oo : Out c H1 H3 M2 := (o.ext sm).trans o3'
    have da3 : DqAll (hid (D :: bs) H3) acc es := da.mono (out_keep ((rw0.ofSame sm).trans o3) rw0.bin)
    have hD3 : H3 D = some (.lst acc) := out_get o3' Db (sm _ _ hD)
    cases b with
    | false => exact iteF ⟨acc, es, M2, hD3, w4, oo, da3⟩
    | true =>
      refine iteT ?_
      have r4 := r3.out o3
      refine hi1 r4 w4 fun J1 ds1 M3 H4 w5 o4 Y1 => ?_
      obtain ⟨I1, j0, step1, fin1⟩ := w5
      have o4' : Out c H3 H4 M3 := ⟨o4.keep, o4.box⟩
      have r5 := r4.out o4
      have DF3 : D ∉ F3 := fun z => r5.nb D z (List.mem_cons_self ..)
      have hD4 : H4 D = some (.lst acc) := out_get o4' Db hD3
      have da4 : DqAll (hid (D :: bs) H4) acc es := da3.mono (out_keep o4 r4.bin)
      refine it_by (J := J1) (n := ds1.length) (Body := fun x H' Nx1 => g1 x (L2.wipe σ3 vs1) H' fun σ4 H5 => L2.wipe σ4 vs1 = L2.wipe σ3 vs1 ∧ tt1 σ4 H5 fun b H6 =>
          if b = true then te σ4 H6 fun y H7 => ∃ acc, H7 D = some (.lst acc) ∧ acc.length < sizeLine ∧ Nx1 (upd H7 D (.lst (acc ++ [y]))) else Nx1 H6)
        (fun j H' => ∃ (acc : List V) (es1 : List PyData) (M : Nat), H' D = some (.lst acc) ∧ I1 j es1 M ∧ Out c H1 H' M ∧ DqAll (hid (D :: bs) H') acc es1 ∧ Keep (D :: c.b) H4 H') ⟨acc, es, M3, hD4, j0, oo.trans o4', da4, Keep.refl _ _⟩
        (fun j H5 hj hP => ?_) (fun H5 hP => ?_) (fun j y H5 H6 hj hP hy1 => ?_) (fun H5 hP => ?_)
      · obtain ⟨ac, es1, M4, a1, a2, a3, a4, a5⟩ := hP
        exact Y1.go j H5 (D :: bs) hj (a5.more fun a ha => (List.mem_cons.mp ha).elim (fun e => e ▸ List.mem_cons_self ..) fun h => r5.bin a h)
      · obtain ⟨ac, es1, M4, a1, a2, a3, a4, a5⟩ := hP
        exact Y1.stop H5 (D :: bs) (a5.more fun a ha => (List.mem_cons.mp ha).elim (fun e => e ▸ List.mem_cons_self ..) fun h => r5.bin a h)
      · obtain ⟨ac, es1, M4, a1, a2, a3, a4, a5⟩ := hP
        have r6 : Rel cD (D :: bs) F3 σ3 H5 ε3 M4 := r5.outD DF3 Db DP a5 a3.box ⟨ac, a1⟩
        obtain ⟨sm1, d1, gd1, dx1⟩ := Y1.yld j y H5 H6 (D :: bs) hj (a5.more fun a ha => (List.mem_cons.mp ha).elim (fun e => e ▸ List.mem_cons_self ..) fun h => r5.bin a h) r6.live hy1
        have r7 := r6.ext sm1
        obtain ⟨F7, r8⟩ := rel_wipe r7 vs1
        refine hg1 r8 dx1 (step1 j d1 es1 M4 gd1 a2) fun F9 σ9 ε9 r9 e9 w9 => ⟨e9.trans (wipe_wipe σ3 vs1), ?_⟩
        refine ht1 r9 w9 fun b1 M5 H7 w10 o7 => ?_
        have o7' : Out c H6 H7 M5 := ⟨o7.keep, o7.box⟩
        have a3' : Out c H1 H7 M5 := (a3.ext sm1).trans o7'
        have a4' : DqAll (hid (D :: bs) H7) ac es1 := a4.mono (out_keep ((r6.ofSame sm1).trans o7) r6.bin)
        have a1' : H7 D = some (.lst ac) := out_get o7' Db (sm1 _ _ a1)
        have a5' : Keep (D :: c.b) H4 H7 := (a5.ext sm1).trans (o7'.keep.more fun a ha => List.mem_cons_of_mem _ ha)
        cases b1 with
        | false => exact iteF ⟨ac, es1, M5, a1', w10, a3', a4', a5'⟩
        | true =>
          refine iteT ?_
          have r10 := r9.out o7
          refine he r10 w10 fun v f M6 H8 w11 o8 hv => ?_
          have o8' : Out c H7 H8 M6 := ⟨o8.keep, o8.box⟩
          have a1'' : H8 D = some (.lst ac) := out_get o8' Db a1'
          have kk : Keep (D :: bs) H8 (upd H8 D (.lst (ac ++ [v]))) := (Keep.refl _ _).put (List.mem_cons_self ..)
          refine ⟨ac, a1'', ?_, ac ++ [v], es1 ++ [f], M6, upd_same, w11.2, ?_, ?_, ?_⟩
          · rw [a4.len]
            exact Nat.lt_of_le_of_lt w11.1 (by decide)
          · exact ⟨(a3'.trans o8').keep.putNew nD, fun a ha => ((a3'.trans o8').box a ha).put (fun z => Db (z ▸ ha))⟩
          · exact ((a4'.mono (out_keep o8 r10.bin)).append (.cons hv .nil)).mono kk
          · exact (a5'.trans (o8'.keep.more fun a ha => List.mem_cons_of_mem _ ha)).put (List.mem_cons_self ..)
      · obtain ⟨ac, es1, M4, a1, a2, a3, a4, a5⟩ := hP
        exact ⟨ac, es1, M4, a1, fin1 es1 M4 a2, a3, a4⟩
  · obtain ⟨acc, es, M, hD, hI, o, da⟩ := hP
    exact q (.ref D) (.lst (es.map T.sh)) [D] M H' (fin es M hI) (o1.trans o) ⟨.lst hD (RepL.shs da), List.nodup_cons.mpr ⟨List.not_mem_nil, List.nodup_nil⟩, fun a ha => by rw [List.mem_singleton.mp ha]; exact out_none o1 nD⟩
/-! ### zip of more rows -/
end
end Cg

set_option Elab.async false
set_option linter.all false
set_option maxRecDepth 100000
set_option maxHeartbeats 1000000
namespace Cg
open PySem PySem.Spec PyProof.Rows L2 Evl
section
variable {X : Cx} {ta tb tc te : TE} {wa wb wc we : WE} {tas : TA} {was : WA}
/-! sorted -/
/-! in, of data; < of tuples -/
/-! xs.count(k), ints -/
theorem countK (K : PySem.W.Frag) (hK : X.K = K := by rfl) : MtR X "list.count" (rCntI K) := by subst hK; exact mt_lcount
def oCount : PyData → List PyData → (PyData → Prop) → Prop := fun d es S => match d, es with
  | .list ds, [.int k] => match intsOf ds with
    | some ns => S (.int (ns.count k : Nat))
    | none => False
  | _, _ => False
theorem bm_count {K : PySem.W.Frag} : BmD (rCntI K) oCount := fun {hs H x xs d ds S Q} l hx hxs w q => by
  unfold oCount at w
  split at w
  · rename_i es k
    split at w
    · rename_i ns e
      obtain ⟨v, rfl, hv⟩ := dq1 hxs
      cases hv
      obtain ⟨a, ys, rfl, e1, h1⟩ := hx.list_inv
      have e2 := ints_of h1 e
      subst e2
      exact ⟨a, ns, k, rfl, rfl, SqL.of (hid_some e1).2, q _ _ H w (Same.refl _) (.int _)⟩
    · exact w.elim
  · exact w.elim
/-! x.insert(k, e) -/
theorem RepL.cut {bs : List Addr} {H : Hp} : ∀ {vs : List V} {ts : List T} {A : List Addr}, RepL bs H vs ts A → ∀ n : Nat, ∃ A1 A2, A = A1 ++ A2 ∧ RepL bs H (vs.take n) (ts.take n) A1 ∧ RepL bs H (vs.drop n) (ts.drop n) A2
  | _, _, A, h, 0 => ⟨[], A, rfl, .nil, h⟩
  | _, _, _, .nil, n + 1 => ⟨[], [], rfl, .nil, .nil⟩
  | _, _, _, .cons (A := A) h t, n + 1 => by
    obtain ⟨A1, A2, e, h1, h2⟩ := t.cut n
    exact ⟨A ++ A1, A2, by rw [e, List.append_assoc], .cons h h1, h2⟩
/-! len(set(xs)), ints -/
def dedN (ns : List Int) : Nat := (ns.foldl step_dedup []).length
def wLenSet (we : WE) : WE := fun ε N R => we ε N fun d N1 => match d with
  | .list ds => ∃ ns, intsOf ds = some ns ∧ ns.length ≤ 4000 ∧ R (.int (dedN ns : Nat)) N1
  | _ => False
end
end Cg

set_option Elab.async false
set_option linter.all false
set_option maxRecDepth 100000
set_option maxHeartbeats 1000000
namespace Cg
open PySem PySem.Spec PyProof.Rows L2 Evl
/-! ### how far reckoning goes: no further than the values -/
section
variable {d d' e e' : PyData} {ds ds' : List PyData} {S : PyData → Prop} {SL : List PyData → Prop} {N N' : Nat} {R : T → Nat → Prop} {RD : PyData → Nat → Prop} {o o' : Option Sl} {D : EW} {ε ε' : Env}
end
/-! what kind it is -/
section
variable {p : Bool} {x : Int} {u : Str} {a : List PyData} {kd : Bool}
theorem isNone_none : isNone .none = true := by simp [isNone]
theorem isNone_bool : isNone (.bool p) = false := by simp [isNone]
theorem isNone_int : isNone (.int x) = false := by simp [isNone]
theorem isNone_str : isNone (.str u) = false := by simp [isNone]
theorem isNone_list : isNone (.list a) = false := by simp [isNone]
theorem isNone_tup : isNone (.tuple a) = false := by simp [isNone]
theorem isInt_none : isInt .none = false := by simp [isInt]
theorem isInt_bool : isInt (.bool p) = true := by simp [isInt]
theorem isInt_int : isInt (.int x) = true := by simp [isInt]
theorem isInt_str : isInt (.str u) = false := by simp [isInt]
theorem isInt_list : isInt (.list a) = false := by simp [isInt]
theorem isInt_tup : isInt (.tuple a) = false := by simp [isInt]
theorem isBool_none : isBool .none = false := by simp [isBool]
theorem isBool_bool : isBool (.bool p) = true := by simp [isBool]
theorem isBool_int : isBool (.int x) = false := by simp [isBool]
theorem isBool_str : isBool (.str u) = false := by simp [isBool]
theorem isBool_list : isBool (.list a) = false := by simp [isBool]
theorem isBool_tup : isBool (.tuple a) = false := by simp [isBool]
theorem isList_none : isList .none = false := by simp [isList]
theorem isList_bool : isList (.bool p) = false := by simp [isList]
theorem isList_int : isList (.int x) = false := by simp [isList]
theorem isList_str : isList (.str u) = false := by simp [isList]
theorem isList_list : isList (.list a) = true := by simp [isList]
theorem isList_tup : isList (.tuple a) = false := by simp [isList]
theorem isTuple_none : isTuple .none = false := by simp [isTuple]
theorem isTuple_bool : isTuple (.bool p) = false := by simp [isTuple]
theorem isTuple_int : isTuple (.int x) = false := by simp [isTuple]
theorem isTuple_str : isTuple (.str u) = false := by simp [isTuple]
theorem isTuple_list : isTuple (.list a) = false := by simp [isTuple]
theorem isTuple_tup : isTuple (.tuple a) = true := by simp [isTuple]
theorem isStr_none : isStr .none = false := by simp [isStr]
theorem isStr_bool : isStr (.bool p) = false := by simp [isStr]
theorem isStr_int : isStr (.int x) = false := by simp [isStr]
theorem isStr_str : isStr (.str u) = true := by simp [isStr]
theorem isStr_list : isStr (.list a) = false := by simp [isStr]
theorem isStr_tup : isStr (.tuple a) = false := by simp [isStr]
theorem isNone_seq : isNone (seqD kd a) = false := by cases kd <;> simp [seqD, isNone]
theorem isList_seq : isList (seqD kd a) = kd := by cases kd <;> simp [seqD, isList]
theorem isTuple_seq : isTuple (seqD kd a) = !kd := by cases kd <;> simp [seqD, isTuple]
theorem isInt_seq : isInt (seqD kd a) = false := by cases kd <;> simp [seqD, isInt]
theorem isBool_seq : isBool (seqD kd a) = false := by cases kd <;> simp [seqD, isBool]
theorem isStr_seq : isStr (seqD kd a) = false := by cases kd <;> simp [seqD, isStr]
theorem dTru_seq {kb : Bool → Prop} : dTru (seqD kd a) kb = kb (!a.isEmpty) := by cases kd <;> exact propext Iff.rfl
end
/-! ### walks that draw nothing -/
section
variable {α β : Type} {ε : Env} {N : Nat} {R : PyData → Nat → Prop} {RT : T → Nat → Prop} {D : EW} {we wa wb : WE} {wg wg1 : WG} {ws : WS} {wt wt1 : WB} {w : WE} {wT : WT} {vs vs1 : List Nat} {wi wi1 : WI} {d d' : PyData} {ds es : List PyData}
/-- it gives these, and draws nothing -/
def Gv (wi : WI) (ε : Env) (N : Nat) (ds : List PyData) : Prop := ∀ R : List PyData → Nat → Prop, R ds N → wi ε N R
/-- its value -/
def Ge (we : WE) (ε : Env) (N : Nat) (d : PyData) : Prop := ∀ R : PyData → Nat → Prop, R d N → we ε N R
theorem gv_it (h : Ge we ε N d) (hd : seqOf d = some ds) : Gv (wIt we) ε N ds := fun R hR => h _ (by
  show (match seqOf d with | some ds => R ds N | none => False)
  rw [hd]; exact hR)
theorem gv_en (h : Ge we ε N d) (hd : seqOf d = some ds) : Gv (wEnum we) ε N (enumD ds) := fun R hR => h _ (by
  show (match seqOf d with | some ds => R (enumD ds) N | none => False)
  rw [hd]; exact hR)
theorem gv_r1 {n : Nat} (h : Ge we ε N (.int (n : Int))) (hn : n ≤ 1000000) : Gv (wRng1 we) ε N ((List.range n).map fun k : Nat => PyData.int (k : Int)) := fun R hR => h _ (by
  refine ⟨⟨by omega, by omega⟩, ?_⟩
  have e : rngD 0 ((n : Int)).toNat = (List.range n).map fun k : Nat => PyData.int (k : Int) := by
    have e1 : ((n : Int)).toNat = n := by omega
    unfold rngD
    rw [e1]
    refine List.map_congr_left fun k _ => ?_
    rw [Int.zero_add]
  rw [e]; exact hR)
theorem enum_map (f : α → PyData) (xs : List α) : enumD (xs.map f) = xs.zipIdx.map fun p => .tuple [.int (p.2 : Nat), f p.1] := by
  unfold enumD
  apply List.ext_getElem
  · simp
  · intro i h1 h2
    simp
theorem take_succ_map {γ : Type} {xs : List α} {k : Nat} {x : α} (h : xs[k]? = some x) (g : α → Option γ) : (xs.take (k + 1)).filterMap g = (xs.take k).filterMap g ++ (g x).toList := by
  have e1 : List.filterMap g [x] = (g x).toList := by
    cases e : g x with
    | none => rw [List.filterMap_cons_none e]; rfl
    | some y => rw [List.filterMap_cons_some e]; rfl
  rw [List.take_add_one, h, List.filterMap_append, ← e1]
  rfl
theorem lcT_f (xs : List α) (e : α → PyData) (g : α → Option T) (hg : Gv wi ε N (xs.map e)) (hn : xs.length ≤ 40000)
    (hs : ∀ (x : α) (A : T → Nat → Prop) (B : Nat → Prop), x ∈ xs → (∀ t, g x = some t → A t N) → (g x = none → B N) → wg (e x) (wipeE ε vs) fun ε2 => wt ε2 N fun b M2 => bIf b (wT ε2 M2 A) (B M2)) (hd : RT (.lst (xs.filterMap g)) N) : wLcT wi wg wt wT vs ε N RT := by
  refine hg _ ⟨by rw [List.length_map]; exact hn, fun k ts M => ts = (xs.take k).filterMap g ∧ M = N, ⟨rfl, rfl⟩, fun k d ts M hx hI => ?_, fun ts M hI => ?_⟩
  · obtain ⟨rfl, rfl⟩ := hI
    rw [List.getElem?_map] at hx
    cases hk : xs[k]? with
    | none => rw [hk] at hx; cases hx
    | some x =>
      rw [hk] at hx
      have ed : e x = d := Option.some.inj hx
      subst ed
      refine hs x (fun t M3 => (xs.take k).filterMap g ++ [t] = (xs.take (k + 1)).filterMap g ∧ M3 = M) (fun M2 => (xs.take k).filterMap g = (xs.take (k + 1)).filterMap g ∧ M2 = M) (List.mem_of_getElem? hk) (fun t ht => ⟨by rw [take_succ_map hk, ht]; rfl, rfl⟩) fun ht => ⟨by rw [take_succ_map hk, ht]; exact (List.append_nil _).symm, rfl⟩
  · obtain ⟨rfl, rfl⟩ := hI
    rw [List.length_map, List.take_of_length_le (Nat.le_refl _)]
    exact hd
theorem lc_f (xs : List α) (e : α → PyData) (g : α → Option PyData) (hg : Gv wi ε N (xs.map e)) (hn : xs.length ≤ 40000)
    (hs : ∀ (x : α) (A : PyData → Nat → Prop) (B : Nat → Prop), x ∈ xs → (∀ t, g x = some t → A t N) → (g x = none → B N) → wg (e x) (wipeE ε vs) fun ε2 => wt ε2 N fun b M2 => bIf b (w ε2 M2 A) (B M2)) (hd : R (.list (xs.filterMap g)) N) : wLc wi wg wt w vs ε N R := by
  refine hg _ ⟨by rw [List.length_map]; exact hn, fun k ts M => ts = (xs.take k).filterMap g ∧ M = N, ⟨rfl, rfl⟩, fun k d ts M hx hI => ?_, fun ts M hI => ?_⟩
  · obtain ⟨rfl, rfl⟩ := hI
    rw [List.getElem?_map] at hx
    cases hk : xs[k]? with
    | none => rw [hk] at hx; cases hx
    | some x =>
      rw [hk] at hx
      have ed : e x = d := Option.some.inj hx
      subst ed
      refine hs x (fun t M3 => (xs.take k).filterMap g ++ [t] = (xs.take (k + 1)).filterMap g ∧ M3 = M) (fun M2 => (xs.take k).filterMap g = (xs.take (k + 1)).filterMap g ∧ M2 = M) (List.mem_of_getElem? hk) (fun t ht => ⟨by rw [take_succ_map hk, ht]; rfl, rfl⟩) fun ht => ⟨by rw [take_succ_map hk, ht]; exact (List.append_nil _).symm, rfl⟩
  · obtain ⟨rfl, rfl⟩ := hI
    rw [List.length_map, List.take_of_length_le (Nat.le_refl _)]
    exact hd
theorem lcT_m (xs : List α) (e : α → PyData) (g : α → T) (hg : Gv wi ε N (xs.map e)) (hn : xs.length ≤ 40000)
    (hs : ∀ (x : α) (A : T → Nat → Prop), x ∈ xs → A (g x) N → wg (e x) (wipeE ε vs) fun ε2 => wT ε2 N A) (hd : RT (.lst (xs.map g)) N) : wLcT wi wg wYes wT vs ε N RT := by
  refine lcT_f xs e (fun x => some (g x)) hg hn (fun x A B hx hA hB => hs x A hx (hA _ rfl)) ?_
  rw [List.filterMap_eq_map']
  exact hd
theorem lc_m (xs : List α) (e : α → PyData) (g : α → PyData) (hg : Gv wi ε N (xs.map e)) (hn : xs.length ≤ 40000)
    (hs : ∀ (x : α) (A : PyData → Nat → Prop), x ∈ xs → A (g x) N → wg (e x) (wipeE ε vs) fun ε2 => w ε2 N A) (hd : R (.list (xs.map g)) N) : wLc wi wg wYes w vs ε N R := by
  refine lc_f xs e (fun x => some (g x)) hg hn (fun x A B hx hA hB => hs x A hx (hA _ rfl)) ?_
  rw [List.filterMap_eq_map']
  exact hd
theorem take_succ_flat {γ : Type} {xs : List α} {k : Nat} {x : α} (h : xs[k]? = some x) (g : α → List γ) : (xs.take (k + 1)).flatMap g = (xs.take k).flatMap g ++ g x := by
  rw [List.take_add_one, h, List.flatMap_append]
  congr 1
  show List.flatMap g [x] = _
  simp
theorem len_pre {γ : Type} {xs : List α} {k : Nat} {x : α} (h : xs[k]? = some x) (g : α → List γ) : ((xs.take k).flatMap g ++ g x).length ≤ (xs.flatMap g).length := by
  rw [← take_succ_flat h g]
  have e : xs.flatMap g = (xs.take (k + 1)).flatMap g ++ (xs.drop (k + 1)).flatMap g := by rw [← List.flatMap_append, List.take_append_drop]
  rw [e, List.length_append]
  omega
/-- [e for x in xs if p for y in ys if q] -/
theorem lcT2_f (xs : List α) (e : α → PyData) (ys : α → List β) (e1 : α → β → PyData) (g : α → β → Option PyData) (p : α → Bool) (hg : Gv wi ε N (xs.map e))
    (hs : ∀ (x : α) (X : Env → List PyData → Nat → Prop) (B : Nat → Prop), x ∈ xs → (p x = true → ∀ ε2, (∀ (y : β) (A : PyData → Nat → Prop) (B : Nat → Prop), y ∈ ys x → (∀ t, g x y = some t → A t N) → (g x y = none → B N) → wg1 (e1 x y) (wipeE ε2 vs1) fun ε3 => wt1 ε3 N fun b1 M5 => bIf b1 (w ε3 M5 A) (B M5)) → X ε2 ((ys x).map (e1 x)) N) → (p x = false → B N) → wg (e x) (wipeE ε vs) fun ε2 => wt ε2 N fun b M2 => bIf b (wi1 ε2 M2 (X ε2)) (B M2))
    (hl : (xs.flatMap fun x => if p x then (ys x).filterMap (g x) else []).length ≤ 100000)
    (hd : RT (.lst ((xs.flatMap fun x => if p x then (ys x).filterMap (g x) else []).map T.sh)) N) : wLcT2 wi wg wt wi1 wg1 wt1 w vs vs1 ε N RT := by
  refine hg _ ⟨fun k ts M => ts = (xs.take k).flatMap (fun x => if p x then (ys x).filterMap (g x) else []) ∧ M = N, ⟨rfl, rfl⟩, fun k d ts M0 hx hI => ?_, fun ts M hI => ?_⟩
  · obtain ⟨rfl, rfl⟩ := hI
    rw [List.getElem?_map] at hx
    cases hk : xs[k]? with
    | none => rw [hk] at hx; cases hx
    | some x =>
      rw [hk] at hx
      have ed : e x = d := Option.some.inj hx
      subst ed
      have hb := len_pre hk (fun x => if p x then (ys x).filterMap (g x) else [])
      refine hs x _ _ (List.mem_of_getElem? hk) (fun hp ε2 body => ?_) fun hp => ?_
      · simp only [hp, if_true] at hb
        rw [List.length_append] at hb
        refine ⟨fun j es M => es = (xs.take k).flatMap (fun x => if p x then (ys x).filterMap (g x) else []) ++ ((ys x).take j).filterMap (g x) ∧ M = M0, ⟨(List.append_nil _).symm, rfl⟩, fun j d1 es1 M4 hy hI1 => ?_, fun es1 M4 hI1 => ?_⟩
        · obtain ⟨rfl, rfl⟩ := hI1
          rw [List.getElem?_map] at hy
          cases hj : (ys x)[j]? with
          | none => rw [hj] at hy; cases hy
          | some y =>
            rw [hj] at hy
            have ed : e1 x y = d1 := Option.some.inj hy
            subst ed
            refine body y _ _ (List.mem_of_getElem? hj) (fun t ht => ⟨?_, ?_, rfl⟩) fun ht => ⟨?_, rfl⟩
            · rw [List.length_append]
              have e2 : (ys x).filterMap (g x) = ((ys x).take j).filterMap (g x) ++ ((ys x).drop j).filterMap (g x) := by rw [← List.filterMap_append, List.take_append_drop]
              rw [e2, List.length_append] at hb
              omega
            · rw [take_succ_map hj, ht, List.append_assoc]; rfl
            · rw [take_succ_map hj, ht]; exact congrArg _ (List.append_nil _).symm
        · obtain ⟨rfl, rfl⟩ := hI1
          refine ⟨?_, rfl⟩
          rw [List.length_map, List.take_of_length_le (Nat.le_refl _), take_succ_flat hk, hp]
          rfl
      · refine ⟨?_, rfl⟩
        rw [take_succ_flat hk, hp]
        exact (List.append_nil _).symm
  · obtain ⟨rfl, rfl⟩ := hI
    rw [List.length_map, List.take_of_length_le (Nat.le_refl _)]
    exact hd
/-- for x in a typed list -/
theorem for_f (xs : List α) (e : α → PyData) (I : Nat → Env → Nat → Prop) (hg : Gv wi ε N (xs.map e)) (h0 : I 0 ε N) (hs : ∀ k x ε M, xs[k]? = some x → I k ε M → wg (e x) ε fun ε2 => ws (D.loop (I (k + 1))) ε2 M) (hd : ∀ ε M, I xs.length ε M → D.nx ε M) : wFor wi wg ws D ε N := by
  refine hg _ ⟨I, h0, fun k d ε M hx hI => ?_, fun ε M hI => hd ε M (by rw [List.length_map] at hI; exact hI)⟩
  rw [List.getElem?_map] at hx
  cases hk : xs[k]? with
  | none => rw [hk] at hx; cases hx
  | some x =>
    rw [hk] at hx
    have ed : e x = d := Option.some.inj hx
    subst ed
    exact hs k x ε M hk hI
end
end Cg

set_option Elab.async false
set_option linter.all false
set_option maxRecDepth 100000
set_option maxHeartbeats 1000000
namespace Cg
open PySem PySem.Spec PyProof.Rows L2 Evl
/-! ### places, pairs and tables as data -/
abbrev Pr := Nat × Nat
def pD (p : Pr) : PyData := .tuple [.int (p.1 : Nat), .int (p.2 : Nat)]
def nD (n : Nat) : PyData := .int (n : Int)
/-- of at most 100 rows of at most 100 -/
def Sz (M : Mat) : Prop := M.length ≤ 100 ∧ ∀ r ∈ M, r.length ≤ 100
theorem Small.sz {M : Mat} (h : Small M) : Sz M := ⟨by have := h.1; omega, fun r hr => by have := h.2 r hr; omega⟩
def askRow (r : List Int) (i : Nat) : List Pr := r.zipIdx.filterMap fun q => if q.1 == 1 then some (i, q.2) else none
def asksN (M : Mat) : List Pr := M.zipIdx.flatMap fun p => askRow p.1 p.2
def cutB (I O : List Nat) (i j : Nat) : Bool := I.contains i || O.contains j
def leftN (I O : List Nat) (M : Mat) : Mat := M.zipIdx.map fun p => p.1.zipIdx.map fun q => if cutB I O p.2 q.2 then 0 else q.1
/-- neither of its places stands in these -/
def freeB (ps : List Pr) (p : Pr) : Bool := !cutB (ps.map (·.1)) (ps.map (·.2)) p.1 p.2
theorem zipIdx_map_zipIdx {α β : Type} (f : α × Nat → β) (xs : List α) : (xs.zipIdx.map f).zipIdx = xs.zipIdx.map fun p => (f p, p.2) := by
  apply List.ext_getElem
  · simp
  · intro i h1 h2
    simp
theorem ask_left_row (I O : List Nat) (r : List Int) (i : Nat) : askRow (r.zipIdx.map fun q => if cutB I O i q.2 then 0 else q.1) i = (askRow r i).filter fun p => !cutB I O p.1 p.2 := by
  unfold askRow
  rw [zipIdx_map_zipIdx, List.filterMap_map]
  generalize r.zipIdx = l
  induction l with
  | nil => rfl
  | cons q l ih =>
    rw [List.filterMap_cons, List.filterMap_cons]
    cases hq : (q.1 == 1) <;> cases hc : cutB I O i q.2 <;> simp_all
theorem asks_left_eq (I O : List Nat) (M : Mat) : asksN (leftN I O M) = (asksN M).filter fun p => !cutB I O p.1 p.2 := by
  unfold asksN leftN
  rw [zipIdx_map_zipIdx, List.flatMap_map, List.filter_flatMap]
  congr 1
  funext p
  exact ask_left_row I O p.1 p.2
theorem flat_len {α β : Type} (f : α → List β) (b : Nat) : ∀ xs : List α, (∀ x ∈ xs, (f x).length ≤ b) → (xs.flatMap f).length ≤ b * xs.length
  | [], _ => Nat.zero_le _
  | x :: xs, h => by
    have h1 := flat_len f b xs fun y hy => h y (List.mem_cons_of_mem _ hy)
    have h2 := h x (List.mem_cons_self ..)
    rw [List.flatMap_cons, List.length_append, List.length_cons, Nat.mul_succ]
    omega
theorem zipIdx_fst {α : Type} {xs : List α} {p : α × Nat} (h : p ∈ xs.zipIdx) : p.1 ∈ xs := by
  obtain ⟨_, hj, he⟩ := List.mem_zipIdx h
  rw [he]
  exact List.getElem_mem _
theorem left_len (I O : List Nat) (M : Mat) : (leftN I O M).length = M.length := by unfold leftN; rw [List.length_map, List.length_zipIdx]
theorem left_row {I O : List Nat} {M : Mat} {r : List Int} (h : r ∈ leftN I O M) : ∃ s ∈ M, r.length = s.length := by
  obtain ⟨p, hp, rfl⟩ := List.mem_map.mp h
  exact ⟨p.1, zipIdx_fst hp, by rw [List.length_map, List.length_zipIdx]⟩
theorem Sz.left {I O : List Nat} {M : Mat} (h : Sz M) : Sz (leftN I O M) := ⟨by rw [left_len]; exact h.1, fun r hr => by
  obtain ⟨s, hs, e⟩ := left_row hr
  rw [e]; exact h.2 s hs⟩
/-- what stands there -/
def cell (M : Mat) (i j : Nat) : Int := (M.getD i []).getD j 0
theorem mem_asks {M : Mat} {p : Pr} : p ∈ asksN M ↔ cell M p.1 p.2 = 1 := by
  unfold asksN askRow cell
  simp only [List.mem_flatMap, List.mem_filterMap, Prod.exists, List.mem_zipIdx_iff_getElem?]
  constructor
  · rintro ⟨r, i, hr, x, j, hx, hq⟩
    split at hq
    · rename_i h1
      have e := Option.some.inj hq
      subst e
      rw [List.getD_eq_getElem?_getD, List.getD_eq_getElem?_getD, hr]
      show (r[j]?).getD 0 = 1
      rw [hx]
      exact eq_of_beq h1
    · cases hq
  · intro h
    rw [List.getD_eq_getElem?_getD, List.getD_eq_getElem?_getD] at h
    cases hr : M[p.1]? with
    | none => rw [hr] at h; simp at h
    | some r =>
      rw [hr] at h
      have h' : (r[p.2]?).getD 0 = 1 := h
      cases hx : r[p.2]? with
      | none => rw [hx] at h'; simp at h'
      | some x =>
        rw [hx] at h'
        have h2 : x = 1 := h'
        exact ⟨r, p.1, hr, x, p.2, hx, by rw [h2]; rfl⟩
/-- rising -/
def lexN (p q : Pr) : Prop := p.1 < q.1 ∨ (p.1 = q.1 ∧ p.2 < q.2)
theorem pw_zipIdx {α : Type} (xs : List α) : xs.zipIdx.Pairwise fun p q => p.2 < q.2 := by
  rw [List.pairwise_iff_getElem]
  intro i j hi hj hij
  simp
  exact hij
theorem asks_lex (M : Mat) : (asksN M).Pairwise lexN := by
  unfold asksN
  rw [List.pairwise_flatMap]
  refine ⟨fun p _ => ?_, ?_⟩
  · unfold askRow
    rw [List.pairwise_filterMap]
    refine (pw_zipIdx p.1).imp fun {a b} hab x hx y hy => ?_
    split at hx
    · split at hy
      · have e1 := Option.some.inj hx
        have e2 := Option.some.inj hy
        subst e1 e2
        exact .inr ⟨rfl, hab⟩
      · cases hy
    · cases hx
  · refine (pw_zipIdx M).imp fun {a b} hab x hx y hy => ?_
    have row : ∀ {r : List Int} {i : Nat} {x : Pr}, x ∈ askRow r i → x.1 = i := fun {r i x} h => by
      obtain ⟨q, _, hq⟩ := List.mem_filterMap.mp h
      split at hq
      · rw [← Option.some.inj hq]
      · cases hq
    exact .inl (by rw [row hx, row hy]; exact hab)
/-! ### taken one by one -/
def gstep (acc : List Pr) (p : Pr) : List Pr := if freeB acc p then acc ++ [p] else acc
theorem gstep_t {acc : List Pr} {p : Pr} (h : freeB acc p = true) : gstep acc p = acc ++ [p] := if_pos h
theorem gstep_f {acc : List Pr} {p : Pr} (h : freeB acc p = false) : gstep acc p = acc := if_neg (by rw [h]; decide)
def greedy (L : List Pr) : List Pr := L.foldl gstep []
theorem free_iff {ps : List Pr} {p : Pr} : freeB ps p = true ↔ ∀ q ∈ ps, q.1 ≠ p.1 ∧ q.2 ≠ p.2 := by
  unfold freeB cutB
  simp only [Bool.not_eq_true', Bool.or_eq_false_iff, List.contains_eq_mem, decide_eq_false_iff_not, List.mem_map, not_exists, not_and]
  exact ⟨fun h q hq => ⟨fun e => h.1 q ⟨hq, e⟩, fun e => h.2 q ⟨hq, e⟩⟩, fun h => ⟨fun q hq => (h q hq.1).1 hq.2, fun q hq => (h q hq.1).2 hq.2⟩⟩
theorem gfold_grow : ∀ (L acc : List Pr), ∃ s, L.foldl gstep acc = acc ++ s ∧ s.Sublist L
  | [], acc => ⟨[], by simp, List.Sublist.refl _⟩
  | p :: L, acc => by
    show ∃ s, L.foldl gstep (gstep acc p) = acc ++ s ∧ _
    cases h : freeB acc p with
    | true =>
      rw [gstep_t h]
      obtain ⟨s, h1, h2⟩ := gfold_grow L (acc ++ [p])
      exact ⟨p :: s, by rw [h1]; simp, h2.cons₂ _⟩
    | false =>
      rw [gstep_f h]
      obtain ⟨s, h1, h2⟩ := gfold_grow L acc
      exact ⟨s, h1, h2.cons _⟩
/-- no place twice -/
def Apart (ps : List Pr) : Prop := ps.Pairwise fun p q => p.1 ≠ q.1 ∧ p.2 ≠ q.2
theorem gfold_apart : ∀ (L acc : List Pr), Apart acc → Apart (L.foldl gstep acc)
  | [], _, h => h
  | q :: L, acc, h => by
    show Apart (L.foldl gstep (gstep acc q))
    refine gfold_apart L _ ?_
    unfold gstep
    split
    · rename_i h2
      refine List.pairwise_append.mpr ⟨h, List.pairwise_singleton _ _, fun a ha b hb => ?_⟩
      rw [List.mem_singleton.mp hb]
      exact free_iff.mp h2 a ha
    · exact h
/-! ### pairs -/
structure Prs (M : Mat) (ps : List Pr) : Prop where
  ask : ∀ p ∈ ps, cell M p.1 p.2 = 1
  rise : (ps.map (·.1)).Pairwise (· < ·)
  once : (ps.map (·.2)).Nodup
theorem prs_of {M : Mat} {ps : List Pr} (h1 : ∀ p ∈ ps, cell M p.1 p.2 = 1) (h2 : ps.Pairwise lexN) (h3 : Apart ps) : Prs M ps := by
  refine ⟨h1, List.pairwise_map.mpr ?_, ?_⟩
  · refine (h2.and h3).imp fun {p q} h => ?_
    rcases h.1 with h4 | h4
    · exact h4
    · exact absurd h4.1 h.2.1
  · exact List.pairwise_map.mpr (h3.imp fun {p q} h => h.2)
theorem greedy_prs (M : Mat) : Prs M (greedy (asksN M)) := by
  obtain ⟨s, h1, h2⟩ := gfold_grow (asksN M) []
  have e : greedy (asksN M) = s := h1
  refine prs_of (fun p hp => mem_asks.mp ?_) ?_ (gfold_apart _ _ List.Pairwise.nil)
  · rw [e] at hp
    exact h2.subset hp
  · rw [e]
    exact (asks_lex M).sublist h2
theorem Prs.lt {M : Mat} {ps : List Pr} (h : Prs M ps) {p : Pr} (hp : p ∈ ps) : p.1 < M.length ∧ p.2 < (M.getD p.1 []).length := by
  have h1 := h.ask p hp
  unfold cell at h1
  constructor
  · rw [List.getD_eq_getElem?_getD (l := M)] at h1
    cases e : M[p.1]? with
    | none => rw [e] at h1; simp at h1
    | some r => exact (List.getElem?_eq_some_iff.mp e).1
  · rw [List.getD_eq_getElem?_getD] at h1
    cases e : (M.getD p.1 [])[p.2]? with
    | none => rw [e] at h1; simp at h1
    | some r => exact (List.getElem?_eq_some_iff.mp e).1
theorem sub_len {α : Type} [DecidableEq α] : ∀ {xs ys : List α}, xs.Nodup → (∀ x ∈ xs, x ∈ ys) → xs.length ≤ ys.length
  | [], _, _, _ => Nat.zero_le _
  | x :: xs, ys, h, hs => by
    obtain ⟨h1, h2⟩ := List.nodup_cons.mp h
    have hx := hs x (List.mem_cons_self ..)
    have := sub_len (xs := xs) (ys := ys.erase x) h2 fun y hy => (List.mem_erase_of_ne (fun (e : y = x) => h1 (e ▸ hy))).mpr (hs y (List.mem_cons_of_mem _ hy))
    rw [List.length_erase_of_mem hx] at this
    have hp : 0 < ys.length := List.length_pos_of_mem hx
    rw [List.length_cons]
    omega
theorem nodup_len {ns : List Nat} {n : Nat} (h : ns.Nodup) (hn : ∀ x ∈ ns, x < n) : ns.length ≤ n := by
  have := sub_len h (ys := List.range n) fun x hx => List.mem_range.mpr (hn x hx)
  rwa [List.length_range] at this
theorem rise_len {ns : List Nat} {n : Nat} (h : ns.Pairwise (· < ·)) (hn : ∀ x ∈ ns, x < n) : ns.length ≤ n := nodup_len (h.imp fun {a b} hab => Nat.ne_of_lt hab) hn
theorem Prs.len {M : Mat} {ps : List Pr} (h : Prs M ps) : ps.length ≤ M.length := by
  have := rise_len h.rise (n := M.length) fun x hx => by
    obtain ⟨p, hp, rfl⟩ := List.mem_map.mp hx
    exact (h.lt hp).1
  rwa [List.length_map] at this
/-! ### rising -/
theorem contains_nat {ns : List Nat} {k : Nat} : (ns.map fun n : Nat => (n : Int)).contains (k : Int) = ns.contains k := by
  rw [Bool.eq_iff_iff, List.contains_iff_mem, List.contains_iff_mem, List.mem_map]
  exact ⟨fun ⟨a, ha, e⟩ => by
    have e' : a = k := by omega
    rw [← e']; exact ha, fun h => ⟨k, h, rfl⟩⟩
end Cg

set_option Elab.async false
set_option linter.all false
set_option maxRecDepth 100000
set_option maxHeartbeats 1000000
namespace Cg
open PySem PySem.Spec PyProof.Rows L2 Evl
/-! ### one of a new list: [a, b, ..][k] -/
theorem RepL.get {bs : List Addr} {H : Hp} : ∀ {vs : List V} {ts : List T} {A : List Addr}, RepL bs H vs ts A → ∀ {j : Nat} {t : T}, ts[j]? = some t → ∃ v B, vs[j]? = some v ∧ Rep bs H v t B ∧ B.Sublist A
  | _, _, _, .nil, j, t, e => by simp at e
  | _, _, _, .cons (A := A) (B := B) h k, 0, t, e => by
    have e' := Option.some.inj e
    subst e'
    exact ⟨_, A, rfl, h, List.sublist_append_left _ _⟩
  | _, _, _, .cons (A := A) (B := B) h k, j + 1, t, e => by
    obtain ⟨v, C, h1, h2, h3⟩ := RepL.get k (j := j) (t := t) e
    exact ⟨v, C, h1, h2, h3.trans (List.sublist_append_right _ _)⟩
def wPickT (ws : WTs) (we : WE) : WT := fun ε N R => ws ε N fun ts N1 => ts.length ≤ 100000 ∧ we ε N1 fun d N2 => dInt d fun k => ∃ t, L2.atI ts k = some t ∧ R t N2
theorem wPickT_eq {ws : WTs} {we : WE} {ε : Env} {N : Nat} {R : T → Nat → Prop} : wPickT ws we ε N R = ws ε N fun ts N1 => ts.length ≤ 100000 ∧ we ε N1 fun d N2 => dInt d fun k => ∃ t, L2.atI ts k = some t ∧ R t N2 := propext Iff.rfl
end Cg

set_option Elab.async false
set_option linter.all false
set_option maxRecDepth 100000
set_option maxHeartbeats 1000000
namespace Cg
open PySem PySem.Spec PyProof.Rows L2 Evl
/-! ### lists within what is its own, changed in place -/
section
variable {c : Base} {bs F A : List Addr} {σ : L2.St} {H H' : Hp} {ε : Env} {N N' : Nat} {te ta tb : TE} {wt : WT} {wa wb : WE}
/-- a list or a tuple that is its own -/
def mkT (b : Bool) (ts : List T) : T := match b with
  | true => .lst ts
  | false => .tup ts
def atOwnB (o : Option Sl) (k : Bool → List T → Prop) : Prop := match o with
  | some (.is (.lst ts)) => k true ts
  | some (.is (.tup ts)) => k false ts
  | _ => False
theorem atOwnB_lst {ts : List T} {k : Bool → List T → Prop} : atOwnB (some (.is (.lst ts))) k = k true ts := propext Iff.rfl
theorem atOwnB_tup {ts : List T} {k : Bool → List T → Prop} : atOwnB (some (.is (.tup ts))) k = k false ts := propext Iff.rfl
/-- the list at this index -/
def atL (ts : List T) (d : PyData) (k : Nat → List T → Prop) : Prop := match d with
  | .int i => ∃ j us, ixN ts.length i = some j ∧ ts[j]? = some (.lst us) ∧ k j us
  | _ => False
theorem atL_int {ts : List T} {i : Int} {k : Nat → List T → Prop} : atL ts (.int i) k = ∃ j us, ixN ts.length i = some j ∧ ts[j]? = some (.lst us) ∧ k j us := propext Iff.rfl
theorem mkT_t {ts : List T} : mkT true ts = .lst ts := rfl
theorem mkT_f {ts : List T} : mkT false ts = .tup ts := rfl
/-- x[k1].append(e) -/
def wApp2 (i : Nat) (wk : WE) (wt : WT) : WS := fun D ε N => atOwnB ε[i]? fun b ts => wk ε N fun d N1 => atL ts d fun j us => wt ε N1 fun t N2 => us.length ≤ 100000 ∧ D.nx (ε.set i (.is (mkT b (ts.set j (.lst (us ++ [t])))))) N2
theorem wApp2_eq {i : Nat} {wk : WE} {wt : WT} {D : EW} : wApp2 i wk wt D ε N = atOwnB ε[i]? fun b ts => wk ε N fun d N1 => atL ts d fun j us => wt ε N1 fun t N2 => us.length ≤ 100000 ∧ D.nx (ε.set i (.is (mkT b (ts.set j (.lst (us ++ [t])))))) N2 := propext Iff.rfl
/-- x[k1][k] = e -/
def wSet2 (i : Nat) (wk wl : WE) (wt : WT) : WS := fun D ε N => atOwnB ε[i]? fun b ts => wt ε N fun t N1 => wk ε N1 fun d N2 => atL ts d fun j us => wl ε N2 fun f N3 => dInt f fun k => ∃ l, ixN us.length k = some l ∧ D.nx (ε.set i (.is (mkT b (ts.set j (.lst (us.set l t)))))) N3
theorem wSet2_eq {i : Nat} {wk wl : WE} {wt : WT} {D : EW} : wSet2 i wk wl wt D ε N = atOwnB ε[i]? fun b ts => wt ε N fun t N1 => wk ε N1 fun d N2 => atL ts d fun j us => wl ε N2 fun f N3 => dInt f fun k => ∃ l, ixN us.length k = some l ∧ D.nx (ε.set i (.is (mkT b (ts.set j (.lst (us.set l t)))))) N3 := propext Iff.rfl
/-- x[k], y[l] = (d, e), both shared -/
def wSetP (i : Nat) (wk wa : WE) (j : Nat) (wl wb : WE) : WS := fun D ε N => wa ε N fun d N1 => wb ε N1 fun e N2 => atOwn ε[i]? fun ts => wk ε N2 fun f N3 => dInt f fun k => ∃ p, ixN ts.length k = some p ∧ atOwn (ε.set i (.is (.lst (ts.set p (.sh d)))))[j]? fun us => wl (ε.set i (.is (.lst (ts.set p (.sh d))))) N3 fun g N4 => dInt g fun l => ∃ q, ixN us.length l = some q ∧ D.nx ((ε.set i (.is (.lst (ts.set p (.sh d))))).set j (.is (.lst (us.set q (.sh e))))) N4
theorem wSetP_eq {i : Nat} {wk wa : WE} {j : Nat} {wl wb : WE} {D : EW} : wSetP i wk wa j wl wb D ε N = wa ε N fun d N1 => wb ε N1 fun e N2 => atOwn ε[i]? fun ts => wk ε N2 fun f N3 => dInt f fun k => ∃ p, ixN ts.length k = some p ∧ atOwn (ε.set i (.is (.lst (ts.set p (.sh d)))))[j]? fun us => wl (ε.set i (.is (.lst (ts.set p (.sh d))))) N3 fun g N4 => dInt g fun l => ∃ q, ixN us.length l = some q ∧ D.nx ((ε.set i (.is (.lst (ts.set p (.sh d))))).set j (.is (.lst (us.set q (.sh e))))) N4 := propext Iff.rfl
theorem atOwn_some {o : Option Sl} {k : List T → Prop} (h : atOwn o k) : ∃ ts, o = some (.is (.lst ts)) ∧ k ts := by
  unfold atOwn at h
  split at h
  · exact ⟨_, rfl, h⟩
  · exact h.elim
/-- x += e, two ints -/
def wAug (i : Nat) (we : WE) : WS := fun D ε N => atSh ε[i]? fun d => dInt d fun x => we ε N fun e N1 => dInt e fun y => D.nx (ε.set i (.is (.sh (.int (x + y))))) N1
theorem wAug_eq {i : Nat} {we : WE} {D : EW} : wAug i we D ε N = atSh ε[i]? fun d => dInt d fun x => we ε N fun e N1 => dInt e fun y => D.nx (ε.set i (.is (.sh (.int (x + y))))) N1 := propext Iff.rfl
theorem atIs_some {o : Option Sl} {k : T → Prop} (h : atIs o k) : ∃ t, o = some (.is t) ∧ k t := by
  unfold atIs at h
  split at h
  · exact ⟨_, rfl, h⟩
  · exact h.elim
/-- return (x, y), both its own -/
def wRetV2 (i j : Nat) : WS := fun D ε N => atIs ε[i]? fun t => atIs ε[j]? fun u => D.rt (.tup [t, u]) N
theorem wRetV2_eq {i j : Nat} {D : EW} : wRetV2 i j D ε N = atIs ε[i]? fun t => atIs ε[j]? fun u => D.rt (.tup [t, u]) N := propext Iff.rfl
end
/-! ### sum of a list or a tuple of ints -/
section
variable {prog : Program} {w : World} {A : Around} {E : Value → Shared → Prop} {s : Shared} {l : Addr} {its : List Value} {ns : List Int} {Q : Value → Shared → Prop}
theorem sum_tup (hh : A.handled = none) (hl : s.heap.IsTuple l its.toArray) (hi : IntsAre its ns)
    (h : ∀ h' tk t', (∀ b o, s.heap.get? b = some o → h'.get? b = some o) → Q (.int ns.sum t') { s with heap := h', toks := tk }) : wpAny (model prog w) A (call (.builtin "sum") [.ref l]) Q E s := by
  obtain ⟨xs, e⟩ := hi.allInts.items
  have hn : numsOf (intItems xs).toList = ns := by rw [← e]; exact hi.numsOf
  rw [nums_intItems] at hn
  rw [e] at hl
  have hlt : l < s.heap.objs.size := by obtain ⟨_, e, _⟩ := hl; exact Heap.lt_size e
  refine call_sum_walkG (wpAny_pyIter_tuple hl ?_)
  refine ⟨_, _, _, _, _, _, numAt xs, rfl, Walks.tuple (A := A.in1) hh _ l (Nat.ne_of_lt hlt) (intItems xs), ⟨⟨_, Heap.get?_push_size _ rfl, rfl, rfl⟩, hl.push _⟩, (fun b hb => ?_), (fun _ _ => intItems_at), fun h' tk t' hk => ?_⟩
  · show b < (s.heap.push _).objs.size
    rw [Heap.size_push]
    rcases List.mem_cons.mp hb with rfl | hb
    · exact Nat.lt_succ_self _
    · rcases List.mem_cons.mp hb with rfl | hb
      · exact Nat.lt_succ_of_lt hlt
      · cases hb
  · have := h h' tk t' (fun b o e => hk b o (fun hb => absurd (Heap.lt_size e) ((List.mem_singleton.mp hb) ▸ Nat.lt_irrefl _)) (Heap.get?_push_of_some _ e))
    have es : preSum (numAt xs) (intItems xs).size = ns.sum := by
      rw [preSum_eq, List.take_of_length_le (by simp [intItems]), hn]
    rw [es]
    exact this
end
def rSumS (K : PySem.W.Frag) : List V → Hp → VK → Prop := fun vs H Q => ∃ (a : Addr) (ns : List Int), vs = [V.ref a] ∧ (SqL K H a (ns.map V.int) ∨ SqT K H a (ns.map V.int)) ∧ Q (.int ns.sum) H
theorem cr_sumS {X : Cx} (hc : X.calm = true) : CallR X (.builtin "sum") (rSumS X.K) := by
  intro pins s σ H vs us Q I r h
  obtain ⟨a, ns, rfl, hs, q⟩ := h
  rcases hs with hs | hs
  · exact cr_sum hc pins s σ H _ us Q I r ⟨a, ns, rfl, hs, q⟩
  · obtain ⟨its, rv, hl, _⟩ := I.tuple hs
    rw [Vals.ref1 r]
    exact sum_tup (I.ok.hd hc) hl rv.ints fun h' tk t' hk => ⟨.int _, H, I.kept hk, ⟨_, rfl⟩, q⟩
theorem sumSK {X : Cx} (K : PySem.W.Frag) (hK : X.K = K := by rfl) (hc : X.calm = true := by rfl) : CallR X (.builtin "sum") (rSumS K) := by subst hK; exact cr_sumS hc
def oSumS : OC
  | [d], S => match seqOf d with
    | some ds => match intsOf ds with
      | some ns => S (.int ns.sum)
      | none => False
    | none => False
  | _, _ => False
theorem cb_sumS {K : PySem.W.Frag} : CbD (rSumS K) oSumS := fun {hs H xs ds S Q} l hx w q => by
  match ds, w with
  | [d], w =>
    obtain ⟨v, rfl, hv⟩ := dq1 hx
    have w' : (match seqOf d with | some ds => (match intsOf ds with | some ns => S (.int ns.sum) | none => False) | none => False) := w
    split at w'
    · rename_i ds e
      split at w'
      · rename_i ns e2
        obtain ⟨a, ys, rfl, hsq, hy⟩ := hv.seqOf (K := K) e
        have e3 := ints_of hy e2
        subst e3
        exact ⟨a, ns, rfl, hsq hid_same, q _ _ H w' (Same.refl _) (.int _)⟩
      · exact w'.elim
    · exact w'.elim
theorem oSumS_list {ns : List Int} {S : PyData → Prop} : oSumS [.list (ns.map PyData.int)] S = S (.int ns.sum) := by
  show (match intsOf (ns.map PyData.int) with | some ns => S (.int ns.sum) | none => False) = _
  rw [intsOf_map]
theorem oSumS_tup {ns : List Int} {S : PyData → Prop} : oSumS [.tuple (ns.map PyData.int)] S = S (.int ns.sum) := by
  show (match intsOf (ns.map PyData.int) with | some ns => S (.int ns.sum) | none => False) = _
  rw [intsOf_map]
theorem oSumS_seq {kd : Bool} {ns : List Int} {S : PyData → Prop} : oSumS [seqD kd (ns.map PyData.int)] S = S (.int ns.sum) := by
  cases kd
  · exact oSumS_tup
  · exact oSumS_list
end Cg

set_option Elab.async false
set_option linter.all false
set_option maxRecDepth 100000
set_option maxHeartbeats 1000000
namespace Cg
open PySem PySem.Spec PyProof.Rows L2 Evl
section
variable {c : Base} {bs F A : List Addr} {σ : L2.St} {H H' : Hp} {ε : Env} {N N' : Nat} {te ta tb tk : TE} {wt : WT} {we wa wb wk : WE}
/-- x.append(y.pop(k)), what is popped being shared -/
def wAppPop (i j : Nat) (wk : WE) : WS := fun D ε N => atOwn ε[i]? fun ts => atOwn ε[j]? fun us => wk ε N fun f N1 => dInt f fun k => (0 ≤ k ∧ k < us.length ∧ k ≤ 1000000 ∧ ts.length ≤ 100000) ∧ ∃ d, us[k.toNat]? = some (.sh d) ∧ D.nx ((ε.set j (.is (.lst (us.eraseIdx k.toNat)))).set i (.is (.lst (ts ++ [.sh d])))) N1
theorem wAppPop_eq {i j : Nat} {D : EW} : wAppPop i j wk D ε N = atOwn ε[i]? fun ts => atOwn ε[j]? fun us => wk ε N fun f N1 => dInt f fun k => (0 ≤ k ∧ k < us.length ∧ k ≤ 1000000 ∧ ts.length ≤ 100000) ∧ ∃ d, us[k.toNat]? = some (.sh d) ∧ D.nx ((ε.set j (.is (.lst (us.eraseIdx k.toNat)))).set i (.is (.lst (ts ++ [.sh d])))) N1 := propext Iff.rfl
/-- x.append((e, y.pop(k))) -/
def wAppPopT (i j : Nat) (we wk : WE) : WS := fun D ε N => atOwn ε[i]? fun ts => we ε N fun e N1 => atOwn ε[j]? fun us => wk ε N1 fun f N2 => dInt f fun k => (0 ≤ k ∧ k < us.length ∧ k ≤ 1000000 ∧ ts.length ≤ 100000) ∧ ∃ d, us[k.toNat]? = some (.sh d) ∧ D.nx ((ε.set j (.is (.lst (us.eraseIdx k.toNat)))).set i (.is (.lst (ts ++ [.sh (.tuple [e, d])])))) N2
theorem wAppPopT_eq {i j : Nat} {D : EW} : wAppPopT i j we wk D ε N = atOwn ε[i]? fun ts => we ε N fun e N1 => atOwn ε[j]? fun us => wk ε N1 fun f N2 => dInt f fun k => (0 ≤ k ∧ k < us.length ∧ k ≤ 1000000 ∧ ts.length ≤ 100000) ∧ ∃ d, us[k.toNat]? = some (.sh d) ∧ D.nx ((ε.set j (.is (.lst (us.eraseIdx k.toNat)))).set i (.is (.lst (ts ++ [.sh (.tuple [e, d])])))) N2 := propext Iff.rfl
/-- x[k].reverse() -/
def wRev2 (i : Nat) (wk : WE) : WS := fun D ε N => atOwnB ε[i]? fun b ts => wk ε N fun d N1 => atL ts d fun j us => D.nx (ε.set i (.is (mkT b (ts.set j (.lst us.reverse))))) N1
theorem wRev2_eq {i : Nat} {D : EW} : wRev2 i wk D ε N = atOwnB ε[i]? fun b ts => wk ε N fun d N1 => atL ts d fun j us => D.nx (ε.set i (.is (mkT b (ts.set j (.lst us.reverse))))) N1 := propext Iff.rfl
end
/-! ### xs.index(x), texts -/
theorem indexK {X : Cx} (K : PySem.W.Frag) (hK : X.K = K := by rfl) : MtR X "list.index" (rIndex K) := by subst hK; exact mt_index
def oIndexS : PyData → List PyData → (PyData → Prop) → Prop := fun d es S => match d, es with
  | .list ds, [.str x] => ∃ ss : List Str, ds = ss.map PyData.str ∧ ∃ j, ss[j]? = some x ∧ (∀ m, m < j → ss[m]? ≠ some x) ∧ S (.int (j : Nat))
  | _, _ => False
theorem oIndexS_is {ds : List PyData} {x : Str} {S : PyData → Prop} : oIndexS (.list ds) [.str x] S = ∃ ss : List Str, ds = ss.map PyData.str ∧ ∃ j, ss[j]? = some x ∧ (∀ m, m < j → ss[m]? ≠ some x) ∧ S (.int (j : Nat)) := propext Iff.rfl
theorem strs_inv {H : Hp} : ∀ {ss : List Str} {vs : List V}, DqAll H vs (ss.map PyData.str) → vs = ss.map V.str
  | [], _, .nil => rfl
  | s :: ss, _, .cons h t => by
    cases h
    rw [strs_inv t]
    rfl
theorem bm_index {K : PySem.W.Frag} : BmD (rIndex K) oIndexS := fun {hs H x xs d ds S Q} l hx hxs w q => by
  unfold oIndexS at w
  split at w
  · rename_i es y
    obtain ⟨ss, rfl, j, hj, hm, hS⟩ := w
    obtain ⟨v, rfl, hv⟩ := dq1 hxs
    cases hv
    obtain ⟨a, ys, rfl, e1, h1⟩ := hx.list_inv
    have e2 := strs_inv h1
    subst e2
    refine ⟨a, ss.map V.str, .str y, j, .str y, rfl, rfl, SqL.of (hid_some e1).2, rfl, ?_, by rw [List.getElem?_map, hj]; rfl, ?_, fun m z' hmj hz => ?_, q _ _ H hS (Same.refl _) (.int _)⟩
    · rw [List.all_map, List.all_eq_true]
      intro z _
      rfl
    · unfold eqV
      simp
    · rw [List.getElem?_map] at hz
      cases hs : ss[m]? with
      | none => rw [hs] at hz; cases hz
      | some u =>
        rw [hs] at hz
        have eu : V.str u = z' := Option.some.inj hz
        subst eu
        have hne : u ≠ y := fun e => hm m hmj (by rw [hs, e])
        unfold eqV
        simp [hne]
  · exact w.elim
theorem wBmL_eq {o : PyData → List PyData → (PyData → Prop) → Prop} {wa : WE} {was : WA} {ε : Env} {N : Nat} {R : PyData → Nat → Prop} : wBmL o wa was ε N R = wa ε N fun d N1 => isList d = true ∧ was ε N1 fun ds N2 => o d ds fun f => R f N2 := propext Iff.rfl
/-! ### x is True, x is not False -/
section
variable {M : Model} {A : Around} {Q : Value → Shared → Prop} {E : Value → Shared → Prop} {s : Shared}
end
def oIsB (neg : Bool) : O2 := fun d e S => match d, e with
  | .bool a, .bool b => S (.bool (if neg then !(a == b) else (a == b)))
  | _, _ => False
theorem oIsB_is {neg a b : Bool} {S : PyData → Prop} : oIsB neg (.bool a) (.bool b) S = S (.bool (if neg then !(a == b) else (a == b))) := propext Iff.rfl
/-! ### four at once -/
/-! ### return [x, e, ..][k], x its own -/
def wRetPick (i : Nat) (ws : WTs) (we : WE) : WS := fun D ε N => atIs ε[i]? fun t0 => ws ε N fun ts N1 => ts.length ≤ 99999 ∧ we ε N1 fun d N2 => dInt d fun k => ∃ t, L2.atI (t0 :: ts) k = some t ∧ D.rt t N2
theorem wRetPick_eq {i : Nat} {ws : WTs} {we : WE} {D : EW} {ε : Env} {N : Nat} : wRetPick i ws we D ε N = atIs ε[i]? fun t0 => ws ε N fun ts N1 => ts.length ≤ 99999 ∧ we ε N1 fun d N2 => dInt d fun k => ∃ t, L2.atI (t0 :: ts) k = some t ∧ D.rt t N2 := propext Iff.rfl
end Cg

set_option Elab.async false
set_option linter.all false
set_option maxRecDepth 100000
set_option maxHeartbeats 1000000
namespace Cg
open PySem PySem.Spec PyProof.Rows L2 Evl
/-! ### a builtin's method within a comprehension: K is named -/
section
variable {X : Cx} {o e : Expr} {es : List Expr} {to : TE} {t : TA} {name : Str} {apos cpos : Pos} {T id : String} {r : V → List V → Hp → VK → Prop}
theorem pe_bmK (K : PySem.W.Frag) (pa : PlainAttrs T) (slot : Slot T name id) (hty : typeOf (.builtin id) = pure (.type "method_descriptor")) (hm : MtR X id r) (ho : PE X o to) (ha : PA X (e :: es) t)
    (hbase : attributeBase o name X.env (eval o X.env) = eval o X.env := by rfl)
    (hfew : ((backTo cpos (starEach (e :: es) X.env)).all (fun x => !x.1) && (backToKw cpos (keywordEach [] X.env)).all (fun x => x.1.isSome)
      && decide ((e :: es).length + ([] : List Keyword).length + (if ([] : List Keyword).isEmpty then 0 else 1) < 30)) = true := by rfl)
    (hline : (apos.endLine == cpos.line) = true := by rfl) (hs : starEach (e :: es) X.env = (false, eval e X.env) :: starEach es X.env := by rfl) (hplain : (backTo cpos (starEach es X.env)).any (·.1) = false := by rfl) (hK : X.K = K := by rfl) :
    PE X (.Call (.Attribute o name apos) (e :: es) [] cpos) (tBM K T r to t) := by
  subst hK
  exact pe_bm pa slot hty hm ho ha hbase hfew hline hs hplain
end
theorem oCount_list {ns : List Int} {k : Int} {S : PyData → Prop} : oCount (.list (ns.map PyData.int)) [.int k] S = S (.int (ns.count k : Nat)) := by
  show (match intsOf (ns.map PyData.int) with | some ns => S (.int (ns.count k : Nat)) | none => False) = _
  rw [intsOf_map]
/-! ### three walked at once -/
/-! ### sorted, tuples of ints of one length -/
end Cg

set_option Elab.async false
set_option linter.all false
set_option maxRecDepth 100000
set_option maxHeartbeats 1000000
namespace Cg
open PySem PySem.Spec PyProof.Rows L2 Evl
/-! ### a law with one box: what stands behind the box, by value -/
end Cg

set_option Elab.async false
set_option linter.all false
set_option maxRecDepth 100000
set_option maxHeartbeats 1000000
namespace Cg
open PySem PySem.Spec PyProof.Rows L2 Evl
/-! ### dicts of its own: a slot that holds one -/
section
variable {c : Base} {bs F : List Addr} {σ : L2.St} {H : Hp} {ε : Env} {N : Nat}
theorem Rel.dic {i : Nat} {kvs : List (Key × V)} (r : Rel c bs F σ H ε N) (hl : ε[i]? = some (.dic kvs)) : ∃ a, σ[i]? = some (some (.ref a)) ∧ H a = some (.dK kvs) ∧ a ∈ bs ∧ a ∉ c.b ∧ a ∈ F ∧
    ∀ kvs', Rel c bs F σ (upd H a (.dK kvs')) (ε.set i (.dic kvs')) N := by
  obtain ⟨y, A, F1, F2, q1, q2, rfl, q4⟩ := r.env.at hl
  cases q2 with
  | dic e =>
    rename_i a
    have ain : a ∈ F1 ++ ([a] ++ F2) := List.mem_append_right _ (List.mem_append_left _ (List.mem_singleton.mpr rfl))
    have abs := r.sub a ain
    refine ⟨a, q1, e, abs, r.fb a ain, ain, fun kvs' => ?_⟩
    have aout : ∀ x ∈ F1 ++ F2, x ≠ a := fun x hx z => by
      subst z
      obtain ⟨_, p2, p3⟩ := List.nodup_append.mp r.nd
      rcases List.mem_append.mp hx with h | h
      · exact p3 x h x (List.mem_append_left _ (List.mem_singleton.mpr rfl)) rfl
      · exact (List.nodup_append.mp p2).2.2 x (List.mem_singleton.mpr rfl) x h rfl
    have kk : Keep bs H (upd H a (.dK kvs')) := (Keep.refl _ _).put abs
    have env := q4 (cs := bs) (H' := upd H a (.dK kvs')) (y := some (.ref a)) (m := .dic kvs') r.nt kk (fun x hx o e => by rw [upd_ne (aout x hx)]; exact e) (.dic upd_same)
    rw [set_same q1] at env
    refine ⟨env, r.nd, r.sub, r.off, r.nb, r.up, r.bb, r.offb, fun x hx => ?_, fun x hx xs z => ?_, fun x hx => ?_, fun x o e => ?_, r.vis.trans kk⟩
    · by_cases hxa : x = a
      · subst hxa; rw [upd_same]; exact fun z => nomatch z
      · rw [upd_ne hxa]; exact r.live x hx
    · by_cases hxa : x = a
      · subst hxa; rw [upd_same] at z; cases z; trivial
      · rw [upd_ne hxa] at z; exact r.nt x hx xs z
    · exact (r.box x hx).put (fun z => r.fb a ain (z ▸ hx))
    · rw [upd_ne (fun (z : x = a) => by rw [z, r.off a ain] at e; cases e)]
      exact r.pin x o e
end
def atDic (o : Option Sl) (k : List (Key × V) → Prop) : Prop := match o with
  | some (.dic kvs) => k kvs
  | _ => False
theorem atDic_is {kvs : List (Key × V)} {k : List (Key × V) → Prop} : atDic (some (.dic kvs)) k = k kvs := propext Iff.rfl
/-- d[e] = True, e an int -/
def wDPut (i : Nat) (we : WE) : WS := fun D ε N => atDic ε[i]? fun kvs => we ε N fun d N' => dInt d fun k => kvs.length ≤ 100000 ∧ D.nx (ε.set i (.dic (putK kvs (.inl k) (.bl true)))) N'
/-- list(d), keys that are ints -/
def intKeys : List (Key × V) → Option (List Int)
  | [] => some []
  | (.inl k, _) :: l => (intKeys l).map (k :: ·)
  | _ => none
def wDList (i : Nat) : WT := fun ε N R => atDic ε[i]? fun kvs => ∃ ks, intKeys kvs = some ks ∧ R (.lst (ks.map fun k => .sh (.int k))) N
section
variable {c : Base} {bs F : List Addr} {σ : L2.St} {H : Hp} {ε : Env} {N : Nat}
end
/-- d = {0: True} -/
def wDNew (i : Nat) (k : Int) : WS := fun D ε N => D.nx (ε.set i (.dic [(.inl k, .bl true)])) N
theorem wDPut_eq {i : Nat} {we : WE} {D : EW} {ε : Env} {N : Nat} : wDPut i we D ε N = atDic ε[i]? fun kvs => we ε N fun d N' => dInt d fun k => kvs.length ≤ 100000 ∧ D.nx (ε.set i (.dic (putK kvs (.inl k) (.bl true)))) N' := propext Iff.rfl
theorem wDList_eq {i : Nat} {ε : Env} {N : Nat} {R : T → Nat → Prop} : wDList i ε N R = atDic ε[i]? fun kvs => ∃ ks, intKeys kvs = some ks ∧ R (.lst (ks.map fun k => .sh (.int k))) N := propext Iff.rfl
theorem wDNew_eq {i : Nat} {k : Int} {D : EW} {ε : Env} {N : Nat} : wDNew i k D ε N = D.nx (ε.set i (.dic [(.inl k, .bl true)])) N := propext Iff.rfl
/-! ### bits, the greatest of a list -/
end Cg

set_option Elab.async false
set_option linter.all false
set_option maxRecDepth 100000
set_option maxHeartbeats 1000000
namespace Cg
open PySem PySem.Spec PyProof.Rows L2 Evl
/-! ### dicts of ints to ints, by value -/
def valI (kvs : List (Int × Int)) (k : Int) : Option Int := (kvs.find? fun p => decide (p.1 = k)).map (·.2)
def putI (kvs : List (Int × Int)) (k v : Int) : List (Int × Int) :=
  if (kvs.any fun p => decide (p.1 = k)) = true then kvs.map (fun p => if p.1 = k then (p.1, v) else p) else kvs ++ [(k, v)]
theorem kdI_inj : ∀ {a b : List (Int × Int)}, a.map kdI = b.map kdI → a = b
  | [], [], _ => rfl
  | [], _ :: _, h => nomatch h
  | _ :: _, [], h => nomatch h
  | (x, y) :: a, (z, u) :: b, h => by
    rw [List.map_cons, List.map_cons] at h
    injection h with h1 h2
    have h3 : (PyData.int x, PyData.int y) = (PyData.int z, PyData.int u) := h1
    injection h3 with h4 h5
    injection h4 with h4
    injection h5 with h5
    rw [kdI_inj h2, h4, h5]
/-- a slot holds that dict: its own, shared, or walked -/
def Dic (o : Option Sl) (kvs : List (Int × Int)) : Prop := o = some (.is (.dic kvs)) ∨ o = some (.is (.sh (.dict (kvs.map kdI)))) ∨ o = some (.dcF kvs)
def atD (o : Option Sl) (k : List (Int × Int) → Prop) : Prop := ∃ kvs, Dic o kvs ∧ k kvs
theorem atD_own {kvs : List (Int × Int)} {k : List (Int × Int) → Prop} : atD (some (.is (.dic kvs))) k = k kvs := propext ⟨fun ⟨kvs', h, q⟩ => by
  rcases h with h | h | h <;> first | (cases h; exact q) | (cases h; done), fun h => ⟨kvs, .inl rfl, h⟩⟩
theorem atD_frz {kvs : List (Int × Int)} {k : List (Int × Int) → Prop} : atD (some (.dcF kvs)) k = k kvs := propext ⟨fun ⟨kvs', h, q⟩ => by
  rcases h with h | h | h <;> first | (cases h; exact q) | (cases h; done), fun h => ⟨kvs, .inr (.inr rfl), h⟩⟩
theorem atD_sh {kvs : List (Int × Int)} {k : List (Int × Int) → Prop} : atD (some (.is (.sh (.dict (kvs.map kdI))))) k = k kvs := by
  refine propext ⟨fun h => ?_, fun h => ⟨kvs, .inr (.inl rfl), h⟩⟩
  obtain ⟨kvs', h, q⟩ := h
  rcases h with h | h | h
  · cases h
  · injection h with h
    injection h with h
    injection h with h
    injection h with h
    rw [kdI_inj h]
    exact q
  · cases h
section
variable {ta tb te tk tv : TE} {wa wb we wk wv : WE} {wt : WT} {c : Base} {bs F A B : List Addr} {σ : L2.St} {H H1 : Hp} {ε : Env} {N N1 : Nat} {v : V} {i : Nat}
/-- d[e] -/
def wDGet (i : Nat) (we : WE) : WE := fun ε N R => atD ε[i]? fun kvs => we ε N fun d N1 => dInt d fun k => ∃ v, valI kvs k = some v ∧ R (.int v) N1
/-- e in d, e not in d -/
def wDIn (i : Nat) (we : WE) : WE := fun ε N R => atD ε[i]? fun kvs => we ε N fun d N1 => dInt d fun k => R (.bool (valI kvs k).isSome) N1
def wDNotIn (i : Nat) (we : WE) : WE := fun ε N R => atD ε[i]? fun kvs => we ε N fun d N1 => dInt d fun k => R (.bool (!(valI kvs k).isSome)) N1
def oInt? : Option Int → PyData
  | some v => .int v
  | none => .none
/-- d.get(e) -/
def wDGet1 (i : Nat) (we : WE) : WE := fun ε N R => atD ε[i]? fun kvs => we ε N fun d N1 => dInt d fun k => R (oInt? (valI kvs k)) N1
/-- {} -/
def wD0 : WT := fun ε N R => R (.dic []) N
theorem Nw.dic {p : Addr} {kvs : List (Int × Int)} (o : Out c H H1 N1) (np : H1 p = none) : Nw bs [p] H (upd H1 p (.dK (kvs.map kvI))) (.ref p) (.dic kvs) :=
  ⟨.dic upd_same, List.pairwise_singleton _ _, fun a ha => by rw [List.mem_singleton.mp ha]; exact out_none o np⟩
/-- list(d), sorted(d) -/
def keysT (ks : List Int) : List T := ks.map fun k => T.sh (.int k)
def wDKeys (i : Nat) : WT := fun ε N R => atD ε[i]? fun kvs => R (.lst (keysT (kvs.map (·.1)))) N
def wDSort (i : Nat) : WT := fun ε N R => atD ε[i]? fun kvs => kvs.length < 64 ∧ ∀ ys : List Int, ys.Perm (kvs.map (·.1)) → ys.Pairwise (· ≤ ·) → R (.lst (keysT ys)) N
def atDO (o : Option Sl) (k : List (Int × Int) → Prop) : Prop := match o with
  | some (.is (.dic kvs)) => k kvs
  | _ => False
theorem atDO_is {kvs : List (Int × Int)} {k : List (Int × Int) → Prop} : atDO (some (.is (.dic kvs))) k = k kvs := propext Iff.rfl
/-- d[e] = f -/
def wDSet (i : Nat) (wk wv : WE) : WS := fun D ε N => atDO ε[i]? fun kvs => wv ε N fun d N1 => dInt d fun v => wk ε N1 fun e N2 => dInt e fun k => kvs.length ≤ 100000 ∧ D.nx (ε.set i (.is (.dic (putI kvs k v)))) N2
/-! ### a dict walked: it's locked meanwhile -/
/-- something new and clean, told of a dict that is walked -/
def wLk (i : Nat) (wt : WT) : WT := fun ε N R => atDO ε[i]? fun kvs => wt (ε.set i (.dcF kvs)) N fun t N' => t.clean = true ∧ R t N'
def atF (o : Option Sl) (k : List (Int × Int) → Prop) : Prop := match o with
  | some (.dcF kvs) => k kvs
  | _ => False
theorem atF_is {kvs : List (Int × Int)} {k : List (Int × Int) → Prop} : atF (some (.dcF kvs)) k = k kvs := propext Iff.rfl
/-- for k in d; for k, v in d.items() -/
def wKeys (i : Nat) : WI := fun ε N R => atF ε[i]? fun kvs => R (kvs.map fun p => .int p.1) N
def wItems (i : Nat) : WI := fun ε N R => atF ε[i]? fun kvs => R (kvs.map fun p => .tuple [.int p.1, .int p.2]) N
section
variable {D : EW} {R : PyData → Nat → Prop} {RT : T → Nat → Prop} {RI : List PyData → Nat → Prop}
theorem wDGet_eq : wDGet i we ε N R = atD ε[i]? fun kvs => we ε N fun d N1 => dInt d fun k => ∃ v, valI kvs k = some v ∧ R (.int v) N1 := propext Iff.rfl
theorem wDIn_eq : wDIn i we ε N R = atD ε[i]? fun kvs => we ε N fun d N1 => dInt d fun k => R (.bool (valI kvs k).isSome) N1 := propext Iff.rfl
theorem wDNotIn_eq : wDNotIn i we ε N R = atD ε[i]? fun kvs => we ε N fun d N1 => dInt d fun k => R (.bool (!(valI kvs k).isSome)) N1 := propext Iff.rfl
theorem wDGet1_eq : wDGet1 i we ε N R = atD ε[i]? fun kvs => we ε N fun d N1 => dInt d fun k => R (oInt? (valI kvs k)) N1 := propext Iff.rfl
theorem wD0_eq : wD0 ε N RT = RT (.dic []) N := propext Iff.rfl
theorem wDKeys_eq : wDKeys i ε N RT = atD ε[i]? fun kvs => RT (.lst (keysT (kvs.map (·.1)))) N := propext Iff.rfl
theorem wDSort_eq : wDSort i ε N RT = atD ε[i]? fun kvs => kvs.length < 64 ∧ ∀ ys : List Int, ys.Perm (kvs.map (·.1)) → ys.Pairwise (· ≤ ·) → RT (.lst (keysT ys)) N := propext Iff.rfl
theorem wDSet_eq : wDSet i wk wv D ε N = atDO ε[i]? fun kvs => wv ε N fun d N1 => dInt d fun v => wk ε N1 fun e N2 => dInt e fun k => kvs.length ≤ 100000 ∧ D.nx (ε.set i (.is (.dic (putI kvs k v)))) N2 := propext Iff.rfl
theorem wLk_eq : wLk i wt ε N RT = atDO ε[i]? fun kvs => wt (ε.set i (.dcF kvs)) N fun t N' => t.clean = true ∧ RT t N' := propext Iff.rfl
theorem wKeys_eq : wKeys i ε N RI = atF ε[i]? fun kvs => RI (kvs.map fun p => .int p.1) N := propext Iff.rfl
theorem wItems_eq : wItems i ε N RI = atF ε[i]? fun kvs => RI (kvs.map fun p => .tuple [.int p.1, .int p.2]) N := propext Iff.rfl
end
/-! ### statements: what is walked told to a name; y = x.pop(); a condition's two ends -/
def wPop0 (i : Nat) (wg : WG) : WS := fun D => onOwn i fun ts ε N => 0 < ts.length ∧ ∃ d, ts[ts.length - 1]? = some (.sh d) ∧ wg d (ε.set i (.is (.lst ts.dropLast))) fun ε' => D.nx ε' N
/-- x = x -/
def wSelf (i : Nat) : WS := fun D ε N => atIs ε[i]? fun _ => D.nx ε N
theorem wPop0_eq {wg : WG} {D : EW} : wPop0 i wg D ε N = atOwn ε[i]? fun ts => 0 < ts.length ∧ ∃ d, ts[ts.length - 1]? = some (.sh d) ∧ wg d (ε.set i (.is (.lst ts.dropLast))) fun ε' => D.nx ε' N := onOwn_eq
theorem wSelf_eq {D : EW} : wSelf i D ε N = atIs ε[i]? fun _ => D.nx ε N := propext Iff.rfl
end
end Cg

set_option Elab.async false
set_option linter.all false
set_option maxRecDepth 100000
set_option maxHeartbeats 1000000
namespace Cg
open PySem PySem.Spec PyProof.Rows L2 Evl
/-! ### tables of pairs of numbers: keys and what stands at them -/
def Ks (L : List Pr) : List Nat := L.map (·.1)
def Vs (L : List Pr) : List Nat := L.map (·.2)
theorem mem_ks {L : List Pr} {k : Nat} : k ∈ Ks L ↔ ∃ v, (k, v) ∈ L := by
  unfold Ks
  rw [List.mem_map]
  exact ⟨fun ⟨p, h, e⟩ => ⟨p.2, by rw [← e]; exact h⟩, fun ⟨v, h⟩ => ⟨_, h, rfl⟩⟩
theorem mem_vs {L : List Pr} {v : Nat} : v ∈ Vs L ↔ ∃ k, (k, v) ∈ L := by
  unfold Vs
  rw [List.mem_map]
  exact ⟨fun ⟨p, h, e⟩ => ⟨p.1, by rw [← e]; exact h⟩, fun ⟨v, h⟩ => ⟨_, h, rfl⟩⟩
theorem key_fun {L : List Pr} (hn : (Ks L).Nodup) {k v u : Nat} (h1 : (k, v) ∈ L) (h2 : (k, u) ∈ L) : v = u := by
  induction L with
  | nil => cases h1
  | cons p L ih =>
    have hn' : (p.1 :: Ks L).Nodup := hn
    obtain ⟨n1, n2⟩ := List.nodup_cons.mp hn'
    rcases List.mem_cons.mp h1 with e1 | h1'
    · rcases List.mem_cons.mp h2 with e2 | h2'
      · rw [← e1] at e2; exact (congrArg Prod.snd e2).symm
      · exact absurd (mem_ks.mpr ⟨u, h2'⟩) (by rw [← e1] at n1; exact n1)
    · rcases List.mem_cons.mp h2 with e2 | h2'
      · exact absurd (mem_ks.mpr ⟨v, h1'⟩) (by rw [← e2] at n1; exact n1)
      · exact ih n2 h1' h2'
theorem val_fun {L : List Pr} (hn : (Vs L).Nodup) {k j v : Nat} (h1 : (k, v) ∈ L) (h2 : (j, v) ∈ L) : k = j := by
  induction L with
  | nil => cases h1
  | cons p L ih =>
    have hn' : (p.2 :: Vs L).Nodup := hn
    obtain ⟨n1, n2⟩ := List.nodup_cons.mp hn'
    rcases List.mem_cons.mp h1 with e1 | h1'
    · rcases List.mem_cons.mp h2 with e2 | h2'
      · rw [← e1] at e2; exact (congrArg Prod.fst e2).symm
      · exact absurd (mem_vs.mpr ⟨j, h2'⟩) (by rw [← e1] at n1; exact n1)
    · rcases List.mem_cons.mp h2 with e2 | h2'
      · exact absurd (mem_vs.mpr ⟨k, h1'⟩) (by rw [← e2] at n1; exact n1)
      · exact ih n2 h1' h2'
/-! ### covers -/
theorem apart_iff {P : List Pr} : Apart P ↔ (Ks P).Nodup ∧ (Vs P).Nodup := by
  unfold Apart Ks Vs List.Nodup
  rw [List.pairwise_map, List.pairwise_map]
  exact ⟨fun h => ⟨h.imp fun h => h.1, h.imp fun h => h.2⟩, fun h => h.1.and h.2⟩
def Cov (M : Mat) (n : Nat) (X Y : List Nat) : Prop := ∀ i j, i < n → cell M i j = 1 → i ∈ X ∨ j ∈ Y
/-! ### ways: each outlet by an inlet that asks for it, one that is free or that comes of an outlet further ahead -/
def Way (M : Mat) (P : List Pr) (S : Nat → Prop) (L : List Pr) (ρ : Nat → Nat) : Prop := ∀ p ∈ L, cell M p.2 p.1 = 1 ∧ (S p.2 ∨ ∃ o, (p.2, o) ∈ P ∧ o ∈ Ks L ∧ ρ o < ρ p.1)
/-! pairs taken over, inlets for keys -/
structure Aug (M : Mat) (P L : List Pr) (ρ : Nat → Nat) (D : List Pr) (o : Nat) : Prop where
  ks : (Ks D).Nodup
  vs : (Vs D).Nodup
  ask : ∀ p ∈ D, cell M p.1 p.2 = 1
  inL : o ∈ Ks L
  out : o ∉ Vs D
  keys : ∀ i, i ∈ Ks D ↔ i ∈ Ks P
  vals : ∀ j, j ∈ Vs P → j ∈ Vs D ∨ j = o
  old : ∀ p ∈ P, p ∈ D ∨ ρ o ≤ ρ p.2
  len : D.length = P.length
structure Grown (M : Mat) (P D : List Pr) : Prop where
  ks : (Ks D).Nodup
  vs : (Vs D).Nodup
  ask : ∀ p ∈ D, cell M p.1 p.2 = 1
  keys : ∀ i, i ∈ Ks P → i ∈ Ks D
  vals : ∀ j, j ∈ Vs P → j ∈ Vs D
  len : D.length = P.length + 1
/-! the cover of what is reached -/
structure Shut (M : Mat) (n : Nat) (P L : List Pr) : Prop where
  ks : (Ks L).Nodup
  free : ∀ i j, i < n → i ∉ Ks P → cell M i j = 1 → j ∈ Ks L
  back : ∀ i o j, (i, o) ∈ P → o ∈ Ks L → cell M i j = 1 → j ∈ Ks L
/-! ### seats: outlets for keys -/
/-- E: who sits where ahead of the change; o is to be given up, what stands at it is no more its own -/
structure Sea (M : Mat) (E0 L : List Pr) (ρ : Nat → Nat) (E : List Pr) (o : Nat) : Prop where
  ks : (Ks E).Nodup
  inj : ∀ j1 j2 i, (j1, i) ∈ E → (j2, i) ∈ E → j1 ≠ o → j2 ≠ o → j1 = j2
  ask : ∀ p ∈ E, cell M p.2 p.1 = 1
  inL : o ∈ Ks L
  stale : ∀ i, (o, i) ∈ E → (o, i) ∈ E0
  ins : ∀ i, (∃ j, j ≠ o ∧ (j, i) ∈ E) ↔ i ∈ Vs E0
  old : ∀ p ∈ E0, (p ∈ E ∧ p.1 ≠ o) ∨ ρ o ≤ ρ p.1
  len : (E.length = E0.length ∧ o ∉ Ks E) ∨ (E.length = E0.length + 1 ∧ o ∈ Ks E)
/-- who sits where, rightly: seats below n -/
structure Seat (M : Mat) (n : Nat) (E : List Pr) : Prop where
  ks : (Ks E).Nodup
  vs : (Vs E).Nodup
  ask : ∀ p ∈ E, p.2 < n ∧ cell M p.2 p.1 = 1
/-- seats, and a cover of no more places of the inlets below k -/
structure Best (M : Mat) (k : Nat) (E : List Pr) : Prop where
  seat : Seat M k E
  cov : ∃ X Y, Cov M k X Y ∧ X.length + Y.length ≤ E.length
/-! ### readings of such tables -/
/-! ### going forth and back, turn by turn -/
def Come (P : List Pr) (S : Nat → Prop) (L : List Pr) (i : Nat) : Prop := S i ∨ ∃ o, (i, o) ∈ P ∧ o ∈ Ks L
theorem ks_app {L : List Pr} {o i x : Nat} : x ∈ Ks (L ++ [(o, i)]) ↔ x ∈ Ks L ∨ x = o := by
  unfold Ks
  rw [List.map_append, List.mem_append]
  exact ⟨fun h => h.imp id fun h => List.mem_singleton.mp h, fun h => h.imp id fun h => List.mem_singleton.mpr h⟩
theorem Come.more {P : List Pr} {S : Nat → Prop} {L : List Pr} {o i x : Nat} (h : Come P S L x) : Come P S (L ++ [(o, i)]) x := h.imp id fun ⟨y, a, b⟩ => ⟨y, a, ks_app.mpr (.inl b)⟩
structure Mid (M : Mat) (n : Nat) (P : List Pr) (S : Nat → Prop) (t : Nat) (C : List Nat) (L : List Pr) : Prop where
  ks : (Ks L).Nodup
  way : ∃ ρ, Way M P S L ρ ∧ ∀ o ∈ Ks L, ρ o < t
  com : ∀ i ∈ C, i < n ∧ Come P S L i
  clo : ∀ i j, i < n → Come P S L i → cell M i j = 1 → i ∈ C ∨ j ∈ Ks L
structure Row (M : Mat) (n : Nat) (P : List Pr) (S : Nat → Prop) (t i : Nat) (Z : Nat → Prop) (C : List Nat) (L : List Pr) : Prop where
  ks : (Ks L).Nodup
  way : ∃ ρ, Way M P S L ρ ∧ (∀ o ∈ Ks L, ρ o ≤ t) ∧ (S i ∨ ∃ o, (i, o) ∈ P ∧ o ∈ Ks L ∧ ρ o < t)
  lt : i < n
  com : ∀ i ∈ C, i < n ∧ Come P S L i
  clo : ∀ x j, x < n → Come P S L x → cell M x j = 1 → x ∈ C ∨ (x = i ∧ Z j) ∨ j ∈ Ks L
section
variable {M : Mat} {n : Nat} {P : List Pr} {S : Nat → Prop} {t i : Nat} {Z Z' : Nat → Prop} {C C' : List Nat} {L : List Pr}
theorem Mid.row (m : Mid M n P S t C L) (hi : i ∈ C) (h1 : ∀ x ∈ C, x ∈ C' ∨ x = i) (h2 : ∀ x ∈ C', x ∈ C) (hz : ∀ j, cell M i j = 1 → Z j) : Row M n P S t i Z C' L := by
  obtain ⟨ρ, w, b⟩ := m.way
  obtain ⟨l, c⟩ := m.com i hi
  refine ⟨m.ks, ⟨ρ, w, fun o ho => Nat.le_of_lt (b o ho), c.imp id fun ⟨o, x, y⟩ => ⟨o, x, y, b o y⟩⟩, l, fun x hx => m.com x (h2 x hx), fun x j hx hc ha => ?_⟩
  rcases m.clo x j hx hc ha with h | h
  · rcases h1 x h with h | h
    · exact .inl h
    · exact .inr (.inl ⟨h, hz j (h ▸ ha)⟩)
  · exact .inr (.inr h)
theorem Row.skip (r : Row M n P S t i Z C L) (h : ∀ j, Z j → cell M i j = 1 → Z' j ∨ j ∈ Ks L) : Row M n P S t i Z' C L := by
  refine ⟨r.ks, r.way, r.lt, r.com, fun x j hx hc ha => ?_⟩
  rcases r.clo x j hx hc ha with h1 | ⟨h1, h2⟩ | h1
  · exact .inl h1
  · rcases h j h2 (h1 ▸ ha) with h3 | h3
    · exact .inr (.inl ⟨h1, h3⟩)
    · exact .inr (.inr h3)
  · exact .inr (.inr h1)
theorem Row.mid (r : Row M n P S t i Z C L) (h : ∀ j, Z j → cell M i j ≠ 1) : Mid M n P S (t + 1) C L := by
  obtain ⟨ρ, w, b, c⟩ := r.way
  refine ⟨r.ks, ⟨ρ, w, fun o ho => Nat.lt_succ_of_le (b o ho)⟩, r.com, fun x j hx hc hj => ?_⟩
  rcases r.clo x j hx hc hj with h1 | ⟨h1, h2⟩ | h1
  · exact .inl h1
  · exact absurd (h1 ▸ hj) (h j h2)
  · exact .inr h1
theorem Mid.next (m : Mid M n P S t C L) : Mid M n P S (t + 1) C L := by
  obtain ⟨ρ, w, b⟩ := m.way
  exact ⟨m.ks, ⟨ρ, w, fun o ho => Nat.lt_succ_of_lt (b o ho)⟩, m.com, m.clo⟩
theorem Mid.first (hC : ∀ i, i ∈ C ↔ i < n ∧ S i) : Mid M n P S 0 C [] :=
  ⟨List.nodup_nil, ⟨fun _ => 0, (fun _ z => nomatch z), fun _ z => nomatch z⟩, fun i hi => ⟨((hC i).mp hi).1, .inl ((hC i).mp hi).2⟩, fun i j hi hc _ => .inl ((hC i).mpr ⟨hi, hc.resolve_right fun ⟨_, _, z⟩ => nomatch z⟩)⟩
/-- those that came, each once -/
structure Que (n : Nat) (P : List Pr) (S : Nat → Prop) (t : Nat) (U C : List Nat) (L : List Pr) : Prop where
  nd : (U ++ C).Nodup
  com : ∀ i ∈ U ++ C, i < n ∧ Come P S L i
  len : C = [] ∨ U.length = t
theorem Que.push {U : List Nat} {o x y : Nat} (q : Que n P S t U C L) (hk : (Ks P).Nodup) (hS : ∀ i, S i → i ∉ Ks P) (ho : o ∉ Ks L) (hx : x < n) (hp : (x, o) ∈ P) (hl : U.length = t) : Que n P S t U (C ++ [x]) (L ++ [(o, y)]) := by
  have nx : x ∉ U ++ C := fun z => by
    rcases (q.com x z).2 with h | ⟨o', h1, h2⟩
    · exact hS x h (mem_ks.mpr ⟨o, hp⟩)
    · exact ho (key_fun hk h1 hp ▸ h2)
  refine ⟨?_, fun i hi => ?_, .inr hl⟩
  · rw [← List.append_assoc]
    refine List.nodup_append.mpr ⟨q.nd, List.pairwise_singleton _ _, fun a ha b hb e => nx ?_⟩
    rw [← List.mem_singleton.mp hb, ← e]
    exact ha
  · rw [← List.append_assoc] at hi
    rcases List.mem_append.mp hi with h | h
    · exact ⟨(q.com i h).1, (q.com i h).2.more⟩
    · rw [List.mem_singleton.mp h]
      exact ⟨hx, .inr ⟨o, hp, ks_app.mpr (.inr rfl)⟩⟩
theorem Que.full {U : List Nat} (q : Que n P S n U C L) : C = [] := by
  rcases q.len with h | h
  · exact h
  · have := nodup_len q.nd fun x hx => (q.com x hx).1
    rw [List.length_append] at this
    exact List.length_eq_zero_iff.mp (by omega)
end
theorem in_nats_t {kd : Bool} {k : Nat} {ns : List Nat} {S : PyData → Prop} : oIn true (.int (k : Int)) (seqD kd (ns.map nD)) S = S (.bool (!ns.contains k)) := by
  have e : ns.map nD = (ns.map fun n : Nat => (n : Int)).map PyData.int := by rw [List.map_map]; rfl
  rw [e, oIn_seq, contains_nat]
  rfl
theorem in_nats_f {kd : Bool} {k : Nat} {ns : List Nat} {S : PyData → Prop} : oIn false (.int (k : Int)) (seqD kd (ns.map nD)) S = S (.bool (ns.contains k)) := by
  have e : ns.map nD = (ns.map fun n : Nat => (n : Int)).map PyData.int := by rw [List.map_map]; rfl
  rw [e, oIn_seq, contains_nat]
  rfl
theorem filter_map_if {α β : Type} (p : α → Bool) (f : α → β) : ∀ xs : List α, (xs.filterMap fun x => if p x = true then some (f x) else none) = (xs.filter p).map f
  | [] => rfl
  | x :: xs => by
    have ih := filter_map_if p f xs
    cases h : p x with
    | true => rw [List.filterMap_cons_some (by rw [h]; rfl), List.filter_cons_of_pos h, List.map_cons, ih]
    | false => rw [List.filterMap_cons_none (by rw [h]; rfl), List.filter_cons_of_neg (by rw [h]; decide), ih]
theorem cell_lt {M : Mat} {i j : Nat} (h : cell M i j = 1) : i < M.length ∧ j < (M.getD i []).length := by
  unfold cell at h
  constructor
  · refine Classical.byContradiction fun z => ?_
    rw [List.getD_eq_getElem?_getD (l := M), List.getElem?_eq_none (by omega)] at h
    simp at h
  · refine Classical.byContradiction fun z => ?_
    rw [List.getD_eq_getElem?_getD (i := j), List.getElem?_eq_none (by omega)] at h
    simp at h
theorem Way.small {M : Mat} {P : List Pr} {S : Nat → Prop} {L : List Pr} {ρ : Nat → Nat} (w : Way M P S L ρ) (hz : Sz M) {o : Nat} (ho : o ∈ Ks L) : o < 100 := by
  obtain ⟨i, hi⟩ := mem_ks.mp ho
  have h := cell_lt (w _ hi).1
  have hr : M.getD i [] ∈ M := by
    rw [List.getD_eq_getElem?_getD, List.getElem?_eq_getElem h.1]
    exact List.getElem_mem h.1
  have := hz.2 _ hr
  exact Nat.lt_of_lt_of_le h.2 this
end Cg

set_option Elab.async false
set_option linter.all false
set_option maxRecDepth 100000
set_option maxHeartbeats 1000000
namespace Cg
open PySem PySem.Spec PyProof.Rows L2 Evl
/-! ### the same, step by step: what is told is one and the same each time -/
def lexB (p q : Pr) : Bool := decide (p.1 < q.1) || (decide (p.1 = q.1) && decide (p.2 ≤ q.2))
def sortF (D : List Pr) : List Pr := D.mergeSort lexB
theorem lexB_iff {p q : Pr} : lexB p q = true ↔ p.1 < q.1 ∨ (p.1 = q.1 ∧ p.2 ≤ q.2) := by
  unfold lexB
  rw [Bool.or_eq_true, Bool.and_eq_true, decide_eq_true_eq, decide_eq_true_eq, decide_eq_true_eq]
theorem ks_perm {A B : List Pr} (h : A.Perm B) : (Ks A).Perm (Ks B) := List.Perm.map _ h
theorem vs_perm {A B : List Pr} (h : A.Perm B) : (Vs A).Perm (Vs B) := List.Perm.map _ h
theorem sort_perm (D : List Pr) : (sortF D).Perm D := List.mergeSort_perm _ _
theorem sort_rise {D : List Pr} (h : (Ks D).Nodup) : (sortF D).Pairwise fun p q => p.1 < q.1 := by
  have h1 : (sortF D).Pairwise fun p q => lexB p q = true := List.pairwise_mergeSort (le := lexB) (fun a b c h1 h2 => by
    rw [lexB_iff] at *
    omega) (fun a b => by
    rw [Bool.or_eq_true, lexB_iff, lexB_iff]
    omega) D
  have h2 : (sortF D).Pairwise fun p q => p.1 ≠ q.1 := by
    have : (Ks (sortF D)).Nodup := (List.Perm.nodup_iff (ks_perm (sort_perm D))).mpr h
    exact List.pairwise_map.mp this
  exact (h1.and h2).imp fun {p q} hpq => by
    have := lexB_iff.mp hpq.1
    have := hpq.2
    omega
theorem sort_prs {M : Mat} {D : List Pr} (h1 : (Ks D).Nodup) (h2 : (Vs D).Nodup) (ha : ∀ p ∈ D, cell M p.1 p.2 = 1) : Prs M (sortF D) :=
  prs_of (fun p hp => ha p ((sort_perm D).mem_iff.mp hp)) ((sort_rise h1).imp fun h => .inl h) (apart_iff.mpr ⟨(List.Perm.nodup_iff (ks_perm (sort_perm D))).mpr h1, (List.Perm.nodup_iff (vs_perm (sort_perm D))).mpr h2⟩)
theorem wLenSet_eq {we : WE} {ε : Env} {N : Nat} {R : PyData → Nat → Prop} : wLenSet we ε N R = we ε N fun d N1 => dList d fun ds => ∃ ns, intsOf ds = some ns ∧ ns.length ≤ 4000 ∧ R (.int (dedN ns : Nat)) N1 := propext Iff.rfl
end Cg

set_option Elab.async false
set_option linter.all false
set_option maxRecDepth 100000
set_option maxHeartbeats 1000000
namespace Cg
open PySem PySem.Spec PyProof.Rows L2 Evl
/-! ### x = y, both their own: y is no more -/
def wMove (i j : Nat) : WS := fun D ε N => atIs ε[j]? fun t => D.nx ((ε.set j .no).set i (.is t)) N
theorem wMove_eq {i j : Nat} {D : EW} {ε : Env} {N : Nat} : wMove i j D ε N = atIs ε[j]? fun t => D.nx ((ε.set j .no).set i (.is t)) N := propext Iff.rfl
/-- return (x, e), x its own, e new -/
def wRetVT (i : Nat) (wt : WT) : WS := fun D ε N => atIs ε[i]? fun t => wt ε N fun u N' => D.rt (.tup [t, u]) N'
theorem wRetVT_eq {i : Nat} {wt : WT} {D : EW} {ε : Env} {N : Nat} : wRetVT i wt D ε N = atIs ε[i]? fun t => wt ε N fun u N' => D.rt (.tup [t, u]) N' := propext Iff.rfl
end Cg

set_option Elab.async false
set_option linter.all false
set_option maxRecDepth 100000
set_option maxHeartbeats 1000000
namespace Cg
open PySem PySem.Spec PyProof.Rows L2 Evl
section
variable {X : Cx}
/-! xs.count(d), data of any depth -/
end
/-! min(xs), a list of ints -/
/-! if not f(box, x.pop(k)): .. -/
end Cg

set_option Elab.async false
set_option linter.all false
set_option maxRecDepth 100000
set_option maxHeartbeats 1000000
namespace Cg
open PySem PySem.Spec PyProof.Rows L2 Evl
/-! ### sums over places -/
def sm (n : Nat) (g : Nat → Int) : Int := ((List.range n).map g).sum
theorem sm_zero (g : Nat → Int) : sm 0 g = 0 := rfl
theorem sm_succ (n : Nat) (g : Nat → Int) : sm (n + 1) g = sm n g + g n := by
  unfold sm
  rw [List.range_succ, List.map_append, List.sum_append]
  simp
theorem sm_cg {n : Nat} {g h : Nat → Int} (e : ∀ i, i < n → g i = h i) : sm n g = sm n h := by
  unfold sm
  rw [List.map_congr_left fun i hi => e i (List.mem_range.mp hi)]
theorem sm_add (n : Nat) (g h : Nat → Int) : sm n (fun i => g i + h i) = sm n g + sm n h := by
  induction n with
  | zero => rfl
  | succ n ih => rw [sm_succ, sm_succ, sm_succ, ih]; omega
theorem sm_sub (n : Nat) (g h : Nat → Int) : sm n (fun i => g i - h i) = sm n g - sm n h := by
  induction n with
  | zero => rfl
  | succ n ih => rw [sm_succ, sm_succ, sm_succ, ih]; omega
theorem sm_const (n : Nat) (c : Int) : sm n (fun _ => c) = n * c := by
  induction n with
  | zero => rw [sm_zero]; simp
  | succ n ih => rw [sm_succ, ih, Int.natCast_add, Int.add_mul]; simp
theorem sm_mul (n : Nat) (g : Nat → Int) (c : Int) : sm n (fun i => g i * c) = sm n g * c := by
  induction n with
  | zero => rw [sm_zero, sm_zero]; simp
  | succ n ih => rw [sm_succ, sm_succ, ih, Int.add_mul]
theorem sm_le {n : Nat} {g h : Nat → Int} (e : ∀ i, i < n → g i ≤ h i) : sm n g ≤ sm n h := by
  induction n with
  | zero => exact Int.le_refl _
  | succ n ih =>
    rw [sm_succ, sm_succ]
    have := ih fun i hi => e i (by omega)
    have := e n (by omega)
    omega
theorem sm_nn {n : Nat} {g : Nat → Int} (e : ∀ i, i < n → 0 ≤ g i) : 0 ≤ sm n g := by
  have := sm_le (n := n) (g := fun _ => 0) (h := g) e
  rw [sm_const] at this
  omega
theorem sm_all0 {n : Nat} {g : Nat → Int} (e : ∀ i, i < n → 0 ≤ g i) (z : sm n g = 0) : ∀ i, i < n → g i = 0 := by
  induction n with
  | zero => intro i hi; omega
  | succ n ih =>
    rw [sm_succ] at z
    have h1 := sm_nn (n := n) (g := g) fun i hi => e i (by omega)
    have h2 := e n (by omega)
    intro i hi
    by_cases hn : i = n
    · subst hn; omega
    · exact ih (fun i hi => e i (by omega)) (by omega) i (by omega)
theorem sm_swap (n m : Nat) (g : Nat → Nat → Int) : sm n (fun i => sm m fun j => g i j) = sm m fun j => sm n fun i => g i j := by
  induction n with
  | zero => rw [sm_zero]; rw [sm_cg (n := m) (h := fun _ => 0) fun j _ => sm_zero _, sm_const]; simp
  | succ n ih =>
    rw [sm_succ, ih, ← sm_add]
    exact sm_cg fun j _ => (sm_succ _ _).symm
/-- one place alone -/
theorem sm_one {n k : Nat} (c : Int) (h : k < n) : sm n (fun i => if i = k then c else 0) = c := by
  induction n with
  | zero => omega
  | succ n ih =>
    rw [sm_succ]
    by_cases e : n = k
    · subst e
      rw [if_pos rfl, sm_cg (h := fun _ => 0) fun i hi => if_neg (by omega), sm_const]
      simp
    · rw [if_neg e, ih (by omega)]
      simp
/-- how many of these are below n -/
theorem sm_mem (n : Nat) (X : List Nat) : sm n (fun i => if i ∈ X then 1 else 0) ≤ X.length := by
  have e : sm n (fun i => if i ∈ X then 1 else 0) = (((List.range n).filter fun i => decide (i ∈ X)).length : Nat) := by
    induction n with
    | zero => rfl
    | succ n ih =>
      rw [sm_succ, ih, List.range_succ, List.filter_append, List.length_append]
      by_cases h : n ∈ X
      · rw [if_pos h, List.filter_cons_of_pos (by simpa using h)]; rfl
      · rw [if_neg h, List.filter_cons_of_neg (by simpa using h)]; rfl
  rw [e]
  have := sub_len (List.Pairwise.filter (fun i => decide (i ∈ X)) (List.nodup_range (n := n))) (ys := X) fun x hx => by simpa using (List.mem_filter.mp hx).2
  omega
/-! ### numbers whose rows and columns all give b -/
structure Reg (n : Nat) (b : Int) (f : Nat → Nat → Int) : Prop where
  nn : ∀ i j, i < n → j < n → 0 ≤ f i j
  row : ∀ i, i < n → sm n (f i) = b
  col : ∀ j, j < n → sm n (fun i => f i j) = b
theorem Reg.cov {n : Nat} {b : Int} {f : Nat → Nat → Int} (h : Reg n b f) (hb : 0 < b) {X Y : List Nat} (c : ∀ i j, i < n → j < n → 0 < f i j → i ∈ X ∨ j ∈ Y) : n ≤ X.length + Y.length := by
  have h1 : sm n (fun i => sm n fun j => f i j) = n * b := by
    rw [← sm_const]
    exact sm_cg fun i hi => h.row i hi
  have h2 : sm n (fun i => sm n fun j => f i j) ≤ sm n (fun i => sm n fun j => (if i ∈ X then 1 else 0) * f i j + (if j ∈ Y then 1 else 0) * f i j) := by
    refine sm_le fun i hi => sm_le fun j hj => ?_
    have h0 := h.nn i j hi hj
    by_cases hx : i ∈ X
    · rw [if_pos hx]
      split <;> omega
    · rw [if_neg hx]
      by_cases hy : j ∈ Y
      · rw [if_pos hy]; omega
      · rw [if_neg hy]
        have : ¬ 0 < f i j := fun z => (c i j hi hj z).elim hx hy
        omega
  have h3 : sm n (fun i => sm n fun j => (if i ∈ X then 1 else 0) * f i j + (if j ∈ Y then 1 else 0) * f i j) = sm n (fun i => if i ∈ X then 1 else 0) * b + sm n (fun j => if j ∈ Y then 1 else 0) * b := by
    rw [sm_cg (h := fun i => (if i ∈ X then 1 else 0) * b + sm n fun j => (if j ∈ Y then 1 else 0) * f i j) (fun i hi => by
      rw [sm_add, ← h.row i hi]
      congr 1
      rw [sm_cg (h := fun j => f i j * (if i ∈ X then 1 else 0)) (fun j _ => Int.mul_comm _ _), sm_mul, Int.mul_comm]), sm_add, sm_mul, sm_swap]
    congr 1
    rw [← sm_mul]
    refine sm_cg fun j hj => ?_
    rw [sm_cg (h := fun i => f i j * (if j ∈ Y then 1 else 0)) (fun i _ => Int.mul_comm _ _), sm_mul, h.col j hj, Int.mul_comm]
  have h4 := sm_mem n X
  have h5 := sm_mem n Y
  rw [h1, h3, ← Int.add_mul] at h2
  have h6 := Int.le_of_mul_le_mul_right h2 hb
  omega
/-- pairs that take each place once -/
theorem Reg.less {n : Nat} {b : Int} {f : Nat → Nat → Int} (h : Reg n b f) {P : List Pr} (ha : Apart P) (hl : n ≤ P.length) (hp : ∀ p ∈ P, p.1 < n ∧ p.2 < n ∧ 0 < f p.1 p.2) : Reg n (b - 1) fun i j => f i j - if (i, j) ∈ P then 1 else 0 := by
  obtain ⟨a1, a2⟩ := apart_iff.mp ha
  have full : ∀ {ns : List Nat}, ns.Nodup → (∀ x ∈ ns, x < n) → n ≤ ns.length → ∀ i, i < n → i ∈ ns := fun {ns} nd lt ln i hi => by
    refine Classical.byContradiction fun hc => ?_
    have := nodup_len (List.nodup_cons.mpr ⟨hc, nd⟩) (n := n) fun x hx => by
      rcases List.mem_cons.mp hx with rfl | hx
      · exact hi
      · exact lt x hx
    rw [List.length_cons] at this
    omega
  have k1 : ∀ i, i < n → i ∈ Ks P := full a1 (fun x hx => by
    obtain ⟨y, hy⟩ := mem_ks.mp hx
    exact (hp _ hy).1) (by unfold Ks; rw [List.length_map]; exact hl)
  have k2 : ∀ j, j < n → j ∈ Vs P := full a2 (fun x hx => by
    obtain ⟨p, hy, rfl⟩ := List.mem_map.mp hx
    exact (hp _ hy).2.1) (by unfold Vs; rw [List.length_map]; exact hl)
  refine ⟨fun i j hi hj => ?_, fun i hi => ?_, fun j hj => ?_⟩
  · show 0 ≤ f i j - _
    by_cases hm : (i, j) ∈ P
    · rw [if_pos hm]
      have : 0 < f i j := (hp _ hm).2.2
      omega
    · rw [if_neg hm]
      have := h.nn i j hi hj
      omega
  · rw [sm_sub, h.row i hi]
    obtain ⟨y, hy⟩ := mem_ks.mp (k1 i hi)
    rw [sm_cg (h := fun j => if j = y then 1 else 0) (fun j _ => by
      by_cases e : j = y
      · subst e; rw [if_pos hy, if_pos rfl]
      · rw [if_neg e, if_neg fun z => e (key_fun a1 z hy)]), sm_one _ (hp _ hy).2.1]
  · rw [sm_sub, h.col j hj]
    obtain ⟨p, hy, rfl⟩ := List.mem_map.mp (k2 j hj)
    rw [sm_cg (h := fun i => if i = p.1 then 1 else 0) (fun i _ => by
      by_cases e : i = p.1
      · subst e; rw [if_pos hy, if_pos rfl]
      · rw [if_neg e, if_neg fun z => e (val_fun a2 z (show (p.1, p.2) ∈ P from hy))]), sm_one _ (hp _ hy).1]
theorem Reg.zero {n : Nat} {f : Nat → Nat → Int} (h : Reg n 0 f) : ∀ i j, i < n → j < n → f i j = 0 := fun i j hi hj => sm_all0 (fun j hj => h.nn i j hi hj) (h.row i hi) j hj
end Cg

set_option Elab.async false
set_option linter.all false
set_option maxRecDepth 100000
set_option maxHeartbeats 1000000
namespace Cg
open PySem PySem.Spec PyProof.Rows L2 Evl
/-! ### a law that walks over boxes: what stands behind the box, by value -/
end Cg

set_option Elab.async false
set_option linter.all false
set_option maxRecDepth 100000
set_option maxHeartbeats 1000000
namespace Cg
open PySem PySem.Spec PyProof.Rows L2 Evl
/-! ### the parts of what is its own -/
def T.kids : T → List T
  | .lst ts => ts
  | .tup ts => ts
  | .tpa _ ts => ts
  | .ins _ _ _ ts => ts
  | .rc _ _ ts => ts
  | .dct _ _ ts => ts
  | .lsa _ ts => ts
  | _ => []
def T.rekid : T → List T → T
  | .lst _, ts => .lst ts
  | .tup _, ts => .tup ts
  | .tpa a _, ts => .tpa a ts
  | .ins a C ns _, ts => .ins a C ns ts
  | .rc a ns _, ts => .rc a ns ts
  | .dct a ks _, ts => .dct a ks ts
  | .lsa a _, ts => .lsa a ts
  | t, _ => t
def atP : List Nat → T → Option T
  | [], t => some t
  | k :: π, t => match t.kids[k]? with
    | some u => atP π u
    | none => none
def putP : List Nat → T → T → T
  | [], _, s => s
  | k :: π, t, s => match t.kids[k]? with
    | some u => t.rekid (t.kids.set k (putP π u s))
    | none => t
/-- the values that stand in it -/
def Kd (H : Hp) (v : V) (vs : List V) : Prop := ∃ a, v = .ref a ∧ (H a = some (.lst vs) ∨ H a = some (.tup vs) ∨ (∃ (C dx : Addr) (ns : List Str), H a = some (.ins C dx (ns.zip vs)) ∧ ns.length = vs.length) ∨ (∃ ns : List Str, H a = some (.dK (kz ns vs)) ∧ ns.length = vs.length) ∨ ∃ ks : DKs, H a = some (ks.ob vs) ∧ ks.len = vs.length)
theorem zip_inj {α β : Type} : ∀ {ns ms : List α} {vs us : List β}, ns.length = vs.length → ms.length = us.length → ns.zip vs = ms.zip us → ns = ms ∧ vs = us
  | [], [], [], [], _, _, _ => ⟨rfl, rfl⟩
  | [], _ :: _, [], _ :: _, _, _, h => by cases h
  | _ :: _, [], _ :: _, [], _, _, h => by cases h
  | n :: ns, m :: ms, v :: vs, u :: us, h1, h2, h => by
    rw [List.zip_cons_cons, List.zip_cons_cons] at h
    injection h with h3 h4
    injection h3 with h5 h6
    obtain ⟨h7, h8⟩ := zip_inj (by simpa using h1) (by simpa using h2) h4
    rw [h5, h6, h7, h8]
    exact ⟨rfl, rfl⟩
theorem map_inj {α β : Type} {f : α → β} (hf : ∀ {x y}, f x = f y → x = y) : ∀ {xs ys : List α}, xs.map f = ys.map f → xs = ys
  | [], [], _ => rfl
  | [], _ :: _, h => by cases h
  | _ :: _, [], h => by cases h
  | x :: xs, y :: ys, h => by
    rw [List.map_cons, List.map_cons] at h
    injection h with h1 h2
    rw [hf h1, map_inj hf h2]
theorem kz_inj {ns ms : List Str} {vs us : List V} (h1 : ns.length = vs.length) (h2 : ms.length = us.length) (h : kz ns vs = kz ms us) : ns = ms ∧ vs = us := by
  refine zip_inj h1 h2 (map_inj (fun {x y} z => ?_) h)
  obtain ⟨x1, x2⟩ := x
  obtain ⟨y1, y2⟩ := y
  injection z with z1 z2
  injection z1 with z1
  have z1 : x1 = y1 := z1
  have z2 : x2 = y2 := z2
  rw [z1, z2]
theorem kzi_inj {ks : List Int} {ns : List Str} {vs us : List V} (h1 : ks.length = vs.length) (h2 : ns.length = us.length) (h : ((ks.zip vs).map fun p => ((.inl p.1 : Key), p.2)) = kz ns us) : vs = us := by
  cases ks with
  | nil =>
    cases vs with
    | nil =>
      cases ns with
      | nil => cases us with | nil => rfl | cons _ _ => cases h2
      | cons _ _ => cases us with | nil => cases h2 | cons _ _ => cases h
    | cons _ _ => cases h1
  | cons k ks =>
    cases vs with
    | nil => cases h1
    | cons v vs =>
      cases ns with
      | nil => cases h
      | cons n ns =>
        cases us with
        | nil => cases h2
        | cons u us =>
          injection h with h3 h4
          injection h3 with h5 h6
          cases h5
theorem ob_inj {ks ms : DKs} {vs us : List V} (h1 : ks.len = vs.length) (h2 : ms.len = us.length) (h : ks.ob vs = ms.ob us) : vs = us := by
  cases ks <;> cases ms
  · injection h with h
    exact (zip_inj h1 h2 (map_inj (fun {x y} z => by
      obtain ⟨x1, x2⟩ := x
      obtain ⟨y1, y2⟩ := y
      injection z with z1 z2
      injection z1 with z1
      have z1 : x1 = y1 := z1
      have z2 : x2 = y2 := z2
      rw [z1, z2]) h)).2
  · cases h
  · cases h
  · injection h with h
    exact (zip_inj h1 h2 (map_inj (fun {x y} z => by
      obtain ⟨⟨x0, x1⟩, x2⟩ := x
      obtain ⟨⟨y0, y1⟩, y2⟩ := y
      injection z with z1 z2
      injection z1 with z1 z3
      injection z1 with z1
      injection z3 with z3 _
      injection z3 with z3
      have z1 : x0 = y0 := z1
      have z3 : x1 = y1 := z3
      have z2 : x2 = y2 := z2
      rw [z1, z2, z3]) h)).2
theorem ob_kz {ks : DKs} {ns : List Str} {vs us : List V} (h1 : ks.len = vs.length) (h2 : ns.length = us.length) (h : ks.ob vs = .dK (kz ns us)) : vs = us := by
  cases ks with
  | i ks => injection h with h; exact kzi_inj h1 h2 h
  | p ks => cases h
theorem ob_ne {ks : DKs} {vs : List V} {P : Prop} : (∀ xs, ks.ob vs = .lst xs → P) ∧ (∀ xs, ks.ob vs = .tup xs → P) ∧ ∀ C dx fs, ks.ob vs = .ins C dx fs → P := by
  cases ks <;> exact ⟨fun _ h => (nomatch h), fun _ h => (nomatch h), fun _ _ _ h => (nomatch h)⟩
theorem Kd.fn {H : Hp} {v : V} {vs us : List V} (h : Kd H v vs) (k : Kd H v us) : vs = us := by
  obtain ⟨a, rfl, h⟩ := h
  obtain ⟨a', e, k⟩ := k
  cases e
  rcases h with h | h | ⟨C, dx, ns, h, l⟩ | ⟨ns, h, l⟩ | ⟨ks, h, l⟩ <;> rcases k with k | k | ⟨C', dx', ns', k, l'⟩ | ⟨ns', k, l'⟩ | ⟨ks', k, l'⟩ <;> rw [h] at k <;> have k := Option.some.inj k <;> first | (cases k; done) | exact ob_inj l l' k | exact ob_kz l l' k | exact (ob_kz l' l k.symm).symm | exact ob_ne.1 _ k | exact ob_ne.2.1 _ k | exact ob_ne.2.2 _ _ _ k | exact ob_ne.1 _ k.symm | exact ob_ne.2.1 _ k.symm | exact ob_ne.2.2 _ _ _ k.symm | skip
  · injection k
  · injection k
  · injection k with _ _ k
    exact (zip_inj l l' k).2
  · injection k with k
    exact (kz_inj l l' k).2
/-- along the path from v stands u -/
def VAt (H : Hp) : V → List Nat → V → Prop
  | v, [], u => v = u
  | v, k :: π, u => ∃ vs w, Kd H v vs ∧ vs[k]? = some w ∧ VAt H w π u
theorem VAt.fn {H : Hp} : ∀ {π : List Nat} {v u w : V}, VAt H v π u → VAt H v π w → u = w
  | [], _, _, _, h, k => h.symm.trans k
  | _ :: π, _, _, _, ⟨vs, x, h1, h2, h3⟩, ⟨us, y, k1, k2, k3⟩ => by
    have e := h1.fn k1
    subst e
    have e2 := Option.some.inj (h2.symm.trans k2)
    subst e2
    exact h3.fn k3
theorem VAt.snoc {H : Hp} {vs : List V} {k : Nat} {u w : V} : ∀ {π : List Nat} {v : V}, VAt H v π u → Kd H u vs → vs[k]? = some w → VAt H v (π ++ [k]) w
  | [], v, h, hk, hw => by
    have h' : v = u := h
    subst h'
    exact ⟨vs, w, hk, hw, rfl⟩
  | j :: π, v, ⟨us, x, h1, h2, h3⟩, hk, hw => ⟨us, x, h1, h2, h3.snoc hk hw⟩
theorem atP_snoc {k : Nat} {x : T} : ∀ {π : List Nat} {t s : T}, atP π t = some s → s.kids[k]? = some x → atP (π ++ [k]) t = some x
  | [], t, s, h, hk => by
    have h' : t = s := Option.some.inj h
    subst h'
    show (match t.kids[k]? with | some u => atP [] u | none => none) = some x
    rw [hk]
    rfl
  | j :: π, t, s, h, hk => by
    have h' : (match t.kids[j]? with | some u => atP π u | none => none) = some s := h
    show (match t.kids[j]? with | some u => atP (π ++ [k]) u | none => none) = some x
    split at h'
    · exact atP_snoc h' hk
    · cases h'
section
variable {bs cs : List Addr} {H H' : Hp}
/-- a node and its parts -/
theorem Rep.kids {v : V} {t u : T} {k : Nat} {A : List Addr} (h : Rep bs H v t A) (hk : t.kids[k]? = some u) : ∃ vs A0 A1, A = A0 ++ A1 ∧ Kd H v vs ∧ RepL bs H vs t.kids A1 ∧
    ∀ {cs : List Addr} {H' : Hp} {ts : List T} {B : List Addr}, NoTup bs H → Same (hid bs H) (hid cs H') → (∀ a ∈ A0, ∀ o, H a = some o → H' a = some o) → RepL cs H' vs ts B → Rep cs H' v (t.rekid ts) (A0 ++ B) ∧ Kd H' v vs := by
  cases h with
  | sh h => cases hk
  | lst e h =>
    rename_i a vs ts A
    exact ⟨vs, [a], A, rfl, ⟨a, rfl, .inl e⟩, h, fun {cs H' ts B} _ _ k2 r => ⟨.lst (k2 a (List.mem_singleton.mpr rfl) _ e) r, ⟨a, rfl, .inl (k2 a (List.mem_singleton.mpr rfl) _ e)⟩⟩⟩
  | tup e h =>
    rename_i a vs ts
    exact ⟨vs, [], A, rfl, ⟨a, rfl, .inr (.inl e)⟩, h, fun {cs H' ts B} hn k1 _ r => have e' := (hid_some (k1 _ _ (by rw [hid_out (fun z => hn _ z _ e)]; exact e))).2; ⟨.tup e' r, ⟨a, rfl, .inr (.inl e')⟩⟩⟩
  | tpa e h =>
    rename_i a vs ts
    exact ⟨vs, [], A, rfl, ⟨a, rfl, .inr (.inl e)⟩, h, fun {cs H' ts B} hn k1 _ r => have e' := (hid_some (k1 _ _ (by rw [hid_out (fun z => hn _ z _ e)]; exact e))).2; ⟨.tpa e' r, ⟨a, rfl, .inr (.inl e')⟩⟩⟩
  | shr h => cases hk
  | dic e => cases hk
  | ins e e2 l h =>
    rename_i a C dx ns vs ts A
    exact ⟨vs, [a, dx], A, rfl, ⟨a, rfl, .inr (.inr (.inl ⟨C, dx, ns, e, l⟩))⟩, h, fun {cs H' ts B} _ _ k2 r => ⟨.ins (k2 a (List.mem_cons_self ..) _ e) (k2 dx (List.mem_cons_of_mem _ (List.mem_cons_self ..)) _ e2) l r, ⟨a, rfl, .inr (.inr (.inl ⟨C, dx, ns, k2 a (List.mem_cons_self ..) _ e, l⟩))⟩⟩⟩
  | lsa e h =>
    rename_i a vs ts A
    exact ⟨vs, [a], A, rfl, ⟨a, rfl, .inl e⟩, h, fun {cs H' ts B} _ _ k2 r => ⟨.lsa (k2 a (List.mem_singleton.mpr rfl) _ e) r, ⟨a, rfl, .inl (k2 a (List.mem_singleton.mpr rfl) _ e)⟩⟩⟩
  | rc e l h =>
    rename_i a ns vs ts A
    exact ⟨vs, [a], A, rfl, ⟨a, rfl, .inr (.inr (.inr (.inl ⟨ns, e, l⟩)))⟩, h, fun {cs H' ts B} _ _ k2 r => ⟨.rc (k2 a (List.mem_singleton.mpr rfl) _ e) l r, ⟨a, rfl, .inr (.inr (.inr (.inl ⟨ns, k2 a (List.mem_singleton.mpr rfl) _ e, l⟩)))⟩⟩⟩
  | dct e l nd h =>
    rename_i a ks vs ts A
    exact ⟨vs, [a], A, rfl, ⟨a, rfl, .inr (.inr (.inr (.inr ⟨ks, e, l⟩)))⟩, h, fun {cs H' ts B} _ _ k2 r => ⟨.dct (k2 a (List.mem_singleton.mpr rfl) _ e) l nd r, ⟨a, rfl, .inr (.inr (.inr (.inr ⟨ks, k2 a (List.mem_singleton.mpr rfl) _ e, l⟩)))⟩⟩⟩
/-- the part k of a row, put back otherwise -/
theorem RepL.part : ∀ {vs : List V} {ts : List T} {A : List Addr}, RepL bs H vs ts A → ∀ {k : Nat} {t : T}, ts[k]? = some t → ∃ v A1 Av A2, vs[k]? = some v ∧ Rep bs H v t Av ∧ A = A1 ++ (Av ++ A2) ∧
    ∀ {cs : List Addr} {H' : Hp} {t' : T} {B : List Addr}, NoTup bs H → Same (hid bs H) (hid cs H') → (∀ a ∈ A1 ++ A2, ∀ o, H a = some o → H' a = some o) → Rep cs H' v t' B → RepL cs H' vs (ts.set k t') (A1 ++ (B ++ A2))
  | _, _, _, .nil, k, t, e => by cases e
  | _, _, _, .cons (v := v) (A := A) (B := B) h q, 0, t, e => by
    have e' := Option.some.inj e
    subst e'
    exact ⟨v, [], A, B, rfl, h, rfl, fun {cs H' t' B'} hn k1 k2 r => RepL.cons (A := B') (B := B) r (q.chg hn k1 k2)⟩
  | _, _, _, .cons (v := v) (A := A) (B := B) h q, k + 1, t, e => by
    obtain ⟨v2, A1, Av, A2, p1, p2, p3, p5⟩ := q.part (k := k) (t := t) e
    refine ⟨v2, A ++ A1, Av, A2, p1, p2, by rw [p3, List.append_assoc], fun {cs H' t' B'} hn k1 k2 r => ?_⟩
    rw [List.append_assoc]
    refine .cons (h.chg hn k1 fun a ha => k2 a ?_) (p5 hn k1 (fun a ha => k2 a ?_) r)
    · exact List.mem_append_left _ (List.mem_append_left _ ha)
    · rcases List.mem_append.mp ha with z | z
      · exact List.mem_append_left _ (List.mem_append_right _ z)
      · exact List.mem_append_right _ z
/-- the part at π -/
theorem Rep.zoom : ∀ {π : List Nat} {v : V} {t s : T} {A : List Addr}, Rep bs H v t A → atP π t = some s → ∃ u A1 B A2, A = A1 ++ (B ++ A2) ∧ VAt H v π u ∧ Rep bs H u s B ∧
    ∀ {cs : List Addr} {H' : Hp} {s' : T} {B' : List Addr}, NoTup bs H → Same (hid bs H) (hid cs H') → (∀ a ∈ A1 ++ A2, ∀ o, H a = some o → H' a = some o) → Rep cs H' u s' B' → Rep cs H' v (putP π t s') (A1 ++ (B' ++ A2))
  | [], v, t, s, A, h, e => by
    have e' : t = s := Option.some.inj e
    subst e'
    refine ⟨v, [], A, [], (List.append_nil A).symm, rfl, h, fun {cs H' s' B'} _ _ _ r => ?_⟩
    rw [List.append_nil]
    exact r
  | k :: π, v, t, s, A, h, e => by
    have e' : (match t.kids[k]? with | some u => atP π u | none => none) = some s := e
    split at e'
    · rename_i u hk
      obtain ⟨vs, A0, A1, eA, hkd, hr, back⟩ := h.kids hk
      obtain ⟨w, B1, Bv, B2, p1, p2, p3, p4⟩ := hr.part hk
      obtain ⟨x, C1, D, C2, q1, q2, q3, q4⟩ := p2.zoom e'
      refine ⟨x, A0 ++ (B1 ++ C1), D, C2 ++ B2, ?_, ⟨vs, w, hkd, p1, q2⟩, q3, fun {cs H' s' B'} hn k1 k2 r => ?_⟩
      · rw [eA, p3, q1]
        simp only [List.append_assoc]
      · have e1 : putP (k :: π) t s' = t.rekid (t.kids.set k (putP π u s')) := by
          show (match t.kids[k]? with | some u => t.rekid (t.kids.set k (putP π u s')) | none => t) = _
          rw [hk]
        rw [e1]
        have m1 : ∀ a, a ∈ A0 → a ∈ (A0 ++ (B1 ++ C1)) ++ (C2 ++ B2) := fun a ha => List.mem_append_left _ (List.mem_append_left _ ha)
        have r1 : Rep cs H' w (putP π u s') (C1 ++ (B' ++ C2)) := q4 hn k1 (fun a ha => k2 a (by
          rcases List.mem_append.mp ha with z | z
          · exact List.mem_append_left _ (List.mem_append_right _ (List.mem_append_right _ z))
          · exact List.mem_append_right _ (List.mem_append_left _ z))) r
        have r2 : RepL cs H' vs (t.kids.set k (putP π u s')) (B1 ++ ((C1 ++ (B' ++ C2)) ++ B2)) := p4 hn k1 (fun a ha => k2 a (by
          rcases List.mem_append.mp ha with z | z
          · exact List.mem_append_left _ (List.mem_append_right _ (List.mem_append_left _ z))
          · exact List.mem_append_right _ (List.mem_append_right _ z))) r1
        have r3 := (back hn k1 (fun a ha => k2 a (m1 a ha)) r2).1
        have e2 : A0 ++ (B1 ++ C1) ++ (B' ++ (C2 ++ B2)) = A0 ++ (B1 ++ ((C1 ++ (B' ++ C2)) ++ B2)) := by simp only [List.append_assoc]
        rw [e2]
        exact r3
    · cases e'
theorem VAt.chg (hn : NoTup bs H) (k1 : Same (hid bs H) (hid cs H')) : ∀ {π : List Nat} {v u : V} {t s : T} {A : List Addr}, Rep bs H v t A → atP π t = some s → (∀ a ∈ A, ∀ o, H a = some o → H' a = some o) → VAt H v π u → VAt H' v π u
  | [], v, u, t, s, A, _, _, _, h => h
  | k :: π, v, u, t, s, A, hr, e, hA, h => by
    have e' : (match t.kids[k]? with | some u => atP π u | none => none) = some s := e
    split at e'
    · rename_i x hk
      obtain ⟨vs, A0, A1, rfl, hkd, hl, back⟩ := hr.kids hk
      obtain ⟨w, B1, Bv, B2, p1, p2, rfl, _⟩ := hl.part hk
      obtain ⟨vs', w', g1, g2, g3⟩ := h
      have ev := hkd.fn g1
      subst ev
      have ew := Option.some.inj (p1.symm.trans g2)
      subst ew
      refine ⟨vs, w, (back hn k1 (fun a ha => hA a (List.mem_append_left _ ha)) (hl.chg hn k1 fun a ha => hA a (List.mem_append_right _ ha))).2, p1, VAt.chg hn k1 p2 e' (fun a ha => hA a (List.mem_append_right _ (List.mem_append_right _ (List.mem_append_left _ ha)))) g3⟩
    · cases e'
end
end Cg

set_option Elab.async false
set_option linter.all false
set_option maxRecDepth 100000
set_option maxHeartbeats 1000000
namespace Cg
open PySem PySem.Spec PyProof.Rows L2 Evl
section
variable {c : Base} {b bs cs F A B : List Addr} {σ τ : L2.St} {H H1 H2 H' : Hp} {ε δ : Env} {N N1 N2 N' : Nat} {u v : V} {t s : T} {d : PyData}
/-- the part at π of slot i, and what comes of all slots when it stands otherwise -/
theorem Rel.chgP {i : Nat} {π : List Nat} (r : Rel c bs F σ H ε N) (hl : ε[i]? = some (.is t)) (hs : σ[i]? = some (some v)) (ha : atP π t = some s) (hv : VAt H v π u) :
    ∃ B, Rep bs H u s B ∧ B.Nodup ∧ (∀ a ∈ B, a ∈ F) ∧
    ∀ {cs : List Addr} {H' : Hp} {s' : T} {B' : List Addr} {N' : Nat}, Keep (B ++ c.b) H H' → (∀ a ∈ c.b, Box H' a N') → (∀ a ∈ cs, a ∈ bs ∨ H a = none) → (∀ a ∈ bs, a ∉ B → a ∈ cs) → Live cs H' → NoTup cs H' →
      (∀ a ∈ B', a ∈ cs ∧ (a ∈ B ∨ (a ∉ F ∧ c.P a = none ∧ a ∉ c.bs0))) → B'.Nodup → Rep cs H' u s' B' → ∃ F', Rel c cs F' σ H' (ε.set i (.is (putP π t s'))) N' ∧ ∀ a ∈ F', (a ∈ F ∧ a ∉ B) ∨ a ∈ B' := by
  obtain ⟨x, A, F1, F2, q1, q2, rfl, q4⟩ := r.env.at hl
  have ex : x = some v := Option.some.inj (q1.symm.trans hs)
  subst ex
  cases q2 with
  | is q2 =>
    obtain ⟨u', A1, B, A2, rfl, z1, z2, z3⟩ := q2.zoom ha
    have eu := z1.fn hv
    subst eu
    have e1 : F1 ++ ((A1 ++ (B ++ A2)) ++ F2) = (F1 ++ A1) ++ (B ++ (A2 ++ F2)) := by simp only [List.append_assoc]
    have nd := r.nd
    rw [e1] at nd
    obtain ⟨n1, n2, n3⟩ := List.nodup_append.mp nd
    obtain ⟨n4, n5, n6⟩ := List.nodup_append.mp n2
    have memB : ∀ a ∈ B, a ∈ F1 ++ ((A1 ++ (B ++ A2)) ++ F2) := fun a ha => by rw [e1]; exact List.mem_append_right _ (List.mem_append_left _ ha)
    have outB : ∀ a, a ∈ (F1 ++ A1) ++ (A2 ++ F2) → a ∈ F1 ++ ((A1 ++ (B ++ A2)) ++ F2) ∧ a ∉ B := fun a ha => by
      rw [e1]
      rcases List.mem_append.mp ha with h | h
      · exact ⟨List.mem_append_left _ h, fun z => n3 a h a (List.mem_append_left _ z) rfl⟩
      · exact ⟨List.mem_append_right _ (List.mem_append_right _ h), fun z => n6 a z a h rfl⟩
    refine ⟨B, z2, n4, memB, fun {cs H' s' B' N'} kp bx c1 c2 lv nt hB nB rp => ?_⟩
    have keep : ∀ a ∈ (F1 ++ A1) ++ (A2 ++ F2), ∀ o, H a = some o → H' a = some o := fun a ha o e => kp.get (fun z => (List.mem_append.mp z).elim (outB a ha).2 fun z => r.fb a (outB a ha).1 z) e
    have vis : Same (hid bs H) (hid cs H') := fun a o e => by
      obtain ⟨h1, h2⟩ := hid_some e
      have h3 : a ∉ cs := fun z => (c1 a z).elim h1 fun z => by rw [h2] at z; cases z
      rw [hid_out h3]
      exact kp.get (fun z => (List.mem_append.mp z).elim (fun z => h1 (r.sub a (memB a z))) fun z => h1 (r.bin a z)) h2
    have rv := z3 r.nt vis (fun a ha o e => keep a (by
      rcases List.mem_append.mp ha with z | z
      · exact List.mem_append_left _ (List.mem_append_right _ z)
      · exact List.mem_append_right _ (List.mem_append_left _ z)) o e) rp
    have env := q4 (cs := cs) (H' := H') (y := some v) (m := .is (putP π t s')) r.nt vis (fun a ha o e => keep a (by
      rcases List.mem_append.mp ha with z | z
      · exact List.mem_append_left _ (List.mem_append_left _ z)
      · exact List.mem_append_right _ (List.mem_append_right _ z)) o e) (.is rv)
    rw [set_same q1] at env
    have e2 : F1 ++ ((A1 ++ (B' ++ A2)) ++ F2) = (F1 ++ A1) ++ (B' ++ (A2 ++ F2)) := by simp only [List.append_assoc]
    have new : ∀ a, a ∈ B' → a ∉ (F1 ++ A1) ∧ a ∉ (A2 ++ F2) := fun a ha => by
      have : a ∉ (F1 ++ A1) ++ (A2 ++ F2) := fun z => by
        rcases (hB a ha).2 with h | h
        · exact (outB a z).2 h
        · exact h.1 (outB a z).1
      exact ⟨fun z => this (List.mem_append_left _ z), fun z => this (List.mem_append_right _ z)⟩
    have hm : ∀ a ∈ F1 ++ ((A1 ++ (B' ++ A2)) ++ F2), (a ∈ F1 ++ ((A1 ++ (B ++ A2)) ++ F2) ∧ a ∉ B) ∨ a ∈ B' := fun a ha => by
      rw [e2] at ha
      rcases List.mem_append.mp ha with h | h
      · exact .inl (outB a (List.mem_append_left _ h))
      · rcases List.mem_append.mp h with h | h
        · exact .inr h
        · exact .inl (outB a (List.mem_append_right _ h))
    have fact : ∀ a ∈ B', c.P a = none ∧ a ∉ c.bs0 := fun a ha => by
      rcases (hB a ha).2 with h | h
      · exact ⟨r.off a (memB a h), r.nb a (memB a h)⟩
      · exact h.2
    refine ⟨_, ⟨env, ?_, fun a ha => ?_, fun a ha => ?_, fun a ha => ?_, fun a ha => c2 a (r.up a ha) fun z => r.nb a (memB a z) ha, r.bb, r.offb, lv, nt, bx, fun a o e => ?_, r.vis.trans vis⟩, hm⟩
    · rw [e2]
      exact nodup_mid nd nB new
    · rcases hm a ha with h | h
      · exact c2 a (r.sub a h.1) h.2
      · exact (hB a h).1
    · rcases hm a ha with h | h
      · exact r.off a h.1
      · exact (fact a h).1
    · rcases hm a ha with h | h
      · exact r.nb a h.1
      · exact (fact a h).2
    · refine kp.get (fun z => ?_) (r.pin a o e)
      rcases List.mem_append.mp z with z | z
      · rw [r.off a (memB a z)] at e; cases e
      · rw [r.offb a z] at e; cases e
/-! ### rows of slots -/
theorem RelE.app {G : List Addr} (k : RelE b bs H τ δ G) : ∀ {σ : L2.St} {ε : Env} {F : List Addr}, RelE b bs H σ ε F → RelE b bs H (σ ++ τ) (ε ++ δ) (F ++ G)
  | _, _, _, .nil => k
  | _, _, _, .no h => .no (RelE.app k h)
  | _, _, _, .box e h => .box e (RelE.app k h)
  | _, _, _, .is r h => by rw [List.append_assoc]; exact .is r (RelE.app k h)
  | _, _, _, .dic e h => by rw [List.append_assoc]; exact .dic e (RelE.app k h)
  | _, _, _, .dcF e h => .dcF e (RelE.app k h)
  | _, _, _, .pin h => .pin (RelE.app k h)
theorem RelE.unapp : ∀ {σ : L2.St} {ε : Env} {F : List Addr}, σ.length = ε.length → RelE b bs H (σ ++ τ) (ε ++ δ) F → ∃ F1 F2, F = F1 ++ F2 ∧ RelE b bs H σ ε F1 ∧ RelE b bs H τ δ F2
  | [], [], F, _, h => ⟨[], F, rfl, .nil, h⟩
  | [], _ :: _, _, e, _ => by cases e
  | _ :: _, [], _, e, _ => by cases e
  | x :: σ, l :: ε, F, e, h0 => by
    have e' : σ.length = ε.length := Nat.succ.inj e
    have h' : RelE b bs H (x :: (σ ++ τ)) (l :: (ε ++ δ)) F := h0
    clear h0
    cases h' with
    | no h => obtain ⟨F1, F2, rfl, p, q⟩ := RelE.unapp e' h; exact ⟨F1, F2, rfl, .no p, q⟩
    | box z h => obtain ⟨F1, F2, rfl, p, q⟩ := RelE.unapp e' h; exact ⟨F1, F2, rfl, .box z p, q⟩
    | is r h => obtain ⟨F1, F2, rfl, p, q⟩ := RelE.unapp e' h; exact ⟨_, F2, (List.append_assoc ..).symm, .is r p, q⟩
    | dic z h => obtain ⟨F1, F2, rfl, p, q⟩ := RelE.unapp e' h; exact ⟨_, F2, (List.append_assoc ..).symm, .dic z p, q⟩
    | dcF z h => obtain ⟨F1, F2, rfl, p, q⟩ := RelE.unapp e' h; exact ⟨F1, F2, rfl, .dcF z p, q⟩
    | pin h => obtain ⟨F1, F2, rfl, p, q⟩ := RelE.unapp e' h; exact ⟨F1, F2, rfl, .pin p, q⟩
/-- fewer slots -/
theorem Rel.sub' {G : List Addr} (r : Rel c bs F σ H ε N) (h : RelE c.b bs H τ δ G) (hG : G.Sublist F) : Rel c bs G τ H δ N := ⟨h, r.nd.sublist hG, fun a ha => r.sub a (hG.subset ha), fun a ha => r.off a (hG.subset ha), fun a ha => r.nb a (hG.subset ha), r.up, r.bb, r.offb, r.live, r.nt, r.box, r.pin, r.vis⟩
theorem Rel.cut (r : Rel c bs F (σ ++ τ) H (ε ++ δ) N) (hl : σ.length = ε.length) : ∃ G, Rel c bs G σ H ε N ∧ G.Sublist F := by
  obtain ⟨F1, F2, rfl, p, q⟩ := RelE.unapp hl r.env
  exact ⟨F1, r.sub' p (List.sublist_append_left ..), List.sublist_append_left ..⟩
/-- one slot more -/
theorem Rel.pend (r : Rel c bs F σ H ε N) (h : Rep bs H v t A) (nd : A.Nodup) (hA : ∀ a ∈ A, a ∈ bs ∧ a ∉ F ∧ c.P a = none ∧ a ∉ c.bs0) : Rel c bs (F ++ A) (σ ++ [some v]) H (ε ++ [.is t]) N := by
  have e : RelE c.b bs H [some v] [.is t] A := by
    have := RelE.is (b := c.b) h RelE.nil
    rw [List.append_nil] at this
    exact this
  refine ⟨RelE.app e r.env, nodup_app r.nd nd fun a ha z => (hA a z).2.1 ha, fun a ha => ?_, fun a ha => ?_, fun a ha => ?_, r.up, r.bb, r.offb, r.live, r.nt, r.box, r.pin, r.vis⟩
  · exact (List.mem_append.mp ha).elim (r.sub a) fun z => (hA a z).1
  · exact (List.mem_append.mp ha).elim (r.off a) fun z => (hA a z).2.2.1
  · exact (List.mem_append.mp ha).elim (r.nb a) fun z => (hA a z).2.2.2
/-- the last slot taken off -/
theorem Rel.unpend (r : Rel c bs F (σ ++ [some v]) H (ε ++ [.is t]) N) (hl : σ.length = ε.length) : ∃ G A, Rel c bs G σ H ε N ∧ Rep bs H v t A ∧ A.Nodup ∧ ∀ a ∈ A, a ∈ bs ∧ a ∉ G ∧ c.P a = none ∧ a ∉ c.bs0 := by
  obtain ⟨F1, F2, rfl, p, q⟩ := RelE.unapp hl r.env
  have q' : RelE c.b bs H (some v :: []) (.is t :: []) F2 := q
  cases q' with
  | is h h2 =>
    rename_i A F3
    cases h2
    rw [List.append_nil] at r
    obtain ⟨n1, n2, n3⟩ := List.nodup_append.mp r.nd
    have m : ∀ a ∈ A, a ∈ F1 ++ A := fun a ha => List.mem_append_right _ ha
    exact ⟨F1, A, r.sub' p (List.sublist_append_left ..), h, n2, fun a ha => ⟨r.sub a (m a ha), fun z => n3 a z a ha rfl, r.off a (m a ha), r.nb a (m a ha)⟩⟩
/-! ### expressions that change what slots own: told, and the slots behind -/
abbrev WX := Env → Nat → (T → Env → Nat → Prop) → Prop
def SimX (te : TE) (wx : WX) : Prop := ∀ {c : Base} {bs F : List Addr} {σ τ : L2.St} {H : Hp} {ε δ : Env} {N : Nat} {R : T → Env → Nat → Prop} {Q : VK}, σ.length = ε.length → Rel c bs F (σ ++ τ) H (ε ++ δ) N → wx ε N R →
  (∀ v t ε' N' bs' F' H', R t ε' N' → ε'.length = ε.length → Rel c bs' F' ((σ ++ τ) ++ [some v]) H' ((ε' ++ δ) ++ [.is t]) N' → Q v H') → te σ H Q
/-- what changes nothing -/
def wXT (wt : WT) : WX := fun ε N R => wt ε N fun t N' => R t ε N'
abbrev WXs := Env → Nat → (List T → Env → Nat → Prop) → Prop
def wXNil : WXs := fun ε N R => R [] ε N
def wXCons (wx : WX) (ws : WXs) : WXs := fun ε N R => wx ε N fun t ε1 N1 => ws ε1 N1 fun ts ε2 N2 => R (t :: ts) ε2 N2
/-! statements of them -/
theorem Rel.start0 (r : Rel c bs F σ H ε N) : Rel c bs F (σ ++ []) H (ε ++ []) N := by rw [List.append_nil, List.append_nil]; exact r
def wAsgX (i : Nat) (wx : WX) : WS := fun D ε N => wx ε N fun t ε' N' => D.nx (ε'.set i (.is t)) N'
def wDropX (wx : WX) : WS := fun D ε N => wx ε N fun _ ε' N' => D.nx ε' N'
theorem sim_dropX {te : TE} {wx : WX} (h : SimX te wx) : SimS (tDrop te) (wDropX wx) := fun {c bs F σ H ε N DW D} r w m => by
  refine h r.env.len r.start0 w fun v t ε' N' bs' F' H' hR l r' => ?_
  rw [List.append_nil, List.append_nil] at r'
  obtain ⟨G, A, r2, hr, nd, hA⟩ := r'.unpend (r.env.len.trans l.symm)
  exact m.nx r2 hR
/-- return e, told with the slots -/
def wRetX (wx : WX) : WS := fun D ε N => wx ε N fun t ε' N' => D.rx t ε' N'
def wRetNX : WS := fun D ε N => D.rx (.sh .none) ε N
/-- return x, x its own -/
def wRetVX (i : Nat) : WS := fun D ε N => match ε[i]? with
  | some (.is t) => D.rx t (ε.set i .no) N
  | _ => False
/-- a, b = e1, e2 -/
theorem unpends : ∀ {vs : List V} {ts : List T} {F : List Addr}, vs.length = ts.length → Rel c bs F (σ ++ vs.map some) H (ε ++ ts.map Sl.is) N → σ.length = ε.length → ∃ G A, Rel c bs G σ H ε N ∧ RepL bs H vs ts A ∧ A.Nodup ∧ ∀ a ∈ A, a ∈ bs ∧ a ∉ G ∧ c.P a = none ∧ a ∉ c.bs0 := fun {vs ts F} hl r hs => by
  obtain ⟨F1, F2, rfl, p, q⟩ := RelE.unapp hs r.env
  have go : ∀ {vs : List V} {ts : List T} {F : List Addr}, RelE c.b bs H (vs.map some) (ts.map Sl.is) F → RepL bs H vs ts F := fun {vs} => by
    induction vs with
    | nil =>
      intro ts F h
      cases ts with
      | nil => cases h; exact .nil
      | cons t ts => cases h
    | cons v vs ih =>
      intro ts F h
      cases ts with
      | nil => cases h
      | cons t ts => cases h with
        | is r h => exact .cons r (ih h)
  obtain ⟨n1, n2, n3⟩ := List.nodup_append.mp r.nd
  have m : ∀ a ∈ F2, a ∈ F1 ++ F2 := fun a ha => List.mem_append_right _ ha
  exact ⟨F1, F2, r.sub' p (List.sublist_append_left ..), go q, n2, fun a ha => ⟨r.sub a (m a ha), fun z => n3 a z a ha rfl, r.off a (m a ha), r.nb a (m a ha)⟩⟩
def wParX (is : List Nat) (ws : WXs) : WS := fun D ε N => ws ε N fun ts ε' N' => ts.length = is.length ∧ D.nx (setsE is ts ε') N'
end
end Cg

set_option Elab.async false
set_option linter.all false
set_option maxRecDepth 100000
set_option maxHeartbeats 1000000
namespace Cg
open PySem PySem.Spec PyProof.Rows L2 Evl
def T.root : T → Option Addr
  | .ins a _ _ _ => some a
  | .rc a _ _ => some a
  | .dct a _ _ => some a
  | .tpa a _ => some a
  | .shr a _ => some a
  | .lsa a _ => some a
  | _ => none
/-! ### defs whose parameters are changed: their promise -/
abbrev WFX := List T → Nat → (T → List T → Nat → Prop) → Prop
/-- what the changed parameters are behind -/
def outK : List Bool → List T → Env → (List T → Prop) → Prop
  | [], [], _, k => k []
  | false :: md, .sh d :: ts, _ :: ε, k => outK md ts ε fun os => k (.sh d :: os)
  | true :: md, t :: ts, .is t' :: ε, k => t'.root = t.root ∧ t.root ≠ none ∧ outK md ts ε fun os => k (t' :: os)
  | _, _, _, _ => False
def dropB : Bool → Env → (Env → Prop) → Prop
  | false, ε, k => k ε
  | true, _ :: ε, k => k ε
  | true, [], _ => False
def EW.fnX (bx : Bool) (md : List Bool) (ts : List T) (R : T → List T → Nat → Prop) : EW :=
  ⟨fun ε N => dropB bx ε fun ε' => outK md ts ε' fun os => R (.sh .none) os N, fun _ _ => False, fun _ _ => False, fun _ _ => False, fun t ε N => dropB bx ε fun ε' => outK md ts ε' fun os => R t os N, fun _ _ _ => False, fun _ _ _ _ => False⟩
def envX (bx : Bool) (ts : List T) (k : Nat) : Env := (if bx then [Sl.box] else []) ++ (ts.map Sl.is ++ List.replicate k Sl.no)
section
variable {c : Base} {b bs cs F A B : List Addr} {σ τ : L2.St} {H H1 H2 H' : Hp} {ε δ : Env} {N N1 N2 N' : Nat} {u v : V} {t s : T} {d : PyData} {ts : TS} {ws : WS}
theorem Rep.root {a : Addr} (h : Rep bs H v t A) (e : t.root = some a) : v = .ref a := by
  cases h with
  | ins _ _ _ _ => cases e; rfl
  | rc _ _ _ => cases e; rfl
  | dct _ _ _ _ => cases e; rfl
  | tpa _ _ => cases e; rfl
  | shr _ => cases e; rfl
  | lsa _ _ => cases e; rfl
  | _ => cases e
/-! ### a call with one thing that is changed -/
/-- slot i's part at π otherwise -/
def putAt (ε : Env) (i : Nat) (π : List Nat) (s : T) : Env := match ε[i]? with
  | some (.is t) => ε.set i (.is (putP π t s))
  | _ => ε
def atPl (ε : Env) (i : Nat) (π : List Nat) (k : T → Prop) : Prop := match ε[i]? with
  | some (.is t) => match atP π t with
    | some s => k s
    | none => False
  | _ => False
theorem atPl_some {i : Nat} {π : List Nat} {k : T → Prop} (h : atPl ε i π k) : ∃ t s, ε[i]? = some (.is t) ∧ atP π t = some s ∧ k s := by
  unfold atPl at h
  split at h
  · rename_i t e
    split at h
    · rename_i s e2
      exact ⟨t, s, e, e2, h⟩
    · exact h.elim
  · exact h.elim
end
end Cg

set_option Elab.async false
set_option linter.all false
set_option maxRecDepth 100000
set_option maxHeartbeats 1000000
namespace Cg
open PySem PySem.Spec PyProof.Rows L2 Evl
/-! ### fields by their places -/
/-! ### records as data -/
/-- the part k of a record -/
def atRec (c : PyData) (ns : List Str) (k : Nat) (d : PyData) (K : PyData → Prop) : Prop := ∃ ds x, d = recD c ns ds ∧ ds[k]? = some x ∧ K x
theorem atRec_is {c : PyData} {ns : List Str} {k : Nat} {ds : List PyData} {K : PyData → Prop} : atRec c ns k (recD c ns ds) K = ∃ x, ds[k]? = some x ∧ K x := propext ⟨fun ⟨ds', x, e, h⟩ => by
  injection e with e
  injection e with _ e
  injection e with e _
  injection e with _ e
  injection e with e
  subst e
  exact ⟨x, h⟩, fun ⟨x, h⟩ => ⟨ds, x, rfl, h⟩⟩
section
variable {K : PySem.W.Frag} {te tp ta : TE} {we : WE} {C : Addr} {ns : List Str} {f : Str} {k : Nat}
def wFd (C : Addr) (ns : List Str) (k : Nat) (we : WE) : WE := fun ε N R => we ε N fun d N1 => atRec (.int (C : Int)) ns k d fun x => R x N1
def wKd (ns : List Str) (k : Nat) (we : WE) : WE := fun ε N R => we ε N fun d N1 => atRec .none ns k d fun x => R x N1
/-! ### places -/
abbrev WP := Env → Nat → (List Nat → Nat → Prop) → Prop
def SimP (te : TE) (i : Nat) (wp : WP) : Prop := ∀ {c : Base} {bs F : List Addr} {σ : L2.St} {H : Hp} {ε : Env} {N : Nat} {R : List Nat → Nat → Prop} {Q : VK}, Rel c bs F σ H ε N → wp ε N R →
  (∀ u π N' H' v t s, R π N' → Out c H H' N' → σ[i]? = some (some v) → ε[i]? = some (.is t) → atP π t = some s → VAt H' v π u → Q u H') → te σ H Q
def wPV (i : Nat) : WP := fun ε N R => atIs ε[i]? fun _ => R [] N
theorem sim_pv {i : Nat} : SimP (tVar i) i (wPV i) := fun {c bs F σ H ε N R Q} r w q => by
  obtain ⟨t, e, hR⟩ := atIs_some w
  obtain ⟨x, A, F1, F2, hx, hr, _, _⟩ := r.env.at e
  cases hr with
  | is hr => exact ⟨_, hx, q _ [] N H _ t t hR r.self hx e rfl rfl⟩
/-- the place stands while the box changes -/
theorem place_out {c : Base} {bs F : List Addr} {σ : L2.St} {H H' : Hp} {ε : Env} {N N' : Nat} {i : Nat} {π : List Nat} {v u : V} {t s : T} (r : Rel c bs F σ H ε N) (o : Out c H H' N') (h1 : σ[i]? = some (some v)) (h2 : ε[i]? = some (.is t)) (h3 : atP π t = some s) (h4 : VAt H v π u) : VAt H' v π u := by
  obtain ⟨x, A, F1, F2, hx, hr, rfl, _⟩ := r.env.at h2
  cases hr with
  | is hr =>
    have e := hx.symm.trans h1
    cases e
    exact VAt.chg r.nt (out_keep o r.bin) hr h3 (fun a ha y e => out_get o (r.fb a (List.mem_append_right _ (List.mem_append_left _ ha))) e) h4
/-- what stands at a place -/
theorem place_rep {c : Base} {bs F : List Addr} {σ : L2.St} {H : Hp} {ε : Env} {N : Nat} {i : Nat} {π : List Nat} {v u : V} {t s : T} (r : Rel c bs F σ H ε N) (h1 : σ[i]? = some (some v)) (h2 : ε[i]? = some (.is t)) (h3 : atP π t = some s) (h4 : VAt H v π u) : ∃ B, Rep bs H u s B := by
  obtain ⟨B, h, _⟩ := r.chgP h2 h1 h3 h4
  exact ⟨B, h⟩
def isIns (C : Addr) (ns : List Str) (s : T) (k : List T → Prop) : Prop := ∃ a ts, s = .ins a C ns ts ∧ k ts
theorem isIns_is {C a : Addr} {ns : List Str} {ts : List T} {k : List T → Prop} : isIns C ns (.ins a C ns ts) k = k ts := propext ⟨fun ⟨a', ts', e, h⟩ => by cases e; exact h, fun h => ⟨a, ts, rfl, h⟩⟩
def isRc (ns : List Str) (s : T) (k : List T → Prop) : Prop := ∃ a ts, s = .rc a ns ts ∧ k ts
theorem isRc_is {a : Addr} {ns : List Str} {ts : List T} {k : List T → Prop} : isRc ns (.rc a ns ts) k = k ts := propext ⟨fun ⟨a', ts', e, h⟩ => by cases e; exact h, fun h => ⟨a, ts, rfl, h⟩⟩
def isLst (s : T) (k : List T → Prop) : Prop := ∃ ts, (s = .lst ts ∨ ∃ a, s = .lsa a ts) ∧ k ts
theorem isLst_is {ts : List T} {k : List T → Prop} : isLst (.lst ts) k = k ts := propext ⟨fun ⟨ts', e, h⟩ => by rcases e with e | ⟨_, e⟩ <;> cases e; exact h, fun h => ⟨ts, .inl rfl, h⟩⟩
theorem isLst_a {a : Addr} {ts : List T} {k : List T → Prop} : isLst (.lsa a ts) k = k ts := propext ⟨fun ⟨ts', e, h⟩ => by rcases e with e | ⟨_, e⟩ <;> cases e; exact h, fun h => ⟨ts, .inr ⟨a, rfl⟩, h⟩⟩
/-- such a list stands there -/
theorem Rep.ofL {bs : List Addr} {H : Hp} {v : V} {s : T} {B : List Addr} {ts : List T} (h : Rep bs H v s B) (e : s = .lst ts ∨ ∃ a, s = .lsa a ts) : ∃ a vs A, v = .ref a ∧ B = a :: A ∧ H a = some (.lst vs) ∧ RepL bs H vs ts A ∧ ∀ {cs : List Addr} {H' : Hp} {us : List V} {ws : List T} {A' : List Addr}, H' a = some (.lst us) → RepL cs H' us ws A' → Rep cs H' v (s.rekid ws) (a :: A') := by
  rcases e with rfl | ⟨a0, rfl⟩
  · cases h with
    | lst e h => exact ⟨_, _, _, rfl, rfl, e, h, fun e h => .lst e h⟩
  · cases h with
    | lsa e h => exact ⟨_, _, _, rfl, rfl, e, h, fun e h => .lsa e h⟩
/-- p.f -/
def wPF (i : Nat) (C : Addr) (ns : List Str) (k : Nat) (wp : WP) : WP := fun ε N R => wp ε N fun π N1 => atPl ε i π fun s => isIns C ns s fun ts => k < ts.length ∧ R (π ++ [k]) N1
/-- p["f"] -/
def wPK (i : Nat) (ns : List Str) (k : Nat) (wp : WP) : WP := fun ε N R => wp ε N fun π N1 => atPl ε i π fun s => isRc ns s fun ts => k < ts.length ∧ R (π ++ [k]) N1
/-- p[e], p a list -/
def wPI (i : Nat) (wp : WP) (wk : WE) : WP := fun ε N R => wp ε N fun π N1 => wk ε N1 fun d N2 => dInt d fun j => atPl ε i π fun s => isLst s fun ts => ∃ n, ixN ts.length j = some n ∧ R (π ++ [n]) N2
theorem sim_pi {i : Nat} {tk : TE} {wp : WP} {wk : WE} (h : SimP tp i wp) (hk : SimE tk wk) : SimP (tOp (rIx K) tp tk) i (wPI i wp wk) := fun {c bs F σ H ε N R Q} r w q => h r w fun u π N1 H1 v t s w1 o1 h1 h2 h3 h4 => hk (r.out o1) w1 fun u2 d N2 H2 w2 o2 hd => by
  have o12 := o1.trans o2
  have h4' := place_out (r.out o1) o2 h1 h2 h3 h4
  cases hd <;> first | exact False.elim w2 | skip
  rename_i j
  obtain ⟨t', s', g1, g2, ts, es, n, hn, hR⟩ := atPl_some w2
  rw [h2] at g1
  cases g1
  rw [h3] at g2
  cases g2
  obtain ⟨B, hr⟩ := place_rep (r.out o12) h1 h2 h3 h4'
  obtain ⟨a, vs, A, rfl, rfl, e, hl, _⟩ := hr.ofL es
  have hlt : n < ts.length := (ixN_seq hn).2.1
  have hkv : n < vs.length := by rw [hl.len]; exact hlt
  have ew := List.getElem?_eq_getElem hkv
  have ek : s.kids = ts := by rcases es with rfl | ⟨_, rfl⟩ <;> rfl
  refine .inl ⟨a, vs, j, vs[n], rfl, rfl, SqL.of e, by unfold L2.atI; rw [hl.len, hn]; exact ew, ?_⟩
  exact q _ (π ++ [n]) N2 H2 v t ts[n] hR o12 h1 h2 (atP_snoc h3 (by rw [ek]; exact List.getElem?_eq_getElem hlt)) (h4'.snoc ⟨a, rfl, .inl e⟩ ew)
end
end Cg

set_option Elab.async false
set_option linter.all false
set_option maxRecDepth 100000
set_option maxHeartbeats 1000000
namespace L2
open PySem PySem.Spec PyProof.Rows
section
variable {X : Cx} {CX : CXT} {k n : Nat} {f C : Addr} {fd : FuncData} {ps ks : List Str} {sp : Sp} {E : XK} {m : Str} {pos apos : Pos} {e o : Expr} {es : List Expr} {kws : List Keyword} {ta : TE} {t tk : TA} {g : List Value → List Value → List Value} {gV : List V → List V → List V}
end
end L2
namespace Cg
open PySem PySem.Spec PyProof.Rows L2 Evl
section
variable {K : PySem.W.Frag} {te tp ta : TE} {we : WE} {wt : WT} {C : Addr} {ns : List Str} {f m : Str} {k i : Nat} {tas tks : TA} {was wks : WA} {wp : WP}
/-- o.m(..), o changed -/
def wMeth (C : Addr) (ns : List Str) (f : WFX) (g : List PyData → List PyData → List PyData) (n kn nn i : Nat) (wp : WP) (was wks : WA) : WX := fun ε N R => wp ε N fun π N1 => (atPl ε i π fun s => isIns C ns s fun _ => True) ∧ was ε N1 fun ds N2 => wks ε N2 fun es N3 =>
  (ds.length + 1 = n ∧ es.length = kn ∧ (g ds es).length + 1 = nn) ∧ atPl ε i π fun s => isIns C ns s fun _ => f (s :: (g ds es).map T.sh) 0 fun ret os _ => ∃ s', os[0]? = some s' ∧ R ret (putAt ε i π s') N3
/-- o.m(..), o read alone: what a def by value tells -/
def wMethV (C : Addr) (ns : List Str) (f : WF) (dds : List PyData) (we : WE) (was : WA) : WT := fun ε N R => we ε N fun d N1 => (∃ rs, d = recD (.int (C : Int)) ns rs) ∧ was ε N1 fun ds N2 => f (d :: (ds ++ dds)) 0 fun t _ => R t N2
/-! ### f(.., x, ..), x changed -/
abbrev WAP := Env → Nat → (List PyData → List Nat → List PyData → Nat → Prop) → Prop
def wApP (wp : WP) (was : WA) : WAP := fun ε N R => wp ε N fun π N1 => was ε N1 fun ds N2 => R [] π ds N2
def wApC (we : WE) (wa : WAP) : WAP := fun ε N R => we ε N fun d N1 => wa ε N1 fun ds1 π ds2 N2 => R (d :: ds1) π ds2 N2
def wCallX (f : WFX) (nn i : Nat) (wa : WAP) : WX := fun ε N R => wa ε N fun ds1 π ds2 N1 => ds1.length + 1 + ds2.length = nn ∧ atPl ε i π fun s => f (ds1.map T.sh ++ s :: ds2.map T.sh) 0 fun ret os _ => ∃ s', os[ds1.length]? = some s' ∧ R ret (putAt ε i π s') N1
def wCallXB (j : Nat) (f : WFX) (nn i : Nat) (wa : WAP) : WX := fun ε N R => isBox ε j = true ∧ wa ε N fun ds1 π ds2 N1 => ds1.length + 1 + ds2.length = nn ∧ atPl ε i π fun s => f (ds1.map T.sh ++ s :: ds2.map T.sh) N1 fun ret os N2 => ∃ s', os[ds1.length]? = some s' ∧ R ret (putAt ε i π s') N2
end
end Cg

set_option Elab.async false
set_option linter.all false
set_option maxRecDepth 100000
set_option maxHeartbeats 1000000
namespace Cg
open PySem PySem.Spec PyProof.Rows L2 Evl
section
variable {K : PySem.W.Frag} {te tp ta tk : TE} {we wk : WE} {wt : WT} {C : Addr} {ns : List Str} {f m : Str} {k i : Nat} {tas tks : TA} {was wks : WA} {wp : WP}
/-! ### C(..): a new instance -/
def wMake (C : Addr) (f : WFX) (g : List PyData → List PyData → List PyData) (n kn nn : Nat) (was wks : WA) : WT := fun ε N R => was ε N fun ds N1 => wks ε N1 fun es N2 => (ds.length = n ∧ es.length = kn ∧ (g ds es).length + 1 = nn) ∧
  ∀ x, f (.ins x C [] [] :: (g ds es).map T.sh) 0 fun ret os _ => ret = .sh .none ∧ ∃ s', os[0]? = some s' ∧ R s' N2
/-! ### what stands at a place, changed -/
theorem Rel.updP {c : Base} {bs F : List Addr} {σ : L2.St} {H : Hp} {ε : Env} {N : Nat} {π : List Nat} {v : V} {a : Addr} {t s : T} (r : Rel c bs F σ H ε N) (h1 : σ[i]? = some (some v)) (h2 : ε[i]? = some (.is t)) (h3 : atP π t = some s) (h4 : VAt H v π (.ref a)) :
    ∃ B, Rep bs H (.ref a) s B ∧ B.Nodup ∧ (∀ x ∈ B, x ∈ F) ∧ ∀ {o : HO} {s' : T} {B' : List Addr}, a ∈ B → Hard o → Rep bs (upd H a o) (.ref a) s' B' → B'.Nodup → (∀ x ∈ B', x ∈ B ∨ (x ∈ bs ∧ x ∉ F ∧ c.P x = none ∧ x ∉ c.bs0)) → ∃ F', Rel c bs F' σ (upd H a o) (putAt ε i π s') N := by
  obtain ⟨B, rB, nB, sB, back⟩ := r.chgP h2 h1 h3 h4
  refine ⟨B, rB, nB, sB, fun {o s' B'} aB no rp nd hB => ?_⟩
  obtain ⟨F', r', _⟩ := back (cs := bs) (H' := upd H a o) (N' := N) ((Keep.refl _ _).put (List.mem_append_left _ aB)) (fun x hx => (r.box x hx).put fun z => r.fb a (sB a aB) (z ▸ hx)) (fun x hx => .inl hx) (fun x hx _ => hx) (fun x hx => by
    by_cases hxa : x = a
    · subst hxa; rw [upd_same]; exact fun z => nomatch z
    · rw [upd_ne hxa]; exact r.live x hx) (fun x hx xs z => by
    by_cases hxa : x = a
    · subst hxa; rw [upd_same] at z; exact Option.some.inj z ▸ no
    · rw [upd_ne hxa] at z; exact r.nt x hx xs z) (fun x hx => (hB x hx).elim (fun z => ⟨r.sub x (sB x z), .inl z⟩) fun z => ⟨z.1, .inr z.2⟩) nd rp
  refine ⟨F', ?_⟩
  unfold putAt
  rw [h2]
  exact r'
/-- p[k] = e -/
def wSetPl (i : Nat) (wp : WP) (wk : WE) (wt : WT) : WS := fun D ε N => wt ε N fun x N1 => wp ε N1 fun π N2 => wk ε N2 fun d N3 => dInt d fun j => atPl ε i π fun s => isLst s fun ts => ∃ n, ixN ts.length j = some n ∧ D.nx (putAt ε i π (s.rekid (ts.set n x))) N3
theorem sim_setPl (hp : SimP tp i wp) (hk : SimE tk wk) (h : SimT te wt) : SimS (tAsg te (gSub tp tk rSetL)) (wSetPl i wp wk wt) := fun {c bs F σ H ε N DW D} r w m => h r w fun v x A N1 H1 w1 o1 n1 => by
  have r1 := r.hide o1 n1.new n1.rep.own
  refine hp r1 w1 fun u π N2 H2 v0 t s w2 o2 h1 h2 h3 h4 => hk (r1.out o2) w2 fun y d N3 H3 w3 o3 hd => ?_
  have o23 := o2.trans o3
  have r3 := r1.out o23
  have h4' := place_out (r1.out o2) o3 h1 h2 h3 h4
  cases hd <;> first | exact False.elim w3 | skip
  rename_i j
  obtain ⟨t', s', g1, g2, ts, es, n, hn, hD⟩ := atPl_some w3
  rw [h2] at g1
  cases g1
  rw [h3] at g2
  cases g2
  obtain ⟨B0, hr0⟩ := place_rep r3 h1 h2 h3 h4'
  obtain ⟨a, _, _, rfl, _⟩ := hr0.ofL es
  obtain ⟨B, rB, nB, sB, back⟩ := r3.updP h1 h2 h3 h4'
  have nb : ∀ x ∈ A, x ∉ c.b := fun x hx z => r.live x (r.bin x z) (n1.new x hx)
  have rx : Rep (A ++ bs) H3 v x A := Rep.chg r1.nt (out_keep o23 r1.bin) (fun x hx y e => out_get o23 (nb x hx) e) n1.rep
  obtain ⟨a', vs, A0, ea, rfl, e, hl, mk⟩ := rB.ofL es
  cases ea
  · skip
    have hlt : n < ts.length := (ixN_seq hn).2.1
    obtain ⟨v1, A1, Av, A2, p1, p2, rfl, _, p5⟩ := hl.split (List.getElem?_eq_getElem hlt)
    obtain ⟨na, nA0⟩ := List.nodup_cons.mp nB
    have dis : ∀ z ∈ a :: (A1 ++ (Av ++ A2)), z ∉ A := fun z hz y => r.live z (r.sub z (sB z hz)) (n1.new z y)
    have ndA : (A1 ++ (A ++ A2)).Nodup := nodup_mid nA0 n1.nd fun z hz => ⟨fun y => dis z (List.mem_cons_of_mem _ (List.mem_append_left _ y)) hz, fun y => dis z (List.mem_cons_of_mem _ (List.mem_append_right _ (List.mem_append_right _ y))) hz⟩
    have naA : a ∉ A1 ++ (A ++ A2) := fun z => by
      rcases List.mem_append.mp z with z | z
      · exact na (List.mem_append_left _ z)
      · rcases List.mem_append.mp z with z | z
        · exact dis a (List.mem_cons_self ..) z
        · exact na (List.mem_append_right _ (List.mem_append_right _ z))
    have kk : Keep (A ++ bs) H3 (upd H3 a (.lst (vs.set n v))) := (Keep.refl _ _).put (r3.sub a (sB a (List.mem_cons_self ..)))
    have rl : RepL (A ++ bs) (upd H3 a (.lst (vs.set n v))) (vs.set n v) (ts.set n x) (A1 ++ (A ++ A2)) := (p5 rx).chg r3.nt kk fun z hz y e => by rw [upd_ne (fun (q : z = a) => naA (q ▸ hz))]; exact e
    obtain ⟨F', r'⟩ := back (o := .lst (vs.set n v)) (s' := s.rekid (ts.set n x)) (B' := a :: (A1 ++ (A ++ A2))) (List.mem_cons_self ..) trivial (mk upd_same rl) (List.nodup_cons.mpr ⟨naA, ndA⟩) fun z hz => by
      rcases List.mem_cons.mp hz with q | hz
      · subst q; exact .inl (List.mem_cons_self ..)
      · rcases List.mem_append.mp hz with y | y
        · exact .inl (List.mem_cons_of_mem _ (List.mem_append_left _ y))
        · rcases List.mem_append.mp y with y | y
          · exact .inr (nw_fact r (n1.new z y) y)
          · exact .inl (List.mem_cons_of_mem _ (List.mem_append_right _ (List.mem_append_right _ y)))
    exact ⟨a, vs, j, n, rfl, rfl, e, by rw [hl.len]; exact hn, m.nx r' hD⟩
/-- p.f = e, f stands already (k its place), or is new (ns' the names then) -/
def wFSet (i : Nat) (C : Addr) (ns : List Str) (k : Nat) (wp : WP) (wt : WT) : WS := fun D ε N => wt ε N fun x N1 => wp ε N1 fun π N2 => atPl ε i π fun s => ∃ a ts, s = .ins a C ns ts ∧ D.nx (putAt ε i π (.ins a C ns (ts.set k x))) N2
def wFNew (i : Nat) (C : Addr) (ns ns' : List Str) (wp : WP) (wt : WT) : WS := fun D ε N => wt ε N fun x N1 => wp ε N1 fun π N2 => atPl ε i π fun s => ∃ a ts, s = .ins a C ns ts ∧ D.nx (putAt ε i π (.ins a C ns' (ts ++ [x]))) N2
end
end Cg

set_option Elab.async false
set_option linter.all false
set_option maxRecDepth 100000
set_option maxHeartbeats 1000000
namespace Cg
open PySem PySem.Spec PyProof.Rows L2 Evl
section
variable {te tp : TE} {we wk : WE} {wt : WT} {C : Addr} {ns : List Str} {f m : Str} {k i : Nat} {tas tks : TA} {was wks : WA} {wp : WP} {wx : WX} {ws : WXs}
/-- what is told is shared from now on -/
def wXF (wx : WX) : WX := fun ε N R => wx ε N fun t ε' N' => R (.sh t.data) ε' N'
/-! ### {"k": e, ..} -/
/-- a dict of texts, its own -/
def wRc (ns : List Str) (wts : WTs) : WT := fun ε N R => wts ε N fun ts N1 => ∀ a, R (.rc a ns ts) N1
end
/-! ### equations -/
section
variable {we wk : WE} {wt : WT} {C : Addr} {ns ns' : List Str} {k i j n kn nn : Nat} {was wks : WA} {wp : WP} {wx : WX} {ws : WXs} {wts : WTs} {wa : WAP} {ε : Env} {N : Nat} {D : EW} {fx : WFX} {fw : WF} {g : List PyData → List PyData → List PyData} {dds : List PyData}
theorem wFd_eq {R : PyData → Nat → Prop} : wFd C ns k we ε N R = we ε N fun d N1 => atRec (.int (C : Int)) ns k d fun x => R x N1 := propext Iff.rfl
theorem wKd_eq {R : PyData → Nat → Prop} : wKd ns k we ε N R = we ε N fun d N1 => atRec .none ns k d fun x => R x N1 := propext Iff.rfl
theorem wPV_eq {R : List Nat → Nat → Prop} : wPV i ε N R = atIs ε[i]? fun _ => R [] N := propext Iff.rfl
theorem wPF_eq {R : List Nat → Nat → Prop} : wPF i C ns k wp ε N R = wp ε N fun π N1 => atPl ε i π fun s => isIns C ns s fun ts => k < ts.length ∧ R (π ++ [k]) N1 := propext Iff.rfl
theorem wPK_eq {R : List Nat → Nat → Prop} : wPK i ns k wp ε N R = wp ε N fun π N1 => atPl ε i π fun s => isRc ns s fun ts => k < ts.length ∧ R (π ++ [k]) N1 := propext Iff.rfl
theorem wPI_eq {R : List Nat → Nat → Prop} : wPI i wp wk ε N R = wp ε N fun π N1 => wk ε N1 fun d N2 => dInt d fun j => atPl ε i π fun s => isLst s fun ts => ∃ n, ixN ts.length j = some n ∧ R (π ++ [n]) N2 := propext Iff.rfl
/-- the slots, taken apart -/
def atT (o : Option Sl) (π : List Nat) (k : T → Prop) : Prop := match o with
  | some (.is t) => match atP π t with
    | some s => k s
    | none => False
  | _ => False
theorem atPl_eq {π : List Nat} {q : T → Prop} : atPl ε i π q = atT ε[i]? π q := propext Iff.rfl
def atO (o : Option T) (k : T → Prop) : Prop := match o with
  | some s => k s
  | none => False
theorem atT_is {t : T} {π : List Nat} {q : T → Prop} : atT (some (.is t)) π q = atO (atP π t) q := propext Iff.rfl
theorem atO_some {t : T} {q : T → Prop} : atO (some t) q = q t := propext Iff.rfl
theorem atP_nil {t : T} : atP [] t = some t := rfl
def bindP (o : Option T) (π : List Nat) : Option T := match o with
  | some u => atP π u
  | none => none
theorem atP_cons {t : T} {π : List Nat} : atP (k :: π) t = bindP t.kids[k]? π := rfl
theorem bindP_some {t : T} {π : List Nat} : bindP (some t) π = atP π t := rfl
def setT (o : Option Sl) (ε : Env) (i : Nat) (π : List Nat) (s : T) : Env := match o with
  | some (.is t) => ε.set i (.is (putP π t s))
  | _ => ε
theorem putAt_eq {π : List Nat} {s : T} : putAt ε i π s = setT ε[i]? ε i π s := rfl
theorem setT_is {t s : T} {π : List Nat} : setT (some (.is t)) ε i π s = ε.set i (.is (putP π t s)) := rfl
theorem putP_nil {t s : T} : putP [] t s = s := rfl
def putO (o : Option T) (t : T) (k : Nat) (π : List Nat) (s : T) : T := match o with
  | some u => t.rekid (t.kids.set k (putP π u s))
  | none => t
theorem putP_cons {t s : T} {π : List Nat} : putP (k :: π) t s = putO t.kids[k]? t k π s := rfl
theorem putO_some {t u s : T} {π : List Nat} : putO (some u) t k π s = t.rekid (t.kids.set k (putP π u s)) := rfl
theorem kids_lst {ts : List T} : (T.lst ts).kids = ts := rfl
theorem kids_ins {a : Addr} {ts : List T} : (T.ins a C ns ts).kids = ts := rfl
theorem kids_rc {a : Addr} {ts : List T} : (T.rc a ns ts).kids = ts := rfl
theorem rekid_lst {ts us : List T} : (T.lst ts).rekid us = .lst us := rfl
theorem rekid_ins {a : Addr} {ts us : List T} : (T.ins a C ns ts).rekid us = .ins a C ns us := rfl
theorem rekid_rc {a : Addr} {ts us : List T} : (T.rc a ns ts).rekid us = .rc a ns us := rfl
theorem wXT_eq {R : T → Env → Nat → Prop} : wXT wt ε N R = wt ε N fun t N' => R t ε N' := propext Iff.rfl
theorem wXF_eq {R : T → Env → Nat → Prop} : wXF wx ε N R = wx ε N fun t ε' N' => R (.sh t.data) ε' N' := propext Iff.rfl
theorem wXNil_eq {R : List T → Env → Nat → Prop} : wXNil ε N R = R [] ε N := propext Iff.rfl
theorem wXCons_eq {R : List T → Env → Nat → Prop} : wXCons wx ws ε N R = wx ε N fun t ε1 N1 => ws ε1 N1 fun ts ε2 N2 => R (t :: ts) ε2 N2 := propext Iff.rfl
theorem wAsgX_eq : wAsgX i wx D ε N = wx ε N fun t ε' N' => D.nx (ε'.set i (.is t)) N' := propext Iff.rfl
theorem wDropX_eq : wDropX wx D ε N = wx ε N fun _ ε' N' => D.nx ε' N' := propext Iff.rfl
theorem wRetX_eq : wRetX wx D ε N = wx ε N fun t ε' N' => D.rx t ε' N' := propext Iff.rfl
theorem wRetNX_eq : wRetNX D ε N = D.rx (.sh .none) ε N := propext Iff.rfl
theorem wRetVX_eq : wRetVX i D ε N = atIs ε[i]? fun t => D.rx t (ε.set i .no) N := propext Iff.rfl
theorem wParX_eq {is : List Nat} : wParX is ws D ε N = ws ε N fun ts ε' N' => ts.length = is.length ∧ D.nx (setsE is ts ε') N' := propext Iff.rfl
theorem wSetPl_eq : wSetPl i wp wk wt D ε N = wt ε N fun x N1 => wp ε N1 fun π N2 => wk ε N2 fun d N3 => dInt d fun j => atPl ε i π fun s => isLst s fun ts => ∃ n, ixN ts.length j = some n ∧ D.nx (putAt ε i π (s.rekid (ts.set n x))) N3 := propext Iff.rfl
def insK (C : Addr) (ns : List Str) (s : T) (k : Addr → List T → Prop) : Prop := ∃ a ts, s = .ins a C ns ts ∧ k a ts
theorem insK_is {a : Addr} {ts : List T} {q : Addr → List T → Prop} : insK C ns (.ins a C ns ts) q = q a ts := propext ⟨fun ⟨a', ts', e, h⟩ => by cases e; exact h, fun h => ⟨a, ts, rfl, h⟩⟩
theorem wFSet_eq : wFSet i C ns k wp wt D ε N = wt ε N fun x N1 => wp ε N1 fun π N2 => atPl ε i π fun s => insK C ns s fun a ts => D.nx (putAt ε i π (.ins a C ns (ts.set k x))) N2 := propext Iff.rfl
theorem wFNew_eq : wFNew i C ns ns' wp wt D ε N = wt ε N fun x N1 => wp ε N1 fun π N2 => atPl ε i π fun s => insK C ns s fun a ts => D.nx (putAt ε i π (.ins a C ns' (ts ++ [x]))) N2 := propext Iff.rfl
theorem wRc_eq {R : T → Nat → Prop} : wRc ns wts ε N R = wts ε N fun ts N1 => ∀ a, R (.rc a ns ts) N1 := propext Iff.rfl
/-- a def called by values, one of them changed: what is asked of it -/
theorem wMeth_eq {R : T → Env → Nat → Prop} : wMeth C ns fx g n kn nn i wp was wks ε N R = wp ε N fun π N1 => (atPl ε i π fun s => isIns C ns s fun _ => True) ∧ was ε N1 fun ds N2 => wks ε N2 fun es N3 => (ds.length + 1 = n ∧ es.length = kn ∧ (g ds es).length + 1 = nn) ∧ atPl ε i π fun s => isIns C ns s fun _ => fx (s :: (g ds es).map T.sh) 0 fun ret os _ => ∃ s', os[0]? = some s' ∧ R ret (putAt ε i π s') N3 := propext Iff.rfl
theorem wMethV_eq {R : T → Nat → Prop} : wMethV C ns fw dds we was ε N R = we ε N fun d N1 => (∃ rs, d = recD (.int (C : Int)) ns rs) ∧ was ε N1 fun ds N2 => fw (d :: (ds ++ dds)) 0 fun t _ => R t N2 := propext Iff.rfl
theorem wApP_eq {R : List PyData → List Nat → List PyData → Nat → Prop} : wApP wp was ε N R = wp ε N fun π N1 => was ε N1 fun ds N2 => R [] π ds N2 := propext Iff.rfl
theorem wApC_eq {R : List PyData → List Nat → List PyData → Nat → Prop} : wApC we wa ε N R = we ε N fun d N1 => wa ε N1 fun ds1 π ds2 N2 => R (d :: ds1) π ds2 N2 := propext Iff.rfl
theorem wCallX_eq {R : T → Env → Nat → Prop} : wCallX fx nn i wa ε N R = wa ε N fun ds1 π ds2 N1 => ds1.length + 1 + ds2.length = nn ∧ atPl ε i π fun s => fx (ds1.map T.sh ++ s :: ds2.map T.sh) 0 fun ret os _ => ∃ s', os[ds1.length]? = some s' ∧ R ret (putAt ε i π s') N1 := propext Iff.rfl
theorem wCallXB_eq {R : T → Env → Nat → Prop} : wCallXB j fx nn i wa ε N R = (isBox ε j = true ∧ wa ε N fun ds1 π ds2 N1 => ds1.length + 1 + ds2.length = nn ∧ atPl ε i π fun s => fx (ds1.map T.sh ++ s :: ds2.map T.sh) N1 fun ret os N2 => ∃ s', os[ds1.length]? = some s' ∧ R ret (putAt ε i π s') N2) := propext Iff.rfl
theorem wMake_eq {R : T → Nat → Prop} : wMake C fx g n kn nn was wks ε N R = was ε N fun ds N1 => wks ε N1 fun es N2 => (ds.length = n ∧ es.length = kn ∧ (g ds es).length + 1 = nn) ∧ ∀ x, fx (.ins x C [] [] :: (g ds es).map T.sh) 0 fun ret os _ => ret = .sh .none ∧ ∃ s', os[0]? = some s' ∧ R s' N2 := propext Iff.rfl
theorem fnX_nx {bx : Bool} {md : List Bool} {ts : List T} {R : T → List T → Nat → Prop} : (EW.fnX bx md ts R).nx ε N = dropB bx ε fun ε' => outK md ts ε' fun os => R (.sh .none) os N := propext Iff.rfl
theorem fnX_rx {bx : Bool} {md : List Bool} {ts : List T} {t : T} {R : T → List T → Nat → Prop} : (EW.fnX bx md ts R).rx t ε N = dropB bx ε fun ε' => outK md ts ε' fun os => R t os N := propext Iff.rfl
theorem seq_rx {q : Env → Nat → Prop} {t : T} : (D.seq q).rx t ε N = D.rx t ε N := propext Iff.rfl
theorem loop_rx {q : Env → Nat → Prop} {t : T} : (D.loop q).rx t ε N = D.rx t ε N := propext Iff.rfl
theorem dropB_f {q : Env → Prop} : dropB false ε q = q ε := propext Iff.rfl
theorem dropB_t {l : Sl} {q : Env → Prop} : dropB true (l :: ε) q = q ε := propext Iff.rfl
theorem outK_nil {q : List T → Prop} : outK [] [] ε q = q [] := propext Iff.rfl
theorem outK_f {md : List Bool} {d : PyData} {ts : List T} {l : Sl} {q : List T → Prop} : outK (false :: md) (.sh d :: ts) (l :: ε) q = outK md ts ε fun os => q (.sh d :: os) := propext Iff.rfl
theorem outK_ins {md : List Bool} {a C' : Addr} {ms ms' : List Str} {us us' ts : List T} {q : List T → Prop} : outK (true :: md) (.ins a C ms us :: ts) (.is (.ins a C' ms' us') :: ε) q = outK md ts ε fun os => q (.ins a C' ms' us' :: os) := propext ⟨fun h => h.2.2, fun h => ⟨rfl, (fun z => nomatch z), h⟩⟩
theorem outK_rc {md : List Bool} {a : Addr} {ms ms' : List Str} {us us' ts : List T} {q : List T → Prop} : outK (true :: md) (.rc a ms us :: ts) (.is (.rc a ms' us') :: ε) q = outK md ts ε fun os => q (.rc a ms' us' :: os) := propext ⟨fun h => h.2.2, fun h => ⟨rfl, (fun z => nomatch z), h⟩⟩
theorem kids_lsa {a : Addr} {ts : List T} : (T.lsa a ts).kids = ts := rfl
theorem rekid_lsa {a : Addr} {ts us : List T} : (T.lsa a ts).rekid us = .lsa a us := rfl
theorem outK_lsa {md : List Bool} {a : Addr} {us us' ts : List T} {q : List T → Prop} : outK (true :: md) (.lsa a us :: ts) (.is (.lsa a us') :: ε) q = outK md ts ε fun os => q (.lsa a us' :: os) := propext ⟨fun h => h.2.2, fun h => ⟨rfl, (fun z => nomatch z), h⟩⟩
theorem envX_f {ts : List T} : envX false ts k = ts.map Sl.is ++ List.replicate k Sl.no := rfl
theorem envX_t {ts : List T} : envX true ts k = Sl.box :: (ts.map Sl.is ++ List.replicate k Sl.no) := rfl
end
end Cg
namespace Cg
open PySem PySem.Spec PyProof.Rows L2 Evl
/-- a method's def as it stands behind the top, and its promise -/
structure Dm (P : Program) (w : World) (K : PySem.W.Frag) (mg : Str → Option Value) (base : Heap) (k : Nat) (x q : Str) (st : Stmt) (ps : List Str) (f : Addr) (fd : FuncData) (sp : Sp) : Prop where
  F : Fun K x q st f fd
  G : FnOk P w K mg base CX0 k f fd ps sp
end Cg

set_option Elab.async false
set_option linter.all false
namespace Cg
open PySem PySem.Spec PyProof.Rows L2 Evl
/-! ### sorted(set(xs)) of a list of ints -/
section
variable {P : Program} {w : World} {A : Around} {E : Value → Shared → Prop} {s : Shared}
set_option maxRecDepth 100000 in
set_option maxHeartbeats 3200000 in
end
section
variable {X : Cx} {ta te : TE} {we : WE}
def wSortSet (we : WE) : WT := fun ε N R => we ε N fun d N1 => dList d fun ds => ∃ ns, intsOf ds = some ns ∧ ns.length < 64 ∧ ∀ ms : List Int, ms.Pairwise (· < ·) → (∀ k : Int, k ∈ ms ↔ k ∈ ns) → R (.lst ((ms.map PyData.int).map T.sh)) N1
theorem wSortSet_eq {ε : Env} {N : Nat} {R : T → Nat → Prop} : wSortSet we ε N R = we ε N fun d N1 => dList d fun ds => ∃ ns, intsOf ds = some ns ∧ ns.length < 64 ∧ ∀ ms : List Int, ms.Pairwise (· < ·) → (∀ k : Int, k ∈ ms ↔ k ∈ ns) → R (.lst ((ms.map PyData.int).map T.sh)) N1 := propext Iff.rfl
end
end Cg

set_option Elab.async false
set_option linter.all false
set_option maxRecDepth 100000
set_option maxHeartbeats 1000000
namespace Cg
open PySem PySem.Spec PyProof.Rows L2 Evl
/-! ### who is next, what is granted, what is accepted, how pointers pass -/
def hitB (ms : List Int) (p s : Nat) : Bool := ms.getD ((p + s) % ms.length) 0 == 1
def nxO (ms : List Int) (p : Nat) : Option Nat := ((List.range ms.length).find? (hitB ms p)).map fun s => (p + s) % ms.length
theorem nx_some {ms : List Int} {p i : Nat} (h : nxO ms p = some i) : i < ms.length ∧ ms.getD i 0 = 1 := by
  unfold nxO at h
  cases e : (List.range ms.length).find? (hitB ms p) with
  | none => rw [e] at h; cases h
  | some s =>
    rw [e] at h
    have h' : (p + s) % ms.length = i := Option.some.inj h
    have hs := List.find?_some e
    have hm := List.mem_range.mp (List.mem_of_find?_eq_some e)
    unfold hitB at hs
    rw [h'] at hs
    exact ⟨h' ▸ Nat.mod_lt _ (by omega), eq_of_beq hs⟩
def psN (parts : List Int) (q : Pr) (i : Nat) : Pr :=
  if (((if q.1 = i then q.2 + 1 else 1 : Nat) : Int) < parts.getD i 0) then (i, if q.1 = i then q.2 + 1 else 1) else ((i + 1) % parts.length, 0)
/-- what outlets grant: (outlet, inlet) -/
def grF (L : Mat) (qs : List Pr) (j : Nat) : Option Pr := (nxO (L.map fun r => r.getD j 0) (qs.getD j (0, 0)).1).map fun i => (j, i)
def grN (m : Nat) (L : Mat) (qs : List Pr) : List Pr := (List.range m).filterMap (grF L qs)
/-- what inlets accept: (inlet, outlet) -/
def acF (m : Nat) (G : List Pr) (pl : List Nat) (i : Nat) : Option Pr := (nxO ((List.range m).map fun j => if (j, i) ∈ G then (1 : Int) else 0) (pl.getD i 0)).map fun j => (i, j)
def acN (n m : Nat) (G : List Pr) (pl : List Nat) : List Pr := (List.range n).filterMap (acF m G pl)
/-- pointers and places behind -/
def mvF (m : Nat) (parts : Mat) (s : List Pr × List Nat) (p : Pr) : List Pr × List Nat := (s.1.set p.2 (psN (parts.getD p.2 []) (s.1.getD p.2 (0, 0)) p.1), s.2.set p.1 ((p.2 + 1) % m))
def mvN (m : Nat) (parts : Mat) (A : List Pr) (s : List Pr × List Nat) : List Pr × List Nat := A.foldl (mvF m parts) s
/-- what stands in a Grants of n inlets and m outlets -/
structure Gst (n m : Nat) (parts : Mat) (qs : List Pr) (pl : List Nat) : Prop where
  n1 : 1 ≤ n
  n2 : n ≤ 12
  m1 : 1 ≤ m
  m2 : m ≤ 12
  pa : parts.length = m ∧ ∀ r ∈ parts, r.length = n ∧ ∀ x ∈ r, 1 ≤ x ∧ x ≤ 9
  qs : qs.length = m ∧ ∀ q ∈ qs, q.1 < n
  pl : pl.length = n ∧ ∀ x ∈ pl, x < m
theorem Gst.part {n m j : Nat} {parts : Mat} {qs : List Pr} {pl : List Nat} (g : Gst n m parts qs pl) (h : j < m) : (parts.getD j []).length = n ∧ ∀ x ∈ parts.getD j [], 1 ≤ x ∧ x ≤ 9 := by
  have hl := g.pa.1 ▸ h
  rw [List.getD_eq_getElem?_getD, List.getElem?_eq_getElem hl]
  exact g.pa.2 _ (List.getElem_mem hl)
theorem psN_lt {ps : List Int} {q : Pr} {i : Nat} (h : i < ps.length) : (psN ps q i).1 < ps.length := by
  unfold psN
  by_cases hc : (((if q.1 = i then q.2 + 1 else 1 : Nat) : Int) < ps.getD i 0)
  · rw [if_pos hc]; exact h
  · rw [if_neg hc]; exact Nat.mod_lt _ (by omega)
theorem Gst.mv1 {n m : Nat} {parts : Mat} {s : List Pr × List Nat} {p : Pr} (g : Gst n m parts s.1 s.2) (hi : p.1 < n) (hj : p.2 < m) : Gst n m parts (mvF m parts s p).1 (mvF m parts s p).2 := by
  refine ⟨g.n1, g.n2, g.m1, g.m2, g.pa, ⟨by unfold mvF; rw [List.length_set]; exact g.qs.1, fun q hq => ?_⟩, ⟨by unfold mvF; rw [List.length_set]; exact g.pl.1, fun x hx => ?_⟩⟩
  · rcases List.mem_or_eq_of_mem_set hq with z | z
    · exact g.qs.2 q z
    · rw [z]
      have := psN_lt (ps := parts.getD p.2 []) (q := s.1.getD p.2 (0, 0)) (i := p.1) (by rw [(g.part hj).1]; exact hi)
      rw [(g.part hj).1] at this
      exact this
  · rcases List.mem_or_eq_of_mem_set hx with z | z
    · exact g.pl.2 x z
    · rw [z]; exact Nat.mod_lt _ (by have := g.m1; omega)
theorem Gst.mv {n m : Nat} {parts : Mat} : ∀ {A : List Pr} {s : List Pr × List Nat}, Gst n m parts s.1 s.2 → (∀ p ∈ A, p.1 < n ∧ p.2 < m) → Gst n m parts (mvN m parts A s).1 (mvN m parts A s).2
  | [], _, g, _ => g
  | p :: A, s, g, h => Gst.mv (A := A) (g.mv1 (h p (List.mem_cons_self ..)).1 (h p (List.mem_cons_self ..)).2) fun q hq => h q (List.mem_cons_of_mem _ hq)
theorem gr_mem {n m : Nat} {L : Mat} {qs : List Pr} {p : Pr} (hL : L.length = n) (h : p ∈ grN m L qs) : p.1 < m ∧ p.2 < n ∧ cell L p.2 p.1 = 1 := by
  obtain ⟨j, hj, e⟩ := List.mem_filterMap.mp h
  unfold grF at e
  cases z : nxO (L.map fun r => r.getD j 0) (qs.getD j (0, 0)).1 with
  | none => rw [z] at e; cases e
  | some i =>
    rw [z] at e
    have e' : (j, i) = p := Option.some.inj e
    subst e'
    obtain ⟨h1, h2⟩ := nx_some z
    rw [List.length_map] at h1
    refine ⟨List.mem_range.mp hj, hL ▸ h1, ?_⟩
    rw [List.getD_eq_getElem?_getD, List.getElem?_map, List.getElem?_eq_getElem h1] at h2
    unfold cell
    rw [List.getD_eq_getElem?_getD (l := L), List.getElem?_eq_getElem h1]
    exact h2
theorem ac_mem {n m : Nat} {G : List Pr} {pl : List Nat} {p : Pr} (h : p ∈ acN n m G pl) : p.1 < n ∧ p.2 < m ∧ (p.2, p.1) ∈ G := by
  obtain ⟨i, hi, e⟩ := List.mem_filterMap.mp h
  unfold acF at e
  cases z : nxO ((List.range m).map fun j => if (j, i) ∈ G then (1 : Int) else 0) (pl.getD i 0) with
  | none => rw [z] at e; cases e
  | some j =>
    rw [z] at e
    have e' : (i, j) = p := Option.some.inj e
    subst e'
    obtain ⟨h1, h2⟩ := nx_some z
    rw [List.length_map, List.length_range] at h1
    refine ⟨List.mem_range.mp hi, h1, ?_⟩
    rw [List.getD_eq_getElem?_getD, List.getElem?_map, List.getElem?_range h1] at h2
    have h3 : (if (j, i) ∈ G then (1 : Int) else 0) = 1 := h2
    by_cases hg : (j, i) ∈ G
    · exact hg
    · rw [if_neg hg] at h3; omega
end Cg
namespace Cg
open PySem PySem.Spec PyProof.Rows L2 Evl
/-! ### rounds of a beat -/
abbrev Rd2 := List Pr × List Pr
def nextL (A : List Pr) (L : Mat) : Mat := leftN (A.map (·.1)) (A.map (·.2)) L
/-- so many rounds at most, pointers and places as they are -/
def rdsP (n m : Nat) (qs : List Pr) (pl : List Nat) : Nat → Mat → List Rd2
  | 0, _ => []
  | r + 1, L => if grN m L qs = [] then [] else (grN m L qs, acN n m (grN m L qs) pl) :: rdsP n m qs pl r (nextL (acN n m (grN m L qs) pl) L)
/-- a beat: the first round moves them -/
def behP (n m : Nat) (parts : Mat) (r : Nat) (L : Mat) (qs : List Pr) (pl : List Nat) : List Pr × List Nat :=
  if r = 0 ∨ grN m L qs = [] then (qs, pl) else mvN m parts (acN n m (grN m L qs) pl) (qs, pl)
theorem nextL_size {n m : Nat} {A : List Pr} {L : Mat} (h : L.length = n ∧ ∀ x ∈ L, x.length = m) : (nextL A L).length = n ∧ ∀ x ∈ nextL A L, x.length = m := by
  refine ⟨(left_len ..).trans h.1, fun x hx => ?_⟩
  obtain ⟨r, hr, e⟩ := left_row hx
  rw [e]
  exact h.2 r hr
end Cg

set_option Elab.async false
set_option linter.all false
set_option maxRecDepth 100000
set_option maxHeartbeats 1000000
namespace Cg
open PySem PySem.Spec PyProof.Rows L2 Evl
end Cg

set_option Elab.async false
set_option linter.all false
set_option maxRecDepth 100000
set_option maxHeartbeats 1000000
namespace Cg
open PySem PySem.Spec PyProof.Rows L2 Evl
/-! ### sum(rows, []) -/
section
variable {prog : Program} {w : World} {A : Around} {R : Result → Shared → Prop} {E : Value → Shared → Prop} {I : Addr} {fp wr : List Addr} {n : Nat} {P : Nat → Value → Prop} {St : Nat → Heap → Prop}
end
section
variable {X : Cx}
end
end Cg

set_option Elab.async false
set_option linter.all false
set_option maxRecDepth 100000
set_option maxHeartbeats 1000000
namespace Cg
open PySem PySem.Spec PyProof.Rows L2 Evl
section
variable {n m : Nat} {parts : Mat} {qs : List Pr} {pl : List Nat} {L : Mat}
end
end Cg

set_option Elab.async false
set_option linter.all false
set_option maxRecDepth 100000
set_option maxHeartbeats 1000000
namespace Cg
open PySem PySem.Spec PyProof.Rows L2 Evl
/-! ### expressions that change slots, put together -/
def shT (t : T) (k : PyData → Prop) : Prop := match t with
  | .sh d => k d
  | _ => False
theorem shT_is {d : PyData} {k : PyData → Prop} : shT (.sh d) k = k d := propext Iff.rfl
def allSh : List T → (List PyData → Prop) → Prop
  | [], k => k []
  | t :: ts, k => shT t fun d => allSh ts fun ds => k (d :: ds)
theorem allSh_nil {k : List PyData → Prop} : allSh [] k = k [] := propext Iff.rfl
theorem allSh_cons {t : T} {ts : List T} {k : List PyData → Prop} : allSh (t :: ts) k = shT t fun d => allSh ts fun ds => k (d :: ds) := propext Iff.rfl
section
variable {c : Base} {b bs cs F A B : List Addr} {σ τ : L2.St} {H H1 H2 H' : Hp} {ε δ : Env} {N N1 N2 N' : Nat} {u v : V} {t s : T} {d : PyData}
theorem Rel.onD (r : Rel c bs F σ H ε N) (h : Dq (hid bs H) v d) : Rel c bs (F ++ []) (σ ++ [some v]) H (ε ++ [.is (.sh d)]) N := r.pend (.sh h) List.nodup_nil fun _ z => nomatch z
/-- a slot in the midst, taken out -/
theorem Rel.mid {x : Option V} {l : Sl} (r : Rel c bs F ((σ ++ [x]) ++ τ) H ((ε ++ [l]) ++ δ) N) (hs : σ.length = ε.length) : ∃ G, Rel c bs G (σ ++ τ) H (ε ++ δ) N := by
  obtain ⟨F1, F2, rfl, p, q⟩ := RelE.unapp (by rw [List.length_append, List.length_append, hs]; rfl) r.env
  obtain ⟨F3, F4, rfl, p1, _⟩ := RelE.unapp hs p
  refine ⟨F3 ++ F2, r.sub' (RelE.app q p1) ?_⟩
  rw [List.append_assoc]
  exact List.Sublist.append (List.Sublist.refl _) (List.sublist_append_right ..)
end
section
variable {K : PySem.W.Frag} {ta tb te tp : TE} {wa wb wx : WX} {we : WE} {wt : WT} {C : Addr} {ns : List Str} {f m : Str} {k i : Nat} {tas tks : TA} {was wks : WA} {wp : WP} {ws : WXs} {t u : TT} {w w' : WB}
/-- a op b -/
def wXOp (o : O2) (wa wb : WX) : WX := fun ε N R => wa ε N fun t ε1 N1 => wb ε1 N1 fun s ε2 N2 => shT t fun d => shT s fun e => o d e fun f => R (.sh f) ε2 N2
/-- built-ins -/
def wXCb (o : OC) (ws : WXs) : WX := fun ε N R => ws ε N fun ts ε' N' => allSh ts fun ds => o ds fun f => R (.sh f) ε' N'
def wXUn (o : O1) (wx : WX) : WX := fun ε N R => wx ε N fun t ε' N' => shT t fun d => o d fun f => R (.sh f) ε' N'
/-- displays of data -/
def wXLst (ws : WXs) : WX := fun ε N R => ws ε N fun ts ε' N' => allSh ts fun ds => ds.length ≤ 100000 ∧ R (.sh (.list ds)) ε' N'
def wXTup (ws : WXs) : WX := fun ε N R => ws ε N fun ts ε' N' => allSh ts fun ds => ds.length ≤ 100000 ∧ R (.sh (.tuple ds)) ε' N'
def wXCall (f : WF) (ws : WXs) : WX := fun ε N R => ws ε N fun ts ε' N' => allSh ts fun ds => f ds 0 fun t _ => R t ε' N'
def wXCallB (i : Nat) (f : WF) (ws : WXs) : WX := fun ε N R => isBox ε i = true ∧ ws ε N fun ts ε' N' => allSh ts fun ds => f ds N' fun t N2 => R t ε' N2
/-! methods of what is told just now -/
def wXMeth (C : Addr) (ns : List Str) (f : WFX) (g : List PyData → List PyData → List PyData) (n kn nn : Nat) (wx : WX) (was wks : WA) : WX := fun ε N R => wx ε N fun t ε1 N1 => isIns C ns t fun _ => was ε1 N1 fun ds N2 => wks ε1 N2 fun es N3 =>
  (ds.length + 1 = n ∧ es.length = kn ∧ (g ds es).length + 1 = nn) ∧ f (t :: (g ds es).map T.sh) 0 fun ret os _ => ∃ s', os[0]? = some s' ∧ R ret ε1 N3
/-- .. that reads alone -/
def wXMethV (C : Addr) (ns : List Str) (f : WF) (dds : List PyData) (wx : WX) (was : WA) : WX := fun ε N R => wx ε N fun t ε1 N1 => shT t fun d => (∃ rs, d = recD (.int (C : Int)) ns rs) ∧ was ε1 N1 fun ds N2 => f (d :: (ds ++ dds)) 0 fun t _ => R t ε1 N2
/-! ### tests -/
abbrev WXB := Env → Nat → (Bool → Env → Nat → Prop) → Prop
def wXB (w : WB) : WXB := fun ε N R => w ε N fun b N' => R b ε N'
def wXTest (wx : WX) : WXB := fun ε N R => wx ε N fun t ε' N' => shT t fun d => ∃ b, d = .bool b ∧ R b ε' N'
def wXTru (wx : WX) : WXB := fun ε N R => wx ε N fun t ε' N' => shT t fun d => ∃ b, truD d = some b ∧ R b ε' N'
def wXNot (w : WXB) : WXB := fun ε N R => w ε N fun b ε' N' => R (!b) ε' N'
def wXAnd (w w' : WXB) : WXB := fun ε N R => w ε N fun b ε1 N1 => bIf b (w' ε1 N1 R) (R false ε1 N1)
def wXOr (w w' : WXB) : WXB := fun ε N R => w ε N fun b ε1 N1 => bIf b (R true ε1 N1) (w' ε1 N1 R)
def wXIfS (w : WXB) (ws wu : WS) : WS := fun D ε N => w ε N fun b ε' N' => bIf b (ws D ε' N') (wu D ε' N')
/-- .. as values -/
def wXAndV (wa wb : WX) : WX := fun ε N R => wa ε N fun t ε1 N1 => shT t fun d => ∃ b, d = .bool b ∧ bIf b (wb ε1 N1 R) (R (.sh (.bool false)) ε1 N1)
def wXOrV (wa wb : WX) : WX := fun ε N R => wa ε N fun t ε1 N1 => shT t fun d => ∃ b, d = .bool b ∧ bIf b (R (.sh (.bool true)) ε1 N1) (wb ε1 N1 R)
def wXNotV (wa : WX) : WX := fun ε N R => wa ε N fun t ε1 N1 => shT t fun d => ∃ b, d = .bool b ∧ R (.sh (.bool !b)) ε1 N1
def wXIf (w : WXB) (wa wb : WX) : WX := fun ε N R => w ε N fun b ε1 N1 => bIf b (wa ε1 N1 R) (wb ε1 N1 R)
/-! ### statements -/
/-- return e in a def that changes nothing of others -/
def wRetXV (wx : WX) : WS := fun D ε N => wx ε N fun t _ N' => D.rt t N'
/-- x, y = e, data -/
def wAsgXG (wx : WX) (wg : WG) : WS := fun D ε N => wx ε N fun t ε' N' => shT t fun d => wg d ε' fun ε2 => D.nx ε2 N'
/-- for .. in e, e a list or a tuple -/
def wForX (wx : WX) (wg : WG) (wb : WS) : WS := fun D ε N => wx ε N fun t ε1 N1 => shT t fun d => wFor (wIt (wC d)) wg wb D ε1 N1
end
/-! ### equations -/
section
variable {wa wb wx : WX} {we : WE} {wt : WT} {C : Addr} {ns : List Str} {k i n kn nn : Nat} {was wks : WA} {ws : WXs} {w : WB} {wxb wyb : WXB} {ε : Env} {N : Nat} {D : EW} {fx : WFX} {fw : WF} {g : List PyData → List PyData → List PyData} {dds : List PyData} {wg : WG} {wu wv : WS}
theorem wXOp_eq {o : O2} {R : T → Env → Nat → Prop} : wXOp o wa wb ε N R = wa ε N fun t ε1 N1 => wb ε1 N1 fun s ε2 N2 => shT t fun d => shT s fun e => o d e fun f => R (.sh f) ε2 N2 := propext Iff.rfl
theorem wXCb_eq {o : OC} {R : T → Env → Nat → Prop} : wXCb o ws ε N R = ws ε N fun ts ε' N' => allSh ts fun ds => o ds fun f => R (.sh f) ε' N' := propext Iff.rfl
theorem wXUn_eq {o : O1} {R : T → Env → Nat → Prop} : wXUn o wx ε N R = wx ε N fun t ε' N' => shT t fun d => o d fun f => R (.sh f) ε' N' := propext Iff.rfl
theorem wXLst_eq {R : T → Env → Nat → Prop} : wXLst ws ε N R = ws ε N fun ts ε' N' => allSh ts fun ds => ds.length ≤ 100000 ∧ R (.sh (.list ds)) ε' N' := propext Iff.rfl
theorem wXTup_eq {R : T → Env → Nat → Prop} : wXTup ws ε N R = ws ε N fun ts ε' N' => allSh ts fun ds => ds.length ≤ 100000 ∧ R (.sh (.tuple ds)) ε' N' := propext Iff.rfl
theorem wXCall_eq {R : T → Env → Nat → Prop} : wXCall fw ws ε N R = ws ε N fun ts ε' N' => allSh ts fun ds => fw ds 0 fun t _ => R t ε' N' := propext Iff.rfl
theorem wXCallB_eq {R : T → Env → Nat → Prop} : wXCallB i fw ws ε N R = (isBox ε i = true ∧ ws ε N fun ts ε' N' => allSh ts fun ds => fw ds N' fun t N2 => R t ε' N2) := propext Iff.rfl
theorem wXMeth_eq {R : T → Env → Nat → Prop} : wXMeth C ns fx g n kn nn wx was wks ε N R = wx ε N fun t ε1 N1 => isIns C ns t fun _ => was ε1 N1 fun ds N2 => wks ε1 N2 fun es N3 => (ds.length + 1 = n ∧ es.length = kn ∧ (g ds es).length + 1 = nn) ∧ fx (t :: (g ds es).map T.sh) 0 fun ret os _ => ∃ s', os[0]? = some s' ∧ R ret ε1 N3 := propext Iff.rfl
theorem wXMethV_eq {R : T → Env → Nat → Prop} : wXMethV C ns fw dds wx was ε N R = wx ε N fun t ε1 N1 => shT t fun d => (∃ rs, d = recD (.int (C : Int)) ns rs) ∧ was ε1 N1 fun ds N2 => fw (d :: (ds ++ dds)) 0 fun t _ => R t ε1 N2 := propext Iff.rfl
theorem wXB_eq {R : Bool → Env → Nat → Prop} : wXB w ε N R = w ε N fun b N' => R b ε N' := propext Iff.rfl
theorem dBool_ex {d : PyData} {q : Bool → Prop} : (∃ b, d = .bool b ∧ q b) = dBool d q := propext ⟨fun ⟨b, e, h⟩ => by rw [e]; exact h, fun h => by
  unfold dBool at h
  split at h
  · exact ⟨_, rfl, h⟩
  · exact h.elim⟩
theorem wXTest_eq {R : Bool → Env → Nat → Prop} : wXTest wx ε N R = wx ε N fun t ε' N' => shT t fun d => dBool d fun b => R b ε' N' := by
  unfold wXTest
  simp only [dBool_ex]
theorem dTru_ex {d : PyData} {q : Bool → Prop} : (∃ b, truD d = some b ∧ q b) = dTru d q := propext ⟨fun ⟨b, e, h⟩ => by unfold dTru; rw [e]; exact h, fun h => by
  unfold dTru at h
  split at h
  · rename_i b e; exact ⟨b, e, h⟩
  · exact h.elim⟩
theorem wXTru_eq {R : Bool → Env → Nat → Prop} : wXTru wx ε N R = wx ε N fun t ε' N' => shT t fun d => dTru d fun b => R b ε' N' := by
  unfold wXTru
  simp only [dTru_ex]
theorem wXNot_eq {R : Bool → Env → Nat → Prop} : wXNot wxb ε N R = wxb ε N fun b ε' N' => R (!b) ε' N' := propext Iff.rfl
theorem wXAnd_eq {R : Bool → Env → Nat → Prop} : wXAnd wxb wyb ε N R = wxb ε N fun b ε1 N1 => bIf b (wyb ε1 N1 R) (R false ε1 N1) := propext Iff.rfl
theorem wXOr_eq {R : Bool → Env → Nat → Prop} : wXOr wxb wyb ε N R = wxb ε N fun b ε1 N1 => bIf b (R true ε1 N1) (wyb ε1 N1 R) := propext Iff.rfl
theorem wXIfS_eq : wXIfS wxb wu wv D ε N = wxb ε N fun b ε' N' => bIf b (wu D ε' N') (wv D ε' N') := propext Iff.rfl
theorem wXAndV_eq {R : T → Env → Nat → Prop} : wXAndV wa wb ε N R = wa ε N fun t ε1 N1 => shT t fun d => dBool d fun b => bIf b (wb ε1 N1 R) (R (.sh (.bool false)) ε1 N1) := by
  unfold wXAndV
  simp only [dBool_ex]
theorem wXOrV_eq {R : T → Env → Nat → Prop} : wXOrV wa wb ε N R = wa ε N fun t ε1 N1 => shT t fun d => dBool d fun b => bIf b (R (.sh (.bool true)) ε1 N1) (wb ε1 N1 R) := by
  unfold wXOrV
  simp only [dBool_ex]
theorem wXNotV_eq {R : T → Env → Nat → Prop} : wXNotV wa ε N R = wa ε N fun t ε1 N1 => shT t fun d => dBool d fun b => R (.sh (.bool !b)) ε1 N1 := by
  unfold wXNotV
  simp only [dBool_ex]
theorem wXIf_eq {R : T → Env → Nat → Prop} : wXIf wxb wa wb ε N R = wxb ε N fun b ε1 N1 => bIf b (wa ε1 N1 R) (wb ε1 N1 R) := propext Iff.rfl
theorem wRetXV_eq : wRetXV wx D ε N = wx ε N fun t _ N' => D.rt t N' := propext Iff.rfl
theorem wAsgXG_eq : wAsgXG wx wg D ε N = wx ε N fun t ε' N' => shT t fun d => wg d ε' fun ε2 => D.nx ε2 N' := propext Iff.rfl
theorem wForX_eq : wForX wx wg wu D ε N = wx ε N fun t ε1 N1 => shT t fun d => wFor (wIt (wC d)) wg wu D ε1 N1 := propext Iff.rfl
end
end Cg

set_option Elab.async false
set_option linter.all false
set_option maxRecDepth 100000
set_option maxHeartbeats 1000000
namespace Cg
open PySem PySem.Spec PyProof.Rows L2 Evl
/-! ### a law that walks over boxes, and ends somehow: what stands behind the box, by value -/
end Cg

set_option Elab.async false
set_option linter.all false
set_option maxRecDepth 100000
set_option maxHeartbeats 1000000
namespace Cg
open PySem PySem.Spec PyProof.Rows L2 Evl
/-! ### accepts of rounds -/
def accP (rs : List Rd2) : List Pr := rs.flatMap (·.2)
theorem accP_cons {x : Rd2} {rs : List Rd2} : accP (x :: rs) = x.2 ++ accP rs := rfl
theorem cell_left {I O : List Nat} {M : Mat} {i j : Nat} : cell (leftN I O M) i j = 1 ↔ cell M i j = 1 ∧ cutB I O i j = false := by
  have := mem_asks (M := leftN I O M) (p := (i, j))
  rw [← this, asks_left_eq, List.mem_filter, mem_asks]
  simp
theorem cut_f {I O : List Nat} {i j : Nat} : cutB I O i j = false ↔ i ∉ I ∧ j ∉ O := by
  unfold cutB
  simp
section
variable {n m : Nat} {parts : Mat} {q q' qs : List Pr} {p p' pl : List Nat} {L : Mat} {G A : List Pr}
abbrev SzM (n m : Nat) (L : Mat) : Prop := L.length = n ∧ ∀ x ∈ L, x.length = m
theorem cell_bd (h : SzM n m L) {i j : Nat} (hc : cell L i j = 1) : i < n ∧ j < m := by
  obtain ⟨h1, h2⟩ := cell_lt hc
  refine ⟨h.1 ▸ h1, ?_⟩
  rw [List.getD_eq_getElem?_getD, List.getElem?_eq_getElem h1, Option.getD_some, h.2 _ (List.getElem_mem h1)] at h2
  exact h2
theorem gr_fun {j i i' : Nat} (h : (j, i) ∈ grN m L q) (h' : (j, i') ∈ grN m L q) : i = i' := by
  obtain ⟨a, _, e⟩ := List.mem_filterMap.mp h
  obtain ⟨b, _, e'⟩ := List.mem_filterMap.mp h'
  have fst : ∀ {a : Nat} {x : Pr}, grF L q a = some x → x.1 = a := fun {a x} e => by
    unfold grF at e
    cases z : nxO (L.map fun r => r.getD a 0) (q.getD a (0, 0)).1 with
    | none => rw [z] at e; cases e
    | some i => rw [z] at e; cases e; rfl
  have e1 := fst e
  have e2 := fst e'
  have e3 : a = b := e1.symm.trans e2
  subst e3
  rw [e] at e'
  injection e' with e'
  injection e' with _ e'
theorem ac_rising : (acN n m G p).Pairwise fun x y => x.1 < y.1 := by
  unfold acN
  rw [List.pairwise_filterMap]
  refine List.pairwise_lt_range.imp fun {a b} hab x hx y hy => ?_
  have fst : ∀ {a : Nat} {x : Pr}, acF m G p a = some x → x.1 = a := fun {a x} e => by
    unfold acF at e
    cases z : nxO ((List.range m).map fun j => if (j, a) ∈ G then (1 : Int) else 0) (p.getD a 0) with
    | none => rw [z] at e; cases e
    | some i => rw [z] at e; cases e; rfl
  rw [fst hx, fst hy]
  exact hab
theorem ac_apart : Apart (acN n m (grN m L q) p) := by
  have h := ac_rising (n := n) (m := m) (G := grN m L q) (p := p)
  refine List.Pairwise.imp_of_mem (fun {a b} ha hb hab => ⟨Nat.ne_of_lt hab, fun e => ?_⟩) h
  have h1 := (ac_mem ha).2.2
  have h2 := (ac_mem hb).2.2
  rw [e] at h1
  have := gr_fun h1 h2
  omega
theorem ac_cell (hL : L.length = n) {x : Pr} (hx : x ∈ acN n m (grN m L q) p) : x.1 < n ∧ x.2 < m ∧ cell L x.1 x.2 = 1 := by
  obtain ⟨h1, h2, h3⟩ := ac_mem hx
  exact ⟨h1, h2, (gr_mem hL h3).2.2⟩
/-! pointers of those that stand in no pair stay -/
theorem next_cell {i j : Nat} : cell (nextL A L) i j = 1 ↔ cell L i j = 1 ∧ i ∉ Ks A ∧ j ∉ Vs A := by
  unfold nextL
  rw [cell_left, cut_f]
  rfl
/-! what is accepted -/
theorem acc_cell : ∀ {r : Nat} {L : Mat}, SzM n m L → ∀ x ∈ accP (rdsP n m q p r L), x.1 < n ∧ x.2 < m ∧ cell L x.1 x.2 = 1
  | 0, _, _ => fun _ z => nomatch z
  | r + 1, L, hL => fun x hx => by
    have hx' : x ∈ accP (if grN m L q = [] then [] else (grN m L q, acN n m (grN m L q) p) :: rdsP n m q p r (nextL (acN n m (grN m L q) p) L)) := hx
    by_cases hG : grN m L q = []
    · rw [if_pos hG] at hx'; cases hx'
    · rw [if_neg hG, accP_cons] at hx'
      rcases List.mem_append.mp hx' with h | h
      · exact ac_cell hL.1 h
      · obtain ⟨h1, h2, h3⟩ := acc_cell (nextL_size hL) x h
        exact ⟨h1, h2, (next_cell.mp h3).1⟩
theorem acc_apart : ∀ {r : Nat} {L : Mat}, SzM n m L → Apart (accP (rdsP n m q p r L))
  | 0, _, _ => List.Pairwise.nil
  | r + 1, L, hL => by
    show Apart (accP (if grN m L q = [] then [] else (grN m L q, acN n m (grN m L q) p) :: rdsP n m q p r (nextL (acN n m (grN m L q) p) L)))
    by_cases hG : grN m L q = []
    · rw [if_pos hG]; exact List.Pairwise.nil
    · rw [if_neg hG, accP_cons]
      refine List.pairwise_append.mpr ⟨ac_apart, acc_apart (nextL_size hL), fun a ha b hb => ?_⟩
      obtain ⟨_, _, h3⟩ := acc_cell (nextL_size hL) b hb
      obtain ⟨_, h4, h5⟩ := next_cell.mp h3
      exact ⟨fun e => h4 (mem_ks.mpr ⟨a.2, by rw [← e]; exact ha⟩), fun e => h5 (mem_vs.mpr ⟨a.1, by rw [← e]; exact ha⟩)⟩
theorem beh_gst {r : Nat} (g : Gst n m parts q p) : Gst n m parts (behP n m parts r L q p).1 (behP n m parts r L q p).2 := by
  unfold behP
  split
  · exact g
  · exact Gst.mv (s := (q, p)) g fun x hx => ⟨(ac_mem hx).1, (ac_mem hx).2.1⟩
theorem prs_rds {r : Nat} (hL : SzM n m L) : Prs L (sortF (accP (rdsP n m q p r L))) := by
  have h := apart_iff.mp (acc_apart (q := q) (p := p) (r := r) hL)
  exact sort_prs h.1 h.2 fun x hx => (acc_cell hL x hx).2.2
end
end Cg

set_option Elab.async false
set_option linter.all false
set_option maxRecDepth 100000
set_option maxHeartbeats 1000000
namespace Cg
open PySem PySem.Spec PyProof.Rows L2 Evl
/-! ### a round more; full pairs and the most; asks that go -/
section
variable {n m : Nat} {parts : Mat} {q qs : List Pr} {p pl : List Nat} {L M : Mat}
/-! one ask less -/
def zero1 (M : Mat) (x : Pr) : Mat := M.set x.1 ((M.getD x.1 []).set x.2 0)
theorem zero_cell {x : Pr} {i j : Nat} : cell (zero1 M x) i j = 1 ↔ cell M i j = 1 ∧ (i, j) ≠ x := by
  unfold zero1 cell
  simp only [List.getD_eq_getElem?_getD]
  by_cases hi : x.1 = i
  · subst hi
    by_cases hx : x.1 < M.length
    · rw [List.getElem?_set_self hx, List.getElem?_eq_getElem hx]
      simp only [Option.getD_some]
      by_cases hj : x.2 = j
      · subst hj
        by_cases hy : x.2 < (M[x.1]).length
        · rw [List.getElem?_set_self hy]
          simp
        · rw [List.getElem?_eq_none (by rw [List.length_set]; omega), List.getElem?_eq_none (by omega)]
          simp
      · rw [List.getElem?_set_ne hj]
        exact ⟨fun h => ⟨h, fun z => hj (by rw [← z])⟩, fun h => h.1⟩
    · rw [List.set_eq_of_length_le (by omega)]
      have : M[x.1]? = none := List.getElem?_eq_none (by omega)
      rw [this]
      simp
  · rw [List.getElem?_set_ne hi]
    exact ⟨fun h => ⟨h, fun z => hi (by rw [← z])⟩, fun h => h.1⟩
theorem asks_nodup (M : Mat) : (asksN M).Nodup := (asks_lex M).imp fun {a b} h e => by
  subst e
  unfold lexN at h
  omega
theorem zero_le {x : Pr} : (asksN (zero1 M x)).length ≤ (asksN M).length := sub_len (asks_nodup _) fun y hy => mem_asks.mpr (zero_cell.mp (mem_asks.mp hy)).1
end
end Cg

set_option Elab.async false
set_option linter.all false
set_option maxRecDepth 100000
set_option maxHeartbeats 1000000
namespace Cg
open PySem PySem.Spec PyProof.Rows L2 Evl
end Cg

set_option Elab.async false
set_option linter.all false
set_option maxRecDepth 100000
set_option maxHeartbeats 1000000
namespace Cg
open PySem PySem.Spec PyProof.Rows L2 Evl
/-! ### what is ahead of an ask -/
/-! ### a pointer whose place is always granted its own: it goes round by shares -/
section
variable {ps : List Int}
end
section
variable {n m : Nat}
end
end Cg

set_option Elab.async false
set_option linter.all false
set_option maxRecDepth 100000
set_option maxHeartbeats 1000000
namespace Cg
open PySem PySem.Spec PyProof.Rows L2 Evl
/-! ### tuples made by tuple(..): it is known that they have no dict, so their methods may be called -/
section
variable {X : Cx} {ta : TE}
variable {o e : Expr} {es : List Expr} {to : TE} {t : TA} {name : Str} {apos cpos : Pos} {id : String} {r : V → List V → Hp → VK → Prop}
end
/-! by value -/
section
variable {ta : TE} {we : WE} {tas : TA} {was : WA}
end
/-! ### range(a, b, -1) -/
section
variable {hs : List Addr} {H : Hp} {ta tb tc : TE} {wa wb wc : WE} {ε : Env} {N : Nat}
end
end Cg

set_option Elab.async false
set_option linter.all false
set_option maxRecDepth 100000
set_option maxHeartbeats 1000000
namespace Cg
open PySem PySem.Spec PyProof.Rows L2 Evl
/-! ### len(set(xs)), xs tuples of ints, no two alike -/
section
variable {X : Cx} {ta : TE} {we : WE}
end
end Cg

set_option Elab.async false
set_option linter.all false
set_option maxRecDepth 100000
set_option maxHeartbeats 1000000
namespace Cg
open PySem PySem.Spec PyProof.Rows L2 Evl
/-! ### str of a list or a tuple of data, where no repr is under way -/
def isSq (d : PyData) : Bool := isList d || isTuple d
def oStr : OC
  | [d], S => (isSq d = true ∧ okD d = true ∧ d.depth ≤ 40 ∧ wz d ≤ 1000000) ∧ S (.str d.shown)
  | _, _ => False
theorem oStr_list {xs : List PyData} {S : PyData → Prop} : oStr [.list xs] S = ((okD (.list xs) = true ∧ (PyData.list xs).depth ≤ 40 ∧ wz (.list xs) ≤ 1000000) ∧ S (.str (PyData.list xs).shown)) := by
  apply propext
  show ((isSq (.list xs) = true ∧ _) ∧ _) ↔ _
  rw [show isSq (.list xs) = true from rfl]
  simp only [true_and]
theorem oStr_tup {xs : List PyData} {S : PyData → Prop} : oStr [.tuple xs] S = ((okD (.tuple xs) = true ∧ (PyData.tuple xs).depth ≤ 40 ∧ wz (.tuple xs) ≤ 1000000) ∧ S (.str (PyData.tuple xs).shown)) := by
  apply propext
  show ((isSq (.tuple xs) = true ∧ _) ∧ _) ↔ _
  rw [show isSq (.tuple xs) = true from rfl]
  simp only [true_and]
end Cg

set_option Elab.async false
set_option linter.all false
set_option maxRecDepth 100000
set_option maxHeartbeats 1000000
namespace Cg
open PySem PySem.Spec PyProof.Rows L2 Evl
/-! ### lists at places, changed by their methods; other names of what stands at a place -/
section
variable {c : Base} {b bs cs F A B : List Addr} {σ τ : L2.St} {H H1 H2 H' : Hp} {ε δ : Env} {N N1 N2 N' : Nat} {u v : V} {t s : T} {d : PyData} {i : Nat} {π : List Nat} {ts : List T}
/-- a list at a place, and another one put there -/
theorem Rel.lstP (r : Rel c bs F σ H ε N) (h1 : σ[i]? = some (some v)) (h2 : ε[i]? = some (.is t)) (h3 : atP π t = some s) (h4 : VAt H v π u) (es : s = .lst ts ∨ ∃ a, s = .lsa a ts) :
    ∃ a vs A, u = .ref a ∧ H a = some (.lst vs) ∧ RepL bs H vs ts A ∧ A.Nodup ∧ a ∉ A ∧ a ∈ F ∧ (∀ x ∈ A, x ∈ F) ∧
    ∀ {us : List V} {ws : List T} {A' : List Addr}, RepL bs H us ws A' → A'.Nodup → a ∉ A' → (∀ x ∈ A', x ∈ A ∨ (x ∈ bs ∧ x ∉ F ∧ c.P x = none ∧ x ∉ c.bs0)) → ∃ F', Rel c bs F' σ (upd H a (.lst us)) (putAt ε i π (s.rekid ws)) N ∧ ∀ x ∈ F', (x ∈ F ∧ x ∉ a :: A) ∨ x ∈ a :: A' := by
  obtain ⟨B, rB, nB, sB, back⟩ := r.chgP h2 h1 h3 h4
  obtain ⟨a, vs, A, rfl, rfl, e, hl, mk⟩ := rB.ofL es
  obtain ⟨na, nA⟩ := List.nodup_cons.mp nB
  refine ⟨a, vs, A, rfl, e, hl, nA, na, sB a (List.mem_cons_self ..), fun x hx => sB x (List.mem_cons_of_mem _ hx), fun {us ws A'} hr nd na' hA => ?_⟩
  have abs : a ∈ bs := r.sub a (sB a (List.mem_cons_self ..))
  have kk : Same (hid bs H) (hid bs (upd H a (.lst us))) := (Keep.refl _ _).put abs
  obtain ⟨F', r', hF⟩ := back (cs := bs) (H' := upd H a (.lst us)) (N' := N) ((Keep.refl _ _).put (List.mem_append_left _ (List.mem_cons_self ..))) (fun x hx => (r.box x hx).put fun z => r.fb a (sB a (List.mem_cons_self ..)) (z ▸ hx)) (fun x hx => .inl hx) (fun x hx _ => hx) (fun x hx => by
    by_cases hxa : x = a
    · subst hxa; rw [upd_same]; exact fun z => nomatch z
    · rw [upd_ne hxa]; exact r.live x hx) (fun x hx xs z => by
    by_cases hxa : x = a
    · subst hxa; rw [upd_same] at z; cases z; trivial
    · rw [upd_ne hxa] at z; exact r.nt x hx xs z) (fun x hx => by
      rcases List.mem_cons.mp hx with rfl | hx
      · exact ⟨abs, .inl (List.mem_cons_self ..)⟩
      · exact (hA x hx).elim (fun z => ⟨r.sub x (sB x (List.mem_cons_of_mem _ z)), .inl (List.mem_cons_of_mem _ z)⟩) fun z => ⟨z.1, .inr z.2⟩) (List.nodup_cons.mpr ⟨na', nd⟩) (mk upd_same (hr.chg r.nt kk fun z hz y e => by rw [upd_ne (fun (q : z = a) => na' (q ▸ hz))]; exact e))
  refine ⟨F', ?_, hF⟩
  unfold putAt
  rw [h2]
  exact r'
theorem putAt_app (h : i < ε.length) : putAt (ε ++ δ) i π s = putAt ε i π s ++ δ := by
  unfold putAt
  rw [List.getElem?_append_left h]
  cases ε[i]? with
  | none => rfl
  | some l =>
    cases l with
    | is t => exact List.set_append_left _ _ h
    | _ => rfl
theorem len_putAt : (putAt ε i π s).length = ε.length := by
  unfold putAt
  split
  · rw [List.length_set]
  · rfl
end
section
variable {K : PySem.W.Frag} {te tp ta tk : TE} {we wk : WE} {wt : WT} {i j : Nat} {wp : WP}
/-- p.append(e) -/
def wPlApp (i : Nat) (wp : WP) (wt : WT) : WX := fun ε N R => wp ε N fun π N1 => atPl ε i π fun s => isLst s fun ts => wt ε N1 fun x N2 => ts.length ≤ 100000 ∧ R (.sh .none) (putAt ε i π (s.rekid (ts ++ [x]))) N2
theorem sim_plApp (hp : SimP tp i wp) (h : SimT te wt) : SimX (tBM K "list" rAppend tp (tCons te tNil)) (wPlApp i wp wt) := fun {c bs F σ τ H ε δ N R Q} hl r ww q => by
  obtain ⟨G, r0, hG⟩ := r.cut hl
  refine hp r0 ww fun u π N1 H1 v0 t s w1 o1 h1 h2 h3 h4 => ?_
  obtain ⟨t', s', g1, g2, ts, es, w1⟩ := atPl_some w1
  rw [h2] at g1
  cases g1
  rw [h3] at g2
  cases g2
  have il : i < ε.length := (List.getElem?_eq_some_iff.mp h2).1
  have h1' : (σ ++ τ)[i]? = some (some v0) := by rw [List.getElem?_append_left (hl ▸ il)]; exact h1
  have h2' : (ε ++ δ)[i]? = some (.is t) := by rw [List.getElem?_append_left il]; exact h2
  obtain ⟨B0, hr0⟩ := place_rep (r0.out o1) h1 h2 h3 h4
  obtain ⟨a0, vs0, _, rfl, _, e0, _, _⟩ := hr0.ofL es
  refine ⟨.inl ⟨rfl, vs0, SqL.of e0⟩, h (r0.out o1) w1 fun v x B N2 H2 hR o2 n2 => ?_⟩
  have rf := (r.out o1).hide o2 n2.new n2.rep.own
  have h4' := place_out (r0.out o1) o2 h1 h2 h3 h4
  obtain ⟨a, vs, A, ea, e, hv, nA, na, aF, AF, back⟩ := rf.lstP h1' h2' h3 h4' es
  cases ea
  have dis : ∀ x ∈ a0 :: A, x ∉ B := fun x hx z => by
    have hx' : x ∈ F := by
      rcases List.mem_cons.mp hx with rfl | hx
      · exact aF
      · exact AF x hx
    exact (r.out o1).live x (r.sub x hx') (n2.new x z)
  obtain ⟨F', r3, _⟩ := back (hv.append (RepL.one n2.rep)) (nodup_app nA n2.nd fun x hx => dis x (List.mem_cons_of_mem _ hx)) (fun z => (List.mem_append.mp z).elim na fun z => dis a0 (List.mem_cons_self ..) z) (fun x hx => (List.mem_append.mp hx).elim .inl fun z => .inr (nw_fact (r.out o1) (n2.new x z) z))
  refine ⟨a0, vs, v, rfl, rfl, e, by rw [hv.len]; exact Nat.lt_of_le_of_lt hR.1 (by decide), ?_⟩
  rw [putAt_app il] at r3
  exact q .non (.sh .none) _ N2 _ _ _ hR.2 len_putAt (r3.onD .non)
/-- p.extend(e), e data -/
def wPlExt (i : Nat) (wp : WP) (we : WE) : WX := fun ε N R => wp ε N fun π N1 => atPl ε i π fun s => isLst s fun ts => we ε N1 fun d N2 => dList d fun ds => ts.length + ds.length ≤ 100000 ∧ R (.sh .none) (putAt ε i π (s.rekid (ts ++ ds.map T.sh))) N2
/-- p.pop(k) -/
def wPlPop (i : Nat) (wp : WP) (wk : WE) : WX := fun ε N R => wp ε N fun π N1 => atPl ε i π fun s => isLst s fun ts => wk ε N1 fun d N2 => dInt d fun k => (0 ≤ k ∧ k ≤ 1000000) ∧ ∃ x, ts[k.toNat]? = some x ∧ R x (putAt ε i π (s.rekid (ts.eraseIdx k.toNat))) N2
end
end Cg

set_option Elab.async false
set_option linter.all false
set_option maxRecDepth 100000
set_option maxHeartbeats 1000000
namespace Cg
open PySem PySem.Spec PyProof.Rows L2 Evl
/-! ### own things lent to a call: all slots but one are data meanwhile -/
def lendE : Nat → Env → Env
  | _, [] => []
  | 0, l :: ε => l :: viewE ε
  | i + 1, l :: ε => l.view :: lendE i ε
theorem lend_0 {l : Sl} {ε : Env} : lendE 0 (l :: ε) = l :: viewE ε := rfl
theorem lend_s {i : Nat} {l : Sl} {ε : Env} : lendE (i + 1) (l :: ε) = l.view :: lendE i ε := rfl
section
variable {c : Base} {b bs cs F A B : List Addr} {σ τ : L2.St} {H H1 H2 H' : Hp} {ε δ : Env} {N N1 N2 N' : Nat} {u v : V} {t s : T} {d : PyData} {i : Nat}
end
section
variable {te : TE} {wx : WX} {i : Nat}
def wLend (i : Nat) (wx : WX) : WX := fun ε N R => atIs ε[i]? fun _ => wx (lendE i ε) N fun t ε' N' => t.clean = true ∧ ∃ s, ε' = (lendE i ε).set i (.is s) ∧ s.clean = true ∧ R t (ε.set i (.is s)) N'
end
end Cg

set_option Elab.async false
set_option linter.all false
set_option maxRecDepth 100000
set_option maxHeartbeats 1000000
namespace Cg
open PySem PySem.Spec PyProof.Rows L2 Evl
/-! ### other names of what stands at a place -/
def atPin (o : Option Sl) (k : Addr → Prop) : Prop := match o with
  | some (.pin a) => k a
  | _ => False
theorem atPin_is {a : Addr} {k : Addr → Prop} : atPin (some (.pin a)) k = k a := propext Iff.rfl
theorem atPin_some {o : Option Sl} {k : Addr → Prop} (h : atPin o k) : ∃ a, o = some (.pin a) ∧ k a := by
  unfold atPin at h
  split at h
  · exact ⟨_, rfl, h⟩
  · exact h.elim
section
variable {c : Base} {b bs cs F A B : List Addr} {σ τ : L2.St} {H H1 H2 H' : Hp} {ε δ : Env} {N N1 N2 N' : Nat} {u v : V} {t s : T} {d : PyData} {i j : Nat} {π : List Nat}
theorem Rel.pin_val {a : Addr} (r : Rel c bs F σ H ε N) (e : ε[j]? = some (.pin a)) : σ[j]? = some (some (.ref a)) := by
  obtain ⟨x, A, F1, F2, h1, h2, _, _⟩ := r.env.at e
  cases h2 with
  | pin => exact h1
/-- what stands along the path -/
theorem Rel.along (r : Rel c bs F σ H ε N) (e : ε[i]? = some (.is t)) (h : atP π t = some s) : ∃ v u B, σ[i]? = some (some v) ∧ VAt H v π u ∧ Rep bs H u s B ∧ ∀ a ∈ B, a ∈ F := by
  obtain ⟨x, A, F1, F2, h1, h2, h3, _⟩ := r.env.at e
  cases h2 with
  | is hr =>
    obtain ⟨u, A1, B, A2, q1, q2, q3, _⟩ := hr.zoom h
    refine ⟨_, u, B, h1, q2, q3, fun a ha => ?_⟩
    rw [h3, q1]
    exact List.mem_append_right _ (List.mem_append_left _ (List.mem_append_right _ (List.mem_append_left _ ha)))
def wPA (j i : Nat) : WP := fun ε N R => atPin ε[j]? fun a => ∃ π, (atPl ε i π fun s => s.root = some a) ∧ R π N
theorem sim_pa : SimP (tVar j) i (wPA j i) := fun {c bs F σ H ε N R Q} r w q => by
  obtain ⟨a, ej, π, w1, hR⟩ := atPin_some w
  obtain ⟨t, s, e1, e2, er⟩ := atPl_some w1
  obtain ⟨v, u, B, k1, k2, k3, _⟩ := r.along e1 e2
  have eu : u = .ref a := k3.root er
  subst eu
  exact ⟨_, r.pin_val ej, q _ π N H v t s hR r.self k1 e1 e2 k2⟩
def T.nm : T → Addr → T
  | .lst ts, a => .lsa a ts
  | .tup ts, a => .tpa a ts
  | t, _ => t
theorem nm_lst {ts : List T} {a : Addr} : (T.lst ts).nm a = .lsa a ts := rfl
theorem nm_lsa {ts : List T} {a b : Addr} : (T.lsa b ts).nm a = .lsa b ts := rfl
theorem nm_ins {x C a : Addr} {ns : List Str} {ts : List T} : (T.ins x C ns ts).nm a = .ins x C ns ts := rfl
theorem root_lsa {ts : List T} {a : Addr} : (T.lsa a ts).root = some a := rfl
theorem root_ins {x C : Addr} {ns : List Str} {ts : List T} : (T.ins x C ns ts).root = some x := rfl
theorem root_tpa {x : Addr} {ts : List T} : (T.tpa x ts).root = some x := rfl
theorem nm_tup {a : Addr} {ts : List T} : (T.tup ts).nm a = .tpa a ts := rfl
theorem nm_tpa {x a : Addr} {ts : List T} : (T.tpa x ts).nm a = .tpa x ts := rfl
theorem root_dct {x : Addr} {ks : DKs} {ts : List T} : (T.dct x ks ts).root = some x := rfl
theorem nm_dct {x a : Addr} {ks : DKs} {ts : List T} : (T.dct x ks ts).nm a = .dct x ks ts := rfl
theorem root_rc {x : Addr} {ns : List Str} {ts : List T} : (T.rc x ns ts).root = some x := rfl
theorem Rep.named (h : Rep bs H v s B) : ∃ a, (∀ {B : List Addr}, Rep bs H v s B → Rep bs H v (s.nm a) B) ∧ ∀ p, (s.nm a).root = some p → v = .ref p := by
  cases h with
  | lst e h => exact ⟨_, fun h => (by cases h with | lst e h => exact .lsa e h), fun p e => by cases e; rfl⟩
  | lsa e h => exact ⟨0, fun h => h, fun p e => by cases e; rfl⟩
  | ins e e2 l h => exact ⟨0, fun h => h, fun p e => by cases e; rfl⟩
  | rc e l h => exact ⟨0, fun h => h, fun p e => by cases e; rfl⟩
  | dct e l nd h => exact ⟨0, fun h => h, fun p e => by cases e; rfl⟩
  | sh h => exact ⟨0, fun h => h, fun p e => by cases e⟩
  | shr h => exact ⟨0, fun h => h, fun p e => by cases e; rfl⟩
  | tup e h => exact ⟨_, fun h => (by cases h with | tup e h => exact .tpa e h), fun p e => by cases e; rfl⟩
  | tpa e h => exact ⟨0, fun h => h, fun p e => by cases e; rfl⟩
  | dic e => exact ⟨0, fun h => h, fun p e => by cases e⟩
/-- told otherwise, the heap as it is -/
theorem Rel.retell (r : Rel c bs F σ H ε N) (k1 : σ[i]? = some (some v)) (e : ε[i]? = some (.is t)) (h : atP π t = some s) (k2 : VAt H v π u) {s' : T} (hs : ∀ {B : List Addr}, Rep bs H u s B → Rep bs H u s' B) : ∃ F', Rel c bs F' σ H (putAt ε i π s') N := by
  obtain ⟨B', q1, q2, q3, q4⟩ := r.chgP e k1 h k2
  obtain ⟨F', r', _⟩ := q4 (cs := bs) (H' := H) (s' := s') (B' := B') (N' := N) (Keep.refl _ _) r.box (fun a ha => .inl ha) (fun a ha _ => ha) r.live r.nt (fun a ha => ⟨r.sub a (q3 a ha), .inl ha⟩) q2 (hs q1)
  refine ⟨F', ?_⟩
  unfold putAt
  rw [e]
  exact r'
theorem Rel.pinned_slot {x : Addr} (r : Rel c bs F σ H ε N) : ∃ F', Rel c bs F' (σ.set j (some (.ref x))) H (ε.set j (.pin x)) N ∧ F'.Sublist F := by
  cases hl : ε[j]? with
  | none =>
    have hs : σ[j]? = none := by
      rw [List.getElem?_eq_none_iff] at hl ⊢
      rw [r.env.len]
      exact hl
    rw [set_beyond hl, set_beyond hs]
    exact ⟨F, r, List.Sublist.refl _⟩
  | some l =>
    obtain ⟨y, A, F1, F2, h1, h2, rfl, q4⟩ := r.env.at hl
    have env := q4 (cs := bs) (H' := H) (y := some (.ref x)) (m := .pin x) (B := []) r.nt (Same.refl _) (fun _ _ _ e => e) .pin
    have sl : (F1 ++ ([] ++ F2)).Sublist (F1 ++ (A ++ F2)) := List.Sublist.append_left (List.Sublist.append_right (List.nil_sublist _) _) _
    exact ⟨_, r.sub' env sl, sl⟩
end
section
variable {te tp ta : TE} {we : WE} {wt : WT} {wb : WB} {i j : Nat} {wp : WP} {wx : WX} {K : PySem.W.Frag}
/-- x = p[..], another name of what stands there -/
def wAl (j i : Nat) (wp : WP) : WS := fun D ε N => wp ε N fun π N1 => atPl ε i π fun s => ∀ a, ∃ x, (s.nm a).root = some x ∧ D.nx ((putAt ε i π (s.nm a)).set j (.pin x)) N1
/-! what is read by other names: the view, these names too -/
def viewA (ε0 : Env) : List (Nat × Nat) → Env → (Env → Prop) → Prop
  | [], ε, k => k ε
  | (j, i) :: l, ε, k => atPin ε0[j]? fun a => ∃ π, atPl ε0 i π fun s => s.root = some a ∧ viewA ε0 l (ε.set j (.is (.sh s.data))) k
theorem viewA_nil {ε0 ε : Env} {k : Env → Prop} : viewA ε0 [] ε k = k ε := propext Iff.rfl
theorem viewA_cons {ε0 ε : Env} {l : List (Nat × Nat)} {k : Env → Prop} : viewA ε0 ((j, i) :: l) ε k = atPin ε0[j]? fun a => ∃ π, atPl ε0 i π fun s => s.root = some a ∧ viewA ε0 l (ε.set j (.is (.sh s.data))) k := propext Iff.rfl
def wVwA (l : List (Nat × Nat)) (we : WE) : WE := fun ε N R => viewA ε l (viewE ε) fun ε' => we ε' N fun d N' => imm d = true ∧ R d N'
def wVbA (l : List (Nat × Nat)) (wb : WB) : WB := fun ε N R => viewA ε l (viewE ε) fun ε' => wb ε' N R
def wVtA (l : List (Nat × Nat)) (wt : WT) : WT := fun ε N R => viewA ε l (viewE ε) fun ε' => wt ε' N fun t N' => t.clean = true ∧ R t N'
theorem wVwA_eq {l : List (Nat × Nat)} {ε : Env} {N : Nat} {R : PyData → Nat → Prop} : wVwA l we ε N R = viewA ε l (viewE ε) fun ε' => we ε' N fun d N' => imm d = true ∧ R d N' := propext Iff.rfl
theorem wVbA_eq {l : List (Nat × Nat)} {ε : Env} {N : Nat} {R : Bool → Nat → Prop} : wVbA l wb ε N R = viewA ε l (viewE ε) fun ε' => wb ε' N R := propext Iff.rfl
theorem wVtA_eq {l : List (Nat × Nat)} {ε : Env} {N : Nat} {R : T → Nat → Prop} : wVtA l wt ε N R = viewA ε l (viewE ε) fun ε' => wt ε' N fun t N' => t.clean = true ∧ R t N' := propext Iff.rfl
theorem wPA_eq {ε : Env} {N : Nat} {R : List Nat → Nat → Prop} : wPA j i ε N R = atPin ε[j]? fun a => ∃ π, (atPl ε i π fun s => s.root = some a) ∧ R π N := propext Iff.rfl
theorem wAl_eq {D : EW} {ε : Env} {N : Nat} : wAl j i wp D ε N = wp ε N fun π N1 => atPl ε i π fun s => ∀ a, ∃ x, (s.nm a).root = some x ∧ D.nx ((putAt ε i π (s.nm a)).set j (.pin x)) N1 := propext Iff.rfl
theorem wLend_eq {ε : Env} {N : Nat} {R : T → Env → Nat → Prop} : wLend i wx ε N R = atIs ε[i]? fun _ => wx (lendE i ε) N fun t ε' N' => t.clean = true ∧ ∃ s, ε' = (lendE i ε).set i (.is s) ∧ s.clean = true ∧ R t (ε.set i (.is s)) N' := propext Iff.rfl
theorem wPlApp_eq {ε : Env} {N : Nat} {R : T → Env → Nat → Prop} : wPlApp i wp wt ε N R = wp ε N fun π N1 => atPl ε i π fun s => isLst s fun ts => wt ε N1 fun x N2 => ts.length ≤ 100000 ∧ R (.sh .none) (putAt ε i π (s.rekid (ts ++ [x]))) N2 := propext Iff.rfl
theorem wPlExt_eq {ε : Env} {N : Nat} {R : T → Env → Nat → Prop} : wPlExt i wp we ε N R = wp ε N fun π N1 => atPl ε i π fun s => isLst s fun ts => we ε N1 fun d N2 => dList d fun ds => ts.length + ds.length ≤ 100000 ∧ R (.sh .none) (putAt ε i π (s.rekid (ts ++ ds.map T.sh))) N2 := propext Iff.rfl
theorem wPlPop_eq {ε : Env} {N : Nat} {R : T → Env → Nat → Prop} : wPlPop i wp we ε N R = wp ε N fun π N1 => atPl ε i π fun s => isLst s fun ts => we ε N1 fun d N2 => dInt d fun k => (0 ≤ k ∧ k ≤ 1000000) ∧ ∃ x, ts[k.toNat]? = some x ∧ R x (putAt ε i π (s.rekid (ts.eraseIdx k.toNat))) N2 := propext Iff.rfl
theorem view_pin {a : Addr} : (Sl.pin a).view = .no := rfl
end
end Cg

set_option Elab.async false
set_option linter.all false
set_option maxRecDepth 100000
set_option maxHeartbeats 1000000
namespace Cg
open PySem PySem.Spec PyProof.Rows L2 Evl
/-! ### own lists put away into another one, their names stay -/
section
variable {c : Base} {b bs cs F A B : List Addr} {σ τ : L2.St} {H H1 H2 H' : Hp} {ε δ : Env} {N N1 N2 N' : Nat} {u v : V} {t s : T} {d : PyData} {i j k : Nat} {π : List Nat}
/-- what a slot owns, taken out -/
theorem Rel.take (r : Rel c bs F σ H ε N) (e : ε[j]? = some (.is t)) : ∃ v F', σ[j]? = some (some v) ∧ Rel c bs F' (σ ++ [some v]) H (ε.set j .no ++ [.is t]) N := by
  obtain ⟨y, A, F1, F2, hx, hr, rfl, q4⟩ := r.env.at e
  cases hr with
  | is hr =>
    rename_i v
    have hA : ∀ a ∈ A, a ∈ F1 ++ (A ++ F2) := fun a ha => List.mem_append_right _ (List.mem_append_left _ ha)
    have env := q4 (cs := bs) (H' := H) (y := some v) (m := .no) (B := []) r.nt (Same.refl _) (fun _ _ _ e => e) .no
    rw [set_same hx] at env
    have sl : (F1 ++ ([] ++ F2)).Sublist (F1 ++ (A ++ F2)) := List.Sublist.append_left (List.Sublist.append_right (List.nil_sublist _) _) _
    obtain ⟨n1, n2, n3⟩ := List.nodup_append.mp r.nd
    obtain ⟨n4, n5, n6⟩ := List.nodup_append.mp n2
    refine ⟨v, _, hx, (r.sub' env sl).pend hr n4 fun a ha => ⟨r.sub a (hA a ha), fun z => ?_, r.off a (hA a ha), r.nb a (hA a ha)⟩⟩
    rcases List.mem_append.mp z with z | z
    · exact n3 a z a (List.mem_append_left _ ha) rfl
    · exact n6 a ha a z rfl
end
section
variable {K : PySem.W.Frag} {i j k : Nat}
/-- x.append((y, z)), y and z own: they are x's from now on, y and z other names of them -/
def wAppMv (i j k : Nat) : WS := fun D ε N => atOwn ε[i]? fun ts => atIs ε[j]? fun tj => atIs ε[k]? fun tk => ts.length ≤ 100000 ∧ ∀ a b, ∃ x y, (tj.nm a).root = some x ∧ (tk.nm b).root = some y ∧
  D.nx (((((ε.set j .no).set k .no).set i (.is (.lst (ts ++ [.tup [tj.nm a, tk.nm b]])))).set j (.pin x)).set k (.pin y)) N
/-- a slot's list gets a name -/
def wNm (i : Nat) (ws : WS) : WS := fun D ε N => atIs ε[i]? fun s => ∀ a, ws D (ε.set i (.is (s.nm a))) N
theorem sim_nm {ts : TS} {ws : WS} (h : SimS ts ws) : SimS ts (wNm i ws) := fun {c bs F σ H ε N DW D} r w m => by
  obtain ⟨s, e, w⟩ := atIs_some w
  obtain ⟨v, u, B, k1, k2, k3, _⟩ := r.along (π := []) e rfl
  have k2' : v = u := k2
  subst k2'
  obtain ⟨a, hn, _⟩ := k3.named
  obtain ⟨F', r'⟩ := r.retell k1 e (π := []) rfl rfl hn
  have e3 : putAt ε i [] (s.nm a) = ε.set i (.is (s.nm a)) := by unfold putAt; rw [e]; rfl
  rw [e3] at r'
  exact h r' (w a) m
theorem wAppMv_eq {D : EW} {ε : Env} {N : Nat} : wAppMv i j k D ε N = atOwn ε[i]? fun ts => atIs ε[j]? fun tj => atIs ε[k]? fun tk => ts.length ≤ 100000 ∧ ∀ a b, ∃ x y, (tj.nm a).root = some x ∧ (tk.nm b).root = some y ∧
  D.nx (((((ε.set j .no).set k .no).set i (.is (.lst (ts ++ [.tup [tj.nm a, tk.nm b]])))).set j (.pin x)).set k (.pin y)) N := propext Iff.rfl
theorem wNm_eq {ws : WS} {D : EW} {ε : Env} {N : Nat} : wNm i ws D ε N = atIs ε[i]? fun s => ∀ a, ws D (ε.set i (.is (s.nm a))) N := propext Iff.rfl
end
/-! a list that is walked, its parts changed one by one by an expression: [f(x) for x in xs] -/
section
variable {K : PySem.W.Frag} {i j : Nat} {te : TE} {wx : WX}
end
end Cg

set_option Elab.async false
set_option linter.all false
set_option maxRecDepth 100000
set_option maxHeartbeats 1000000
namespace Cg
open PySem PySem.Spec PyProof.Rows L2 Evl
/-! ### own lists that are walked, their parts changed by other names -/
def T.fg : T → T
  | .lsa _ ts => .lst ts
  | .tpa _ ts => .tup ts
  | .shr _ d => .sh d
  | t => t
section
variable {c : Base} {b bs cs F A B : List Addr} {σ τ : L2.St} {H H1 H2 H' : Hp} {ε δ : Env} {N N1 N2 N' : Nat} {u v : V} {t s : T} {d : PyData} {i j k : Nat} {π : List Nat}
theorem Rep.fg (h : Rep bs H v t A) : Rep bs H v t.fg A := by
  cases h with
  | lsa e h => exact .lst e h
  | lst e h => exact .lst e h
  | ins e e2 l h => exact .ins e e2 l h
  | rc e l h => exact .rc e l h
  | dct e l nd h => exact .dct e l nd h
  | sh h => exact .sh h
  | shr h => exact .sh h
  | tup e h => exact .tup e h
  | tpa e h => exact .tup e h
  | dic e => exact .dic e
theorem RepL.fg : ∀ {vs : List V} {ts : List T} {A : List Addr}, RepL bs H vs ts A → RepL bs H vs (ts.map T.fg) A
  | _, _, _, .nil => .nil
  | _, _, _, .cons h t => .cons h.fg (RepL.fg t)
theorem fg_lst {ts : List T} : (T.lst ts).fg = .lst ts := rfl
theorem fg_lsa {a : Addr} {ts : List T} : (T.lsa a ts).fg = .lst ts := rfl
theorem fg_tpa {a : Addr} {ts : List T} : (T.tpa a ts).fg = .tup ts := rfl
theorem fg_tup {ts : List T} : (T.tup ts).fg = .tup ts := rfl
theorem fg_ins {a C : Addr} {ns : List Str} {ts : List T} : (T.ins a C ns ts).fg = .ins a C ns ts := rfl
/-- what is bound in a turn -/
abbrev WT1 := Nat → Env → (Env → Prop) → Prop
def SimT1 (i : Nat) (g : TG) (G : WT1) : Prop := ∀ {c : Base} {bs F : List Addr} {σ : L2.St} {H : Hp} {ε : Env} {N q : Nat} {a : Addr} {us : List T} {vs : List V} {x : V} {k : Env → Prop} {Q : L2.St → Hp → Prop}, Rel c bs F σ H ε N → ε[i]? = some (.is (.lsa a us)) → H a = some (.lst vs) → vs[q]? = some x → G q ε k →
  (∀ {F2 : List Addr} {σ2 : L2.St} {ε2 : Env}, Rel c bs F2 σ2 H ε2 N → k ε2 → Q σ2 H) → g x σ H Q
def gOne (i j : Nat) : WT1 := fun q ε k => match ε[i]? with
  | some (.is (.lsa a us)) => ∃ s, us[q]? = some s ∧ ∀ b, ∃ x, (s.nm b).root = some x ∧ k ((ε.set i (.is (.lsa a (us.set q (s.nm b))))).set j (.pin x))
  | _ => False
/-- the part q of a named list in slot i -/
theorem part_of {a : Addr} {us : List T} {vs : List V} {x : V} {q : Nat} (r : Rel c bs F σ H ε N) (e : ε[i]? = some (.is (.lsa a us))) (ha : H a = some (.lst vs)) (hx : vs[q]? = some x) (hs : us[q]? = some s) : σ[i]? = some (some (.ref a)) ∧ VAt H (.ref a) [q] x ∧ ∃ B, Rep bs H x s B := by
  obtain ⟨y, A, F1, F2, h1, h2, _, _⟩ := r.env.at e
  cases h2 with
  | is hr =>
    cases hr with
    | lsa e2 hl =>
      rw [ha] at e2
      cases e2
      obtain ⟨w, A1, Av, A2, p1, p2, _⟩ := hl.split hs
      have exw : x = w := Option.some.inj (hx.symm.trans p1)
      subst exw
      exact ⟨h1, ⟨vs, x, ⟨a, rfl, .inl ha⟩, hx, rfl⟩, Av, p2⟩
theorem sim_one (hij : i ≠ j) : SimT1 i (gName j) (gOne i j) := fun {c bs F σ H ε N q a us vs x k Q} r e ha hx w hk => by
  have w' : ∃ s, us[q]? = some s ∧ ∀ b, ∃ x, (s.nm b).root = some x ∧ k ((ε.set i (.is (.lsa a (us.set q (s.nm b))))).set j (.pin x)) := by
    have w2 := w
    unfold gOne at w2
    rw [e] at w2
    exact w2
  obtain ⟨s, hs, w⟩ := w'
  obtain ⟨h1, h2, B, hr⟩ := part_of r e ha hx hs
  obtain ⟨b, hn, hroot⟩ := hr.named
  obtain ⟨y, ey, hkk⟩ := w b
  have ex := hroot y ey
  subst ex
  have hat : atP [q] (T.lsa a us) = some s := by
    show (match us[q]? with | some u => atP [] u | none => none) = some s
    rw [hs]
    rfl
  obtain ⟨F', r'⟩ := r.retell (π := [q]) h1 e hat h2 hn
  have ep : putAt ε i [q] (s.nm b) = ε.set i (.is (.lsa a (us.set q (s.nm b)))) := by
    unfold putAt
    rw [e]
    show ε.set i (.is (match us[q]? with | some u => (T.lsa a us).rekid ((T.lsa a us).kids.set q (putP [] u (s.nm b))) | none => T.lsa a us)) = _
    rw [hs]
    rfl
  rw [ep] at r'
  obtain ⟨F2, r2, _⟩ := r'.pinned_slot (j := j) (x := y)
  exact hk r2 hkk
end
section
variable {K : PySem.W.Frag} {i : Nat} {g : TG} {G : WT1} {ts : TS} {wb : WS}
def nxA (i : Nat) (a : Addr) (P : Env → Nat → Prop) : Env → Nat → Prop := fun ε M => ∃ us, ε[i]? = some (.is (.lsa a us)) ∧ P (ε.set i (.is (.lst (us.map T.fg)))) M
/-- for .. in xs, xs its own: all names of it and of its parts are forgotten behind each turn -/
def wForA (i : Nat) (G : WT1) (wb : WS) : WS := fun D ε N => atOwn ε[i]? fun ts => ∃ I : Nat → Env → Nat → Prop, I 0 ε N ∧ (∀ q ε1 M, I q ε1 M → ∃ us, ε1[i]? = some (.is (.lst us)) ∧ us.length = ts.length) ∧
  (∀ q ε1 M, q < ts.length → I q ε1 M → atOwn ε1[i]? fun us => ∀ a, G q (ε1.set i (.is (.lsa a us))) fun ε2 => wb { D with nx := nxA i a (I (q + 1)), ct := nxA i a (I (q + 1)), bk := nxA i a D.nx } ε2 M) ∧ ∀ ε1 M, I ts.length ε1 M → D.nx ε1 M
theorem sim_forA (hg : SimT1 i g G) (hb : SimS ts wb) : SimS (tFor (iSeq K (tVar i)) g ts) (wForA i G wb) := fun {c bs F σ H ε N DW D} r w m => by
  obtain ⟨us0, e0, I, i0, shape, step, fin⟩ := atOwn_some w
  obtain ⟨a0, hσ, _, vs0, hH⟩ := slot_own r e0
  refine ⟨.ref a0, hσ, a0, rfl, .inl ⟨⟨vs0, SqL.of hH⟩, ?_⟩⟩
  -- the list's own address stays in the slot
  have look : ∀ {bs' F' : List Addr} {σ' : L2.St} {H' : Hp} {ε' : Env} {M q : Nat}, Rel c bs' F' σ' H' ε' M → I q ε' M → σ'[i]? = some (some (.ref a0)) → ∃ us vs, ε'[i]? = some (.is (.lst us)) ∧ us.length = us0.length ∧ H' a0 = some (.lst vs) ∧ vs.length = us0.length ∧ ∃ F2, Rel c bs' F2 σ' H' (ε'.set i (.is (.lsa a0 us))) M := fun {bs' F' σ' H' ε' M q} r' hI hs => by
    obtain ⟨us, e, hl⟩ := shape q ε' M hI
    obtain ⟨y, A, F1, F2, h1, h2, hF, hbk⟩ := r'.env.at e
    clear hF hbk
    have ey : y = some (.ref a0) := Option.some.inj (h1.symm.trans hs)
    subst ey
    cases h2 with
    | is hr =>
      cases hr with
      | lst e2 hL =>
        rename_i vs A'
        obtain ⟨F2, r2⟩ := r'.retell (π := []) (u := .ref a0) (s' := .lsa a0 us) hs e rfl rfl (fun {B} h => by
          cases h with
          | lst e3 h3 => exact .lsa e3 h3)
        have ep : putAt ε' i [] (.lsa a0 us) = ε'.set i (.is (.lsa a0 us)) := by unfold putAt; rw [e]; rfl
        rw [ep] at r2
        exact ⟨us, vs, e, hl, e2, hL.len.trans hl, F2, r2⟩
  refine ⟨fun q k σ' H' => q + k = us0.length ∧ ∃ bs' F' ε' M, Rel c bs' F' σ' H' ε' M ∧ I q ε' M ∧ σ'[i]? = some (some (.ref a0)), ⟨us0.length, by omega, bs, F, ε, N, r, i0, hσ⟩, fun q k σ' H' hw => ?_⟩
  obtain ⟨e, bs', F', ε', M, r', hI, hs⟩ := hw
  obtain ⟨us, vs, eu, lu, hv, lv, F2, r2⟩ := look r' hI hs
  cases k with
  | zero =>
    obtain rfl : q = us0.length := by omega
    exact .inl ⟨⟨vs, SqL.of hv, by omega⟩, m.nx r' (fin ε' M hI)⟩
  | succ k =>
    have hq : q < vs.length := by omega
    refine .inr ⟨⟨vs, _, SqL.of hv, List.getElem?_eq_getElem hq⟩, fun σ2 H2 => ∃ bs2 F3 ε2 M2, Rel c bs2 F3 σ2 H2 ε2 M2 ∧ I (q + 1) ε2 M2 ∧ σ2[i]? = some (some (.ref a0)), fun σ2 H2 h2 => ⟨k, by omega, by omega, h2⟩, fun y H2 hy => ?_⟩
    obtain ⟨rfl, hy⟩ := hy
    have hyq := hy vs (SqL.of hv)
    obtain ⟨us', e2, w2⟩ := atOwn_some (step q ε' M (by omega) hI)
    rw [eu] at e2
    cases e2
    have il : i < ε'.length := (List.getElem?_eq_some_iff.mp eu).1
    have back : ∀ {P : Env → Nat → Prop} {bs3 F3 : List Addr} {σ3 : L2.St} {H3 : Hp} {ε3 : Env} {M3 : Nat}, Rel c bs3 F3 σ3 H3 ε3 M3 → nxA i a0 P ε3 M3 → ∃ F4 ε4, Rel c bs3 F4 σ3 H3 ε4 M3 ∧ P ε4 M3 ∧ σ3[i]? = some (some (.ref a0)) := fun {P bs3 F3 σ3 H3 ε3 M3} r3 hP => by
      obtain ⟨us3, e3, hP⟩ := hP
      obtain ⟨v, u, B, k1, k2, k3, _⟩ := r3.along (π := []) e3 rfl
      have ev : v = u := k2
      subst ev
      have er := k3.root rfl
      subst er
      obtain ⟨F4, r4⟩ := r3.retell (π := []) (u := .ref a0) (s' := .lst (us3.map T.fg)) k1 e3 rfl rfl (fun {B} h => by
        cases h with
        | lsa e4 h4 => exact .lst e4 h4.fg)
      have ep : putAt ε3 i [] (.lst (us3.map T.fg)) = ε3.set i (.is (.lst (us3.map T.fg))) := by unfold putAt; rw [e3]; rfl
      rw [ep] at r4
      exact ⟨F4, _, r4, hP, k1⟩
    refine hg r2 (by rw [List.getElem?_set_self il]) hv hyq (w2 a0) fun {F5 σ2 ε2} r5 w5 => hb r5 w5 ⟨fun r6 w6 => ?_, m.rt, fun r6 w6 => ?_, fun r6 w6 => ?_, m.rx, m.xe⟩
    · obtain ⟨F4, ε4, r7, p7, s7⟩ := back r6 w6
      exact ⟨_, F4, ε4, _, r7, p7, s7⟩
    · obtain ⟨F4, ε4, r7, p7, _⟩ := back r6 w6
      exact m.nx r7 p7
    · obtain ⟨F4, ε4, r7, p7, s7⟩ := back r6 w6
      exact ⟨_, F4, ε4, _, r7, p7, s7⟩
theorem wForA_eq {D : EW} {ε : Env} {N : Nat} : wForA i G wb D ε N = atOwn ε[i]? fun ts => ∃ I : Nat → Env → Nat → Prop, I 0 ε N ∧ (∀ q ε1 M, I q ε1 M → ∃ us, ε1[i]? = some (.is (.lst us)) ∧ us.length = ts.length) ∧
  (∀ q ε1 M, q < ts.length → I q ε1 M → atOwn ε1[i]? fun us => ∀ a, G q (ε1.set i (.is (.lsa a us))) fun ε2 => wb { D with nx := nxA i a (I (q + 1)), ct := nxA i a (I (q + 1)), bk := nxA i a D.nx } ε2 M) ∧ ∀ ε1 M, I ts.length ε1 M → D.nx ε1 M := propext Iff.rfl
end
section
variable {K : PySem.W.Frag} {tp : TE} {i : Nat} {wp : WP}
/-- p.clear() -/
def wPlClr (i : Nat) (wp : WP) : WX := fun ε N R => wp ε N fun π N1 => atPl ε i π fun s => isLst s fun _ => R (.sh .none) (putAt ε i π (s.rekid [])) N1
theorem wPlClr_eq {ε : Env} {N : Nat} {R : T → Env → Nat → Prop} : wPlClr i wp ε N R = wp ε N fun π N1 => atPl ε i π fun s => isLst s fun _ => R (.sh .none) (putAt ε i π (s.rekid [])) N1 := propext Iff.rfl
end
end Cg

set_option Elab.async false
set_option linter.all false
set_option maxRecDepth 100000
set_option maxHeartbeats 1000000
namespace Cg
open PySem PySem.Spec PyProof.Rows L2 Evl
/-! ### dict([(k, v), ..]), d.get(k, e) -/
def ipD (p : Int × Int) : PyData := .tuple [.int p.1, .int p.2]
section
variable {K : PySem.W.Frag} {te tf : TE} {we wf : WE} {i : Nat} {hs : List Addr} {H : Hp}
def wDictP (we : WE) : WT := fun ε N R => we ε N fun d N1 => ∃ ps : List (Int × Int), d = .list (ps.map ipD) ∧ (ps.map (·.1)).Nodup ∧ R (.dic ps) N1
def oIntE : Option Int → PyData → PyData
  | some v, _ => .int v
  | none, e => e
def wDGet2 (i : Nat) (we wf : WE) : WE := fun ε N R => atD ε[i]? fun kvs => we ε N fun d N1 => dInt d fun k => wf ε N1 fun e N2 => R (oIntE (valI kvs k) e) N2
theorem wDictP_eq {ε : Env} {N : Nat} {R : T → Nat → Prop} : wDictP we ε N R = we ε N fun d N1 => ∃ ps : List (Int × Int), d = .list (ps.map ipD) ∧ (ps.map (·.1)).Nodup ∧ R (.dic ps) N1 := propext Iff.rfl
theorem wDGet2_eq {ε : Env} {N : Nat} {R : PyData → Nat → Prop} : wDGet2 i we wf ε N R = atD ε[i]? fun kvs => we ε N fun d N1 => dInt d fun k => wf ε N1 fun e N2 => R (oIntE (valI kvs k) e) N2 := propext Iff.rfl
end
/-! any(xs), xs ints -/
section
variable {X : Cx}
def oAnyI : OC
  | [.list ds], S => ∃ ns : List Int, ds = ns.map PyData.int ∧ S (.bool (ns.any fun x => x != 0))
  | _, _ => False
theorem oAnyI_list {ds : List PyData} {S : PyData → Prop} : oAnyI [.list ds] S = (∃ ns : List Int, ds = ns.map PyData.int ∧ S (.bool (ns.any fun x => x != 0))) := rfl
end
end Cg

set_option Elab.async false
set_option linter.all false
set_option maxRecDepth 100000
set_option maxHeartbeats 1000000
namespace Cg
open PySem PySem.Spec PyProof.Rows L2 Evl
/-! ### own things given away to a call: several may be changed there, the giver has them no more -/
section
variable {c : Base} {b bs cs F G A B : List Addr} {σ τ : L2.St} {H H1 H2 H' : Hp} {ε δ : Env} {N N1 N2 N' : Nat} {u v : V} {t s : T} {d : PyData} {i j k : Nat}
theorem Rel.over (r : Rel c bs G σ H ε N) (hA : ∀ a ∈ A, a ∈ bs ∧ a ∉ G ∧ c.P a = none ∧ a ∉ c.bs0) (kp : Keep (A ++ c.b) H H') (bx : ∀ a ∈ c.b, Box H' a N') (c1 : ∀ a ∈ cs, a ∈ bs ∨ H a = none) (c2 : ∀ a ∈ bs, a ∉ A → a ∈ cs) (lv : Live cs H') (nt : NoTup cs H') : Rel c cs G σ H' ε N' := by
  have keep : ∀ a ∈ G, ∀ o, H a = some o → H' a = some o := fun a ha o e => kp.get (fun z => (List.mem_append.mp z).elim (fun z => (hA a z).2.1 ha) fun z => r.fb a ha z) e
  have vis : Same (hid bs H) (hid cs H') := fun a o e => by
    obtain ⟨h1, h2⟩ := hid_some e
    have h3 : a ∉ cs := fun z => (c1 a z).elim h1 fun z => by rw [h2] at z; cases z
    rw [hid_out h3]
    exact kp.get (fun z => (List.mem_append.mp z).elim (fun z => h1 (hA a z).1) fun z => h1 (r.bin a z)) h2
  refine ⟨RelE.chg r.nt vis keep r.env, r.nd, fun a ha => c2 a (r.sub a ha) fun z => (hA a z).2.1 ha, r.off, r.nb, fun a ha => c2 a (r.up a ha) fun z => (hA a z).2.2.2 ha, r.bb, r.offb, lv, nt, bx, fun a o e => ?_, r.vis.trans vis⟩
  refine kp.get (fun z => ?_) (r.pin a o e)
  rcases List.mem_append.mp z with z | z
  · rw [(hA a z).2.2.1] at e; cases e
  · rw [r.offb a z] at e; cases e
def wXTake (j : Nat) : WX := fun ε N R => atIs ε[j]? fun t => R t (ε.set j .no) N
def wXCallM (f : WFX) (nn : Nat) (ws : WXs) : WX := fun ε N R => ws ε N fun ts ε' N' => ts.length = nn ∧ f ts 0 fun ret _ _ => R ret ε' N'
theorem wXTake_eq {R : T → Env → Nat → Prop} : wXTake j ε N R = atIs ε[j]? fun t => R t (ε.set j .no) N := propext Iff.rfl
theorem wXCallM_eq {nn : Nat} {f : WFX} {ws : WXs} {R : T → Env → Nat → Prop} : wXCallM f nn ws ε N R = ws ε N fun ts ε' N' => ts.length = nn ∧ f ts 0 fun ret _ _ => R ret ε' N' := propext Iff.rfl
end
end Cg

set_option Elab.async false
set_option linter.all false
set_option maxRecDepth 100000
set_option maxHeartbeats 1000000
namespace Cg
open PySem PySem.Spec PyProof.Rows L2 Evl
/-! ### own things given to a call and given back: several may be changed -/
def backE : List (Option Nat) → List T → Env → Env
  | some i :: dst, t :: ts, ε => backE dst ts (ε.set i (.is t))
  | none :: dst, _ :: ts, ε => backE dst ts ε
  | _, _, ε => ε
theorem backE_nil {ts : List T} {ε : Env} : backE [] ts ε = ε := rfl
theorem backE_some {i : Nat} {dst : List (Option Nat)} {t : T} {ts : List T} {ε : Env} : backE (some i :: dst) (t :: ts) ε = backE dst ts (ε.set i (.is t)) := rfl
theorem backE_none {dst : List (Option Nat)} {t : T} {ts : List T} {ε : Env} : backE (none :: dst) (t :: ts) ε = backE dst ts ε := rfl
section
variable {c : Base} {b bs cs F G A B : List Addr} {σ τ : L2.St} {H H1 H2 H' : Hp} {ε δ : Env} {N N1 N2 N' : Nat} {u v : V} {t s : T} {d : PyData} {i j k : Nat}
def wXCallR (f : WFX) (nn : Nat) (dst : List (Option Nat)) (ws : WXs) : WX := fun ε N R => ws ε N fun ts ε' N' => ts.length = nn ∧ f ts 0 fun ret os _ => R ret (backE dst os ε') N'
def wXCallRB (jb : Nat) (f : WFX) (nn : Nat) (dst : List (Option Nat)) (ws : WXs) : WX := fun ε N R => isBox ε jb = true ∧ ws ε N fun ts ε' N' => ts.length = nn ∧ f ts N' fun ret os N2 => R ret (backE dst os ε') N2
theorem wXCallR_eq {nn : Nat} {f : WFX} {dst : List (Option Nat)} {ws : WXs} {R : T → Env → Nat → Prop} : wXCallR f nn dst ws ε N R = ws ε N fun ts ε' N' => ts.length = nn ∧ f ts 0 fun ret os _ => R ret (backE dst os ε') N' := propext Iff.rfl
theorem wXCallRB_eq {nn jb : Nat} {f : WFX} {dst : List (Option Nat)} {ws : WXs} {R : T → Env → Nat → Prop} : wXCallRB jb f nn dst ws ε N R = (isBox ε jb = true ∧ ws ε N fun ts ε' N' => ts.length = nn ∧ f ts N' fun ret os N2 => R ret (backE dst os ε') N2) := propext Iff.rfl
end
end Cg

set_option Elab.async false
set_option linter.all false
set_option maxRecDepth 100000
set_option maxHeartbeats 1000000
namespace Cg
open PySem PySem.Spec PyProof.Rows L2 Evl
/-! ### p[k], y = e, f: two data, one to a place, one to a name -/
section
variable {ta tb tk te : TE} {wa wb wk : WE} {tp : TE} {wp : WP} {i j : Nat}
def wSetPlN (i : Nat) (wp : WP) (wk wa : WE) (j : Nat) (wb : WE) : WS := fun D ε N => wa ε N fun d N1 => wb ε N1 fun e N2 => wp ε N2 fun π N3 => wk ε N3 fun dk N4 => dInt dk fun jj => atPl ε i π fun s => isLst s fun ts => ∃ n, ixN ts.length jj = some n ∧ D.nx ((putAt ε i π (s.rekid (ts.set n (.sh d)))).set j (.is (.sh e))) N4
theorem wSetPlN_eq {D : EW} {ε : Env} {N : Nat} : wSetPlN i wp wk wa j wb D ε N = wa ε N fun d N1 => wb ε N1 fun e N2 => wp ε N2 fun π N3 => wk ε N3 fun dk N4 => dInt dk fun jj => atPl ε i π fun s => isLst s fun ts => ∃ n, ixN ts.length jj = some n ∧ D.nx ((putAt ε i π (s.rekid (ts.set n (.sh d)))).set j (.is (.sh e))) N4 := propext Iff.rfl
/-- x, y = p, e: x another name of what stands at p, y data -/
def wParAl (j1 i : Nat) (wp : WP) (j2 : Nat) (we : WE) : WS := fun D ε N => wp ε N fun π N1 => we ε N1 fun d N2 => atPl ε i π fun s => ∀ a, ∃ x, (s.nm a).root = some x ∧ D.nx (((putAt ε i π (s.nm a)).set j1 (.pin x)).set j2 (.is (.sh d))) N2
theorem wParAl_eq {D : EW} {ε : Env} {N j1 j2 : Nat} {we : WE} : wParAl j1 i wp j2 we D ε N = wp ε N fun π N1 => we ε N1 fun d N2 => atPl ε i π fun s => ∀ a, ∃ x, (s.nm a).root = some x ∧ D.nx (((putAt ε i π (s.nm a)).set j1 (.pin x)).set j2 (.is (.sh d))) N2 := propext Iff.rfl
end
/-! ### the least of three -/
def min3I (i j k : Int) : Int := if k < (if j < i then j else i) then k else (if j < i then j else i)
def oMin3 : OC
  | [.int i, .int j, .int k], S => S (.int (min3I i j k))
  | _, _ => False
theorem oMin3_int {i j k : Int} {S : PyData → Prop} : oMin3 [.int i, .int j, .int k] S = S (.int (min3I i j k)) := propext Iff.rfl
end Cg
namespace Cg
open PySem PySem.Spec PyProof.Rows L2 Evl
end Cg

set_option Elab.async false
set_option linter.all false
set_option maxRecDepth 100000
set_option maxHeartbeats 1000000
namespace L2
open PySem PySem.Spec PyProof.Rows
section
variable {X : Cx} {CX : CXT} {k : Nat} {f C : Addr} {fd : FuncData} {ps : List Str} {sp : Sp} {E : XK}
end
end L2
namespace L2
open PySem PySem.Spec PyProof.Rows
end L2
namespace Cg
open PySem PySem.Spec PyProof.Rows L2 Evl
end Cg
namespace Cg
open PySem PySem.Spec PyProof.Rows L2 Evl
section
variable {K : PySem.W.Frag} {te tp ta tb : TE} {we wa wb : WE} {wt : WT} {wx : WX} {C : Addr} {ns : List Str} {f m : Str} {k i : Nat} {wp : WP}
def wLenI (C : Addr) (ns : List Str) (f : WF) (we : WE) : WE := fun ε N R => we ε N fun d N1 => (∃ rs, d = recD (.int (C : Int)) ns rs) ∧ f [d] 0 fun t _ => ∃ n : Nat, t = .sh (.int (n : Int)) ∧ n ≤ 1000000 ∧ R (.int (n : Int)) N1
theorem wLenI_eq {w : WF} {ε : Env} {N : Nat} {R : PyData → Nat → Prop} : wLenI C ns w we ε N R = we ε N fun d N1 => (∃ rs, d = recD (.int (C : Int)) ns rs) ∧ w [d] 0 fun t _ => ∃ n : Nat, t = .sh (.int (n : Int)) ∧ n ≤ 1000000 ∧ R (.int (n : Int)) N1 := propext Iff.rfl
/-- p.f += e, two ints -/
def wFAug (i : Nat) (C : Addr) (ns : List Str) (k : Nat) (wp : WP) (we : WE) : WS := fun D ε N => wp ε N fun π N1 => atPl ε i π fun s => ∃ a ts x, s = .ins a C ns ts ∧ ts[k]? = some (.sh (.int x)) ∧ we ε N1 fun e N2 => dInt e fun y => D.nx (putAt ε i π (.ins a C ns (ts.set k (.sh (.int (x + y)))))) N2
theorem wFAug_eq {D : EW} {ε : Env} {N : Nat} : wFAug i C ns k wp we D ε N = wp ε N fun π N1 => atPl ε i π fun s => ∃ a ts x, s = .ins a C ns ts ∧ ts[k]? = some (.sh (.int x)) ∧ we ε N1 fun e N2 => dInt e fun y => D.nx (putAt ε i π (.ins a C ns (ts.set k (.sh (.int (x + y)))))) N2 := propext Iff.rfl
/-- x.append(e), e changes slots -/
def wAppX (i : Nat) (wx : WX) : WS := fun D ε N => atOwn ε[i]? fun _ => wx ε N fun t ε1 N1 => shT t fun d => atOwn ε1[i]? fun ts => ts.length ≤ 100000 ∧ D.nx (ε1.set i (.is (.lst (ts ++ [.sh d])))) N1
theorem wAppX_eq {D : EW} {ε : Env} {N : Nat} : wAppX i wx D ε N = atOwn ε[i]? fun _ => wx ε N fun t ε1 N1 => shT t fun d => atOwn ε1[i]? fun ts => ts.length ≤ 100000 ∧ D.nx (ε1.set i (.is (.lst (ts ++ [.sh d])))) N1 := propext Iff.rfl
/-- list(range(a, b)) -/
def wRgL2 (wa wb : WE) : WT := fun ε N R => wa ε N fun d N1 => wb ε N1 fun e N2 => dInt d fun a => dInt e fun b => (0 ≤ a ∧ a ≤ b ∧ b ≤ 100000) ∧ R (.lst ((List.range (b - a).toNat).map fun k : Nat => T.sh (.int (a + (k : Int))))) N2
theorem wRgL2_eq {ε : Env} {N : Nat} {R : T → Nat → Prop} : wRgL2 wa wb ε N R = wa ε N fun d N1 => wb ε N1 fun e N2 => dInt d fun a => dInt e fun b => (0 ≤ a ∧ a ≤ b ∧ b ≤ 100000) ∧ R (.lst ((List.range (b - a).toNat).map fun k : Nat => T.sh (.int (a + (k : Int))))) N2 := propext Iff.rfl
end
end Cg

set_option Elab.async false
set_option linter.all false
set_option maxRecDepth 100000
set_option maxHeartbeats 1000000
namespace Cg
open PySem PySem.Spec PyProof.Rows L2 Evl
/-! ### a def that is given some of its arguments: they may be bound anew there, and nothing of them comes back (0 data, 1 changed and given back, 2 given) -/
def kept {α : Type} : List Nat → List α → List α
  | 2 :: md, _ :: us => kept md us
  | _ :: md, u :: us => u :: kept md us
  | _, _ => []
def outG : List Nat → List T → Env → (List T → Prop) → Prop
  | [], [], _, k => k []
  | 0 :: md, .sh d :: ts, _ :: ε, k => outG md ts ε fun os => k (.sh d :: os)
  | 1 :: md, t :: ts, .is t' :: ε, k => t'.root = t.root ∧ t.root ≠ none ∧ outG md ts ε fun os => k (t' :: os)
  | 2 :: md, _ :: ts, _ :: ε, k => outG md ts ε k
  | _, _, _, _ => False
def EW.fnG (bx : Bool) (md : List Nat) (ts : List T) (R : T → List T → Nat → Prop) : EW :=
  ⟨fun ε N => dropB bx ε fun ε' => outG md ts ε' fun os => R (.sh .none) os N, fun _ _ => False, fun _ _ => False, fun _ _ => False, fun t ε N => dropB bx ε fun ε' => outG md ts ε' fun os => R t os N, fun _ _ _ => False, fun _ _ _ _ => False⟩
section
variable {c : Base} {b bs cs F G A B : List Addr} {σ τ : L2.St} {H H1 H2 H' : Hp} {ε δ : Env} {N N1 N2 N' : Nat} {u v : V} {t s : T} {d : PyData} {ts : TS} {ws : WS}
end
section
variable {c : Base} {b bs cs F G A B : List Addr} {σ τ : L2.St} {H H1 H2 H' : Hp} {ε δ : Env} {N N1 N2 N' : Nat} {u v : V} {t s : T} {d : PyData} {i j k : Nat}
def wXCallG (f : WFX) (nn : Nat) (md : List Nat) (dst : List (Option Nat)) (ws : WXs) : WX := fun ε N R => ws ε N fun ts ε' N' => ts.length = nn ∧ f ts 0 fun ret os _ => R ret (backE (kept md dst) os ε') N'
def wXCallGB (jb : Nat) (f : WFX) (nn : Nat) (md : List Nat) (dst : List (Option Nat)) (ws : WXs) : WX := fun ε N R => isBox ε jb = true ∧ ws ε N fun ts ε' N' => ts.length = nn ∧ f ts N' fun ret os N2 => R ret (backE (kept md dst) os ε') N2
theorem wXCallG_eq {nn : Nat} {md : List Nat} {f : WFX} {dst : List (Option Nat)} {ws : WXs} {R : T → Env → Nat → Prop} : wXCallG f nn md dst ws ε N R = ws ε N fun ts ε' N' => ts.length = nn ∧ f ts 0 fun ret os _ => R ret (backE (kept md dst) os ε') N' := propext Iff.rfl
theorem wXCallGB_eq {nn jb : Nat} {md : List Nat} {f : WFX} {dst : List (Option Nat)} {ws : WXs} {R : T → Env → Nat → Prop} : wXCallGB jb f nn md dst ws ε N R = (isBox ε jb = true ∧ ws ε N fun ts ε' N' => ts.length = nn ∧ f ts N' fun ret os N2 => R ret (backE (kept md dst) os ε') N2) := propext Iff.rfl
end
section
variable {ε : Env} {N : Nat} {k : Nat}
theorem fnG_nx {bx : Bool} {md : List Nat} {ts : List T} {R : T → List T → Nat → Prop} : (EW.fnG bx md ts R).nx ε N = dropB bx ε fun ε' => outG md ts ε' fun os => R (.sh .none) os N := propext Iff.rfl
theorem fnG_rx {bx : Bool} {md : List Nat} {ts : List T} {t : T} {R : T → List T → Nat → Prop} : (EW.fnG bx md ts R).rx t ε N = dropB bx ε fun ε' => outG md ts ε' fun os => R t os N := propext Iff.rfl
theorem outG_nil {q : List T → Prop} : outG [] [] ε q = q [] := propext Iff.rfl
theorem outG_0 {md : List Nat} {d : PyData} {ts : List T} {l : Sl} {q : List T → Prop} : outG (0 :: md) (.sh d :: ts) (l :: ε) q = outG md ts ε fun os => q (.sh d :: os) := propext Iff.rfl
theorem outG_2 {md : List Nat} {t : T} {ts : List T} {l : Sl} {q : List T → Prop} : outG (2 :: md) (t :: ts) (l :: ε) q = outG md ts ε q := propext Iff.rfl
theorem outG_ins {md : List Nat} {a C' C : Addr} {ms ms' : List Str} {us us' ts : List T} {q : List T → Prop} : outG (1 :: md) (.ins a C ms us :: ts) (.is (.ins a C' ms' us') :: ε) q = outG md ts ε fun os => q (.ins a C' ms' us' :: os) := propext ⟨fun h => h.2.2, fun h => ⟨rfl, (fun z => nomatch z), h⟩⟩
theorem outG_lsa {md : List Nat} {a : Addr} {us us' ts : List T} {q : List T → Prop} : outG (1 :: md) (.lsa a us :: ts) (.is (.lsa a us') :: ε) q = outG md ts ε fun os => q (.lsa a us' :: os) := propext ⟨fun h => h.2.2, fun h => ⟨rfl, (fun z => nomatch z), h⟩⟩
theorem kept_nil {α : Type} : kept [] ([] : List α) = [] := rfl
theorem kept_0 {α : Type} {md : List Nat} {x : α} {xs : List α} : kept (0 :: md) (x :: xs) = x :: kept md xs := rfl
theorem kept_1 {α : Type} {md : List Nat} {x : α} {xs : List α} : kept (1 :: md) (x :: xs) = x :: kept md xs := rfl
theorem kept_2 {α : Type} {md : List Nat} {x : α} {xs : List α} : kept (2 :: md) (x :: xs) = kept md xs := rfl
end
section
variable {K : PySem.W.Frag} {i j : Nat}
/-- x.append(y), y own: it is x's from now on -/
def wAppOwn (i j : Nat) : WS := fun D ε N => atOwn ε[i]? fun ts => atIs ε[j]? fun tj => ts.length ≤ 100000 ∧ D.nx ((ε.set j .no).set i (.is (.lst (ts ++ [tj])))) N
theorem sim_appOwn (hij : i ≠ j) : SimS (tDrop (tBM K "list" rAppend (tVar i) (tCons (tVar j) tNil))) (wAppOwn i j) := fun {c bs F σ H ε N DW D} r w m => by
  obtain ⟨ts, ei, w⟩ := atOwn_some w
  obtain ⟨tj, ej, w⟩ := atIs_some w
  obtain ⟨hlen, hD⟩ := w
  have jl : j < ε.length := (List.getElem?_eq_some_iff.mp ej).1
  obtain ⟨v, G1, hv, r1⟩ := r.take ej
  obtain ⟨G, A, r3, hr, nd, hA⟩ := unpends (vs := [v]) (ts := [tj]) rfl r1 (by rw [List.length_set]; exact r.env.len)
  have ei3 : (ε.set j .no)[i]? = some (.is (.lst ts)) := by rw [List.getElem?_set_ne (Ne.symm hij)]; exact ei
  obtain ⟨z, A3, F1, F2, q1, q2, _, _⟩ := r3.env.at ei3
  cases q2 with
  | is q2 =>
    rename_i v0
    obtain ⟨a0, vs0, Ax, e0, k0, _⟩ := r3.lstP q1 ei3 (π := []) rfl rfl (.inl rfl)
    subst e0
    refine ⟨.ref a0, q1, .inl ⟨rfl, vs0, SqL.of k0⟩, ⟨_, hv, ?_⟩⟩
    obtain ⟨a1, vs, A0, e1', k1, hl, nA0, na0, aG, AG, back⟩ := r3.lstP q1 ei3 (π := []) rfl rfl (.inl rfl)
    cases e1'
    obtain ⟨F', r5, _⟩ := back (hl.append hr) (nodup_app nA0 nd fun z hz y => (hA z y).2.1 (AG z hz)) (fun z => (List.mem_append.mp z).elim na0 fun z => (hA a0 z).2.1 aG) (fun z hz => (List.mem_append.mp hz).elim .inl fun y => .inr (hA z y))
    refine ⟨a0, vs, v, rfl, rfl, k1, by rw [hl.len]; exact Nat.lt_of_le_of_lt hlen (by decide), ?_⟩
    have e3 : putAt (ε.set j .no) i [] ((T.lst ts).rekid (ts ++ [tj])) = (ε.set j .no).set i (.is (.lst (ts ++ [tj]))) := by unfold putAt; rw [ei3]; rfl
    rw [e3] at r5
    exact m.nx r5 hD
theorem wAppOwn_eq {D : EW} {ε : Env} {N : Nat} : wAppOwn i j D ε N = atOwn ε[i]? fun ts => atIs ε[j]? fun tj => ts.length ≤ 100000 ∧ D.nx ((ε.set j .no).set i (.is (.lst (ts ++ [tj])))) N := propext Iff.rfl
end
end Cg

set_option Elab.async false
set_option linter.all false
set_option maxRecDepth 100000
set_option maxHeartbeats 1000000
namespace Cg
open PySem PySem.Spec PyProof.Rows L2 Evl
/-! ### pointers under their shares, what moves on (as in k19) -/
section
variable {n m : Nat} {parts : Mat} {qs : List Pr} {pl : List Nat}
end
/-! ### what is left falls: a pointer that moves on by a winner ahead of an ask stands nearer to it -/
section
variable {n m : Nat} {parts L : Mat} {q : List Pr} {pl : List Nat}
end
end Cg

set_option Elab.async false
set_option linter.all false
set_option maxRecDepth 100000
set_option maxHeartbeats 1000000
namespace Cg
open PySem PySem.Spec PyProof.Rows L2 Evl
/-! ### t >= u, t > u of tuples of ints -/
/-! ### a triple that falls, as words do, ends -/
def Lex3 (a b c a' b' c' : Int) : Prop := a < a' ∨ (a = a' ∧ (b < b' ∨ (b = b' ∧ c < c')))
theorem Lex3.le {a b c a' b' c' : Int} (h : Lex3 a b c a' b' c') : a ≤ a' := by
  rcases h with h | ⟨rfl, _⟩ <;> omega
/-! ### counts are kept; what is ahead, from 0 to nine for each inlet -/
section
variable {n m r : Nat} {parts L : Mat} {q : List Pr} {pl : List Nat}
end
end Cg

set_option Elab.async false
set_option linter.all false
set_option maxRecDepth 100000
set_option maxHeartbeats 1000000
namespace Cg
open PySem PySem.Spec PyProof.Rows L2 Evl
/-! ### p["f"] = e, f stands already -/
section
variable {i k : Nat} {ns : List Str} {f : Str} {tp te : TE} {wp : WP} {wt : WT}
def wKSet (i : Nat) (ns : List Str) (k : Nat) (wp : WP) (wt : WT) : WS := fun D ε N => wt ε N fun x N1 => wp ε N1 fun π N2 => atPl ε i π fun s => ∃ a ts, s = .rc a ns ts ∧ D.nx (putAt ε i π (.rc a ns (ts.set k x))) N2
def rcK (ns : List Str) (s : T) (q : Addr → List T → Prop) : Prop := ∃ a ts, s = .rc a ns ts ∧ q a ts
theorem rcK_is {a : Addr} {ts : List T} {q : Addr → List T → Prop} : rcK ns (.rc a ns ts) q = q a ts := propext ⟨fun ⟨a', ts', e, h⟩ => by cases e; exact h, fun h => ⟨a, ts, rfl, h⟩⟩
theorem wKSet_eq {D : EW} {ε : Env} {N : Nat} : wKSet i ns k wp wt D ε N = wt ε N fun x N1 => wp ε N1 fun π N2 => atPl ε i π fun s => rcK ns s fun a ts => D.nx (putAt ε i π (.rc a ns (ts.set k x))) N2 := propext Iff.rfl
end
end Cg

set_option Elab.async false
set_option linter.all false
set_option maxRecDepth 100000
set_option maxHeartbeats 1000000
namespace Cg
open PySem PySem.Spec PyProof.Rows L2 Evl
section
variable {c : Base} {b bs cs F A B : List Addr} {σ τ : L2.St} {H H1 H2 H' : Hp} {ε δ : Env} {N N1 N2 N' : Nat} {u v : V} {t s : T} {d : PyData} {i : Nat} {K : PySem.W.Frag} {tp te : TE} {wp : WP} {wt : WT}
/-- p.insert(0, e), e its own -/
def wPlIns (i : Nat) (wp : WP) (wt : WT) : WX := fun ε N R => wp ε N fun π N1 => atPl ε i π fun s => isLst s fun ts => wt ε N1 fun x N2 => ts.length ≤ 100000 ∧ R (.sh .none) (putAt ε i π (s.rekid (x :: ts))) N2
theorem wPlIns_eq {R : T → Env → Nat → Prop} : wPlIns i wp wt ε N R = wp ε N fun π N1 => atPl ε i π fun s => isLst s fun ts => wt ε N1 fun x N2 => ts.length ≤ 100000 ∧ R (.sh .none) (putAt ε i π (s.rekid (x :: ts))) N2 := propext Iff.rfl
/-- [.. for x in e ..], e a list or a tuple, e changes slots -/
def wXLc (wx : WX) (wg : WG) (wt : WB) (w : WE) (vs : List Nat) : WX := fun ε N R => wx ε N fun t ε1 N1 => shT t fun d => wLc (wIt (wC d)) wg wt w vs ε1 N1 fun d2 N2 => R (.sh d2) ε1 N2
theorem wXLc_eq {vs : List Nat} {wg : WG} {wt : WB} {w : WE} {wx : WX} {R : T → Env → Nat → Prop} : wXLc wx wg wt w vs ε N R = wx ε N fun t ε1 N1 => shT t fun d => wLc (wIt (wC d)) wg wt w vs ε1 N1 fun d2 N2 => R (.sh d2) ε1 N2 := propext Iff.rfl
/-- e.clear(), e a new list -/
def wTmpClr (wt : WT) : WE := fun ε N R => wt ε N fun t N' => isLst t fun _ => R .none N'
theorem wTmpClr_eq {R : PyData → Nat → Prop} : wTmpClr wt ε N R = wt ε N fun t N' => isLst t fun _ => R .none N' := propext Iff.rfl
end
/-! t + u, t a tuple that isn't empty -/
end Cg

set_option Elab.async false
set_option linter.all false
set_option maxRecDepth 100000
set_option maxHeartbeats 1000000
namespace Cg
open PySem PySem.Spec PyProof.Rows L2 Evl
def markF (M : Mat) : Mat := M.map fun r => r.map fun x => if x > 0 then 1 else 0
/-! ### a whole Switch, by value: what it holds, and what each of its methods makes of that -/
namespace Sw
abbrev Qu := List (List (List Nat))
abbrev Wq := List (List (Nat × List Nat))
abbrev Tr := Nat × Nat × Nat
def cntM (Q : Qu) : Mat := Q.map fun r => r.map fun q => (q.length : Int)
/-- what never changes -/
structure P where
  n : Nat
  m : Nat
  rounds : Nat
  way : Str
  wide : Nat
  gT : T
  parts : Mat
/-- what does -/
structure S where
  qs : List Pr
  pl : List Nat
  tot : Nat
  Q : Qu
  W : Wq
  wf : Nat
  oi : List Nat
  oo : List Nat
  bt : Nat
  cr : List PyData
def SzQ {α : Type} (n m : Nat) (Q : List (List α)) : Prop := Q.length = n ∧ ∀ r ∈ Q, r.length = m
def qAt (Q : Qu) (i j : Nat) : List Nat := (Q.getD i []).getD j []
def put (Q : Qu) (i j : Nat) (q : List Nat) : Qu := Q.set i ((Q.getD i []).set j q)
def pop1 (Q : Qu) (u : Pr) : Qu := put Q u.1 u.2 ((qAt Q u.1 u.2).drop 1)
def popN (Q : Qu) (ps : List Pr) : Qu := ps.foldl pop1 Q
def quadN (b : Nat) (t : Tr) : PyData := .tuple [.int (b : Nat), .int (t.1 : Nat), .int (t.2.1 : Nat), .int (t.2.2 : Nat)]
def sentN (Q : Qu) (u : Pr) : Tr := (u.2, u.1, (qAt Q u.1 u.2).headD 0)
section
variable {n m : Nat} {Q : Qu} {W : Wq}
theorem cnt_sz (hQ : SzQ n m Q) : SzM n m (cntM Q) := by
  unfold cntM
  refine ⟨by rw [List.length_map, hQ.1], fun r hr => ?_⟩
  obtain ⟨z, hz, rfl⟩ := List.mem_map.mp hr
  rw [List.length_map, hQ.2 z hz]
theorem SzQ.row {α : Type} {Q : List (List α)} (h : SzQ n m Q) {i : Nat} (hi : i < n) : ∃ r, Q[i]? = some r ∧ Q.getD i [] = r ∧ r.length = m := by
  have hl : i < Q.length := by rw [h.1]; exact hi
  exact ⟨Q[i], List.getElem?_eq_getElem hl, by rw [List.getD_eq_getElem?_getD, List.getElem?_eq_getElem hl]; rfl, h.2 _ (List.getElem_mem _)⟩
theorem SzQ.put (h : SzQ n m Q) {i j : Nat} (hi : i < n) {q : List Nat} : SzQ n m (put Q i j q) := by
  refine ⟨by show (Q.set _ _).length = n; rw [List.length_set, h.1], fun r hr => ?_⟩
  rcases List.mem_or_eq_of_mem_set hr with hr | rfl
  · exact h.2 r hr
  · obtain ⟨r, _, e, hl⟩ := h.row hi
    rw [List.length_set, e, hl]
theorem put_at (h : SzQ n m Q) {i j : Nat} (hi : i < n) (hj : j < m) {q : List Nat} (i' j' : Nat) : qAt (put Q i j q) i' j' = if i' = i ∧ j' = j then q else qAt Q i' j' := by
  obtain ⟨r, e1, e2, hl⟩ := h.row hi
  have hil : i < Q.length := by rw [h.1]; exact hi
  unfold qAt Sw.put
  rw [e2]
  by_cases e : i' = i
  · subst e
    rw [List.getD_eq_getElem?_getD (l := Q.set _ _), List.getElem?_set_self hil, e2]
    show (r.set j q).getD j' [] = _
    by_cases e3 : j' = j
    · subst e3
      rw [if_pos ⟨rfl, rfl⟩, List.getD_eq_getElem?_getD, List.getElem?_set_self (by omega)]
      rfl
    · rw [if_neg fun z => e3 z.2, List.getD_eq_getElem?_getD, List.getElem?_set_ne (fun z => e3 z.symm), ← List.getD_eq_getElem?_getD]
  · rw [if_neg fun z => e z.1, List.getD_eq_getElem?_getD (l := Q.set _ _), List.getElem?_set_ne (fun z => e z.symm), ← List.getD_eq_getElem?_getD]
theorem popN_sz : ∀ {ps : List Pr} {Q : Qu}, SzQ n m Q → (∀ u ∈ ps, u.1 < n) → SzQ n m (popN Q ps)
  | [], _, h, _ => h
  | u :: ps, Q, h, hp => popN_sz (ps := ps) (Q := pop1 Q u) (h.put (hp u (List.mem_cons_self ..))) fun v hv => hp v (List.mem_cons_of_mem _ hv)
theorem popN_at : ∀ {ps : List Pr} {Q : Qu}, SzQ n m Q → (∀ u ∈ ps, u.1 < n ∧ u.2 < m) → ps.Nodup → ∀ i j, qAt (popN Q ps) i j = if (i, j) ∈ ps then (qAt Q i j).drop 1 else qAt Q i j
  | [], _, _, _, _, i, j => by rw [if_neg List.not_mem_nil]; rfl
  | u :: ps, Q, h, hp, hn, i, j => by
    obtain ⟨h1, h2⟩ := hp u (List.mem_cons_self ..)
    obtain ⟨n1, n2⟩ := List.nodup_cons.mp hn
    show qAt (popN (pop1 Q u) ps) i j = _
    rw [popN_at (Q := pop1 Q u) (h.put h1) (fun v hv => hp v (List.mem_cons_of_mem _ hv)) n2, show qAt (pop1 Q u) i j = _ from put_at h h1 h2 i j]
    by_cases e : i = u.1 ∧ j = u.2
    · have eu : (i, j) = u := by rw [e.1, e.2]
      rw [if_pos e, eu, if_neg n1, if_pos (List.mem_cons_self ..), e.1, e.2]
    · have eu : (i, j) ≠ u := fun z => e (by rw [← z]; exact ⟨rfl, rfl⟩)
      rw [if_neg e]
      by_cases hm : (i, j) ∈ ps
      · rw [if_pos hm, if_pos (List.mem_cons_of_mem _ hm)]
      · rw [if_neg hm, if_neg fun z => (List.mem_cons.mp z).elim eu hm]
theorem popN_sub (h : SzQ n m Q) {ps : List Pr} (hp : ∀ u ∈ ps, u.1 < n ∧ u.2 < m) (hn : ps.Nodup) {i j c : Nat} (hc : c ∈ qAt (popN Q ps) i j) : c ∈ qAt Q i j := by
  rw [popN_at h hp hn] at hc
  split at hc
  · exact List.mem_of_mem_drop hc
  · exact hc
theorem mark_at {i j : Nat} : cell (markF (cntM Q)) i j = 1 ↔ qAt Q i j ≠ [] := by
  unfold cell markF cntM qAt
  rw [List.map_map, List.getD_eq_getElem?_getD (l := Q.map _), List.getElem?_map, List.getD_eq_getElem?_getD (l := Q)]
  cases Q[i]? with
  | none => exact ⟨fun z => absurd z (by show ¬ (0 : Int) = 1; decide), fun z => absurd rfl z⟩
  | some r =>
    show ((r.map _).map fun x : Int => if x > 0 then (1 : Int) else 0).getD j 0 = 1 ↔ r.getD j [] ≠ []
    rw [List.map_map, List.getD_eq_getElem?_getD, List.getElem?_map, List.getD_eq_getElem?_getD]
    cases r[j]? with
    | none => exact ⟨fun z => absurd z (by show ¬ (0 : Int) = 1; decide), fun z => absurd rfl z⟩
    | some q =>
      show (if (q.length : Int) > 0 then (1 : Int) else 0) = 1 ↔ q ≠ []
      cases q with
      | nil => exact ⟨fun z => absurd z (by show ¬ (0 : Int) = 1; decide), fun z => absurd rfl z⟩
      | cons c q =>
        rw [if_pos (by rw [List.length_cons]; omega)]
        exact ⟨fun _ z => (nomatch z), fun _ => rfl⟩
end
/-! sorted threes -/
def key (t : Tr) : Nat := t.1 * 1000000 + t.2.1 * 1000 + t.2.2
def srtF (xs : List Tr) : List Tr := xs.mergeSort fun a b => decide (key a ≤ key b)
theorem srtF_perm (xs : List Tr) : (srtF xs).Perm xs := List.mergeSort_perm _ _
def Lo (xs : List Tr) : Prop := ∀ t ∈ xs, t.1 < 1000 ∧ t.2.1 < 1000 ∧ t.2.2 < 1000
/-! ### the methods -/
variable (p : P)
def tabS (s : S) : Mat := leftN s.oi s.oo (markF (cntM s.Q))
def comeS (s : S) (i j k : Nat) : S := { s with tot := s.tot + k, Q := put s.Q i j (qAt s.Q i j ++ (List.range k).map (s.tot + ·)) }
def sortN' (ns : List Nat) : List Nat := ns.mergeSort fun a b => decide (a ≤ b)
def wideS (s : S) (i : Nat) (os : List Nat) : S := { s with tot := s.tot + 1, W := s.W.set i (s.W.getD i [] ++ [(s.tot, sortN' os)]) }
def goN (taken oo os : List Nat) : List Nat := os.filter fun o => !taken.contains o && !oo.contains o
/-- inlet i's first wide cell -/
def wsend1 (oi oo : List Nat) (i : Nat) (taken : List Nat) (W : Wq) : List Tr × Wq :=
  if oi.contains i = true then ([], W) else match W.getD i [] with
  | [] => ([], W)
  | (k, os) :: rest => ((goN taken oo os).map fun o => (o, i, k), W.set i (if (os.filter fun o => !(goN taken oo os).contains o) = [] then rest else (k, os.filter fun o => !(goN taken oo os).contains o) :: rest))
/-- so many inlets, from one on -/
def wsendK (n wf : Nat) (oi oo : List Nat) (W : Wq) : Nat → List Tr × Wq
  | 0 => ([], W)
  | k + 1 => let r := wsendK n wf oi oo W k; let x := wsend1 oi oo ((wf + k) % n) (r.1.map (·.1)) r.2; (r.1 ++ x.1, x.2)
def nextW (n wf : Nat) : List Tr → Nat
  | [] => wf
  | t :: _ => (t.2.1 + 1) % n
def isWide (s : S) : Bool := decide (p.wide ≠ 0) && decide ((s.bt + 1) % p.wide = 0)
def prsS (s : S) : List Pr := if p.way = "first" then greedy (asksN (tabS s)) else sortF (accP (rdsP p.n p.m s.qs s.pl p.rounds (tabS s)))
def grS (s : S) : List Pr × List Nat := if isWide p s = true ∨ p.way = "first" then (s.qs, s.pl) else behP p.n p.m p.parts p.rounds (tabS s) s.qs s.pl
def sentS (s : S) : List Tr := if isWide p s = true then (wsendK p.n s.wf s.oi s.oo s.W p.n).1 else (prsS p s).map (sentN s.Q)
/-- what crosses -/
def crossS (s : S) : List Tr := srtF (sentS p s)
def beatS (s : S) : S :=
  { s with qs := (grS p s).1, pl := (grS p s).2, bt := s.bt + 1, cr := s.cr ++ (crossS p s).map (quadN (s.bt + 1)),
           Q := if isWide p s = true then s.Q else popN s.Q (prsS p s), W := if isWide p s = true then (wsendK p.n s.wf s.oi s.oo s.W p.n).2 else s.W,
           wf := if isWide p s = true then nextW p.n s.wf (sentS p s) else s.wf }
def goS (s : S) : Nat → S
  | 0 => s
  | k + 1 => beatS p (goS s k)
end Sw
end Cg

set_option Elab.async false
set_option linter.all false
set_option maxRecDepth 100000
set_option maxHeartbeats 1000000
namespace Cg
open PySem PySem.Spec PyProof.Rows L2 Evl
namespace Sw
/-! ### a Switch stays right -/
def WOk (n m tot : Nat) (W : Wq) : Prop := W.length = n ∧ ∀ r ∈ W, r.length ≤ tot ∧ ∀ e ∈ r, e.1 < tot ∧ (e.2.length ≤ 12 ∧ e.2.Nodup) ∧ ∀ o ∈ e.2, o < m
structure Ok (p : P) (s : S) : Prop where
  hg : p.gT.data = tabD true true p.parts
  g : Gst p.n p.m p.parts s.qs s.pl
  rr : 1 ≤ p.rounds ∧ p.rounds ≤ 1000
  wy : p.way = "first" ∨ p.way = "grants"
  sq : SzQ p.n p.m s.Q
  tl : s.tot ≤ 300
  qc : ∀ i j, (qAt s.Q i j).length ≤ s.tot ∧ ∀ c ∈ qAt s.Q i j, c < s.tot
  wo : WOk p.n p.m s.tot s.W
  wf : s.wf < p.n
  oi : s.oi.length ≤ 1000
  oo : s.oo.length ≤ 1000
  crl : s.cr.length ≤ 12 * s.bt
  cri : ∀ d ∈ s.cr, ∃ b t, d = quadN b t
section
variable {p : P} {s : S}
theorem WOk.up {n m tot k : Nat} {W : Wq} (h : WOk n m tot W) : WOk n m (tot + k) W := ⟨h.1, fun r hr => ⟨Nat.le_trans (h.2 r hr).1 (Nat.le_add_right ..), fun e he => ⟨Nat.lt_of_lt_of_le ((h.2 r hr).2 e he).1 (Nat.le_add_right ..), ((h.2 r hr).2 e he).2⟩⟩⟩
theorem WOk.at {n m tot i : Nat} {W : Wq} (h : WOk n m tot W) : (W.getD i []).length ≤ tot ∧ ∀ e ∈ W.getD i [], e.1 < tot ∧ (e.2.length ≤ 12 ∧ e.2.Nodup) ∧ ∀ o ∈ e.2, o < m := by
  rw [List.getD_eq_getElem?_getD]
  cases e : W[i]? with
  | none => exact ⟨Nat.zero_le _, fun _ z => nomatch z⟩
  | some r => exact h.2 r (List.mem_of_getElem? e)
theorem WOk.set {n m tot i : Nat} {W : Wq} {r : List (Nat × List Nat)} (h : WOk n m tot W) (hr : r.length ≤ tot ∧ ∀ e ∈ r, e.1 < tot ∧ (e.2.length ≤ 12 ∧ e.2.Nodup) ∧ ∀ o ∈ e.2, o < m) : WOk n m tot (W.set i r) := ⟨by rw [List.length_set]; exact h.1, fun q hq => by
  rcases List.mem_or_eq_of_mem_set hq with hq | rfl
  · exact h.2 q hq
  · exact hr⟩
theorem Ok.come {i j k : Nat} (h : Ok p s) (hi : i < p.n) (hj : j < p.m) (ht : s.tot + k ≤ 300) : Ok p (comeS s i j k) where
  hg := h.hg
  g := h.g
  rr := h.rr
  wy := h.wy
  sq := h.sq.put hi
  tl := ht
  qc := fun i' j' => by
    show (qAt (put s.Q i j _) i' j').length ≤ s.tot + k ∧ ∀ c ∈ qAt (put s.Q i j _) i' j', c < s.tot + k
    rw [put_at h.sq hi hj]
    obtain ⟨h1, h2⟩ := h.qc i' j'
    split
    · rename_i e
      obtain ⟨rfl, rfl⟩ := e
      rw [List.length_append, List.length_map, List.length_range]
      refine ⟨by omega, fun c hc => ?_⟩
      rcases List.mem_append.mp hc with hc | hc
      · have := h2 c hc; omega
      · obtain ⟨z, hz, rfl⟩ := List.mem_map.mp hc
        have := List.mem_range.mp hz
        omega
    · exact ⟨by omega, fun c hc => by have := h2 c hc; omega⟩
  wo := h.wo.up
  wf := h.wf
  oi := h.oi
  oo := h.oo
  crl := h.crl
  cri := h.cri
theorem sortN'_perm (ns : List Nat) : (sortN' ns).Perm ns := List.mergeSort_perm _ _
theorem Ok.wide {i : Nat} {os : List Nat} (h : Ok p s) (ho : ∀ o ∈ os, o < p.m) (hl : os.Nodup) (ht : s.tot + 1 ≤ 300) : Ok p (wideS s i os) where
  hg := h.hg
  g := h.g
  rr := h.rr
  wy := h.wy
  sq := h.sq
  tl := ht
  qc := fun i' j' => ⟨Nat.le_succ_of_le (h.qc i' j').1, fun c hc => Nat.lt_succ_of_lt ((h.qc i' j').2 c hc)⟩
  wo := by
    obtain ⟨h1, h2⟩ := h.wo.at (i := i)
    refine (h.wo.up (k := 1)).set ⟨by rw [List.length_append]; exact Nat.succ_le_succ h1, fun e he => ?_⟩
    rcases List.mem_append.mp he with he | he
    · exact ⟨Nat.lt_succ_of_lt (h2 e he).1, (h2 e he).2⟩
    · rw [List.mem_singleton.mp he]
      exact ⟨Nat.lt_succ_self _, ⟨by show (sortN' os).length ≤ 12; rw [(sortN'_perm os).length_eq]; have := nodup_len hl ho; have := h.g.m2; omega, (List.Perm.nodup_iff (sortN'_perm os)).mpr hl⟩, fun o hz => ho o ((sortN'_perm os).mem_iff.mp hz)⟩
  wf := h.wf
  oi := h.oi
  oo := h.oo
  crl := h.crl
  cri := h.cri
theorem wsend1_ok {n m tot i : Nat} {oi oo taken : List Nat} {W : Wq} (h : WOk n m tot W) (hi : i < n) : WOk n m tot (wsend1 oi oo i taken W).2 ∧ (wsend1 oi oo i taken W).1.length ≤ 12 ∧ (∀ t ∈ (wsend1 oi oo i taken W).1, t.1 < m ∧ t.2.1 < n ∧ t.2.2 < tot) ∧ ((wsend1 oi oo i taken W).1.map (·.1)).Nodup ∧ ∀ t ∈ (wsend1 oi oo i taken W).1, t.1 ∉ taken ∧ t.1 ∉ oo := by
  unfold wsend1
  split
  · exact ⟨h, Nat.zero_le _, (fun _ z => nomatch z), List.nodup_nil, fun _ z => nomatch z⟩
  · obtain ⟨h1, h2⟩ := h.at (i := i)
    split
    · exact ⟨h, Nat.zero_le _, (fun _ z => nomatch z), List.nodup_nil, fun _ z => nomatch z⟩
    · rename_i k os rest e
      rw [e] at h1 h2
      obtain ⟨a1, ⟨a2, a4⟩, a3⟩ := h2 _ (List.mem_cons_self ..)
      refine ⟨h.set ?_, by rw [List.length_map]; exact Nat.le_trans (List.length_filter_le ..) a2, fun t ht => ?_, ?_, fun t ht => ?_⟩
      · split
        · exact ⟨Nat.le_trans (Nat.le_succ _) h1, fun e he => h2 e (List.mem_cons_of_mem _ he)⟩
        · refine ⟨h1, fun e he => ?_⟩
          rcases List.mem_cons.mp he with rfl | he
          · exact ⟨a1, ⟨Nat.le_trans (List.length_filter_le ..) a2, a4.sublist List.filter_sublist⟩, fun o ho => a3 o (List.mem_filter.mp ho).1⟩
          · exact h2 e (List.mem_cons_of_mem _ he)
      · obtain ⟨o, ho, rfl⟩ := List.mem_map.mp ht
        exact ⟨a3 o (List.mem_filter.mp ho).1, hi, a1⟩
      · rw [List.map_map]
        exact (List.map_id' _).symm ▸ a4.sublist List.filter_sublist
      · obtain ⟨o, ho, rfl⟩ := List.mem_map.mp ht
        have hc := (List.mem_filter.mp ho).2
        rw [Bool.and_eq_true, Bool.not_eq_true', Bool.not_eq_true'] at hc
        exact ⟨fun z => absurd hc.1 (by rw [List.contains_iff_mem.mpr z]; decide), fun z => absurd hc.2 (by rw [List.contains_iff_mem.mpr z]; decide)⟩
theorem wsendK_ok {n m tot wf : Nat} {oi oo : List Nat} {W : Wq} (h : WOk n m tot W) (hn : 0 < n) : ∀ k, WOk n m tot (wsendK n wf oi oo W k).2 ∧ (wsendK n wf oi oo W k).1.length ≤ 12 * k ∧ (∀ t ∈ (wsendK n wf oi oo W k).1, t.1 < m ∧ t.2.1 < n ∧ t.2.2 < tot) ∧ ((wsendK n wf oi oo W k).1.map (·.1)).Nodup ∧ ∀ t ∈ (wsendK n wf oi oo W k).1, t.1 ∉ oo
  | 0 => ⟨h, Nat.zero_le _, (fun _ z => nomatch z), List.nodup_nil, fun _ z => nomatch z⟩
  | k + 1 => by
    obtain ⟨h1, h2, h3, h4, h5⟩ := wsendK_ok h hn k
    obtain ⟨a1, a2, a3, a4, a5⟩ := wsend1_ok (i := (wf + k) % n) (oi := oi) (oo := oo) (taken := (wsendK n wf oi oo W k).1.map (·.1)) h1 (Nat.mod_lt _ hn)
    refine ⟨a1, ?_, fun t ht => ?_, ?_, fun t ht => ?_⟩
    · show ((wsendK n wf oi oo W k).1 ++ (wsend1 oi oo ((wf + k) % n) ((wsendK n wf oi oo W k).1.map (·.1)) (wsendK n wf oi oo W k).2).1).length ≤ _
      rw [List.length_append]
      omega
    · rcases List.mem_append.mp ht with ht | ht
      · exact h3 t ht
      · exact a3 t ht
    · show (((wsendK n wf oi oo W k).1 ++ (wsend1 oi oo ((wf + k) % n) ((wsendK n wf oi oo W k).1.map (·.1)) (wsendK n wf oi oo W k).2).1).map (·.1)).Nodup
      rw [List.map_append]
      refine List.nodup_append.mpr ⟨h4, a4, fun x hx y hy e => ?_⟩
      obtain ⟨t, ht, rfl⟩ := List.mem_map.mp hy
      exact (a5 t ht).1 (by rw [← e]; exact hx)
    · rcases List.mem_append.mp ht with ht | ht
      · exact h5 t ht
      · exact (a5 t ht).2
theorem wsend_len {n m tot wf : Nat} {oi oo : List Nat} {W : Wq} (h : WOk n m tot W) (hn : 0 < n) (k : Nat) : (wsendK n wf oi oo W k).1.length ≤ m := by
  obtain ⟨_, _, h3, h4, _⟩ := wsendK_ok (wf := wf) (oi := oi) (oo := oo) h hn k
  have := nodup_len h4 (n := m) fun x hx => by
    obtain ⟨t, ht, rfl⟩ := List.mem_map.mp hx
    exact (h3 t ht).1
  rwa [List.length_map] at this
theorem Ok.tab (h : Ok p s) : SzM p.n p.m (tabS s) := by
  have := cnt_sz h.sq
  have hm : SzM p.n p.m (markF (cntM s.Q)) := by
    unfold markF
    refine ⟨by rw [List.length_map]; exact this.1, fun r hr => ?_⟩
    obtain ⟨z, hz, rfl⟩ := List.mem_map.mp hr
    rw [List.length_map]
    exact this.2 z hz
  refine ⟨(left_len ..).trans hm.1, fun x hx => ?_⟩
  obtain ⟨r, hr, e⟩ := left_row hx
  rw [e]
  exact hm.2 r hr
theorem Ok.prs (h : Ok p s) : Prs (tabS s) (prsS p s) := by
  unfold prsS
  split
  · exact greedy_prs _
  · exact prs_rds h.tab
theorem Ok.prs_in (h : Ok p s) : ∀ u ∈ prsS p s, u.1 < p.n ∧ u.2 < p.m ∧ qAt s.Q u.1 u.2 ≠ [] := fun u hu => by
  have hc := h.prs.ask u hu
  obtain ⟨b1, b2⟩ := cell_bd h.tab hc
  exact ⟨b1, b2, mark_at.mp (cell_left.mp hc).1⟩
theorem Ok.prs_len (h : Ok p s) : (prsS p s).length ≤ 12 := by
  have := h.prs.len
  have := h.tab.1
  have := h.g.n2
  omega
theorem Ok.prs_nd (h : Ok p s) : (prsS p s).Nodup := (List.pairwise_map.mp h.prs.rise).imp fun h e => by rw [e] at h; exact absurd h (Nat.lt_irrefl _)
theorem Ok.sent (h : Ok p s) : (sentS p s).length ≤ 12 ∧ ∀ t ∈ sentS p s, t.1 < p.m ∧ t.2.1 < p.n ∧ t.2.2 < s.tot := by
  have n2 := h.g.n2
  unfold sentS
  split
  · obtain ⟨_, _, h3, _⟩ := wsendK_ok (wf := s.wf) (oi := s.oi) (oo := s.oo) h.wo (by have := h.g.n1; omega) p.n
    exact ⟨Nat.le_trans (wsend_len h.wo (by have := h.g.n1; omega) p.n) h.g.m2, h3⟩
  · refine ⟨by rw [List.length_map]; have := h.prs_len; omega, fun t ht => ?_⟩
    obtain ⟨u, hu, rfl⟩ := List.mem_map.mp ht
    obtain ⟨a1, a2, a3⟩ := h.prs_in u hu
    refine ⟨a2, a1, ?_⟩
    show (qAt s.Q u.1 u.2).headD 0 < s.tot
    cases e : qAt s.Q u.1 u.2 with
    | nil => exact absurd e a3
    | cons c q => exact (h.qc u.1 u.2).2 c (by rw [e]; exact List.mem_cons_self ..)
theorem Ok.lo (h : Ok p s) : Lo (sentS p s) := fun t ht => by
  obtain ⟨a1, a2, a3⟩ := h.sent.2 t ht
  have := h.g.n2
  have := h.g.m2
  have := h.tl
  exact ⟨by omega, by omega, by omega⟩
theorem Ok.cross_len (h : Ok p s) : (crossS p s).length ≤ 12 := by
  unfold crossS
  rw [(srtF_perm _).length_eq]
  exact h.sent.1
theorem Ok.beat (h : Ok p s) : Ok p (beatS p s) where
  hg := h.hg
  g := by
    show Gst p.n p.m p.parts (grS p s).1 (grS p s).2
    unfold grS
    split
    · exact h.g
    · exact beh_gst h.g
  rr := h.rr
  wy := h.wy
  sq := by
    show SzQ p.n p.m (if isWide p s = true then s.Q else popN s.Q (prsS p s))
    split
    · exact h.sq
    · exact popN_sz h.sq fun u hu => (h.prs_in u hu).1
  tl := h.tl
  qc := fun i j => by
    show (qAt (if isWide p s = true then s.Q else popN s.Q (prsS p s)) i j).length ≤ s.tot ∧ _
    have hh := h.qc i j
    split
    · rename_i e
      refine ⟨hh.1, fun c hc => hh.2 c ?_⟩
      have hc : c ∈ qAt (if isWide p s = true then s.Q else popN s.Q (prsS p s)) i j := hc
      rw [if_pos e] at hc
      exact hc
    · rename_i e
      have hin : ∀ u ∈ prsS p s, u.1 < p.n ∧ u.2 < p.m := fun u hu => ⟨(h.prs_in u hu).1, (h.prs_in u hu).2.1⟩
      refine ⟨?_, fun c hc => hh.2 c ?_⟩
      · rw [popN_at h.sq hin h.prs_nd]
        split
        · rw [List.length_drop]; omega
        · exact hh.1
      · have hc : c ∈ qAt (if isWide p s = true then s.Q else popN s.Q (prsS p s)) i j := hc
        rw [if_neg e] at hc
        exact popN_sub h.sq hin h.prs_nd hc
  wo := by
    show WOk p.n p.m s.tot (if isWide p s = true then _ else s.W)
    split
    · exact (wsendK_ok h.wo (by have := h.g.n1; omega) p.n).1
    · exact h.wo
  wf := by
    show (if isWide p s = true then nextW p.n s.wf (sentS p s) else s.wf) < p.n
    split
    · unfold nextW
      split
      · exact h.wf
      · exact Nat.mod_lt _ (by have := h.g.n1; omega)
    · exact h.wf
  oi := h.oi
  oo := h.oo
  crl := by
    show (s.cr ++ (crossS p s).map _).length ≤ 12 * (s.bt + 1)
    rw [List.length_append, List.length_map]
    have := h.crl
    have := h.cross_len
    omega
  cri := fun d hd => by
    rcases List.mem_append.mp hd with hd | hd
    · exact h.cri d hd
    · obtain ⟨t, _, rfl⟩ := List.mem_map.mp hd
      exact ⟨_, t, rfl⟩
theorem Ok.go (h : Ok p s) : ∀ k, Ok p (goS p s k)
  | 0 => h
  | k + 1 => (h.go k).beat
end
end Sw
end Cg

set_option Elab.async false
set_option linter.all false
set_option maxRecDepth 100000
set_option maxHeartbeats 1000000
namespace Cg
open PySem PySem.Spec PyProof.Rows L2 Evl
/-! ### a named own list that is walked, its parts changed by other names: it keeps its name -/
section
variable {K : PySem.W.Frag} {i : Nat} {g : TG} {G : WT1} {ts : TS} {wb : WS}
end
end Cg

set_option Elab.async false
set_option linter.all false
set_option maxRecDepth 100000
set_option maxHeartbeats 4000000
/-! E3: calls that may raise, wished for at the caller's slots -/
namespace Cg
open PySem PySem.Spec PyProof.Rows L2
section
variable {X : Cx} {CX : CXT} {k n : Nat} {f C : Addr} {fd : FuncData} {ps ks : List Str} {sp : Sp} {dvs : List V} {ds : List Value} {E : L2.St → XK} {x m : Str} {p pos apos : Pos} {e o : Expr} {es : List Expr} {kws : List Keyword} {ta : TE} {t tk : TA} {g : List Value → List Value → List Value} {gV : List V → List V → List V}
  {pins : List (Addr × Obj)} {σ : L2.St} {H : Hp} {s : Shared} {Q : VK} {us ws : List Value} {vs zs : List V}
theorem runNE (Fk : FnOk X.prog X.w X.K X.mg X.base CX k f fd ps sp) (rm : Room k X.A) (bd : KBn X.K fd ps n ks g gV) (px : PassesAt CX X σ (E σ)) (iv : Inv X pins σ H s) (rv : Vals vs us) (rz : Vals zs ws) (l1 : vs.length = n) (l2 : zs.length = ks.length) (hs : sp (gV vs zs) H Q (E σ)) :
    wpAny (model X.prog X.w) X.A (call (.ref f) us (ks.zip ws)) (EP X pins σ Q) X.xe s := by
  refine wpAny_call (codeAny_mono (Fk.run X.A X.stack s H ⟨us, ks.zip ws⟩ _ _ Q (E σ) rm iv.env0 (bd.to s us ws iv.kIn (rv.length.symm.trans l1) (rz.length.symm.trans l2)) (bd.rel rv rz) hs) fun out s' hq => ?_)
  rcases out with err | (u | _ | _ | _)
  · exact px pins H s err s' iv hq
  · exact False.elim hq
  · exact False.elim hq
  · exact False.elim hq
  · exact iv.after hq
/-- f(e, .., k = v, ..) -/
def tCallNE (n kn : Nat) (sp : Sp) (gV : List V → List V → List V) (E : L2.St → XK) (t tk : TA) : TE := fun σ H Q => t σ H fun vs H1 => tk σ H1 fun zs H2 => vs.length = n ∧ zs.length = kn ∧ sp (gV vs zs) H2 Q (E σ)
theorem pe_callNE (Fk : FnOk X.prog X.w X.K X.mg X.base CX k f fd ps sp) (rm : Room k X.A) (hg : Gl X x) (hm : X.mg x = some (.ref f)) (hk : PySem.W.keepIn X.K (.ref f) = true) (bd : KBn X.K fd ps n ks g gV) (px : ∀ σ, PassesAt CX X σ (E σ)) (ha : PA X (e :: es) t) (hkw : PK X kws tk)
    (hall : (backToKw pos (keywordEach kws X.env)).all (·.1.isSome) = true := by rfl) (hks : (backToKw pos (keywordEach kws X.env)).filterMap (·.1) = ks := by rfl)
    (hpl : ((backTo pos (starEach (e :: es) X.env)).any (·.1) || (backToKw pos (keywordEach kws X.env)).any (·.1.isNone)) = false := by rfl)
    (he : starEach (e :: es) X.env = (false, eval e X.env) :: starEach es X.env := by rfl) (hdb : (x == ("__debug__" : Str)) = false := by decide) :
    PE X (.Call (.Name x p) (e :: es) kws pos) (tCallNE n ks.length sp gV E t tk) := by
  refine ⟨fun pins s σ H Q iv hs => ?_⟩
  refine wpAny_Call_Name_kw (ld_glob iv hg hm ?_ hdb)
  refine PySem.W.callWith_KW (h₀ := X.base) iv.ok.mod.kin hk hall (thn (ha.run pos pins s σ H _ iv hs) fun us s1 ⟨vs, H1, iv1, rv, q⟩ => ?_) hpl he
  refine thn (hkw.run pos pins s1 σ H1 _ iv1 q) fun ws s2 ⟨zs, H2, iv2, rz, l1, l2, q2⟩ => ⟨iv2.kIn, ?_⟩
  rw [hks]
  exact runNE Fk rm bd (px σ) iv2 rv rz l1 l2 q2
end
end Cg

set_option Elab.async false
set_option linter.all false
set_option maxRecDepth 100000
set_option maxHeartbeats 1000000
namespace Cg
open PySem PySem.Spec PyProof.Rows L2 Evl
/-! ### raised -/
section
variable {c : Base} {b bs cs F A B : List Addr} {σ τ : L2.St} {H H1 H2 H' : Hp} {ε δ : Env} {N N1 N2 N' : Nat} {u v : V} {t s : T} {d : PyData} {ts : TS} {ws : WS} {te tp : TE} {we : WE} {tas tks : TA} {was wks : WA} {wp : WP} {C : Addr} {W : L2.WX} {ns : List Str} {m : Str}
/-- raise X(e) -/
def wRaise (C : Addr) (W : L2.WX) (we : WE) : WS := fun D ε N => D.w = W ∧ we ε N fun d N1 => D.xe (flyD C d) ε N1
/-- the last slot's data -/
theorem Rel.last (r : Rel c bs F (σ ++ [some v]) H (ε ++ [.is (.sh d)]) N) (hl : σ.length = ε.length) : ∃ G, Rel c bs G σ H ε N ∧ Dq (hid bs H) v d := by
  obtain ⟨G, A, r2, hr, _⟩ := r.unpend hl
  cases hr with
  | sh h => exact ⟨G, r2, h⟩
/-- what leaves, as a wish at the slots -/
def xW (E : XK) : L2.WX := fun cls d _ H => E cls d H
/-! ### defs that may raise, of what is shared alone -/
abbrev WFD := List PyData → Nat → (T → Nat → Prop) → (PyData → Nat → Prop) → Prop
def EW.fnE (R : T → Nat → Prop) (RE : PyData → Nat → Prop) (E : XK) : EW := ⟨fun _ M => R (.sh .none) M, R, fun _ _ => False, fun _ _ => False, fun _ _ _ => False, fun e _ M => RE e M, xW E⟩
/-- it may raise, but does not -/
def qD (w : WFD) : WF := fun ds N R => w ds N R fun _ _ => False
theorem qD_eq {w : WFD} {ds : List PyData} {R : T → Nat → Prop} : qD w ds N R = w ds N R fun _ _ => False := rfl
/-! ### .. of what they change -/
abbrev WFE := List T → Nat → (T → List T → Nat → Prop) → (PyData → List T → Nat → Prop) → Prop
def EW.fnXE (bx : Bool) (md : List Bool) (ts : List T) (R : T → List T → Nat → Prop) (RE : PyData → List T → Nat → Prop) (E : XK) : EW :=
  ⟨fun ε N => dropB bx ε fun ε' => outK md ts ε' fun os => R (.sh .none) os N, fun _ _ => False, fun _ _ => False, fun _ _ => False, fun t ε N => dropB bx ε fun ε' => outK md ts ε' fun os => R t os N, fun e ε N => dropB bx ε fun ε' => outK md ts ε' fun os => RE e os N, xW E⟩
def qX (w : WFE) : WFX := fun ts N R => w ts N R fun _ _ _ => False
theorem qX_eq {w : WFE} {us : List T} {R : T → List T → Nat → Prop} : qX w us N R = w us N R fun _ _ _ => False := rfl
end
end Cg

set_option Elab.async false
set_option linter.all false
set_option maxRecDepth 100000
set_option maxHeartbeats 1000000
namespace Cg
open PySem PySem.Spec PyProof.Rows L2 Evl
/-! ### calls that may raise -/
abbrev WXE := Env → Nat → (T → Env → Nat → Prop) → (PyData → Env → Nat → Prop) → Prop
section
variable {c : Base} {b bs cs F A B : List Addr} {σ τ : L2.St} {H H1 H2 H' : Hp} {ε δ : Env} {N N1 N2 N' : Nat} {u v : V} {t s : T} {d : PyData} {ts : TS} {ws : WS} {te tp : TE} {we : WE} {tas tks : TA} {was wks : WA} {wp : WP} {C : Addr} {W : L2.WX} {ns : List Str} {m : Str} {i : Nat} {K : PySem.W.Frag}
/-- what raises nothing -/
def wXN (wx : WX) : WXE := fun ε N R _ => wx ε N R
/-- o.m(..) -/
def wMethE (C : Addr) (ns : List Str) (f : WFE) (g : List PyData → List PyData → List PyData) (n kn nn i : Nat) (wp : WP) (was wks : WA) : WXE := fun ε N R RE => wp ε N fun π N1 => (atPl ε i π fun s => isIns C ns s fun _ => True) ∧ was ε N1 fun ds N2 => wks ε N2 fun es N3 =>
  (ds.length + 1 = n ∧ es.length = kn ∧ (g ds es).length + 1 = nn) ∧ atPl ε i π fun s => isIns C ns s fun _ => f (s :: (g ds es).map T.sh) 0 (fun ret os _ => ∃ s', os[0]? = some s' ∧ R ret (putAt ε i π s') N3) (fun e os _ => ∃ s', os[0]? = some s' ∧ RE e (putAt ε i π s') N3)
/-- f(.., x, ..), x changed -/
def wCallXE (f : WFE) (nn i : Nat) (wa : WAP) : WXE := fun ε N R RE => wa ε N fun ds1 π ds2 N1 => ds1.length + 1 + ds2.length = nn ∧ atPl ε i π fun s => f (ds1.map T.sh ++ s :: ds2.map T.sh) 0 (fun ret os _ => ∃ s', os[ds1.length]? = some s' ∧ R ret (putAt ε i π s') N1) (fun e os _ => ∃ s', os[ds1.length]? = some s' ∧ RE e (putAt ε i π s') N1)
/-! what is told of shared things alone -/
/-- f(..) -/
def wCallE (f : WFD) (was : WA) : WXE := fun ε N R RE => was ε N fun ds N1 => f ds 0 (fun t _ => R t ε N1) fun e _ => RE e ε N1
/-- o.m(..), o read alone -/
def wMethVE (C : Addr) (ns : List Str) (f : WFD) (dds : List PyData) (we : WE) (was : WA) : WXE := fun ε N R RE => we ε N fun d N1 => (∃ rs, d = recD (.int (C : Int)) ns rs) ∧ was ε N1 fun ds N2 => f (d :: (ds ++ dds)) 0 (fun t _ => R t ε N2) fun e _ => RE e ε N2
/-- an exception whose what never changes -/
def immX : PyData → Bool
  | .dict [(.bool false, .int _), (.none, d)] => imm d
  | _ => false
theorem immX_fly : immX (flyD C d) = imm d := rfl
/-- o.m(..), o viewed -/
def wMethVVE (C : Addr) (ns : List Str) (f : WFD) (dds : List PyData) (we : WE) (was : WA) : WXE := fun ε N R RE => we (viewE ε) N fun d N1 => (∃ rs, d = recD (.int (C : Int)) ns rs) ∧ was (viewE ε) N1 fun ds N2 => f (d :: (ds ++ dds)) 0 (fun t _ => t.clean = true ∧ R t ε N2) fun e _ => immX e = true ∧ RE e ε N2
/-- f(..), all viewed -/
def wCallVE (f : WFD) (was : WA) : WXE := fun ε N R RE => was (viewE ε) N fun ds N1 => f ds 0 (fun t _ => t.clean = true ∧ R t ε N1) fun e _ => immX e = true ∧ RE e ε N1
/-! within other expressions -/
/-- told as data -/
def wEF (wx : WXE) : WXE := fun ε N R RE => wx ε N (fun t ε' N' => R (.sh t.data) ε' N') RE
/-- e if t else e' -/
def wEIf (wt : WB) (wx wy : WXE) : WXE := fun ε N R RE => wt ε N fun b N1 => match b with
  | true => wx ε N1 R RE
  | false => wy ε N1 R RE
/-! statements -/
def wAsgE (i : Nat) (W : L2.WX) (wx : WXE) : WS := fun D ε N => D.w = W ∧ wx ε N (fun t ε' N' => D.nx (ε'.set i (.is t)) N') D.xe
def wDropE (W : L2.WX) (wx : WXE) : WS := fun D ε N => D.w = W ∧ wx ε N (fun _ ε' N' => D.nx ε' N') D.xe
/-- return e, the slots told -/
def wRetE (W : L2.WX) (wx : WXE) : WS := fun D ε N => D.w = W ∧ wx ε N (fun t ε' N' => D.rx t ε' N') D.xe
/-- .. in a def that changes nothing -/
def wRetEV (W : L2.WX) (wx : WXE) : WS := fun D ε N => D.w = W ∧ wx ε N (fun t _ N' => D.rt t N') D.xe
/-- x, y = e -/
def wAsgEG (W : L2.WX) (wx : WXE) (wg : WG) : WS := fun D ε N => D.w = W ∧ wx ε N (fun t ε' N' => shT t fun d => wg d ε' fun ε2 => D.nx ε2 N') D.xe
end
end Cg

set_option Elab.async false
set_option linter.all false
set_option maxRecDepth 100000
set_option maxHeartbeats 1000000
namespace Cg
open PySem PySem.Spec PyProof.Rows L2 Evl
/-! ### exceptions that are caught, and what is asked of them -/
/-- the classes of the program's own exceptions: their names, where they stand, Python's chains behind them -/
structure Xs (K : PySem.W.Frag) (ns : List Str) (ks : List Addr) (bs : List (List Value)) : Prop where
  cl : ∀ i, i < ks.length → ∃ fI newId, XC K (ns.getD i "") (ks.getD i 0) fI newId (bs.getD i [])
  ok : ∀ b ∈ bs, b.contains (.type "BaseException") = true ∧ b.contains (.type "object") = true ∧ ∀ c : Addr, b.contains (.ref c) = false
  ln : ns.length = ks.length
  lb : bs.length = ks.length
  nd : ns.Nodup
  gs : PySem.W.specialIn K (.builtin "object.__class__") "__get__" = some (some (.builtin "getset_descriptor.__get__"))
  tk : PySem.W.takesIn K (.builtin "object.__class__") = some true
section
variable {K : PySem.W.Frag} {nms : List Str} {ks : List Addr} {bms : List (List Value)} {c : Base} {bs F A : List Addr} {σ : L2.St} {H H1 : Hp} {ε : Env} {N N1 : Nat} {i j : Nat} {te : TE} {we : WE} {W Wout : L2.WX} {C : Addr} {d : PyData}
theorem Xs.at (x : Xs K nms ks bms) {i : Nat} (hi : i < ks.length) : bms.getD i [] ∈ bms := by
  have h : i < bms.length := by rw [x.lb]; exact hi
  rw [List.getD_eq_getElem?_getD, List.getElem?_eq_getElem h]
  exact List.getElem_mem h
theorem Xs.inj (x : Xs K nms ks bms) {i j : Nat} (hi : i < ks.length) (hj : j < ks.length) (e : ks.getD i 0 = ks.getD j 0) : i = j := by
  obtain ⟨f1, n1, t1⟩ := x.cl i hi
  obtain ⟨f2, n2, t2⟩ := x.cl j hj
  rw [e] at t1
  refine Classical.byContradiction fun h => ?_
  have hi' : i < nms.length := by rw [x.ln]; exact hi
  have hj' : j < nms.length := by rw [x.ln]; exact hj
  refine t1.ne t2 (fun z => h ?_) rfl
  rw [List.getD_eq_getElem?_getD, List.getD_eq_getElem?_getD, List.getElem?_eq_getElem hi', List.getElem?_eq_getElem hj'] at z
  exact (List.getElem_inj x.nd).mp z
theorem Xs.dec (x : Xs K nms ks bms) {i j : Nat} (hi : i < ks.length) (hj : j < ks.length) : decide (ks.getD i 0 = ks.getD j 0) = decide (i = j) := by
  by_cases h : i = j
  · rw [h, decide_eq_true rfl, decide_eq_true rfl]
  · rw [decide_eq_false h, decide_eq_false fun z => h (x.inj hi hj z)]
theorem Xs.exm (x : Xs K nms ks bms) {i j : Nat} (hi : i < ks.length) (hj : j < ks.length) : PySem.W.exmOne K (.ref (ks.getD i 0)) (.ref (ks.getD j 0)) = some (decide (i = j)) := by
  obtain ⟨f1, n1, t1⟩ := x.cl i hi
  obtain ⟨f2, n2, t2⟩ := x.cl j hj
  rw [t1.exm t2 (x.ok _ (x.at hi)).1 (x.ok _ (x.at hj)).1 (x.ok _ (x.at hi)).2.2, x.dec hi hj]
theorem Xs.any (x : Xs K nms ks bms) {i : Nat} (hi : i < ks.length) : ∀ {js : List Nat}, (∀ j ∈ js, j < ks.length) → PySem.W.exmAny K (.ref (ks.getD i 0)) (js.map fun j => Value.ref (ks.getD j 0)) = some (decide (i ∈ js))
  | [], _ => by
    show some false = _
    rw [decide_eq_false List.not_mem_nil]
  | j :: js, h => by
    have e1 := x.exm hi (h j (List.mem_cons_self ..))
    have e2 := Xs.any x hi (js := js) fun j hj => h j (List.mem_cons_of_mem _ hj)
    rw [List.map_cons]
    unfold PySem.W.exmAny
    rw [e1, e2]
    show some (decide (i = j) || decide (i ∈ js)) = _
    congr 1
    by_cases z : i = j
    · rw [decide_eq_true z, Bool.true_or, decide_eq_true (by rw [z]; exact List.mem_cons_self ..)]
    · rw [decide_eq_false z, Bool.false_or]
      by_cases z2 : i ∈ js
      · rw [decide_eq_true z2, decide_eq_true (List.mem_cons_of_mem _ z2)]
      · rw [decide_eq_false z2, decide_eq_false fun z3 => (List.mem_cons.mp z3).elim z z2]
/-- isinstance(e, one of these) -/
def wIsX (ks : List Addr) (j : Nat) (we : WE) : WE := fun ε N R => we ε N fun d N1 => ∃ i x, d = exD (ks.getD i 0) x ∧ i < ks.length ∧ R (.bool (decide (i = j))) N1
/-- isinstance(e, a class of Python's) -/
def wIsB (ks : List Addr) (bms : List (List Value)) (T : String) (we : WE) : WE := fun ε N R => we ε N fun d N1 => ∃ i x b, d = exD (ks.getD i 0) x ∧ i < ks.length ∧ (bms.getD i []).contains (.type T) = b ∧ R (.bool b) N1
/-- e.what -/
def wWhat (ks : List Addr) (we : WE) : WE := fun ε N R => we ε N fun d N1 => ∃ i x, d = exD (ks.getD i 0) x ∧ i < ks.length ∧ R x N1
/-- try: .. except (A, B ..) as e: kept = e; e in slot i, kept in slot j -/
def wTryK (i j : Nat) (ks : List Addr) (js : List Nat) (wb : L2.WX → WS) : WS := fun D ε N => ∀ W, wb W { D with w := W, xe := fun e ε1 N1 => ∃ k x, e = flyD (ks.getD k 0) x ∧ k ∈ js ∧ i < ε1.length ∧ D.nx ((ε1.set j (.is (.sh (exD (ks.getD k 0) x)))).set i .no) N1 } ε N
end
end Cg
namespace Cg
open PySem PySem.Spec PyProof.Rows L2 Evl
/-- defs that may raise -/
structure DfE (P : Program) (w : World) (K : PySem.W.Frag) (mg : Str → Option Value) (base : Heap) (k : Nat) (x : Str) (st : Stmt) (ps : List Str) (f : Addr) (fd : FuncData) (sp : Sp) : Prop where
  F : Fun K x x st f fd
  g : mg x = some (.ref f)
  b : Binds K fd ps []
  G : FnOk P w K mg base (L2.CX P w) k f fd ps sp
structure DmE (P : Program) (w : World) (K : PySem.W.Frag) (mg : Str → Option Value) (base : Heap) (k : Nat) (x q : Str) (st : Stmt) (ps : List Str) (f : Addr) (fd : FuncData) (sp : Sp) : Prop where
  F : Fun K x q st f fd
  G : FnOk P w K mg base (L2.CX P w) k f fd ps sp
end Cg
namespace Cg
open PySem PySem.Spec PyProof.Rows L2 Evl
section
variable {K : PySem.W.Frag} {nms : List Str} {ks : List Addr} {bms : List (List Value)} {te : TE} {we : WE}
def wIsXT (ks : List Addr) (js : List Nat) (we : WE) : WE := fun ε N R => we ε N fun d N1 => ∃ i x, d = exD (ks.getD i 0) x ∧ i < ks.length ∧ R (.bool (decide (i ∈ js))) N1
end
end Cg

set_option Elab.async false
set_option linter.all false
set_option maxRecDepth 100000
set_option maxHeartbeats 1000000
/-! ED: equations of what may raise -/
namespace Cg
open PySem PySem.Spec PyProof.Rows L2 Evl
section
variable {D : EW} {ε : Env} {N i j : Nat} {C : Addr} {W : L2.WX} {we : WE} {wx wy : WXE} {wt : WB} {wX : WX} {wg : WG} {wp : WP} {was wks : WA} {wa : WAP} {R : T → Env → Nat → Prop} {RE : PyData → Env → Nat → Prop} {Q : PyData → Nat → Prop} {ns : List Str} {f : WFE} {fd : WFD} {ks : List Addr} {js : List Nat} {bms : List (List Value)} {wb : L2.WX → WS} {t : T} {e : PyData} {q : Env → Nat → Prop}
theorem wRaise_eq : wRaise C W we D ε N = (D.w = W ∧ we ε N fun d N1 => D.xe (flyD C d) ε N1) := propext Iff.rfl
theorem wXN_eq : wXN wX ε N R RE = wX ε N R := propext Iff.rfl
theorem wMethE_eq {g : List PyData → List PyData → List PyData} {n kn nn : Nat} : wMethE C ns f g n kn nn i wp was wks ε N R RE = (wp ε N fun π N1 => (atPl ε i π fun s => isIns C ns s fun _ => True) ∧ was ε N1 fun ds N2 => wks ε N2 fun es N3 =>
  (ds.length + 1 = n ∧ es.length = kn ∧ (g ds es).length + 1 = nn) ∧ atPl ε i π fun s => isIns C ns s fun _ => f (s :: (g ds es).map T.sh) 0 (fun ret os _ => ∃ s', os[0]? = some s' ∧ R ret (putAt ε i π s') N3) (fun e os _ => ∃ s', os[0]? = some s' ∧ RE e (putAt ε i π s') N3)) := propext Iff.rfl
theorem wCallXE_eq {nn : Nat} : wCallXE f nn i wa ε N R RE = (wa ε N fun ds1 π ds2 N1 => ds1.length + 1 + ds2.length = nn ∧ atPl ε i π fun s => f (ds1.map T.sh ++ s :: ds2.map T.sh) 0 (fun ret os _ => ∃ s', os[ds1.length]? = some s' ∧ R ret (putAt ε i π s') N1) (fun e os _ => ∃ s', os[ds1.length]? = some s' ∧ RE e (putAt ε i π s') N1)) := propext Iff.rfl
theorem wCallE_eq : wCallE fd was ε N R RE = (was ε N fun ds N1 => fd ds 0 (fun t _ => R t ε N1) fun e _ => RE e ε N1) := propext Iff.rfl
theorem wMethVE_eq {dds : List PyData} : wMethVE C ns fd dds we was ε N R RE = (we ε N fun d N1 => (∃ rs, d = recD (.int (C : Int)) ns rs) ∧ was ε N1 fun ds N2 => fd (d :: (ds ++ dds)) 0 (fun t _ => R t ε N2) fun e _ => RE e ε N2) := propext Iff.rfl
theorem wMethVVE_eq {dds : List PyData} : wMethVVE C ns fd dds we was ε N R RE = (we (viewE ε) N fun d N1 => (∃ rs, d = recD (.int (C : Int)) ns rs) ∧ was (viewE ε) N1 fun ds N2 => fd (d :: (ds ++ dds)) 0 (fun t _ => t.clean = true ∧ R t ε N2) fun e _ => immX e = true ∧ RE e ε N2) := propext Iff.rfl
theorem wCallVE_eq : wCallVE fd was ε N R RE = (was (viewE ε) N fun ds N1 => fd ds 0 (fun t _ => t.clean = true ∧ R t ε N1) fun e _ => immX e = true ∧ RE e ε N1) := propext Iff.rfl
theorem wEF_eq : wEF wx ε N R RE = wx ε N (fun t ε' N' => R (.sh t.data) ε' N') RE := propext Iff.rfl
theorem wEIf_eq : wEIf wt wx wy ε N R RE = wt ε N fun b N1 => bIf b (wx ε N1 R RE) (wy ε N1 R RE) := by
  unfold wEIf
  exact congrArg _ (funext fun b => funext fun N1 => by cases b <;> rfl)
theorem wAsgE_eq : wAsgE i W wx D ε N = (D.w = W ∧ wx ε N (fun t ε' N' => D.nx (ε'.set i (.is t)) N') D.xe) := propext Iff.rfl
theorem wDropE_eq : wDropE W wx D ε N = (D.w = W ∧ wx ε N (fun _ ε' N' => D.nx ε' N') D.xe) := propext Iff.rfl
theorem wRetE_eq : wRetE W wx D ε N = (D.w = W ∧ wx ε N (fun t ε' N' => D.rx t ε' N') D.xe) := propext Iff.rfl
theorem wRetEV_eq : wRetEV W wx D ε N = (D.w = W ∧ wx ε N (fun t _ N' => D.rt t N') D.xe) := propext Iff.rfl
theorem wAsgEG_eq : wAsgEG W wx wg D ε N = (D.w = W ∧ wx ε N (fun t ε' N' => shT t fun d => wg d ε' fun ε2 => D.nx ε2 N') D.xe) := propext Iff.rfl
theorem wIsX_eq : wIsX ks j we ε N Q = we ε N fun d N1 => ∃ i x, d = exD (ks.getD i 0) x ∧ i < ks.length ∧ Q (.bool (decide (i = j))) N1 := propext Iff.rfl
theorem wIsXT_eq : wIsXT ks js we ε N Q = we ε N fun d N1 => ∃ i x, d = exD (ks.getD i 0) x ∧ i < ks.length ∧ Q (.bool (decide (i ∈ js))) N1 := propext Iff.rfl
theorem wIsB_eq {S : String} : wIsB ks bms S we ε N Q = we ε N fun d N1 => ∃ i x b, d = exD (ks.getD i 0) x ∧ i < ks.length ∧ (bms.getD i []).contains (.type S) = b ∧ Q (.bool b) N1 := propext Iff.rfl
theorem wWhat_eq : wWhat ks we ε N Q = we ε N fun d N1 => ∃ i x, d = exD (ks.getD i 0) x ∧ i < ks.length ∧ Q x N1 := propext Iff.rfl
/-- the try's wish -/
def EW.tr (D : EW) (W : L2.WX) (i j : Nat) (ks : List Addr) (js : List Nat) : EW := { D with w := W, xe := fun e ε1 N1 => ∃ k x, e = flyD (ks.getD k 0) x ∧ k ∈ js ∧ i < ε1.length ∧ D.nx ((ε1.set j (.is (.sh (exD (ks.getD k 0) x)))).set i .no) N1 }
theorem wTryK_eq : wTryK i j ks js wb D ε N = ∀ W, wb W (D.tr W i j ks js) ε N := propext Iff.rfl
theorem tr_w : (D.tr W i j ks js).w = W := rfl
theorem tr_nx : (D.tr W i j ks js).nx ε N = D.nx ε N := propext Iff.rfl
theorem tr_rt : (D.tr W i j ks js).rt t N = D.rt t N := propext Iff.rfl
theorem tr_rx : (D.tr W i j ks js).rx t ε N = D.rx t ε N := propext Iff.rfl
theorem tr_xe : (D.tr W i j ks js).xe e ε N = ∃ k x, e = flyD (ks.getD k 0) x ∧ k ∈ js ∧ i < ε.length ∧ D.nx ((ε.set j (.is (.sh (exD (ks.getD k 0) x)))).set i .no) N := propext Iff.rfl
theorem seq_xe : (D.seq q).xe e ε N = D.xe e ε N := propext Iff.rfl
theorem seq_w : (D.seq q).w = D.w := rfl
theorem loop_xe : (D.loop q).xe e ε N = D.xe e ε N := propext Iff.rfl
theorem loop_w : (D.loop q).w = D.w := rfl
end
section
variable {ε : Env} {N : Nat} {R : T → Nat → Prop} {RE : PyData → Nat → Prop} {RX : T → List T → Nat → Prop} {RXE : PyData → List T → Nat → Prop} {E : XK} {bx : Bool} {md : List Bool} {ts : List T} {t : T} {e : PyData}
theorem fnE_nx : (EW.fnE R RE E).nx ε N = R (.sh .none) N := propext Iff.rfl
theorem fnE_rt : (EW.fnE R RE E).rt t N = R t N := propext Iff.rfl
theorem fnE_xe : (EW.fnE R RE E).xe e ε N = RE e N := propext Iff.rfl
theorem fnE_w : (EW.fnE R RE E).w = xW E := rfl
theorem fnXE_nx : (EW.fnXE bx md ts RX RXE E).nx ε N = dropB bx ε fun ε' => outK md ts ε' fun os => RX (.sh .none) os N := propext Iff.rfl
theorem fnXE_rx : (EW.fnXE bx md ts RX RXE E).rx t ε N = dropB bx ε fun ε' => outK md ts ε' fun os => RX t os N := propext Iff.rfl
theorem fnXE_xe : (EW.fnXE bx md ts RX RXE E).xe e ε N = dropB bx ε fun ε' => outK md ts ε' fun os => RXE e os N := propext Iff.rfl
theorem fnXE_w : (EW.fnXE bx md ts RX RXE E).w = xW E := rfl
end
/-! the try's reading under a head of its own -/
section
variable {X : Cx} {n : Str} {t : Expr} {i j : Nat} {body suite : List Stmt} {b₀ : Stmt} {pos pos' : Pos} {tb : L2.WX → TS} {Wout : L2.WX}
end
end Cg

set_option Elab.async false
set_option linter.all false
set_option maxRecDepth 100000
set_option maxHeartbeats 1000000
namespace Cg
open PySem PySem.Spec PyProof.Rows L2 Evl
section
variable {c : Base} {b bs cs F A B : List Addr} {σ τ : L2.St} {H H1 H2 H' : Hp} {ε δ : Env} {N N1 N2 N' : Nat} {u v : V} {t s : T} {d : PyData} {te tp : TE} {wp : WP} {i j : Nat} {K : PySem.W.Frag} {R : T → Env → Nat → Prop}
/-- p.extend(x), x a list of its own of what is shared -/
def wPlExtO (i : Nat) (wp : WP) (j : Nat) : WX := fun ε N R => wp ε N fun π N1 => atPl ε i π fun s => isLst s fun ts => atOwn ε[j]? fun us => ∃ ds : List PyData, us = ds.map T.sh ∧ ts.length + ds.length ≤ 100000 ∧ R (.sh .none) (putAt ε i π (s.rekid (ts ++ ds.map T.sh))) N1
theorem wPlExtO_eq : wPlExtO i wp j ε N R = wp ε N fun π N1 => atPl ε i π fun s => isLst s fun ts => atOwn ε[j]? fun us => ∃ ds : List PyData, us = ds.map T.sh ∧ ts.length + ds.length ≤ 100000 ∧ R (.sh .none) (putAt ε i π (s.rekid (ts ++ ds.map T.sh))) N1 := propext Iff.rfl
/-- p[k], y = e, f: e something new, f data -/
def wSetPlT (i : Nat) (wp : WP) (wk : WE) (wt : WT) (j : Nat) (wb : WE) : WS := fun D ε N => wt ε N fun x N1 => wb ε N1 fun e N2 => wp ε N2 fun π N3 => wk ε N3 fun dk N4 => dInt dk fun jj => atPl ε i π fun s => isLst s fun ts => ∃ n, ixN ts.length jj = some n ∧ D.nx ((putAt ε i π (s.rekid (ts.set n x))).set j (.is (.sh e))) N4
theorem wSetPlT_eq {D : EW} {wk wb : WE} {wt : WT} {ε : Env} {N : Nat} : wSetPlT i wp wk wt j wb D ε N = wt ε N fun x N1 => wb ε N1 fun e N2 => wp ε N2 fun π N3 => wk ε N3 fun dk N4 => dInt dk fun jj => atPl ε i π fun s => isLst s fun ts => ∃ n, ixN ts.length jj = some n ∧ D.nx ((putAt ε i π (s.rekid (ts.set n x))).set j (.is (.sh e))) N4 := propext Iff.rfl
end
end Cg

set_option Elab.async false
set_option linter.all false
set_option maxRecDepth 100000
set_option maxHeartbeats 1000000
namespace Cg
open PySem PySem.Spec PyProof.Rows L2 Evl
/-! ### a walk over several places, each by another name -/
def wPls : List (Nat × WP) → Env → Nat → (List Addr → Env → Nat → Prop) → Prop
  | [], ε, N, R => R [] ε N
  | (i, wp) :: l, ε, N, R => wp ε N fun π N1 => atPl ε i π fun s => ∀ a, ∃ x, (s.nm a).root = some x ∧ wPls l (putAt ε i π (s.nm a)) N1 fun xs ε' N' => R (x :: xs) ε' N'
section
variable {c : Base} {b bs cs F A B : List Addr} {σ τ : L2.St} {H H1 H2 H' : Hp} {ε δ : Env} {N N1 N2 N' : Nat} {u v : V} {t s : T} {d : PyData} {i j : Nat} {K : PySem.W.Frag} {ta : TA} {tp te : TE} {wp : WP} {we : WE} {wt : WT} {l : List (Nat × WP)} {ts : TS} {wb : WS}
def runP (j : Nat) (wb : WS) (D : EW) : List Addr → Env → Nat → Prop
  | [], ε, N => D.nx ε N
  | x :: xs, ε, N => wb { D with nx := runP j wb D xs, ct := runP j wb D xs, bk := D.nx } (ε.set j (.pin x)) N
/-- for x in (p, ..) -/
def wForPl (j : Nat) (l : List (Nat × WP)) (wb : WS) : WS := fun D ε N => wPls l ε N fun xs ε' N' => xs.length ≤ 1000 ∧ runP j wb D xs ε' N'
theorem wForPl_eq {D : EW} : wForPl j l wb D ε N = wPls l ε N fun xs ε' N' => xs.length ≤ 1000 ∧ runP j wb D xs ε' N' := propext Iff.rfl
theorem wPls_nil {R : List Addr → Env → Nat → Prop} : wPls [] ε N R = R [] ε N := propext Iff.rfl
theorem wPls_cons {R : List Addr → Env → Nat → Prop} : wPls ((i, wp) :: l) ε N R = wp ε N fun π N1 => atPl ε i π fun s => ∀ a, ∃ x, (s.nm a).root = some x ∧ wPls l (putAt ε i π (s.nm a)) N1 fun xs ε' N' => R (x :: xs) ε' N' := propext Iff.rfl
theorem runP_nil {D : EW} : runP j wb D [] ε N = D.nx ε N := propext Iff.rfl
theorem runP_cons {D : EW} {x : Addr} {xs : List Addr} : runP j wb D (x :: xs) ε N = wb (D.loop (runP j wb D xs)) (ε.set j (.pin x)) N := propext Iff.rfl
/-! ### p.reverse(), p.remove(e) -/
def wPlRev (i : Nat) (wp : WP) : WX := fun ε N R => wp ε N fun π N1 => atPl ε i π fun s => isLst s fun ts => R (.sh .none) (putAt ε i π (s.rekid ts.reverse)) N1
theorem wPlRev_eq {R : T → Env → Nat → Prop} : wPlRev i wp ε N R = wp ε N fun π N1 => atPl ε i π fun s => isLst s fun ts => R (.sh .none) (putAt ε i π (s.rekid ts.reverse)) N1 := propext Iff.rfl
def wPlRem (i : Nat) (wp : WP) (we : WE) : WX := fun ε N R => wp ε N fun π N1 => atPl ε i π fun s => isLst s fun ts => we ε N1 fun d N2 => dInt d fun k => ∃ ns : List Int, ts = ns.map (fun n => T.sh (.int n)) ∧ k ∈ ns ∧ R (.sh .none) (putAt ε i π (s.rekid ((ns.erase k).map fun n => T.sh (.int n)))) N2
theorem wPlRem_eq {R : T → Env → Nat → Prop} : wPlRem i wp we ε N R = wp ε N fun π N1 => atPl ε i π fun s => isLst s fun ts => we ε N1 fun d N2 => dInt d fun k => ∃ ns : List Int, ts = ns.map (fun n => T.sh (.int n)) ∧ k ∈ ns ∧ R (.sh .none) (putAt ε i π (s.rekid ((ns.erase k).map fun n => T.sh (.int n)))) N2 := propext Iff.rfl
theorem vals_ints : ∀ (ns : List Int), DqAll H (ns.map V.int) (ns.map PyData.int)
  | [] => .nil
  | n :: ns => .cons (.int n) (vals_ints ns)
end
/-! ### a method that tells a place in what it is asked of -/
abbrev WFP := List T → (List Nat → Prop) → (PyData → Prop) → Prop
theorem VAt.app {H : Hp} {u w : V} {π2 : List Nat} : ∀ {π : List Nat} {v : V}, VAt H v π u → VAt H u π2 w → VAt H v (π ++ π2) w
  | [], v, h, k => by
    have h' : v = u := h
    subst h'
    exact k
  | j :: π, v, ⟨us, x, h1, h2, h3⟩, k => ⟨us, x, h1, h2, h3.app k⟩
/-- x = o.m(..), another name of what stands there -/
def wAlME (j i : Nat) (W : L2.WX) (C : Addr) (ns : List Str) (f : WFP) (n : Nat) (wp : WP) (was : WA) : WS := fun D ε N => D.w = W ∧ wp ε N fun π N1 => (atPl ε i π fun s => isIns C ns s fun _ => True) ∧ was ε N1 fun ds N2 => ds.length + 1 = n ∧
  atPl ε i π fun s => f (s :: ds.map T.sh) (fun π2 => atPl ε i (π ++ π2) fun s2 => ∀ a, ∃ x, (s2.nm a).root = some x ∧ D.nx ((putAt ε i (π ++ π2) (s2.nm a)).set j (.pin x)) N2) fun e => D.xe e ε N2
section
variable {c : Base} {b bs cs F A B : List Addr} {σ τ : L2.St} {H H1 H2 H' : Hp} {ε δ : Env} {N N1 N2 N' : Nat} {u v : V} {t s : T} {d : PyData} {i j : Nat} {K : PySem.W.Frag} {tas : TA} {tp te : TE} {wp : WP} {was : WA} {W : L2.WX} {C : Addr} {ns : List Str} {m : Str}
theorem wAlME_eq {D : EW} {f : WFP} {n : Nat} : wAlME j i W C ns f n wp was D ε N = (D.w = W ∧ wp ε N fun π N1 => (atPl ε i π fun s => isIns C ns s fun _ => True) ∧ was ε N1 fun ds N2 => ds.length + 1 = n ∧
  atPl ε i π fun s => f (s :: ds.map T.sh) (fun π2 => atPl ε i (π ++ π2) fun s2 => ∀ a, ∃ x, (s2.nm a).root = some x ∧ D.nx ((putAt ε i (π ++ π2) (s2.nm a)).set j (.pin x)) N2) fun e => D.xe e ε N2) := propext Iff.rfl
end
end Cg

set_option Elab.async false
set_option linter.all false
set_option maxRecDepth 100000
set_option maxHeartbeats 1000000
namespace Cg
open PySem PySem.Spec PyProof.Rows L2 Evl
/-! ### displays of what is its own -/
section
variable {c : Base} {b bs cs F A B : List Addr} {σ τ : L2.St} {H H1 H2 H' : Hp} {ε δ : Env} {N N1 N2 N' : Nat} {u v : V} {t s : T} {d : PyData} {i j : Nat} {K : PySem.W.Frag} {tas : TA} {te : TE} {wx : WX} {ws : WXs} {ns : List Str}
def wXTupO (ws : WXs) : WX := fun ε N R => ws ε N fun ts ε' N' => ts.length ≤ 1000 ∧ R (.tup ts) ε' N'
def wXLstO (ws : WXs) : WX := fun ε N R => ws ε N fun ts ε' N' => ts.length ≤ 1000 ∧ R (.lst ts) ε' N'
theorem wXTupO_eq {R : T → Env → Nat → Prop} : wXTupO ws ε N R = ws ε N fun ts ε' N' => ts.length ≤ 1000 ∧ R (.tup ts) ε' N' := propext Iff.rfl
theorem wXLstO_eq {R : T → Env → Nat → Prop} : wXLstO ws ε N R = ws ε N fun ts ε' N' => ts.length ≤ 1000 ∧ R (.lst ts) ε' N' := propext Iff.rfl
/-! a record -/
def wXRcO (ns : List Str) (ws : WXs) : WX := fun ε N R => ws ε N fun ts ε' N' => ∀ a, R (.rc a ns ts) ε' N'
theorem wXRcO_eq {R : T → Env → Nat → Prop} : wXRcO ns ws ε N R = ws ε N fun ts ε' N' => ∀ a, R (.rc a ns ts) ε' N' := propext Iff.rfl
/-! x, y = e: its parts -/
def wAsgX2 (i j : Nat) (wx : WX) : WS := fun D ε N => wx ε N fun t ε' N' => ∃ t1 t2, t = .tup [t1, t2] ∧ D.nx ((ε'.set i (.is t1)).set j (.is t2)) N'
theorem wAsgX2_eq {D : EW} : wAsgX2 i j wx D ε N = wx ε N fun t ε' N' => ∃ t1 t2, t = .tup [t1, t2] ∧ D.nx ((ε'.set i (.is t1)).set j (.is t2)) N' := propext Iff.rfl
/-! f(x, ..), x its own and kept, others change slots -/
def wXCallK (i : Nat) (f : WF) (n : Nat) (ws : WXs) : WX := fun ε N R => atIs ε[i]? fun t => ws (ε.set i .no) N fun ts ε' N1 => ts.length + 1 = n ∧ f (t.data :: T.datas ts) 0 fun ret _ => ret.clean = true ∧ R ret (ε'.set i (.is t)) N1
theorem wXCallK_eq {f : WF} {n : Nat} {R : T → Env → Nat → Prop} : wXCallK i f n ws ε N R = atIs ε[i]? fun t => ws (ε.set i .no) N fun ts ε' N1 => ts.length + 1 = n ∧ f (t.data :: T.datas ts) 0 fun ret _ => ret.clean = true ∧ R ret (ε'.set i (.is t)) N1 := propext Iff.rfl
end
end Cg

set_option Elab.async false
set_option linter.all false
set_option maxRecDepth 100000
set_option maxHeartbeats 1000000
namespace Cg
open PySem PySem.Spec PyProof.Rows L2 Evl
/-! ### a method that tells a place: if t: self.check(..); return self.f; self.check2(..); return self.g -/
end Cg

set_option Elab.async false
set_option linter.all false
set_option maxRecDepth 100000
set_option maxHeartbeats 1000000
/-! ### == and != of instances of a class with an __eq__ of its own -/
namespace L2
open PySem PySem.Spec PyProof.Rows
section
variable {M : Model} {prog : Program} {w : World} {A : Around} {E : Value → Shared → Prop} {s : Shared} {K : PySem.W.Frag} {x C f : Addr} {ox : Obj} {od : Option Obj} {b : Value}
end
section
variable {X : Cx} {CX : CXT} {n : Nat} {C f : Addr} {fd : FuncData} {ps : List Str} {sp : Sp} {E : XK}
end
end L2
namespace Cg
open PySem PySem.Spec PyProof.Rows L2 Evl
/-- what == != isinstance ask of an own class besides Cls -/
structure OwnC (K : PySem.W.Frag) (C : Addr) : Prop where
  cl : Cls K C
  mo : PySem.W.mroIn K C (.type "object") = some true
  ne : PySem.W.findIn K (.ref C) "__ne__" = some (some (.builtin "object.__ne__"))
  ca : PySem.W.findIn K (.ref C) "__class__" = some (some (.builtin "object.__class__"))
  cn : PySem.W.specialIn K (.builtin "object.__class__") "__get__" = some (some (.builtin "getset_descriptor.__get__"))
  ct : PySem.W.takesIn K (.builtin "object.__class__") = some true
/-- == or != of two instances, by the class's own def -/
def wEqI (C : Addr) (ns : List Str) (f : WF) (neg : Bool) (wa wb : WE) : WE := fun ε N R => wa ε N fun d N1 => wb ε N1 fun e N2 => (∃ rs, d = recD (.int (C : Int)) ns rs) ∧ (∃ rs, e = recD (.int (C : Int)) ns rs) ∧ f [d, e] 0 fun t _ => ∃ b, t = .sh (.bool b) ∧ R (.bool (if neg then !b else b)) N2
theorem wEqI_eq {C : Addr} {ns : List Str} {f : WF} {neg : Bool} {wa wb : WE} {ε : Env} {N : Nat} {R : PyData → Nat → Prop} : wEqI C ns f neg wa wb ε N R = wa ε N fun d N1 => wb ε N1 fun e N2 => (∃ rs, d = recD (.int (C : Int)) ns rs) ∧ (∃ rs, e = recD (.int (C : Int)) ns rs) ∧ f [d, e] 0 fun t _ => ∃ b, t = .sh (.bool b) ∧ R (.bool (if neg then !b else b)) N2 := propext Iff.rfl
/-- isinstance(e, C) of an instance of C -/
def wIsI (C : Addr) (we : WE) : WE := fun ε N R => we ε N fun d N1 => (∃ ns rs, d = recD (.int (C : Int)) ns rs) ∧ R (.bool true) N1
theorem wIsI_eq {C : Addr} {we : WE} {ε : Env} {N : Nat} {R : PyData → Nat → Prop} : wIsI C we ε N R = we ε N fun d N1 => (∃ ns rs, d = recD (.int (C : Int)) ns rs) ∧ R (.bool true) N1 := propext Iff.rfl
end Cg
namespace Cg
open PySem PySem.Spec PyProof.Rows L2 Evl
/-! a place within a tuple of own things -/
section
variable {K : PySem.W.Frag} {tp tk : TE} {wk : WE} {wp : WP} {i : Nat}
def wPT (i : Nat) (wp : WP) (wk : WE) : WP := fun ε N R => wp ε N fun π N1 => wk ε N1 fun d N2 => dInt d fun j => atPl ε i π fun s => ∃ ts, s = .tup ts ∧ ∃ n, ixN ts.length j = some n ∧ R (π ++ [n]) N2
theorem wPT_eq {ε : Env} {N : Nat} {R : List Nat → Nat → Prop} : wPT i wp wk ε N R = wp ε N fun π N1 => wk ε N1 fun d N2 => dInt d fun j => atPl ε i π fun s => ∃ ts, s = .tup ts ∧ ∃ n, ixN ts.length j = some n ∧ R (π ++ [n]) N2 := propext Iff.rfl
end
end Cg
namespace Cg
open PySem PySem.Spec PyProof.Rows L2 Evl
/-! a list's name forgotten -/
section
variable {ts : TS} {ws : WS} {i j : Nat}
def wFgJ (j i : Nat) (ws : WS) : WS := fun D => ws { D with nx := fun ε N => atPin ε[j]? fun a => ∃ π, atPl ε i π fun s => s.root = some a ∧ D.nx (putAt ε i π s.fg) N }
def EW.fgJ (D : EW) (j i : Nat) : EW := { D with nx := fun ε N => atPin ε[j]? fun a => ∃ π, atPl ε i π fun s => s.root = some a ∧ D.nx (putAt ε i π s.fg) N }
theorem wFgJ_eq {D : EW} {ε : Env} {N : Nat} : wFgJ j i ws D ε N = ws (D.fgJ j i) ε N := propext Iff.rfl
theorem fgJ_nx {D : EW} {ε : Env} {N : Nat} : (D.fgJ j i).nx ε N = atPin ε[j]? fun a => ∃ π, atPl ε i π fun s => s.root = some a ∧ D.nx (putAt ε i π s.fg) N := propext Iff.rfl
theorem fgJ_rt {D : EW} {t : T} {N : Nat} : (D.fgJ j i).rt t N = D.rt t N := propext Iff.rfl
theorem fgJ_rx {D : EW} {t : T} {ε : Env} {N : Nat} : (D.fgJ j i).rx t ε N = D.rx t ε N := propext Iff.rfl
theorem fgJ_xe {D : EW} {e : PyData} {ε : Env} {N : Nat} : (D.fgJ j i).xe e ε N = D.xe e ε N := propext Iff.rfl
theorem fgJ_w {D : EW} : (D.fgJ j i).w = D.w := rfl
def wFgE (j i : Nat) (ws : WS) : WS := fun D => ws { D with xe := fun e ε N => atPin ε[j]? fun a => ∃ π, atPl ε i π fun s => s.root = some a ∧ D.xe e (putAt ε i π s.fg) N }
def EW.fgE (D : EW) (j i : Nat) : EW := { D with xe := fun e ε N => atPin ε[j]? fun a => ∃ π, atPl ε i π fun s => s.root = some a ∧ D.xe e (putAt ε i π s.fg) N }
theorem wFgE_eq {D : EW} {ε : Env} {N : Nat} : wFgE j i ws D ε N = ws (D.fgE j i) ε N := propext Iff.rfl
theorem fgE_nx {D : EW} {ε : Env} {N : Nat} : (D.fgE j i).nx ε N = D.nx ε N := propext Iff.rfl
theorem fgE_rt {D : EW} {t : T} {N : Nat} : (D.fgE j i).rt t N = D.rt t N := propext Iff.rfl
theorem fgE_rx {D : EW} {t : T} {ε : Env} {N : Nat} : (D.fgE j i).rx t ε N = D.rx t ε N := propext Iff.rfl
theorem fgE_xe {D : EW} {e : PyData} {ε : Env} {N : Nat} : (D.fgE j i).xe e ε N = atPin ε[j]? fun a => ∃ π, atPl ε i π fun s => s.root = some a ∧ D.xe e (putAt ε i π s.fg) N := propext Iff.rfl
theorem fgE_w {D : EW} : (D.fgE j i).w = D.w := rfl
theorem kids_tup {ts : List T} : (T.tup ts).kids = ts := rfl
theorem rekid_tup {ts us : List T} : (T.tup ts).rekid us = .tup us := rfl
end
end Cg

set_option Elab.async false
set_option linter.all false
set_option maxRecDepth 100000
set_option maxHeartbeats 1000000
namespace Cg
open PySem PySem.Spec PyProof.Rows L2 Evl
/-! tuple(a list of its own) -/
section
variable {ta : TE} {wt : WT}
def wTupC (wt : WT) : WT := fun ε N R => wt ε N fun t N' => isLst t fun ts => R (.tup ts) N'
theorem wTupC_eq {ε : Env} {N : Nat} {R : T → Nat → Prop} : wTupC wt ε N R = wt ε N fun t N' => isLst t fun ts => R (.tup ts) N' := propext Iff.rfl
end
end Cg

set_option Elab.async false
set_option linter.all false
set_option maxRecDepth 100000
set_option maxHeartbeats 1000000
namespace Cg
open PySem PySem.Spec PyProof.Rows L2 Evl
/-! parts of an own thing told as data -/
mutual
inductive Wk : T → T → Prop
  | refl {t : T} : Wk t t
  | sh {t : T} : Wk t (.sh t.data)
  | lst {ts us : List T} (h : WkL ts us) : Wk (.lst ts) (.lst us)
  | tup {ts us : List T} (h : WkL ts us) : Wk (.tup ts) (.tup us)
  | tpa {a : Addr} {ts us : List T} (h : WkL ts us) : Wk (.tpa a ts) (.tpa a us)
  | ins {a C : Addr} {ns : List Str} {ts us : List T} (h : WkL ts us) : Wk (.ins a C ns ts) (.ins a C ns us)
  | rc {a : Addr} {ns : List Str} {ts us : List T} (h : WkL ts us) : Wk (.rc a ns ts) (.rc a ns us)
  | dct {a : Addr} {ks : DKs} {ts us : List T} (h : WkL ts us) : Wk (.dct a ks ts) (.dct a ks us)
  | lsa {a : Addr} {ts us : List T} (h : WkL ts us) : Wk (.lsa a ts) (.lsa a us)
inductive WkL : List T → List T → Prop
  | nil : WkL [] []
  | cons {t u : T} {ts us : List T} (h : Wk t u) (k : WkL ts us) : WkL (t :: ts) (u :: us)
end
theorem WkL.refl : ∀ {ts : List T}, WkL ts ts
  | [] => .nil
  | _ :: _ => .cons .refl WkL.refl
theorem WkL.map {α : Type} {f g : α → T} : ∀ {xs : List α}, (∀ x ∈ xs, Wk (f x) (g x)) → WkL (xs.map f) (xs.map g)
  | [], _ => .nil
  | x :: xs, h => .cons (h x (List.mem_cons_self ..)) (WkL.map fun y hy => h y (List.mem_cons_of_mem _ hy))
section
variable {bs : List Addr} {H : Hp}
mutual
theorem Rep.weak (nt : NoTup bs H) : ∀ {t t' : T} {v : V} {A : List Addr}, Wk t t' → Rep bs H v t A → A.Nodup → ∃ A', List.Sublist A' A ∧ ∀ {hs : List Addr}, NoTup hs H → (∀ a ∈ hs, a ∈ bs) → (∀ a ∈ A, a ∈ hs → a ∈ A') → Rep hs H v t' A'
  | _, _, _, A, .refl, r, _ => ⟨A, List.Sublist.refl _, fun _ hh _ => Rep.chg nt (hid_less hh) (fun _ _ _ e => e) r⟩
  | _, _, _, A, .sh, r, _ => ⟨[], List.nil_sublist _, fun hn hh hA => .sh (Rep.data hn hh (fun a ha z => nomatch hA a ha z) r)⟩
  | _, _, _, _, .lst w, .lst e h, nd => by
    obtain ⟨n1, n2⟩ := List.nodup_cons.mp nd
    obtain ⟨A', s, k⟩ := RepL.weak nt w h n2
    exact ⟨_ :: A', s.cons_cons _, fun hn hh hA => .lst e (k hn hh fun a ha z => (List.mem_cons.mp (hA a (List.mem_cons_of_mem _ ha) z)).elim (fun y => absurd (y ▸ ha) n1) id)⟩
  | _, _, _, _, .lsa w, .lsa e h, nd => by
    obtain ⟨n1, n2⟩ := List.nodup_cons.mp nd
    obtain ⟨A', s, k⟩ := RepL.weak nt w h n2
    exact ⟨_ :: A', s.cons_cons _, fun hn hh hA => .lsa e (k hn hh fun a ha z => (List.mem_cons.mp (hA a (List.mem_cons_of_mem _ ha) z)).elim (fun y => absurd (y ▸ ha) n1) id)⟩
  | _, _, _, _, .tup w, .tup e h, nd => by
    obtain ⟨A', s, k⟩ := RepL.weak nt w h nd
    exact ⟨A', s, fun hn hh hA => .tup e (k hn hh hA)⟩
  | _, _, _, _, .tpa w, .tpa e h, nd => by
    obtain ⟨A', s, k⟩ := RepL.weak nt w h nd
    exact ⟨A', s, fun hn hh hA => .tpa e (k hn hh hA)⟩
  | _, _, _, _, .rc w, .rc e l h, nd => by
    obtain ⟨n1, n2⟩ := List.nodup_cons.mp nd
    obtain ⟨A', s, k⟩ := RepL.weak nt w h n2
    exact ⟨_ :: A', s.cons_cons _, fun hn hh hA => .rc e l (k hn hh fun a ha z => (List.mem_cons.mp (hA a (List.mem_cons_of_mem _ ha) z)).elim (fun y => absurd (y ▸ ha) n1) id)⟩
  | _, _, _, _, .dct w, .dct e l n0 h, nd => by
    obtain ⟨n1, n2⟩ := List.nodup_cons.mp nd
    obtain ⟨A', s, k⟩ := RepL.weak nt w h n2
    exact ⟨_ :: A', s.cons_cons _, fun hn hh hA => .dct e l n0 (k hn hh fun a ha z => (List.mem_cons.mp (hA a (List.mem_cons_of_mem _ ha) z)).elim (fun y => absurd (y ▸ ha) n1) id)⟩
  | _, _, _, _, .ins w, .ins e e2 l h, nd => by
    obtain ⟨n1, nd2⟩ := List.nodup_cons.mp nd
    obtain ⟨n2, n3⟩ := List.nodup_cons.mp nd2
    obtain ⟨A', s, k⟩ := RepL.weak nt w h n3
    exact ⟨_ :: _ :: A', (s.cons_cons _).cons_cons _, fun hn hh hA => .ins e e2 l (k hn hh fun a ha z => (List.mem_cons.mp (hA a (List.mem_cons_of_mem _ (List.mem_cons_of_mem _ ha)) z)).elim (fun y => absurd (List.mem_cons_of_mem _ (y ▸ ha)) n1) fun y => (List.mem_cons.mp y).elim (fun y => absurd (y ▸ ha) n2) id)⟩
theorem RepL.weak (nt : NoTup bs H) : ∀ {ts us : List T} {vs : List V} {A : List Addr}, WkL ts us → RepL bs H vs ts A → A.Nodup → ∃ A', List.Sublist A' A ∧ ∀ {hs : List Addr}, NoTup hs H → (∀ a ∈ hs, a ∈ bs) → (∀ a ∈ A, a ∈ hs → a ∈ A') → RepL hs H vs us A'
  | _, _, _, _, .nil, .nil, _ => ⟨[], List.Sublist.refl _, fun _ _ _ => .nil⟩
  | _, _, _, _, .cons w ws, .cons h t, nd => by
    obtain ⟨n1, n2, n3⟩ := List.nodup_append.mp nd
    obtain ⟨A', s, k⟩ := Rep.weak nt w h n1
    obtain ⟨B', s2, k2⟩ := RepL.weak nt ws t n2
    exact ⟨A' ++ B', s.append s2, fun hn hh hA => .cons
      (k hn hh fun a ha z => (List.mem_append.mp (hA a (List.mem_append_left _ ha) z)).elim id fun y => absurd rfl (n3 a ha a (s2.subset y)))
      (k2 hn hh fun a ha z => (List.mem_append.mp (hA a (List.mem_append_right _ ha) z)).elim (fun y => absurd rfl (n3 a (s.subset y) a ha)) id)⟩
end
end
section
variable {c : Base} {bs F : List Addr} {σ : L2.St} {H : Hp} {ε : Env} {N : Nat}
theorem Rel.weak {i : Nat} {t t' : T} (r : Rel c bs F σ H ε N) (hl : ε[i]? = some (.is t)) (w : Wk t t') : ∃ bs' F', Rel c bs' F' σ H (ε.set i (.is t')) N := by
  obtain ⟨z, A, F1, F2, q1, q2, rfl, q4⟩ := r.env.at hl
  cases q2 with
  | is q2 =>
    rename_i v
    have hA : ∀ a ∈ A, a ∈ F1 ++ (A ++ F2) := fun a ha => List.mem_append_right _ (List.mem_append_left _ ha)
    obtain ⟨_, p2, p3⟩ := List.nodup_append.mp r.nd
    obtain ⟨ndA, _, p4⟩ := List.nodup_append.mp p2
    obtain ⟨A', sA, wk⟩ := Rep.weak r.nt w q2 ndA
    let bs' := bs.filter fun a => !(decide (a ∈ A) && !decide (a ∈ A'))
    have hs : ∀ a, a ∈ bs' ↔ a ∈ bs ∧ (a ∈ A → a ∈ A') := fun a => by
      show a ∈ bs.filter _ ↔ _
      rw [List.mem_filter]
      by_cases h1 : a ∈ A <;> by_cases h2 : a ∈ A' <;> simp [h1, h2]
    have less : Same (hid bs H) (hid bs' H) := hid_less fun a ha => ((hs a).mp ha).1
    have nt' : NoTup bs' H := fun a ha => r.nt a ((hs a).mp ha).1
    have rp : Rep bs' H v t' A' := wk nt' (fun a ha => ((hs a).mp ha).1) fun a ha z => ((hs a).mp z).2 ha
    have env := q4 (cs := bs') (H' := H) (y := some v) (m := .is t') r.nt less (fun _ _ _ e => e) (.is rp)
    rw [set_same q1] at env
    have hm : ∀ a ∈ F1 ++ (A' ++ F2), a ∈ F1 ++ (A ++ F2) ∧ (a ∈ A → a ∈ A') := fun a ha => by
      rcases List.mem_append.mp ha with h | h
      · exact ⟨List.mem_append_left _ h, fun z => absurd rfl (p3 a h a (List.mem_append_left _ z))⟩
      · rcases List.mem_append.mp h with h | h
        · exact ⟨hA a (sA.subset h), fun _ => h⟩
        · exact ⟨List.mem_append_right _ (List.mem_append_right _ h), fun z => absurd rfl (p4 a z a h)⟩
    exact ⟨bs', F1 ++ (A' ++ F2), env, nodup_mid r.nd (ndA.sublist sA) (fun a ha => ⟨fun z => p3 a z a (List.mem_append_left _ (sA.subset ha)) rfl, fun z => p4 a (sA.subset ha) a z rfl⟩), fun a ha => (hs a).mpr ⟨r.sub a (hm a ha).1, (hm a ha).2⟩, fun a ha => r.off a (hm a ha).1, fun a ha => r.nb a (hm a ha).1, fun a ha => (hs a).mpr ⟨r.up a ha, fun z => absurd ha (r.nb a (hA a z))⟩, r.bb, r.offb, fun a ha => r.live a ((hs a).mp ha).1, nt', r.box, r.pin, r.vis.trans less⟩
end
section
variable {ts : TS} {ws : WS} {i : Nat}
def wWk (i : Nat) (ws : WS) : WS := fun D => ws { D with nx := fun ε N => atIs ε[i]? fun t => ∃ t', Wk t t' ∧ D.nx (ε.set i (.is t')) N }
def EW.wk (D : EW) (i : Nat) : EW := { D with nx := fun ε N => atIs ε[i]? fun t => ∃ t', Wk t t' ∧ D.nx (ε.set i (.is t')) N }
theorem wWk_eq {D : EW} {ε : Env} {N : Nat} : wWk i ws D ε N = ws (D.wk i) ε N := propext Iff.rfl
theorem wk_nx {D : EW} {ε : Env} {N : Nat} : (D.wk i).nx ε N = atIs ε[i]? fun t => ∃ t', Wk t t' ∧ D.nx (ε.set i (.is t')) N := propext Iff.rfl
theorem wk_rt {D : EW} {t : T} {N : Nat} : (D.wk i).rt t N = D.rt t N := propext Iff.rfl
theorem wk_rx {D : EW} {t : T} {ε : Env} {N : Nat} : (D.wk i).rx t ε N = D.rx t ε N := propext Iff.rfl
theorem wk_xe {D : EW} {e : PyData} {ε : Env} {N : Nat} : (D.wk i).xe e ε N = D.xe e ε N := propext Iff.rfl
theorem wk_w {D : EW} : (D.wk i).w = D.w := rfl
end
end Cg

set_option Elab.async false
set_option linter.all false
set_option maxRecDepth 100000
set_option maxHeartbeats 1000000
/-! EM: what repr tells of numbers may be compared with == -/
namespace Cg
open PySem PySem.Spec PyProof.Rows L2 Evl
theorem sok_iff {x : Str} : PyData.strOk x = true ↔ ∀ c ∈ x.cps.toList, c < 0x110000 := by
  show (x.cps.all fun c => decide (c < 0x110000)) = true ↔ _
  rw [← Array.all_toList, List.all_eq_true]
  exact ⟨fun h c hc => of_decide_eq_true (h c hc), fun h c hc => decide_eq_true (h c hc)⟩
theorem sok_app {a b : Str} (h : PyData.strOk a = true) (k : PyData.strOk b = true) : PyData.strOk (a ++ b) = true := by
  rw [sok_iff] at *
  intro c hc
  have hc : c ∈ (a.cps ++ b.cps).toList := hc
  rw [Array.toList_append] at hc
  exact (List.mem_append.mp hc).elim (h c) (k c)
theorem sok_str (s : String) : PyData.strOk (Str.ofString s) = true := by
  rw [sok_iff]
  intro c hc
  have hc : c ∈ (cpsOfBytes 0 0 s.toByteArray.data.toList) := hc
  rw [cpsOfBytes_string] at hc
  obtain ⟨z, _, rfl⟩ := List.mem_map.mp hc
  have := z.valid
  rcases this with h | h
  · show z.val.toNat < _; have : z.val.toNat < 55296 := h; omega
  · show z.val.toNat < _; exact h.2
theorem sok_from : ∀ {ts : List Str} {k : Nat} {acc : Str}, PyData.strOk acc = true → (∀ t ∈ ts, PyData.strOk t = true) → PyData.strOk (textFrom k acc ts) = true
  | [], _, _, h, _ => h
  | t :: ts, k, acc, h, ht => sok_from (ts := ts) (sok_app (sok_app h (sok_str _)) (ht t (List.mem_cons_self ..))) fun u hu => ht u (List.mem_cons_of_mem _ hu)
theorem sok_join {sep : Str} (hs : PyData.strOk sep = true) : ∀ {ts : List Str}, (∀ t ∈ ts, PyData.strOk t = true) → PyData.strOk (Str.join sep ts) = true
  | [], _ => sok_iff.mpr fun c hc => nomatch (show c ∈ ([] : List Nat) from hc)
  | [x], h => h x (List.mem_cons_self ..)
  | x :: y :: r, h => sok_app (sok_app (h x (List.mem_cons_self ..)) hs) (sok_join hs (ts := y :: r) fun u hu => h u (List.mem_cons_of_mem _ hu))
mutual
/-- numbers alone, to any depth -/
def numD : PyData → Bool
  | .none => true
  | .bool _ => true
  | .int _ => true
  | .str _ => false
  | .list xs => numAll xs
  | .tuple xs => numAll xs
  | .dict _ => false
def numAll : List PyData → Bool
  | [] => true
  | x :: xs => numD x && numAll xs
end
mutual
theorem shown_ok : ∀ {d : PyData}, numD d = true → PyData.strOk d.shown = true
  | .none, _ => sok_str _
  | .bool b, _ => by cases b <;> exact sok_str _
  | .int i, _ => sok_str _
  | .str _, h => nomatch h
  | .list xs, h => sok_app (sok_from (sok_str _) (shownAll_ok (xs := xs) h)) (sok_str _)
  | .tuple xs, h => sok_app (sok_app (sok_str _) (sok_join (sok_str _) (shownAll_ok (xs := xs) h))) (by split <;> exact sok_str _)
  | .dict _, h => nomatch h
theorem shownAll_ok : ∀ {xs : List PyData}, numAll xs = true → ∀ t ∈ PyData.shownAll xs, PyData.strOk t = true
  | [], _, _, ht => nomatch ht
  | x :: xs, h, t, ht => by
    have h : (numD x && numAll xs) = true := h
    rw [Bool.and_eq_true] at h
    have ht : t ∈ x.shown :: PyData.shownAll xs := ht
    rcases List.mem_cons.mp ht with rfl | ht
    · exact shown_ok h.1
    · exact shownAll_ok h.2 t ht
end
end Cg

set_option Elab.async false
set_option linter.all false
set_option maxRecDepth 100000
set_option maxHeartbeats 1000000
/-! EN: a dict of defs at the module's top: word not in D; check = D[word]; return check(x) -/
namespace Cg
open PySem PySem.Spec PyProof.Rows L2 Evl
/-- at D: a dict of texts to functions, written at the top -/
structure TabF (K : PySem.W.Frag) (w : World) (D : Addr) (fs : List (Str × Addr)) : Prop where
  kd : ∃ es n, KDict K w D es n
  hit : ∀ q ∈ fs, PySem.W.nsIn K D q.1 = some (some (.ref q.2))
  miss : ∀ z, z ∉ fs.map (·.1) → PySem.W.nsIn K D z = some none
section
variable {X : Cx} {K : PySem.W.Frag} {w0 : World} {D : Addr} {fs : List (Str × Addr)}
theorem TabF.at (T : TabF K w0 D fs) {z : Str} {a : Addr} (h : (z, a) ∈ fs) : KDct K w0 D z (.ref a) := by
  obtain ⟨es, n, KD⟩ := T.kd
  exact ⟨es, n, .ref a, KD.at_, KD.lit, T.hit _ h, rfl⟩
end
section
variable {K : PySem.W.Frag} {w0 : World} {D : Addr} {fs : List (Str × Addr)} {te : TE} {we : WE} {ta : TA} {wa : WA}
def wNotKD (ks : List Str) (we : WE) : WE := fun ε N R => we ε N fun d N1 => ∃ z, d = .str z ∧ R (.bool (!ks.contains z)) N1
theorem wNotKD_eq {ks : List Str} {ε : Env} {N : Nat} {R : PyData → Nat → Prop} : wNotKD ks we ε N R = we ε N fun d N1 => ∃ z, d = .str z ∧ R (.bool (!ks.contains z)) N1 := propext Iff.rfl
/-- check = D[word]; return check(args) -/
def wDisp (i : Nat) (tbl : List (Str × WF)) (we : WE) (wa : WA) : WS := fun DW ε N => i < ε.length ∧ we ε N fun d N1 => ∃ z f, d = .str z ∧ tbl.lookup z = some f ∧ ∀ a : Addr, wa (ε.set i (.pin a)) N1 fun ds N2 => f ds 0 fun t _ => DW.rt t N2
theorem wDisp_eq {i : Nat} {tbl : List (Str × WF)} {DW : EW} {ε : Env} {N : Nat} : wDisp i tbl we wa DW ε N = (i < ε.length ∧ we ε N fun d N1 => ∃ z f, d = .str z ∧ tbl.lookup z = some f ∧ ∀ a : Addr, wa (ε.set i (.pin a)) N1 fun ds N2 => f ds 0 fun t _ => DW.rt t N2) := propext Iff.rfl
end
end Cg
namespace Cg
open PySem PySem.Spec PyProof.Rows L2 Evl
end Cg

set_option Elab.async false
set_option linter.all false
set_option maxRecDepth 100000
set_option maxHeartbeats 4000000
/-! EO: sorted(x) of ints, x a list or a tuple -/
namespace SrtO
open PySem PySem.Spec PySem.W PyProof.Rows PyProof Builtin Builtin.List
variable {prog : Program} {w : World} {A : Around} {E : Value → Shared → Prop} {s : Shared}
end SrtO
namespace Cg
open PySem PySem.Spec PyProof.Rows L2 Evl
section
variable {X : Cx}
end
end Cg
namespace Cg
open PySem PySem.Spec PyProof.Rows L2 Evl
/-! a op b, where a is a call that may raise -/
section
variable {W : L2.WX} {ta tb : TE} {wb : WX} {ε : Env} {N : Nat} {R : T → Env → Nat → Prop} {RE : PyData → Env → Nat → Prop}
def wEOp (o : O2) (wa : WXE) (wb : WX) : WXE := fun ε N R RE => wa ε N (fun t ε1 N1 => wb ε1 N1 fun s ε2 N2 => shT t fun d => shT s fun e => o d e fun f => R (.sh f) ε2 N2) RE
theorem wEOp_eq {o : O2} {wa : WXE} : wEOp o wa wb ε N R RE = wa ε N (fun t ε1 N1 => wb ε1 N1 fun s ε2 N2 => shT t fun d => shT s fun e => o d e fun f => R (.sh f) ε2 N2) RE := propext Iff.rfl
end
end Cg
namespace Cg
open PySem PySem.Spec PyProof.Rows L2 Evl
/-! x[a:b] of a tuple, not whole -/
section
variable {te : TE} {we : WE}
def wSlU (we : WE) (wl wh : WO) : WE := fun ε N R => we ε N fun d N1 => wl ε N1 fun lo N2 => wh ε N2 fun hi N3 => dTup d fun a => ¬ (HT.sIx a.length 0 lo = 0 ∧ HT.sIx a.length a.length hi = a.length) ∧ R (.tuple (cutG a lo hi)) N3
theorem wSlU_eq {wl wh : WO} {ε : Env} {N : Nat} {R : PyData → Nat → Prop} : wSlU we wl wh ε N R = we ε N fun d N1 => wl ε N1 fun lo N2 => wh ε N2 fun hi N3 => dTup d fun a => ¬ (HT.sIx a.length 0 lo = 0 ∧ HT.sIx a.length a.length hi = a.length) ∧ R (.tuple (cutG a lo hi)) N3 := propext Iff.rfl
theorem slTK2 {X : Cx} (K : PySem.W.Frag) (hK : X.K = K := by rfl) : SlR X (rSlT K) := by subst hK; exact sl_tup
theorem sim_slU {K : PySem.W.Frag} {tl th : TO} {wl wh : WO} (h : SimE te we) (hl : SimO tl wl) (hh : SimO th wh) : SimE (tSl (rSlT K) te tl th) (wSlU we wl wh) := fun {c bs F σ H ε N R Q} r w q => h r w fun v d N1 H1 w1 o1 hd => hl (r.out o1) w1 fun lo N2 H2 w2 o2 => hh (r.out (o1.trans o2)) w2 fun hi N3 H3 w3 o3 => by
  have o := (o1.trans o2).trans o3
  have hd3 := out_dq (o2.trans o3) r.bin hd
  cases hd3 <;> first | exact False.elim w3 | skip
  rename_i a xs ds e1 h1
  obtain ⟨wn, w3⟩ := w3
  refine ⟨a, xs, rfl, SqT.of (hid_some e1).2, by rw [h1.len]; exact wn, fun p np => ?_⟩
  have o' := o.ext (Ex.new (o := .tup (cutV xs lo hi)) np)
  refine q _ _ N3 _ w3 o' (.tup ?_ ((h1.cut lo hi).mono (same_hid (Ex.new np))))
  rw [hid_out ((out_live o r.live).out np), upd_same]
end
end Cg
namespace Cg
open PySem PySem.Spec PyProof.Rows L2 Evl
/-! len(set(x)), x a tuple of ints -/
section
variable {X : Cx} {ta te : TE} {we : WE}
def wLenSetU (we : WE) : WE := fun ε N R => we ε N fun d N1 => dTup d fun ds => ∃ ns, intsOf ds = some ns ∧ ns.length ≤ 4000 ∧ ∀ xs : List Int, xs.Nodup → (∀ k, k ∈ xs ↔ k ∈ ns) → R (.int (xs.length : Nat)) N1
theorem wLenSetU_eq {ε : Env} {N : Nat} {R : PyData → Nat → Prop} : wLenSetU we ε N R = we ε N fun d N1 => dTup d fun ds => ∃ ns, intsOf ds = some ns ∧ ns.length ≤ 4000 ∧ ∀ xs : List Int, xs.Nodup → (∀ k, k ∈ xs ↔ k ∈ ns) → R (.int (xs.length : Nat)) N1 := propext Iff.rfl
end
/-! ### xs.index(b), a list of bools -/
section
open PySem PySem.Spec PyProof.Rows L2 Evl Cg
end
end Cg

set_option Elab.async false
set_option linter.all false
set_option maxRecDepth 100000
set_option maxHeartbeats 4000000
/-! tuples: slices of any kind, t + u of any, t[::-1] -/
namespace Cg
open PySem PySem.Spec PyProof.Rows L2 Evl
section
variable {te ta tb : TE} {we : WE}
end
/-! t[::-1] -/
section
open HT
variable {prog : Program} {w : World} {A : Around} {E : Value → Shared → Prop} {s : Shared}
end
section
variable {X : Cx} {te : TE} {we : WE}
end
/-! x in a list or tuple of texts -/
section
open PySem PySem.Spec PyProof.Rows L2 Evl
end
/-! truths as numbers: b + i, b - i, str of a number or a truth -/
section
open PySem PySem.Spec PyProof.Rows L2 Evl
variable {X : Cx}
end
end Cg

set_option Elab.async false
set_option linter.all false
set_option maxRecDepth 100000
set_option maxHeartbeats 1000000
/-! ### a small end: the top run in the kernel, what it leaves looked at by a test of one's own -/
namespace Cg
open PySem PySem.Spec PyProof.Rows L2 Evl
section
variable {fn : List He.DefD} {K : PySem.W.Frag} {B : List (PySem.W.Frag → Bool)}
/-- the i-th test -/
theorem test_at (c : (B.all fun f => f K) = true) (i : Nat) {f : PySem.W.Frag → Bool} (h : B[i]? = some f := by rfl) : f K = true := List.all_eq_true.mp c f (List.mem_of_getElem? h)
/-- the i-th def, of no default before the star: as all_mk wants it -/
theorem def_at (c : He.SaysD [] fn K) (i : Nat) {d : He.DefD} (h : fn[i]? = some d := by rfl) (hd : d.dfl = [] := by rfl) :
    ∃ (oc : Value) (od : Option Addr) (kV dc pm : Value) (an : Option Addr) (cd ct : Value) (sl : Array (Option Value)),
      K.lookup (He.fAd K d.at_) = some ⟨oc, od, .func (PySem.W.fnOf d.name d.qual d.params d.body d.scope .none kV dc pm an cd ct), sl⟩ ∧ PySem.W.codeIn K cd d.qual = true ∧ PySem.W.keepIn K (.ref (He.fAd K d.at_)) = true ∧ L2.KwdV K kV (d.kws K) := by
  obtain ⟨fd, F⟩ := He.SaysD.def_ c i h
  obtain ⟨oc, od, dV, kV, doc, pm, an, cdv, ct, osl, rfl, lk, hc, hD, hK⟩ := F.ex
  have e : dV = .none := by
    rcases hD with ⟨_, e⟩ | ⟨e, _⟩
    · exact e
    · exact absurd (by unfold He.DefD.dvs; rw [hd]; rfl) e
  subst e
  exact ⟨oc, od, kV, doc, pm, an, cdv, ct, osl, lk, hc, F.kp, hK⟩
/-- the same, its text told -/
theorem def_at2 (c : He.SaysD [] fn K) (i : Nat) {a : Str × Option Str} {name qual : Str} {st : Stmt} {kwd : List (Str × He.Dv)} (h : fn[i]? = some ⟨a, name, qual, defArgs st, defBody st, defScope st, [], kwd⟩) :
    ∃ (oc : Value) (od : Option Addr) (kV dc pm : Value) (an : Option Addr) (cd ct : Value) (sl : Array (Option Value)),
      K.lookup (He.fAd K a) = some ⟨oc, od, .func (PySem.W.fnOf name qual (defArgs st) (defBody st) (defScope st) .none kV dc pm an cd ct), sl⟩ ∧ PySem.W.codeIn K cd qual = true ∧ PySem.W.keepIn K (.ref (He.fAd K a)) = true ∧ L2.KwdV K kV (kwd.map fun q => (q.1, q.2.v K)) := def_at c i h rfl
end
/-- a law over a head by facts -/
theorem walkGE {l : PySem.W.OpenLaw} {n k : Nat} {q : Program} {loose : List Str} {XP : (Str → Option Value) → Heap → Prop} {YP : World → Heap → Prop} {d : DefRec} {sp : PySem.W.Frag → Sp} {x : Str}
    (hn : l.most = some n) (hn2 : n ≤ sizeLine) (hdf : d.params.defaults = []) (room : Room k callerA)
    (F : ∀ (w : World) (mg : Str → Option Value) (fa : Addr) (h : Heap), YP w h → h.Ns mainGlobals mg → mg d.name = some (.ref fa) → ∃ (K : PySem.W.Frag) (fd : FuncData), K.In h ∧ (∀ (s : Shared) (u : Value), BindsTo s fd ⟨[u], []⟩ [(x, u)]) ∧
      ∀ base : Heap, K.In base → base.Ns mainGlobals mg → FnG l.prog w K mg base k fa fd [x] (sp K))
    (hsp : ∀ (K : PySem.W.Frag) (H : Hp) (a : Addr) (ns : List Int), ns.length ≤ n → SqL K H a (ns.map V.int) → sp K [.ref a] H (fun v _ => v = .bl true) E0) : PySem.W.WalkO q loose XP YP l.row.toRowW d [] (fun f vs => PySem.call f vs) := by
  refine Att.attach_call hn hdf ?_
  intro w s0 s1 mg mb fa o pm cd doc a vs ns G Y ho hd hcd hmg hobj hints hlen gens
  obtain ⟨K, fd, KX, hb, hF⟩ := F w mg fa _ Y G.T.g hmg
  exact law_at KX G.T.g G.T.b G.T.builtins G.T.nolimit gens hobj hints (Nat.le_trans hlen hn2) room hF hb fun H hS => hsp K H a ns hlen hS
end Cg

set_option Elab.async false
set_option linter.all false
set_option maxRecDepth 100000
set_option maxHeartbeats 1000000
/-! EQ: a record that grows; a comprehension over pairs whose element changes slots -/
namespace L2
open PySem PySem.Spec PyProof.Rows
section
variable {X : Cx}
end
end L2
namespace Cg
open PySem PySem.Spec PyProof.Rows L2 Evl
section
variable {c : Base} {b bs cs F A B : List Addr} {σ τ : L2.St} {H H1 H2 H' : Hp} {ε δ : Env} {N N1 N2 N' : Nat} {u v : V} {t s : T} {d : PyData} {i : Nat} {K : PySem.W.Frag} {tp te : TE} {wp : WP} {wt : WT}
/-- p.update({..}), all keys new -/
def wKUp (i : Nat) (ns ns2 : List Str) (wp : WP) (wt : WT) : WX := fun ε N R => wp ε N fun π N1 => atPl ε i π fun s => rcK ns s fun a ts => wt ε N1 fun x N2 => rcK ns2 x fun _ us => R (.sh .none) (putAt ε i π (.rc a (ns ++ ns2) (ts ++ us))) N2
theorem wKUp_eq {ns ns2 : List Str} {R : T → Env → Nat → Prop} : wKUp i ns ns2 wp wt ε N R = wp ε N fun π N1 => atPl ε i π fun s => rcK ns s fun a ts => wt ε N1 fun x N2 => rcK ns2 x fun _ us => R (.sh .none) (putAt ε i π (.rc a (ns ++ ns2) (ts ++ us))) N2 := propext Iff.rfl
end
end Cg
namespace Cg
open PySem PySem.Spec PyProof.Rows L2 Evl
section
variable {K : PySem.W.Frag} {c : Base} {bs F : List Addr} {σ τ : L2.St} {H : Hp} {ε δ : Env} {N : Nat} {te : TE} {wx : WX} {Q : VK}
end
end Cg
namespace Cg
open PySem PySem.Spec PyProof.Rows L2 Evl
section
variable {K : PySem.W.Frag} {te : TE} {wx : WX} {i : Nat} {ns ns2 ns3 : List Str}
/-- x.update({..}), x a name, all keys new, own things moved in -/
def wKUpX (i : Nat) (ns ns2 ns3 : List Str) (wx : WX) : WX := fun ε N R => (atPl ε i [] fun s => rcK ns s fun _ _ => True) ∧ wx ε N fun x ε1 N1 => rcK ns2 x fun _ us => atPl ε1 i [] fun s => rcK ns s fun a ts => R (.sh .none) (putAt ε1 i [] (.rc a ns3 (ts ++ us))) N1
theorem wKUpX_eq {ε : Env} {N : Nat} {R : T → Env → Nat → Prop} : wKUpX i ns ns2 ns3 wx ε N R = ((atPl ε i [] fun s => rcK ns s fun _ _ => True) ∧ wx ε N fun x ε1 N1 => rcK ns2 x fun _ us => atPl ε1 i [] fun s => rcK ns s fun a ts => R (.sh .none) (putAt ε1 i [] (.rc a ns3 (ts ++ us))) N1) := propext Iff.rfl
end
end Cg
namespace Cg
open PySem PySem.Spec PyProof.Rows L2 Evl
/-! what is shared, read at a place within what is its own: no view of the whole -/
section
variable {K : PySem.W.Frag} {tp : TE} {wp : WP} {i : Nat} {tl th : TO} {wl wh : WO}
def wPR (i : Nat) (wp : WP) : WE := fun ε N R => wp ε N fun π N1 => atPl ε i π fun s => ∃ d, s = .sh d ∧ R d N1
theorem wPR_eq {ε : Env} {N : Nat} {R : PyData → Nat → Prop} : wPR i wp ε N R = wp ε N fun π N1 => atPl ε i π fun s => ∃ d, s = .sh d ∧ R d N1 := propext Iff.rfl
theorem sh_is {d : PyData} {R : PyData → Prop} : (∃ e, T.sh d = .sh e ∧ R e) = R d := propext ⟨fun ⟨e, h, k⟩ => by cases h; exact k, fun h => ⟨d, rfl, h⟩⟩
/-- p[a:b], p a list at a place, of what is shared -/
def wPlSl (i : Nat) (wp : WP) (wl wh : WO) : WT := fun ε N R => wp ε N fun π N1 => wl ε N1 fun lo N2 => wh ε N2 fun hi N3 => atPl ε i π fun s => isLst s fun ts => ∃ ds : List PyData, ts = ds.map T.sh ∧ R (.lst ((cutG ds lo hi).map T.sh)) N3
theorem wPlSl_eq {ε : Env} {N : Nat} {R : T → Nat → Prop} : wPlSl i wp wl wh ε N R = wp ε N fun π N1 => wl ε N1 fun lo N2 => wh ε N2 fun hi N3 => atPl ε i π fun s => isLst s fun ts => ∃ ds : List PyData, ts = ds.map T.sh ∧ R (.lst ((cutG ds lo hi).map T.sh)) N3 := propext Iff.rfl
end
end Cg
namespace Cg
open PySem PySem.Spec PyProof.Rows L2 Evl
/-! p.insert(0, (e, x)), x a name of what is its own, moved in -/
section
variable {K : PySem.W.Frag} {tp te : TE} {wp : WP} {we : WE} {i j : Nat}
def wPlInsT (i : Nat) (wp : WP) (we : WE) (j : Nat) : WX := fun ε N R => wp ε N fun π N1 => atPl ε i π fun s => isLst s fun ts => we ε N1 fun d N2 => i ≠ j ∧ atIs ε[j]? fun x => ts.length ≤ 100000 ∧ R (.sh .none) ((putAt ε i π (s.rekid (.tup [.sh d, x] :: ts))).set j .no) N2
theorem wPlInsT_eq {ε : Env} {N : Nat} {R : T → Env → Nat → Prop} : wPlInsT i wp we j ε N R = wp ε N fun π N1 => atPl ε i π fun s => isLst s fun ts => we ε N1 fun d N2 => i ≠ j ∧ atIs ε[j]? fun x => ts.length ≤ 100000 ∧ R (.sh .none) ((putAt ε i π (s.rekid (.tup [.sh d, x] :: ts))).set j .no) N2 := propext Iff.rfl
end
end Cg

set_option Elab.async false
set_option linter.all false
set_option maxRecDepth 100000
set_option maxHeartbeats 1000000
/-! ER: calls of defs by keywords, told as data -/
namespace Cg
open PySem PySem.Spec PyProof.Rows L2 Evl
section
variable {c : Base} {bs F : List Addr} {σ : L2.St} {H : Hp} {ε : Env} {N : Nat} {tas tks : TA} {was wks : WA}
def wCallNT (f : WF) (g : List PyData → List PyData → List PyData) (n kn : Nat) (was wks : WA) : WT := fun ε N R => was ε N fun ds N1 => wks ε N1 fun es N2 => (ds.length = n ∧ es.length = kn) ∧ f (g ds es) 0 fun t _ => R t N2
theorem wCallNT_eq {f : WF} {g : List PyData → List PyData → List PyData} {n kn : Nat} {R : T → Nat → Prop} : wCallNT f g n kn was wks ε N R = was ε N fun ds N1 => wks ε N1 fun es N2 => (ds.length = n ∧ es.length = kn) ∧ f (g ds es) 0 fun t _ => R t N2 := propext Iff.rfl
theorem sim_callNT {n kn nn : Nat} {f : WF} {g : List PyData → List PyData → List PyData} {gV : List V → List V → List V} (hn : ∀ {ds N R}, f ds N R → ds.length = nn) (hgd : ∀ {H us ds zs es}, DqAll H us ds → DqAll H zs es → DqAll H (gV us zs) (g ds es)) (h : SimA tas was) (hk : SimA tks wks) : SimT (tCallNE n kn (spW false nn f) gV (fun _ => E0) tas tks) (wCallNT f g n kn was wks) := fun {c bs F σ H ε N R Q} r w q => h r w fun us ds N1 H1 w1 o1 hd => hk (r.out o1) w1 fun zs es N2 H2 w2 o2 he => by
  obtain ⟨⟨l1, l2⟩, w3⟩ := w2
  have o := o1.trans o2
  refine ⟨by rw [hd.len]; exact l1, by rw [he.len]; exact l2, ?_⟩
  have all := hgd (out_dqs o2 r.bin hd) he
  show spW false nn f (gV us zs) H2 Q E0
  refine ⟨[], bs, gV us zs, g ds es, 0, fun t _ => R t N2, rfl, rfl, all.len.trans (hn w3), (fun _ z => nomatch z), out_live o r.live, out_notup o r.live r.nt, (fun _ z => nomatch z), all, w3, fun v t A N' H' hR kp _ n => ?_⟩
  have sm : Same H2 H' := fun a o e => kp.get List.not_mem_nil e
  exact q v t A N2 H' hR (o.ext sm) (n.back o)
def wCallN (f : WF) (g : List PyData → List PyData → List PyData) (n kn : Nat) (was wks : WA) : WE := fun ε N R => was ε N fun ds N1 => wks ε N1 fun es N2 => (ds.length = n ∧ es.length = kn) ∧ f (g ds es) 0 fun t _ => R t.data N2
theorem wCallN_eq {f : WF} {g : List PyData → List PyData → List PyData} {n kn : Nat} {R : PyData → Nat → Prop} : wCallN f g n kn was wks ε N R = was ε N fun ds N1 => wks ε N1 fun es N2 => (ds.length = n ∧ es.length = kn) ∧ f (g ds es) 0 fun t _ => R t.data N2 := propext Iff.rfl
theorem sim_callN {n kn nn : Nat} {f : WF} {g : List PyData → List PyData → List PyData} {gV : List V → List V → List V} (hn : ∀ {ds N R}, f ds N R → ds.length = nn) (hgd : ∀ {H us ds zs es}, DqAll H us ds → DqAll H zs es → DqAll H (gV us zs) (g ds es)) (h : SimA tas was) (hk : SimA tks wks) : SimE (tCallNE n kn (spW false nn f) gV (fun _ => E0) tas tks) (wCallN f g n kn was wks) := by
  show SimE _ (wFz (wCallNT f g n kn was wks))
  exact sim_fz (sim_callNT hn hgd h hk)
/-- .. without keywords, dds the defaults -/
def wCallDT (f : WF) (dds : List PyData) (was : WA) : WT := fun ε N R => was ε N fun ds N1 => f (ds ++ dds) 0 fun t _ => R t N1
theorem wCallDT_eq {f : WF} {dds : List PyData} {R : T → Nat → Prop} : wCallDT f dds was ε N R = was ε N fun ds N1 => f (ds ++ dds) 0 fun t _ => R t N1 := propext Iff.rfl
theorem sim_callDT {nn : Nat} {f : WF} {dvs : List V} {dds : List PyData} (hdv : ∀ H, DqAll H dvs dds) (hn : ∀ {ds N R}, f ds N R → ds.length = nn) (h : SimA tas was) : SimT (tCall (spW false nn f) dvs E0 tas) (wCallDT f dds was) := fun {c bs F σ H ε N R Q} r w q => h r w fun us ds N1 H1 w1 o1 hd => by
  have all : DqAll (hid bs H1) (us ++ dvs) (ds ++ dds) := hd.append (hdv _)
  refine ⟨[], bs, us ++ dvs, ds ++ dds, 0, fun t _ => R t N1, rfl, rfl, all.len.trans (hn w1), (fun _ z => nomatch z), out_live o1 r.live, out_notup o1 r.live r.nt, (fun _ z => nomatch z), all, w1, fun v t A N' H' hR kp _ n => ?_⟩
  have sm : Same H1 H' := fun a o e => kp.get List.not_mem_nil e
  exact q v t A N1 H' hR (o1.ext sm) (n.back o1)
def wCallD (f : WF) (dds : List PyData) (was : WA) : WE := fun ε N R => was ε N fun ds N1 => f (ds ++ dds) 0 fun t _ => R t.data N1
theorem wCallD_eq {f : WF} {dds : List PyData} {R : PyData → Nat → Prop} : wCallD f dds was ε N R = was ε N fun ds N1 => f (ds ++ dds) 0 fun t _ => R t.data N1 := propext Iff.rfl
/-- .. that may raise -/
def wCallNE (f : WFD) (g : List PyData → List PyData → List PyData) (n kn : Nat) (was wks : WA) : WXE := fun ε N R RE => was ε N fun ds N1 => wks ε N1 fun es N2 => (ds.length = n ∧ es.length = kn) ∧ f (g ds es) 0 (fun t _ => R t ε N2) fun e _ => RE e ε N2
theorem wCallNE_eq {f : WFD} {g : List PyData → List PyData → List PyData} {n kn : Nat} {R : T → Env → Nat → Prop} {RE : PyData → Env → Nat → Prop} : wCallNE f g n kn was wks ε N R RE = was ε N fun ds N1 => wks ε N1 fun es N2 => (ds.length = n ∧ es.length = kn) ∧ f (g ds es) 0 (fun t _ => R t ε N2) fun e _ => RE e ε N2 := propext Iff.rfl
end
section
variable {X : Cx} {CX : CXT} {k : Nat} {f : Addr} {fd : FuncData} {ps ks : List Str} {sp : Sp} {n : Nat} {x : Str} {p pos : Pos} {e : Expr} {es : List Expr} {kws : List (Option Str × Expr)} {t tk : TA}
theorem px0 (h : Passes CX X E0) : ∀ σ, PassesAt CX X σ E0 := fun σ pins H s e s' iv hc => h pins σ H s e s' iv hc
end
/-- a def that has parameters told by keyword alone -/
structure DfK (P : Program) (w : World) (K : PySem.W.Frag) (mg : Str → Option Value) (base : Heap) (k : Nat) (x : Str) (st : Stmt) (ps : List Str) (f : Addr) (fd : FuncData) (sp : Sp) : Prop where
  F : Fun K x x st f fd
  g : mg x = some (.ref f)
  G : FnOk P w K mg base CX0 k f fd ps sp
structure DfKE (P : Program) (w : World) (K : PySem.W.Frag) (mg : Str → Option Value) (base : Heap) (k : Nat) (x : Str) (st : Stmt) (ps : List Str) (f : Addr) (fd : FuncData) (sp : Sp) : Prop where
  F : Fun K x x st f fd
  g : mg x = some (.ref f)
  G : FnOk P w K mg base (L2.CX P w) k f fd ps sp
end Cg

set_option Elab.async false
set_option linter.all false
set_option maxRecDepth 100000
set_option maxHeartbeats 1000000
namespace Cg
open PySem PySem.Spec PyProof.Rows L2 Evl
/-! ### p.pop(): the last one of a list at a place -/
section
variable {c : Base} {bs F : List Addr} {i : Nat} {tp : TE} {wp : WP} {K : PySem.W.Frag}
end
end Cg

set_option Elab.async false
set_option linter.all false
set_option maxRecDepth 100000
set_option maxHeartbeats 1000000
namespace Cg
open PySem PySem.Spec PyProof.Rows L2 Evl
/-! ### sorted(xs, key=str), xs lists or tuples of data: what stands in what is told stood there -/
section
variable {K : PySem.W.Frag} {te : TE} {we : WE} {ε : Env} {N : Nat} {R : PyData → Nat → Prop}
end
end Cg

set_option Elab.async false
set_option linter.all false
set_option maxRecDepth 100000
set_option maxHeartbeats 1000000
namespace Cg
open PySem PySem.Spec PyProof.Rows L2 Evl
section
variable {c : Base} {b bs cs F A B : List Addr} {σ τ : L2.St} {H H1 H2 H' : Hp} {ε δ : Env} {N N1 N2 N' : Nat} {u v : V} {t s : T} {d : PyData} {i : Nat} {K : PySem.W.Frag} {tp te tk : TE} {wp : WP} {wt : WT} {wk : WE}
end
end Cg

set_option Elab.async false
set_option linter.all false
set_option maxRecDepth 100000
set_option maxHeartbeats 1000000
namespace Cg
open PySem PySem.Spec PyProof.Rows L2 Evl
section
variable {c : Base} {b bs cs F A B : List Addr} {σ τ : L2.St} {H H1 H2 H' : Hp} {ε δ : Env} {N N1 N2 N' : Nat} {u v : V} {t s : T} {d : PyData} {i : Nat} {K : PySem.W.Frag} {tp te tk : TE} {wp : WP} {wt : WT} {wk : WE}
/-- as viewA, but a name that is data stays what it is -/
def viewB (ε0 : Env) : List (Nat × Nat) → Env → (Env → Prop) → Prop
  | [], ε, k => k ε
  | (j, i) :: l, ε, k => viewB ε0 l ε k ∨ atPin ε0[j]? fun a => ∃ π, atPl ε0 i π fun s => s.root = some a ∧ viewB ε0 l (ε.set j (.is (.sh s.data))) k
theorem viewB_nil {ε0 ε : Env} {k : Env → Prop} : viewB ε0 [] ε k = k ε := propext Iff.rfl
theorem viewB_cons {ε0 ε : Env} {i j : Nat} {l : List (Nat × Nat)} {k : Env → Prop} : viewB ε0 ((j, i) :: l) ε k = (viewB ε0 l ε k ∨ atPin ε0[j]? fun a => ∃ π, atPl ε0 i π fun s => s.root = some a ∧ viewB ε0 l (ε.set j (.is (.sh s.data))) k) := propext Iff.rfl
theorem view_alB {c : Base} {bs F : List Addr} {σ : L2.St} {H : Hp} {ε0 : Env} {N : Nat} (r : Rel c bs F σ H ε0 N) : ∀ {l : List (Nat × Nat)} {ε : Env} {k : Env → Prop}, Rel { c with bs0 := c.b } c.b [] σ H ε N → viewB ε0 l ε k → ∃ ε', Rel { c with bs0 := c.b } c.b [] σ H ε' N ∧ k ε'
  | [], ε, k, rv, h => ⟨ε, rv, h⟩
  | (j, i) :: l, ε, k, rv, .inl h => view_alB r (l := l) rv h
  | (j, i) :: l, ε, k, rv, .inr h => by
    obtain ⟨a, ej, π, h1⟩ := atPin_some h
    obtain ⟨t, s, e1, e2, er, h2⟩ := atPl_some h1
    obtain ⟨v, u, B, k1, k2, k3, k4⟩ := r.along e1 e2
    have eu := k3.root er
    subst eu
    have hd : Dq (hid c.b H) (.ref a) s.data := Rep.data (fun x hx => r.nt x (r.bin x hx)) r.bin (fun x hx => r.fb x (k4 x hx)) k3
    obtain ⟨F', r2, hF⟩ := rv.put (i := j) (x := .sh s.data) (A := []) (.sh hd) List.nodup_nil (fun _ z => nomatch z)
    have eF : F' = [] := List.eq_nil_iff_forall_not_mem.mpr fun x hx => (hF x hx).elim (fun z => nomatch z) fun z => nomatch z
    subst eF
    have es : σ.set j (some (.ref a)) = σ := set_same (r.pin_val ej)
    rw [es] at r2
    exact view_alB r r2 h2
def wVbB (l : List (Nat × Nat)) (wb : WB) : WB := fun ε N R => viewB ε l (viewE ε) fun ε' => wb ε' N R
theorem sim_vbB {tt : TT} {wb : WB} {l : List (Nat × Nat)} (h : SimB tt wb) : SimB tt (wVbB l wb) := fun r w q => by
  obtain ⟨ε', rv, w'⟩ := view_alB r r.view w
  exact h rv w' fun b N' H' hR o => q b N' H' hR ⟨o.keep, o.box⟩
theorem wVbB_eq {wb : WB} {l : List (Nat × Nat)} {ε : Env} {N : Nat} {R : Bool → Nat → Prop} : wVbB l wb ε N R = viewB ε l (viewE ε) fun ε' => wb ε' N R := propext Iff.rfl
end
section
variable {c : Base} {b bs cs F A B : List Addr} {σ τ : L2.St} {H H1 H2 H' : Hp} {ε δ : Env} {N N1 N2 N' : Nat} {u v : V} {t s : T} {d : PyData} {i : Nat} {K : PySem.W.Frag} {tp te ta tc : TE} {wp : WP} {wt : WT} {wa wc : WE}
end
end Cg

set_option Elab.async false
set_option linter.all false
set_option maxRecDepth 100000
set_option maxHeartbeats 1000000
namespace Cg
open PySem PySem.Spec PyProof.Rows L2 Evl
/-! ### dicts of ints, or of pairs of ints, to things -/
def ixO {α : Type} [DecidableEq α] : List α → α → Option Nat
  | [], _ => none
  | k :: ks, x => if k = x then some 0 else (ixO ks x).map (· + 1)
section
variable {α κ : Type} [DecidableEq α] [DecidableEq κ] {f : α → κ} {x : α} {v : V}
end
/-- where the key stands; none at all if it is of another kind -/
def DKs.find : DKs → PyData → Option (Option Nat)
  | .i ks, .int x => some (ixO ks x)
  | .p ks, .tuple [.int x, .int y] => some (ixO ks (x, y))
  | _, _ => none
def DKs.snoc : DKs → PyData → DKs
  | .i ks, .int x => .i (ks ++ [x])
  | .p ks, .tuple [.int x, .int y] => .p (ks ++ [(x, y)])
  | ks, _ => ks
section
variable {hs bs : List Addr} {H : Hp} {a : Addr} {ks : DKs} {vs : List V} {v x : V} {d : PyData} {r : Option Nat} {k : Nat}
theorem dat_inj {ks ms : DKs} (h : ks.dat = ms.dat) : ks = ms := by
  cases ks <;> cases ms
  · injection h with h
    rw [map_inj (fun {x y} z => by injection z) h]
  · cases h
  · cases h
  · injection h with h
    rw [map_inj (fun {x y} z => by
      obtain ⟨x1, x2⟩ := x
      obtain ⟨y1, y2⟩ := y
      injection z with z
      injection z with z1 z2
      injection z2 with z2 _
      injection z1 with z1
      injection z2 with z2
      have z1 : x1 = y1 := z1
      have z2 : x2 = y2 := z2
      rw [z1, z2]) h]
end
theorem kids_tpa {a : Addr} {ts : List T} : (T.tpa a ts).kids = ts := rfl
theorem rekid_tpa {a : Addr} {ts us : List T} : (T.tpa a ts).rekid us = .tpa a us := rfl
theorem outK_tpa {md : List Bool} {a : Addr} {us us' ts : List T} {ε : Env} {q : List T → Prop} : outK (true :: md) (.tpa a us :: ts) (.is (.tpa a us') :: ε) q = outK md ts ε fun os => q (.tpa a us' :: os) := propext ⟨fun h => h.2.2, fun h => ⟨rfl, (fun z => nomatch z), h⟩⟩
def isDct (s : T) (q : Addr → DKs → List T → Prop) : Prop := ∃ a ks ts, s = .dct a ks ts ∧ q a ks ts
theorem isDct_is {a : Addr} {ks : DKs} {ts : List T} {q : Addr → DKs → List T → Prop} : isDct (.dct a ks ts) q = q a ks ts := propext ⟨fun ⟨a', ks', ts', e, h⟩ => by cases e; exact h, fun h => ⟨a, ks, ts, rfl, h⟩⟩
/-- the dict's data -/
def atDct (d : PyData) (q : DKs → List PyData → Prop) : Prop := ∃ ks ds, d = dctD ks ds ∧ q ks ds
theorem atDct_is {ks : DKs} {ds : List PyData} {q : DKs → List PyData → Prop} : atDct (dctD ks ds) q = q ks ds := propext ⟨fun ⟨ks', ds', e, h⟩ => by
  injection e with e
  injection e with _ e
  injection e with e _
  injection e with e1 e2
  have e1 := dat_inj e1
  injection e2 with e2
  subst e1 e2
  exact h, fun h => ⟨ks, ds, rfl, h⟩⟩
theorem kids_dct {a : Addr} {ks : DKs} {ts : List T} : (T.dct a ks ts).kids = ts := rfl
theorem rekid_dct {a : Addr} {ks : DKs} {ts us : List T} : (T.dct a ks ts).rekid us = .dct a ks us := rfl
theorem outK_dct {md : List Bool} {a : Addr} {ks ks' : DKs} {us us' ts : List T} {ε : Env} {q : List T → Prop} : outK (true :: md) (.dct a ks us :: ts) (.is (.dct a ks' us') :: ε) q = outK md ts ε fun os => q (.dct a ks' us' :: os) := propext ⟨fun h => h.2.2, fun h => ⟨rfl, (fun z => nomatch z), h⟩⟩
theorem outG_dct {md : List Nat} {a : Addr} {ks ks' : DKs} {us us' ts : List T} {ε : Env} {q : List T → Prop} : outG (1 :: md) (.dct a ks us :: ts) (.is (.dct a ks' us') :: ε) q = outG md ts ε fun os => q (.dct a ks' us' :: os) := propext ⟨fun h => h.2.2, fun h => ⟨rfl, (fun z => nomatch z), h⟩⟩
section
variable {K : PySem.W.Frag} {i : Nat} {tp te tk tx : TE} {wp : WP} {we wk wx : WE} {wt : WT}
/-- a new dict of pairs; of ints -/
def wDctP : WT := fun ε N R => ∀ a, R (.dct a (.p []) []) N
def wDctI : WT := fun ε N R => ∀ a, R (.dct a (.i []) []) N
theorem wDctP_eq {ε : Env} {N : Nat} {R : T → Nat → Prop} : wDctP ε N R = ∀ a, R (.dct a (.p []) []) N := propext Iff.rfl
theorem wDctI_eq {ε : Env} {N : Nat} {R : T → Nat → Prop} : wDctI ε N R = ∀ a, R (.dct a (.i []) []) N := propext Iff.rfl
/-- p[e], p a dict -/
def wPD (i : Nat) (wp : WP) (wk : WE) : WP := fun ε N R => wp ε N fun π N1 => wk ε N1 fun d N2 => atPl ε i π fun s => isDct s fun _ ks ts => ∃ n, ks.find d = some (some n) ∧ n < ts.length ∧ R (π ++ [n]) N2
theorem wPD_eq {ε : Env} {N : Nat} {R : List Nat → Nat → Prop} : wPD i wp wk ε N R = wp ε N fun π N1 => wk ε N1 fun d N2 => atPl ε i π fun s => isDct s fun _ ks ts => ∃ n, ks.find d = some (some n) ∧ n < ts.length ∧ R (π ++ [n]) N2 := propext Iff.rfl
/-- p[e] = x, p a dict -/
def dctPut (ks : DKs) (ts : List T) (d : PyData) (x : T) : Option Nat → Addr → T
  | some k, a => .dct a ks (ts.set k x)
  | none, a => .dct a (ks.snoc d) (ts ++ [x])
def wDcSet (i : Nat) (wp : WP) (wk : WE) (wt : WT) : WS := fun D ε N => wt ε N fun x N1 => wp ε N1 fun π N2 => wk ε N2 fun d N3 => atPl ε i π fun s => isDct s fun a ks ts => ts.length ≤ 100000 ∧ ∃ r, ks.find d = some r ∧ D.nx (putAt ε i π (dctPut ks ts d x r a)) N3
theorem wDcSet_eq {D : EW} {ε : Env} {N : Nat} : wDcSet i wp wk wt D ε N = wt ε N fun x N1 => wp ε N1 fun π N2 => wk ε N2 fun d N3 => atPl ε i π fun s => isDct s fun a ks ts => ts.length ≤ 100000 ∧ ∃ r, ks.find d = some r ∧ D.nx (putAt ε i π (dctPut ks ts d x r a)) N3 := propext Iff.rfl
/-- p[e] = x, x changes slots -/
def wDcSetX (i : Nat) (wp : WP) (wk : WE) (wx : WX) : WS := fun D ε0 N => wx ε0 N fun x ε N1 => wp ε N1 fun π N2 => wk ε N2 fun d N3 => atPl ε i π fun s => isDct s fun a ks ts => ts.length ≤ 100000 ∧ ∃ r, ks.find d = some r ∧ D.nx (putAt ε i π (dctPut ks ts d x r a)) N3
theorem wDcSetX_eq {wxx : WX} {D : EW} {ε0 : Env} {N : Nat} : wDcSetX i wp wk wxx D ε0 N = wxx ε0 N fun x ε N1 => wp ε N1 fun π N2 => wk ε N2 fun d N3 => atPl ε i π fun s => isDct s fun a ks ts => ts.length ≤ 100000 ∧ ∃ r, ks.find d = some r ∧ D.nx (putAt ε i π (dctPut ks ts d x r a)) N3 := propext Iff.rfl
/-- as data: d[e], e in d, e not in d, d.get(e, x), d.get(e) -/
def wKdD (we wk : WE) : WE := fun ε N R => we ε N fun d N1 => wk ε N1 fun e N2 => atDct d fun ks ds => ∃ n x, ks.find e = some (some n) ∧ ds[n]? = some x ∧ R x N2
def wInD (neg : Bool) (wk we : WE) : WE := fun ε N R => wk ε N fun e N1 => we ε N1 fun d N2 => atDct d fun ks ds => ∃ r, ks.find e = some r ∧ R (.bool (r.isSome != neg)) N2
def wGetD (we wk wx : WE) : WE := fun ε N R => we ε N fun d N1 => wk ε N1 fun e N2 => wx ε N2 fun x N3 => atDct d fun ks ds => ∃ r, ks.find e = some r ∧ ∃ y, (match r with | some n => ds[n]? = some y | none => y = x) ∧ R y N3
theorem wKdD_eq {ε : Env} {N : Nat} {R : PyData → Nat → Prop} : wKdD we wk ε N R = we ε N fun d N1 => wk ε N1 fun e N2 => atDct d fun ks ds => ∃ n x, ks.find e = some (some n) ∧ ds[n]? = some x ∧ R x N2 := propext Iff.rfl
theorem wInD_eq {neg : Bool} {ε : Env} {N : Nat} {R : PyData → Nat → Prop} : wInD neg wk we ε N R = wk ε N fun e N1 => we ε N1 fun d N2 => atDct d fun ks ds => ∃ r, ks.find e = some r ∧ R (.bool (r.isSome != neg)) N2 := propext Iff.rfl
theorem wGetD_eq {ε : Env} {N : Nat} {R : PyData → Nat → Prop} : wGetD we wk wx ε N R = we ε N fun d N1 => wk ε N1 fun e N2 => wx ε N2 fun x N3 => atDct d fun ks ds => ∃ r, ks.find e = some r ∧ ∃ y, (match r with | some n => ds[n]? = some y | none => y = x) ∧ R y N3 := propext Iff.rfl
end
section
variable {K : PySem.W.Frag} {c : Base} {bs F : List Addr} {σ τ : L2.St} {H : Hp} {ε δ : Env} {N : Nat} {te : TE} {wx : WX} {Q : VK}
end
end Cg

set_option Elab.async false
set_option linter.all false
set_option maxRecDepth 100000
set_option maxHeartbeats 1000000
namespace Cg
open PySem PySem.Spec PyProof.Rows L2 Evl
/-! ### own things lent, the other names kept -/
def Sl.viewK : Sl → Sl
  | .pin a => .pin a
  | l => l.view
def viewK (ε : Env) : Env := ε.map Sl.viewK
def lendK : Nat → Env → Env
  | _, [] => []
  | 0, l :: ε => l :: viewK ε
  | i + 1, l :: ε => l.viewK :: lendK i ε
theorem lendK_0 {l : Sl} {ε : Env} : lendK 0 (l :: ε) = l :: viewK ε := rfl
theorem lendK_s {i : Nat} {l : Sl} {ε : Env} : lendK (i + 1) (l :: ε) = l.viewK :: lendK i ε := rfl
theorem viewK_nil : viewK [] = [] := rfl
theorem viewK_cons {l : Sl} {ε : Env} : viewK (l :: ε) = l.viewK :: viewK ε := rfl
theorem vk_pin {a : Addr} : (Sl.pin a).viewK = .pin a := rfl
theorem vk_is {t : T} : (Sl.is t).viewK = .is (.sh t.data) := rfl
theorem vk_no : Sl.no.viewK = .no := rfl
theorem vk_box : Sl.box.viewK = .box := rfl
section
variable {c : Base} {b bs cs F A B : List Addr} {σ τ : L2.St} {H H1 H2 H' : Hp} {ε δ : Env} {N N1 N2 N' : Nat} {u v : V} {t s : T} {d : PyData} {i : Nat}
end
section
variable {te : TE} {wx : WX} {i : Nat}
/-- other names of what is lent, told as data -/
def lendV (ε0 : Env) (i : Nat) : List (Nat × Nat) → Env → (Env → Prop) → Prop
  | [], ε, k => k ε
  | (j, m) :: l, ε, k => atPin ε0[j]? fun a => m ≠ i ∧ ∃ π, atPl ε0 m π fun s => s.root = some a ∧ lendV ε0 i l (ε.set j (.is (.sh s.data))) k
theorem lendV_nil {ε0 ε : Env} {i : Nat} {k : Env → Prop} : lendV ε0 i [] ε k = k ε := propext Iff.rfl
theorem lendV_cons {ε0 ε : Env} {i j m : Nat} {l : List (Nat × Nat)} {k : Env → Prop} : lendV ε0 i ((j, m) :: l) ε k = atPin ε0[j]? fun a => m ≠ i ∧ ∃ π, atPl ε0 m π fun s => s.root = some a ∧ lendV ε0 i l (ε.set j (.is (.sh s.data))) k := propext Iff.rfl
section
variable {c c' : Base} {bs hs F A : List Addr} {σ τ : L2.St} {H : Hp} {ε δ δ' : Env} {N : Nat} {i : Nat}
end
section
variable {bs : List Addr} {H : Hp}
mutual
theorem Rep.fn : ∀ {v : V} {t : T} {A A' : List Addr}, Rep bs H v t A → Rep bs H v t A' → A = A'
  | _, _, _, _, .sh _, .sh _ => rfl
  | _, _, _, _, .shr _, .shr _ => rfl
  | _, _, _, _, .lst e h, .lst e' h' => by rw [e] at e'; cases e'; rw [RepL.fn h h']
  | _, _, _, _, .lsa e h, .lsa e' h' => by rw [e] at e'; cases e'; rw [RepL.fn h h']
  | _, _, _, _, .tup e h, .tup e' h' => by rw [e] at e'; cases e'; rw [RepL.fn h h']
  | _, _, _, _, .tpa e h, .tpa e' h' => by rw [e] at e'; cases e'; rw [RepL.fn h h']
  | _, _, _, _, .dic _, .dic _ => rfl
  | _, _, _, _, .ins e e2 l h, .ins e' e2' l' h' => by
    rw [e] at e'
    injection e' with e'
    injection e' with q1 q2 q3
    obtain ⟨_, q4⟩ := zip_inj l l' q3
    subst q2 q4
    rw [RepL.fn h h']
  | _, _, _, _, .rc e l h, .rc e' l' h' => by
    rw [e] at e'
    injection e' with e'
    injection e' with q
    have q4 := (kz_inj l l' q).2
    subst q4
    rw [RepL.fn h h']
  | _, _, _, _, .dct e l _ h, .dct e' l' _ h' => by
    rw [e] at e'
    have q4 := ob_inj l l' (Option.some.inj e')
    subst q4
    rw [RepL.fn h h']
theorem RepL.fn : ∀ {vs : List V} {ts : List T} {A A' : List Addr}, RepL bs H vs ts A → RepL bs H vs ts A' → A = A'
  | _, _, _, _, .nil, .nil => rfl
  | _, _, _, _, .cons h k, .cons h' k' => by rw [Rep.fn h h', RepL.fn k k']
end
end
section
variable {te : TE} {wx : WX} {i : Nat}
/-- as wLend; the other names in l are data meanwhile, all others stay -/
def wLendA (i : Nat) (l : List (Nat × Nat)) (wx : WX) : WX := fun ε N R => atIs ε[i]? fun _ => lendV ε i l (lendK i ε) fun ε1 => (ε1[i]? = ε[i]?) ∧ wx ε1 N fun t ε' N' => t.clean = true ∧ ∃ s, ε' = ε1.set i (.is s) ∧ s.clean = true ∧ R t (ε.set i (.is s)) N'
theorem wLendA_eq {l : List (Nat × Nat)} {ε : Env} {N : Nat} {R : T → Env → Nat → Prop} : wLendA i l wx ε N R = atIs ε[i]? fun _ => lendV ε i l (lendK i ε) fun ε1 => (ε1[i]? = ε[i]?) ∧ wx ε1 N fun t ε' N' => t.clean = true ∧ ∃ s, ε' = ε1.set i (.is s) ∧ s.clean = true ∧ R t (ε.set i (.is s)) N' := propext Iff.rfl
end
end
section
variable {c : Base} {bs F : List Addr} {σ : L2.St} {H : Hp} {ε : Env} {N : Nat} {tp : TE} {wp : WP} {i j l : Nat} {K : PySem.W.Frag}
def isTp2 (s : T) (q : T → T → Prop) : Prop := ∃ s1 s2, (s = .tup [s1, s2] ∨ ∃ a, s = .tpa a [s1, s2]) ∧ q s1 s2
theorem isTp2_tup {s t : T} {q : T → T → Prop} : isTp2 (.tup [s, t]) q = q s t := propext ⟨fun ⟨_, _, e, h⟩ => by
  rcases e with e | ⟨_, e⟩ <;> cases e
  exact h, fun h => ⟨s, t, .inl rfl, h⟩⟩
theorem isTp2_tpa {a : Addr} {s t : T} {q : T → T → Prop} : isTp2 (.tpa a [s, t]) q = q s t := propext ⟨fun ⟨_, _, e, h⟩ => by
  rcases e with e | ⟨_, e⟩ <;> cases e
  exact h, fun h => ⟨s, t, .inr ⟨a, rfl⟩, h⟩⟩
/-- x, y = p, p a tuple of what is its own: x and y other names of its parts -/
def wAlUnp (j l i : Nat) (wp : WP) : WS := fun D ε N => wp ε N fun π N1 => atPl ε i π fun s => isTp2 s fun s1 s2 => ∃ x y, s1.root = some x ∧ s2.root = some y ∧ D.nx ((ε.set j (.pin x)).set l (.pin y)) N1
theorem wAlUnp_eq {D : EW} : wAlUnp j l i wp D ε N = wp ε N fun π N1 => atPl ε i π fun s => isTp2 s fun s1 s2 => ∃ x y, s1.root = some x ∧ s2.root = some y ∧ D.nx ((ε.set j (.pin x)).set l (.pin y)) N1 := propext Iff.rfl
end
end Cg

set_option Elab.async false
set_option linter.all false
set_option maxRecDepth 100000
set_option maxHeartbeats 1000000
namespace Cg
open PySem PySem.Spec PyProof.Rows L2 Evl
/-! ### a name that is another name or its own -/
section
variable {te tk : TE} {we wk : WE} {wt : WT} {wb : WB} {i j : Nat}
def wVwB (l : List (Nat × Nat)) (we : WE) : WE := fun ε N R => viewB ε l (viewE ε) fun ε' => we ε' N fun d N' => imm d = true ∧ R d N'
theorem sim_vwB {l : List (Nat × Nat)} (h : SimE te we) : SimE te (wVwB l we) := fun r w q => by
  obtain ⟨ε', rv, w'⟩ := view_alB r r.view w
  exact h rv w' fun v d N' H' hR o hd => q v d N' H' hR.2 ⟨o.keep, o.box⟩ (dq_imm (out_notup ⟨o.keep, o.box⟩ r.live r.nt) (dq_vis hd) hR.1)
def wVtB (l : List (Nat × Nat)) (wt : WT) : WT := fun ε N R => viewB ε l (viewE ε) fun ε' => wt ε' N fun t N' => t.clean = true ∧ R t N'
theorem sim_vtB {l : List (Nat × Nat)} (h : SimT te wt) : SimT te (wVtB l wt) := fun {c bs F σ H ε N R Q} r w q => by
  obtain ⟨ε', rv, w'⟩ := view_alB r r.view w
  refine h rv w' fun v t A N' H' hR o n => ?_
  have o' : Out c H H' N' := ⟨o.keep, o.box⟩
  exact q v t A N' H' hR.2 o' ⟨Rep.clean (own_notup n.rep.own (out_notup o' r.live r.nt)) n.rep hR.1, n.nd, n.new⟩
theorem wVwB_eq {l : List (Nat × Nat)} {ε : Env} {N : Nat} {R : PyData → Nat → Prop} : wVwB l we ε N R = viewB ε l (viewE ε) fun ε' => we ε' N fun d N' => imm d = true ∧ R d N' := propext Iff.rfl
theorem wVtB_eq {l : List (Nat × Nat)} {ε : Env} {N : Nat} {R : T → Nat → Prop} : wVtB l wt ε N R = viewB ε l (viewE ε) fun ε' => wt ε' N fun t N' => t.clean = true ∧ R t N' := propext Iff.rfl
/-- x = [y, e][k], y its own: x another name of it, or e, its own -/
def wAlPick (j i : Nat) (wt : WT) (wk : WE) : WS := fun D ε N => atIs ε[i]? fun y => wt ε N fun t N1 => wk ε N1 fun d N2 => dInt d fun k => (k = 0 ∧ ∃ a, y.root = some a ∧ D.nx (ε.set j (.pin a)) N2) ∨ (k = 1 ∧ D.nx (ε.set j (.is t)) N2)
theorem wAlPick_eq {D : EW} {ε : Env} {N : Nat} : wAlPick j i wt wk D ε N = atIs ε[i]? fun y => wt ε N fun t N1 => wk ε N1 fun d N2 => dInt d fun k => (k = 0 ∧ ∃ a, y.root = some a ∧ D.nx (ε.set j (.pin a)) N2) ∨ (k = 1 ∧ D.nx (ε.set j (.is t)) N2) := propext Iff.rfl
theorem sim_alPick {K : PySem.W.Frag} (h : SimT te wt) (hk : SimE tk wk) : SimS (tAsg (tOp (rIx K) (tLst (tCons (tVar i) (tCons te tNil))) tk) (gName j)) (wAlPick j i wt wk) := fun {c bs F σ H ε N DW D} r w m => by
  obtain ⟨y, e, w⟩ := atIs_some w
  obtain ⟨z, A0, F1, F2, hz, hr, _, _⟩ := r.env.at e
  cases hr with
  | is hr =>
    rename_i v0
    refine ⟨v0, hz, h r w fun v t A N1 H1 w1 o1 n1 => ⟨by show 2 ≤ sizeLine; decide, fun p np => ?_⟩⟩
    have r1 := r.hide o1 n1.new n1.rep.own
    have r2 := r1.ext (Ex.new np (o := .lst [v0, v]))
    refine hk r2 w1 fun u d N2 H2 w2 o2 hd => ?_
    have pb : p ∉ c.b := fun z => (r1.live p (r1.bin p z)) np
    have hp : H2 p = some (.lst [v0, v]) := out_get o2 pb upd_same
    have r3 := r2.out o2
    have nb : ∀ x ∈ A, x ∉ c.b := fun x hx z => r.live x (r.bin x z) (n1.new x hx)
    have rx1 : Rep (A ++ bs) (upd H1 p (.lst [v0, v])) v t A := Rep.chg r1.nt (same_hid (Ex.new np)) (fun x hx o e => Ex.new np x o e) n1.rep
    have rx : Rep (A ++ bs) H2 v t A := Rep.chg r2.nt (out_keep o2 r2.bin) (fun x hx y e => out_get o2 (nb x hx) e) rx1
    cases hd <;> first | exact False.elim w2 | skip
    rename_i k
    rcases (show (k = 0 ∧ ∃ a, y.root = some a ∧ DW.nx (ε.set j (.pin a)) N2) ∨ (k = 1 ∧ DW.nx (ε.set j (.is t)) N2) from w2) with ⟨rfl, a, ha, hD⟩ | ⟨rfl, hD⟩
    · have ev := hr.root ha
      subst ev
      obtain ⟨F', r4, _⟩ := r3.pinned_slot (j := j) (x := a)
      exact .inl ⟨p, [.ref a, v], 0, .ref a, rfl, rfl, SqL.of hp, rfl, m.nx r4 hD⟩
    · obtain ⟨F', r4, _⟩ := r3.put (i := j) rx n1.nd (fun x hx => nw_fact r (n1.new x hx) hx)
      exact .inl ⟨p, [v0, v], 1, v, rfl, rfl, SqL.of hp, rfl, m.nx r4 hD⟩
end
/-! a statement during which what is its own is shared -/
def Sl.cln : Sl → Bool
  | .no => true
  | .box => true
  | .pin _ => true
  | .is t => t.clean
  | .dic _ => true
  | .dcF _ => false
def cleanE : Env → Bool
  | [] => true
  | l :: ε => l.cln && cleanE ε
theorem cleanE_nil : cleanE [] = true := rfl
theorem cleanE_cons {l : Sl} {ε : Env} : cleanE (l :: ε) = (l.cln && cleanE ε) := rfl
theorem cln_no : Sl.no.cln = true := rfl
theorem cln_box : Sl.box.cln = true := rfl
theorem cln_pin {a : Addr} : (Sl.pin a).cln = true := rfl
theorem cln_is {t : T} : (Sl.is t).cln = t.clean := rfl
def EW.blk (D : EW) (k : Env → Nat → Prop) : EW := ⟨k, D.rt, fun _ _ => False, fun _ _ => False, fun _ _ _ => False, fun _ _ _ => False, D.w⟩
section
variable {D : EW} {k : Env → Nat → Prop}
theorem blk_nx : (D.blk k).nx = k := rfl
theorem blk_rt : (D.blk k).rt = D.rt := rfl
theorem blk_w : (D.blk k).w = D.w := rfl
end
section
variable {b bs cs : List Addr} {H H' : Hp}
theorem RelE.cln (hn : NoTup cs H) : ∀ {σ : L2.St} {ε : Env} {F : List Addr}, RelE b bs H σ ε F → cleanE ε = true → RelE b cs H σ ε F
  | _, _, _, .nil, _ => .nil
  | _, _, _, .no h, c => .no (RelE.cln hn h ((Bool.and_eq_true _ _).mp c).2)
  | _, _, _, .box e h, c => .box e (RelE.cln hn h ((Bool.and_eq_true _ _).mp c).2)
  | _, _, _, .is r h, c => .is (Rep.clean hn r ((Bool.and_eq_true _ _).mp c).1) (RelE.cln hn h ((Bool.and_eq_true _ _).mp c).2)
  | _, _, _, .dic e h, c => .dic e (RelE.cln hn h ((Bool.and_eq_true _ _).mp c).2)
  | _, _, _, .dcF e h, c => nomatch ((Bool.and_eq_true _ _).mp c).1
  | _, _, _, .pin h, c => .pin (RelE.cln hn h ((Bool.and_eq_true _ _).mp c).2)
end
section
variable {c : Base} {bs F : List Addr} {σ : L2.St} {H : Hp} {ε : Env} {N : Nat} {ts : TS} {ws : WS}
theorem Rel.forget (r : Rel c bs F σ H ε N) (j : Nat) : ∃ F', Rel c bs F' σ H (ε.set j .no) N := by
  by_cases hj : j < σ.length
  · obtain ⟨F', r'⟩ := set_no r j (σ[j]?.getD none)
    have e : σ.set j (σ[j]?.getD none) = σ := set_same (by rw [List.getElem?_eq_getElem hj]; rfl)
    rw [e] at r'
    exact ⟨F', r'⟩
  · have hl : ε.length ≤ j := by have := r.env.len; omega
    rw [List.set_eq_of_length_le hl]
    exact ⟨F, r⟩
theorem Rel.forgets : ∀ {js : List Nat} {F : List Addr} {ε : Env}, Rel c bs F σ H ε N → ∃ F', Rel c bs F' σ H (js.foldl (fun ε j => ε.set j .no) ε) N
  | [], F, ε, r => ⟨F, r⟩
  | j :: js, F, ε, r => by
    obtain ⟨F1, r1⟩ := r.forget j
    exact Rel.forgets (js := js) r1
/-- while ts runs, slot i is shared; behind it slot i is its own again, and the slots js are forgotten -/
def wBlk (i : Nat) (js : List Nat) (ws : WS) : WS := fun D ε N => atIs ε[i]? fun y => ∃ a, y.root = some a ∧ ws (D.blk fun ε' N' => ε'[i]? = some (.is (.shr a y.data)) ∧ cleanE ((js.foldl (fun ε j => ε.set j .no) ε').set i .no) = true ∧ D.nx ((js.foldl (fun ε j => ε.set j .no) ε').set i (.is y)) N') (ε.set i (.is (.shr a y.data))) N
theorem wBlk_eq {i : Nat} {js : List Nat} {D : EW} : wBlk i js ws D ε N = atIs ε[i]? fun y => ∃ a, y.root = some a ∧ ws (D.blk fun ε' N' => ε'[i]? = some (.is (.shr a y.data)) ∧ cleanE ((js.foldl (fun ε j => ε.set j .no) ε').set i .no) = true ∧ D.nx ((js.foldl (fun ε j => ε.set j .no) ε').set i (.is y)) N') (ε.set i (.is (.shr a y.data))) N := propext Iff.rfl
theorem sim_blk {i : Nat} {js : List Nat} (h : SimS ts ws) : SimS ts (wBlk i js ws) := fun {c bs F σ H ε N DW D} r w m => by
  obtain ⟨y, e, a, ha, w⟩ := atIs_some w
  obtain ⟨z, A, F1, F2, q1, q2, eF, q4⟩ := r.env.at e
  cases q2 with
  | is q2 =>
    have ev := q2.root ha
    subst ev
    have hA : ∀ x ∈ A, x ∈ F := fun x hx => by rw [eF]; exact List.mem_append_right _ (List.mem_append_left _ hx)
    let bs' := bs.filter fun x => !decide (x ∈ A)
    have hs : ∀ x, x ∈ bs' ↔ x ∈ bs ∧ x ∉ A := fun x => by
      show x ∈ bs.filter _ ↔ _
      rw [List.mem_filter]
      simp
    have less : Same (hid bs H) (hid bs' H) := hid_less fun x hx => ((hs x).mp hx).1
    have nt' : NoTup bs' H := fun x hx => r.nt x ((hs x).mp hx).1
    have dq : Dq (hid bs' H) (.ref a) y.data := Rep.data nt' (fun x hx => ((hs x).mp hx).1) (fun x hx z => ((hs x).mp z).2 hx) q2
    have env := q4 (cs := bs') (H' := H) (y := some (.ref a)) (m := .is (.shr a y.data)) r.nt less (fun _ _ _ e => e) (.is (.shr dq))
    rw [set_same q1] at env
    have ndF := r.nd
    rw [eF] at ndF
    have hm : ∀ x ∈ F1 ++ ([] ++ F2), x ∈ F ∧ x ∉ A := fun x hx => by
      obtain ⟨_, p2, p3⟩ := List.nodup_append.mp ndF
      rw [eF]
      rcases List.mem_append.mp hx with h | h
      · exact ⟨List.mem_append_left _ h, fun z => p3 x h x (List.mem_append_left _ z) rfl⟩
      · exact ⟨List.mem_append_right _ (List.mem_append_right _ h), fun z => (List.nodup_append.mp p2).2.2 x z x h rfl⟩
    let c' : Base := { c with V := hid bs' H }
    have r1 : Rel c' bs' (F1 ++ ([] ++ F2)) σ H (ε.set i (.is (.shr a y.data))) N := ⟨env, nodup_mid ndF List.nodup_nil (fun _ z => nomatch z), fun x hx => (hs x).mpr ⟨r.sub x (hm x hx).1, (hm x hx).2⟩, fun x hx => r.off x (hm x hx).1, fun x hx => r.nb x (hm x hx).1, fun x hx => (hs x).mpr ⟨r.up x hx, fun z => r.nb x (hA x z) hx⟩, r.bb, r.offb, fun x hx => r.live x ((hs x).mp hx).1, nt', r.box, r.pin, Same.refl _⟩
    refine h r1 w ⟨fun {bs6 F6 σ6 H6 ε6 N6} r6 w6 => ?_, fun q w => m.rt ⟨q.rep, q.nd, q.off, q.nb, q.box, q.pin⟩ w, fun _ w => w.elim, fun _ w => w.elim, fun _ _ _ _ w => w.elim, fun _ _ w => w.elim⟩
    obtain ⟨e6, cl6, hD⟩ := w6
    obtain ⟨x6, A6, G1, G2, k1, k2, _, _⟩ := r6.env.at e6
    have es6 : σ6[i]? = some (some (.ref a)) := by
      cases k2 with
      | is k2 => cases k2 with
        | shr _ => exact k1
    have old : ∀ x ∈ A, ∃ o, H x = some o ∧ H6 x = some o ∧ x ∉ bs6 := fun x hx => by
      obtain ⟨o, eo, _⟩ := q2.own x hx
      have h2 : hid bs6 H6 x = some o := r6.vis x o (by show hid bs' H x = some o; rw [hid_out (fun z => ((hs x).mp z).2 hx)]; exact eo)
      exact ⟨o, eo, (hid_some h2).2, (hid_some h2).1⟩
    obtain ⟨F7, r7⟩ := r6.forgets (js := js)
    obtain ⟨F8, r8⟩ := r7.forget i
    have ntN : NoTup (A ++ bs6) H6 := fun x hx xs z => by
      rcases List.mem_append.mp hx with hx | hx
      · obtain ⟨o, eo, eo6, _⟩ := old x hx
        rw [eo6] at z
        exact r.nt x (r.sub x (hA x hx)) xs (eo.trans z)
      · exact r6.nt x hx xs z
    have vis0 : Same (hid bs H) (hid (A ++ bs6) H6) := fun x o eo => by
      obtain ⟨n1, e1⟩ := hid_some eo
      have h2 : hid bs6 H6 x = some o := r6.vis x o (by show hid bs' H x = some o; rw [hid_out (fun z => n1 ((hs x).mp z).1)]; exact e1)
      rw [hid_out fun z => (List.mem_append.mp z).elim (fun z => n1 (r.sub x (hA x z))) (hid_some h2).1]
      exact (hid_some h2).2
    have env8 := RelE.cln ntN r8.env cl6
    have il : i < ε6.length := (List.getElem?_eq_some_iff.mp e6).1
    have len7 : ∀ {js : List Nat} {ε : Env}, (js.foldl (fun ε j => ε.set j .no) ε).length = ε.length := fun {js} => by
      induction js with
      | nil => intro ε; rfl
      | cons j js ih => intro ε; exact (ih (ε := ε.set j .no)).trans (List.length_set ..)
    have e8 : ((js.foldl (fun ε j => ε.set j .no) ε6).set i .no)[i]? = some .no := List.getElem?_set_self (by rw [len7]; exact il)
    obtain ⟨x8, A8, K1, K2, p1, p2, p3, p4⟩ := env8.at e8
    cases p2 with
    | no =>
      have hy : Rep (A ++ bs6) H6 (.ref a) y A := Rep.chg r.nt vis0 (fun x hx o eo => by
        obtain ⟨o', eo', eo6, _⟩ := old x hx
        rw [eo'] at eo
        cases eo
        exact eo6) q2
      have env9 := p4 (cs := A ++ bs6) (H' := H6) (y := some (.ref a)) (m := .is y) ntN (Same.refl _) (fun _ _ _ e => e) (.is hy)
      rw [set_same es6, List.set_set] at env9
      have nd8 := r8.nd
      rw [p3] at nd8
      have in8 : ∀ x ∈ K1 ++ K2, x ∈ F8 := fun x hx => by rw [p3]; exact (List.mem_append.mp hx).elim (List.mem_append_left _) fun z => List.mem_append_right _ (List.mem_append_right _ z)
      have ndA : A.Nodup := (List.nodup_append.mp (List.nodup_append.mp ndF).2.1).1
      have disA : ∀ x ∈ A, x ∉ K1 ∧ x ∉ K2 := fun x hx => by
        obtain ⟨o, _, _, nb6⟩ := old x hx
        exact ⟨fun z => nb6 (r8.sub x (in8 x (List.mem_append_left _ z))), fun z => nb6 (r8.sub x (in8 x (List.mem_append_right _ z)))⟩
      have c3 : ∀ x ∈ K1 ++ (A ++ K2), x ∈ A ∨ x ∈ F8 := fun x hx => by
        rcases List.mem_append.mp hx with z | z
        · exact .inr (in8 x (List.mem_append_left _ z))
        · exact (List.mem_append.mp z).imp id fun z => in8 x (List.mem_append_right _ z)
      refine m.nx ⟨env9, nodup_mid nd8 ndA disA, fun x hx => ?_, fun x hx => ?_, fun x hx => ?_, fun x hx => List.mem_append_right _ (r6.up x hx), r.bb, r.offb, fun x hx => ?_, ntN, r6.box, r6.pin, r.vis.trans vis0⟩ hD
      · exact (c3 x hx).elim (List.mem_append_left _) fun z => List.mem_append_right _ (r8.sub x z)
      · exact (c3 x hx).elim (fun z => r.off x (hA x z)) fun z => r8.off x z
      · exact (c3 x hx).elim (fun z => r.nb x (hA x z)) fun z => r8.nb x z
      · rcases List.mem_append.mp hx with z | z
        · obtain ⟨o, _, eo6, _⟩ := old x z
          rw [eo6]
          exact fun w => nomatch w
        · exact r6.live x z
end
/-! an element of a tuple with a name, as a place -/
section
variable {ε : Env} {N : Nat} {tp tk : TE} {wp : WP} {wk : WE} {i : Nat}
def wPTa (i : Nat) (wp : WP) (wk : WE) : WP := fun ε N R => wp ε N fun π N1 => wk ε N1 fun d N2 => dInt d fun j => atPl ε i π fun s => ∃ b ts, s = .tpa b ts ∧ ∃ n, ixN ts.length j = some n ∧ R (π ++ [n]) N2
theorem wPTa_eq {R : List Nat → Nat → Prop} : wPTa i wp wk ε N R = wp ε N fun π N1 => wk ε N1 fun d N2 => dInt d fun j => atPl ε i π fun s => ∃ b ts, s = .tpa b ts ∧ ∃ n, ixN ts.length j = some n ∧ R (π ++ [n]) N2 := propext Iff.rfl
theorem sim_pta {K : PySem.W.Frag} (h : SimP tp i wp) (hk : SimE tk wk) : SimP (tOp (rIx K) tp tk) i (wPTa i wp wk) := fun {c bs F σ H ε N R Q} r w q => h r w fun u π N1 H1 v t s w1 o1 h1 h2 h3 h4 => hk (r.out o1) w1 fun u2 d N2 H2 w2 o2 hd => by
  have o12 := o1.trans o2
  have h4' := place_out (r.out o1) o2 h1 h2 h3 h4
  cases hd <;> first | exact False.elim w2 | skip
  rename_i j
  obtain ⟨t', s', g1, g2, b, ts, es, n, hn, hR⟩ := atPl_some w2
  rw [h2] at g1
  cases g1
  rw [h3] at g2
  cases g2
  obtain ⟨B, hr⟩ := place_rep (r.out o12) h1 h2 h3 h4'
  subst es
  cases hr with
  | tpa e hl =>
    rename_i vs
    have hlt : n < ts.length := (ixN_seq hn).2.1
    have hkv : n < vs.length := by rw [hl.len]; exact hlt
    have ew := List.getElem?_eq_getElem hkv
    have hq := q _ (π ++ [n]) N2 H2 v t ts[n] hR o12 h1 h2 (atP_snoc h3 (List.getElem?_eq_getElem hlt)) (h4'.snoc ⟨b, rfl, .inr (.inl e)⟩ ew)
    have ha : L2.atI vs j = some vs[n] := by unfold L2.atI; rw [hl.len, hn]; exact ew
    first
    | exact .inr ⟨b, vs, j, vs[n], rfl, rfl, SqT.of e, ha, hq⟩
    | exact .inr (.inl ⟨b, vs, j, vs[n], rfl, rfl, SqT.of e, ha, hq⟩)
end
end Cg

set_option Elab.async false
set_option linter.all false
set_option maxRecDepth 100000
set_option maxHeartbeats 1000000
namespace K87
open PySem PySem.Spec PyProof.Rows L2 Evl Cg
section
variable {P : Program} {w : World} {K : PySem.W.Frag} {mg : Str → Option Value} {base : Heap} {κ : Nat → Addr}
theorem sc_beat_of : FnScope ["cell", "number", "beats", "spread"] ["cell", "number", "beats", "spread"] (defScope st_beat_of) := ⟨rfl, rfl, rfl, by decide +kernel, rfl, by decide +kernel, by decide +kernel⟩
def w_beat_of : WF := wFn false 4 0 (wSeq (wIfS (wTest (wOp oEq (wVar 3) (wC (.str "early"))))
 (wRet (wSh (wC (.int 0))))
 wSkip)
 (wSeq (wIfS (wTest (wOp oEq (wVar 3) (wC (.str "late"))))
 (wRet (wSh (wOp oSub (wVar 2) (wC (.int 1)))))
 wSkip)
 (wRet (wSh (wOp oFdiv (wOp oMul (wVar 0) (wVar 2)) (wVar 1))))))
theorem w_beat_of_len {ds : List PyData} {N : Nat} {R : T → Nat → Prop} (h : w_beat_of ds N R) : ds.length = 4 := h.1
theorem ok_beat_of {f : Addr} {fd : FuncData} (F : Fun K "beat_of" "beat_of" st_beat_of f fd) (B : Bm mg) {tk_EARLY : Tok} (C_EARLY : mg "EARLY" = some (.str "early" tk_EARLY)) {tk_LATE : Tok} (C_LATE : mg "LATE" = some (.str "late" tk_LATE)) : FnOk P w K mg base CX0 1 f fd ["cell", "number", "beats", "spread"] (spW false 4 w_beat_of) := by
  refine F.ok sc_beat_of (fun vs H Q E h => spW_len h) (fun cdv A outer s H vs Q E hr h => ?_)
  refine ⟨_, (pss_cons (ps_if (pt_cmpR (op_eqU K hr.units) (pv 3) (pe_glob (v := .str "early") (by rfl) C_EARLY ⟨_, rfl⟩) (nomark _))
 (pss_one (ps_ret pe_int))
 pss_nil)
 (pss_cons (ps_if (pt_cmpR (op_eqU K hr.units) (pv 3) (pe_glob (v := .str "late") (by rfl) C_LATE ⟨_, rfl⟩) (nomark _))
 (pss_one (ps_ret (pe_op op_sub (pv 2) pe_int)))
 pss_nil)
 (pss_one (ps_ret (pe_op op_fdiv (pe_op op_mulU (pv 0) (pv 2)) (pv 1)))))), ?_⟩
  exact run_w (k := 0) ((sim_seq (sim_ifS (sim_test (sim_op od_eq sim_var sim_str))
 (sim_ret (sim_sh sim_int))
 sim_skip)
 (sim_seq (sim_ifS (sim_test (sim_op od_eq sim_var sim_str))
 (sim_ret (sim_sh (sim_op od_sub sim_var sim_int)))
 sim_skip)
 (sim_ret (sim_sh (sim_op od_fdiv (sim_op od_mul sim_var sim_var) sim_var)))))) rfl h
theorem sc_coming_in : FnScope ["beat", "load", "spread", "beats", "numbers", "row", "number", "cell"] ["beat", "load", "spread"] (defScope st_coming_in) := ⟨rfl, rfl, rfl, by decide +kernel, rfl, by decide +kernel, by decide +kernel⟩
def w_coming_in : WF := wFn false 3 5 (wSeq (wAsg (wVar 1) (wGTup 2 (wGCons (wName 3) (wGCons (wName 4) wGNil))))
 (wRet (wLcT (wIt (wVar 4)) (wName 5) wYes (wLcT (wIt (wVar 5)) (wName 6) wYes (wSh (wCb oLen (wCons (wLc (wRng1 (wVar 6)) (wName 7) (wTest (wOp oEq (wCall w_beat_of (wCons (wVar 7) (wCons (wVar 6) (wCons (wVar 3) (wCons (wVar 2) wNil))))) (wVar 0))) (wVar 7) [7]) wNil))) [6]) [5])))
theorem w_coming_in_len {ds : List PyData} {N : Nat} {R : T → Nat → Prop} (h : w_coming_in ds N R) : ds.length = 3 := h.1
theorem ok_coming_in {f : Addr} {fd : FuncData} (F : Fun K "coming_in" "coming_in" st_coming_in f fd) (B : Bm mg) {f_beat_of : Addr} {fd_beat_of : FuncData} (d_beat_of : Df P w K mg base 1 "beat_of" st_beat_of ["cell", "number", "beats", "spread"] f_beat_of fd_beat_of (spW false 4 w_beat_of)) : FnOk P w K mg base CX0 2 f fd ["beat", "load", "spread"] (spW false 3 w_coming_in) := by
  refine F.ok sc_coming_in (fun vs H Q E h => spW_len h) (fun cdv A outer s H vs Q E hr h => ?_)
  refine ⟨_, (pss_cons (ps_asg (pv 1) (pg_tupK K (n := 2) rfl (pgs_cons (pg_name (i := 3) sc_coming_in.nd rfl (.inr rfl)) (pgs_cons (pg_name (i := 4) sc_coming_in.nd rfl (.inl rfl)) pgs_nil))))
 (pss_one (ps_ret (pe_lc (own := [("row", 5)]) rfl sc_coming_in.nd (pi_seq K (pv 4)) (blkOk_by (own := [("row", 5)]) (by kernel_rfl)) (fun _ _ _ _ _ => (pg_name (i := 5) sc_coming_in.nd rfl (by first | exact Or.inl rfl | exact Or.inr rfl))) (fun _ _ _ _ _ => pts_nil) (fun _ _ _ _ _ => (pe_lc (own := [("number", 6)]) rfl sc_coming_in.nd (pi_seq K (pv 5)) (blkOk_by (own := [("number", 6)]) (by kernel_rfl)) (fun _ _ _ _ _ => (pg_name (i := 6) sc_coming_in.nd rfl (by first | exact Or.inl rfl | exact Or.inr rfl))) (fun _ _ _ _ _ => pts_nil) (fun _ _ _ _ _ => (pe_callB (lenK K) (by rfl) B.len (by decide +kernel) (pa_cons (pe_lc (own := [("cell", 7)]) rfl sc_coming_in.nd (pi_range1 (by rfl) B.range (pa_cons (pv 6) pa_nil)) (blkOk_by (own := [("cell", 7)]) (by kernel_rfl)) (fun _ _ _ _ _ => (pg_name (i := 7) sc_coming_in.nd rfl (.inl rfl))) (fun _ _ _ _ _ => (pts_one (pt_cmpR (op_eqU K hr.units) (pe_call d_beat_of.G (hr.mono (by omega)) (by rfl) d_beat_of.g d_beat_of.F.kp d_beat_of.b .nil pass0 (pa_cons (pv 7) (pa_cons (pv 6) (pa_cons (pv 3) (pa_cons (pv 2) pa_nil))))) (pv 0) (nomark _)))) (fun _ _ _ _ _ => (pv 7))) pa_nil))))))))), ?_⟩
  exact run_w (k := 5) ((sim_seq (sim_asg sim_var (sim_gtup (sim_gcons (sim_name (vs := [3, 4]) (by decide)) (sim_gcons (sim_name (vs := [3, 4]) (by decide)) sim_gnil))))
 (sim_ret (sim_lcT (sim_it sim_var) (sim_name (vs := [5]) (by decide)) sim_yes (sim_lcT (sim_it sim_var) (sim_name (vs := [6]) (by decide)) sim_yes (sim_sh (sim_cb cb_len (sim_cons (sim_lc (sim_r1 sim_var) (sim_name (vs := [7]) (by decide)) (sim_test (sim_op od_eq (sim_call w_beat_of_len (sim_cons sim_var (sim_cons sim_var (sim_cons sim_var (sim_cons sim_var sim_nil))))) sim_var)) sim_var) sim_nil)))))))) rfl h
theorem sc_cells_of : FnScope ["numbers", "inlet", "row", "outlet", "many"] ["numbers"] (defScope st_cells_of) := ⟨rfl, rfl, rfl, by decide +kernel, rfl, by decide +kernel, by decide +kernel⟩
def w_cells_of : WF := wFn false 1 4 (wRet (wLcT2 (wEnum (wVar 0)) (wGTup 2 (wGCons (wName 1) (wGCons (wName 2) wGNil))) wYes (wEnum (wVar 2)) (wGTup 2 (wGCons (wName 3) (wGCons (wName 4) wGNil))) (wTest (wOp oGt (wVar 4) (wC (.int 0)))) (wTup (wCons (wVar 1) (wCons (wVar 3) (wCons (wVar 4) wNil)))) [1, 2, 3, 4] [3, 4]))
theorem w_cells_of_len {ds : List PyData} {N : Nat} {R : T → Nat → Prop} (h : w_cells_of ds N R) : ds.length = 1 := h.1
theorem ok_cells_of {f : Addr} {fd : FuncData} (F : Fun K "cells_of" "cells_of" st_cells_of f fd) (B : Bm mg)  : FnOk P w K mg base CX0 1 f fd ["numbers"] (spW false 1 w_cells_of) := by
  refine F.ok sc_cells_of (fun vs H Q E h => spW_len h) (fun cdv A outer s H vs Q E hr h => ?_)
  refine ⟨_, (pss_one (ps_ret (pe_lc2 (own := [("inlet", 1), ("row", 2), ("outlet", 3), ("many", 4)]) (vs1 := [3, 4]) rfl sc_cells_of.nd (pi_enumS K (by rfl) B.enumerate (pa_cons (pv 0) pa_nil)) (blkOk_by (own := [("inlet", 1), ("row", 2), ("outlet", 3), ("many", 4)]) (by kernel_rfl)) (by decide) (fun _ _ _ _ _ => (pg_tupK K (n := 2) rfl (pgs_cons (pg_name (i := 1) sc_cells_of.nd rfl (.inl rfl)) (pgs_cons (pg_name (i := 2) sc_cells_of.nd rfl (.inl rfl)) pgs_nil)))) (fun _ _ _ _ _ => pts_nil) (fun _ _ _ _ _ => (pi_enumS K (by rfl) B.enumerate (pa_cons (pv 2) pa_nil))) (fun _ _ _ _ _ => (pg_tupK K (n := 2) rfl (pgs_cons (pg_name (i := 3) sc_cells_of.nd rfl (.inl rfl)) (pgs_cons (pg_name (i := 4) sc_cells_of.nd rfl (.inl rfl)) pgs_nil)))) (fun _ _ _ _ _ => (pts_one (pt_cmpR op_gt (pv 4) pe_int (nomark _)))) (fun _ _ _ _ _ => (pe_tup (pa_cons (pv 1) (pa_cons (pv 3) (pa_cons (pv 4) pa_nil)))))))), ?_⟩
  exact run_w (k := 4) ((sim_ret (sim_lcT2 (sim_enum sim_var) (sim_gtup (sim_gcons (sim_name (vs := [1, 2, 3, 4]) (by decide)) (sim_gcons (sim_name (vs := [1, 2, 3, 4]) (by decide)) sim_gnil))) sim_yes (sim_enum sim_var) (sim_gtup (sim_gcons (sim_name (vs := [3, 4]) (by decide)) (sim_gcons (sim_name (vs := [3, 4]) (by decide)) sim_gnil))) (sim_test (sim_op od_gt sim_var sim_int)) (sim_tup (sim_cons sim_var (sim_cons sim_var (sim_cons sim_var sim_nil))))))) rfl h
theorem sc_arrivals : FnScope ["load", "spread", "beats", "numbers", "beat"] ["load", "spread"] (defScope st_arrivals) := ⟨rfl, rfl, rfl, by decide +kernel, rfl, by decide +kernel, by decide +kernel⟩
def w_arrivals : WF := wFn false 2 3 (wSeq (wAsg (wVar 0) (wGTup 2 (wGCons (wName 2) (wGCons (wName 3) wGNil))))
 (wRet (wLcT (wRng1 (wVar 2)) (wName 4) wYes (wCallT w_cells_of (wCons (wCall w_coming_in (wCons (wVar 4) (wCons (wVar 0) (wCons (wVar 1) wNil)))) wNil)) [4])))
theorem w_arrivals_len {ds : List PyData} {N : Nat} {R : T → Nat → Prop} (h : w_arrivals ds N R) : ds.length = 2 := h.1
theorem ok_arrivals {f : Addr} {fd : FuncData} (F : Fun K "arrivals" "arrivals" st_arrivals f fd) (B : Bm mg) {f_cells_of : Addr} {fd_cells_of : FuncData} (d_cells_of : Df P w K mg base 1 "cells_of" st_cells_of ["numbers"] f_cells_of fd_cells_of (spW false 1 w_cells_of)) {f_coming_in : Addr} {fd_coming_in : FuncData} (d_coming_in : Df P w K mg base 2 "coming_in" st_coming_in ["beat", "load", "spread"] f_coming_in fd_coming_in (spW false 3 w_coming_in)) : FnOk P w K mg base CX0 3 f fd ["load", "spread"] (spW false 2 w_arrivals) := by
  refine F.ok sc_arrivals (fun vs H Q E h => spW_len h) (fun cdv A outer s H vs Q E hr h => ?_)
  refine ⟨_, (pss_cons (ps_asg (pv 0) (pg_tupK K (n := 2) rfl (pgs_cons (pg_name (i := 2) sc_arrivals.nd rfl (.inl rfl)) (pgs_cons (pg_name (i := 3) sc_arrivals.nd rfl (.inl rfl)) pgs_nil))))
 (pss_one (ps_ret (pe_lc (own := [("beat", 4)]) rfl sc_arrivals.nd (pi_range1 (by rfl) B.range (pa_cons (pv 2) pa_nil)) (blkOk_by (own := [("beat", 4)]) (by kernel_rfl)) (fun _ _ _ _ _ => (pg_name (i := 4) sc_arrivals.nd rfl (.inl rfl))) (fun _ _ _ _ _ => pts_nil) (fun _ _ _ _ _ => (pe_call d_cells_of.G (hr.mono (by omega)) (by rfl) d_cells_of.g d_cells_of.F.kp d_cells_of.b .nil pass0 (pa_cons (pe_call d_coming_in.G (hr.mono (by omega)) (by rfl) d_coming_in.g d_coming_in.F.kp d_coming_in.b .nil pass0 (pa_cons (pv 4) (pa_cons (pv 0) (pa_cons (pv 1) pa_nil)))) pa_nil))))))), ?_⟩
  exact run_w (k := 3) ((sim_seq (sim_asg sim_var (sim_gtup (sim_gcons (sim_name (vs := [2, 3]) (by decide)) (sim_gcons (sim_name (vs := [2, 3]) (by decide)) sim_gnil))))
 (sim_ret (sim_lcT (sim_r1 sim_var) (sim_name (vs := [4]) (by decide)) sim_yes (sim_callT w_cells_of_len (sim_cons (sim_call w_coming_in_len (sim_cons sim_var (sim_cons sim_var (sim_cons sim_var sim_nil)))) sim_nil)))))) rfl h
theorem sc_law_box : FnScope ["_law_script", "_law_k", "_law_cell"] ["_law_script", "_law_k"] (defScope st_law_box) := ⟨rfl, rfl, rfl, by decide +kernel, rfl, by decide +kernel, by decide +kernel⟩
theorem ok_law_box {f : Addr} {fd : FuncData} (F : Fun K "_law_box" "_law_box" st_law_box f fd) (B : Bm mg) : FnOk P w K mg base CX0 1 f fd ["_law_script", "_law_k"] (spBox K) := by
  refine F.ok sc_law_box (fun vs H Q E h => ?_) (fun cdv A outer s H vs Q E hr h => ?_)
  · obtain ⟨a, ns, k, rfl, _⟩ := h
    rfl
  · obtain ⟨a, ns, k, rfl, hS, hk, q⟩ := h
    refine ⟨_, (pss_cons (ps_set (i := 2) sc_law_box.nd rfl (.inl rfl) (pe_ifExp (pt_cmpR op_lt (pv 1) (pe_callB (lenK K) (by rfl) B.len (by decide +kernel) (pa_cons (pv 0) pa_nil)) (nomark _)) (pe_ix (ixLK K) (pv 0) (pv 1) (fun _ _ => rfl)) pe_int))
 (pss_one (ps_ret (pe_lst (pa_cons (pe_op op_mul (pe_callB call_abs (by rfl) B.abs (by decide +kernel) (pa_cons (pv 2) pa_nil)) (pe_callTy call_int1 (by rfl) B.int (by decide +kernel) (pa_cons (pe_cmpR op_ge (pe_callB call_abs (by rfl) B.abs (by decide +kernel) (pa_cons (pv 2) pa_nil)) (pe_op op_pow pe_int pe_int) (nomark _)) pa_nil))) (pa_cons (pe_op op_mod (pe_op op_mul (pe_op op_add (pe_op op_add (pe_op op_mod (pv 2) pe_int) (pe_op op_mul pe_int (pv 1))) pe_int) pe_int) pe_int) (pa_cons pe_int pa_nil))))))), ?_⟩
    refine q_asg (v := .int (ns.getD k 0)) (ev_if (b := decide ((k : Int) < ((ns.map V.int).length : Int))) (et_test (ev_op (ev_var rfl) (ev_len (ev_var rfl) hS) rv_I0)) (fun hb => ?_) fun hb => ?_) fun H1 e1 => ?_
    · have hb' : (k : Int) < ((ns.map V.int).length : Int) := of_decide_eq_true hb
      have hk2 : k < ns.length := by rw [List.length_map] at hb'; omega
      refine ev_op (ev_var rfl) (ev_var rfl) (rv_ixL hS (atI_nat ?_))
      rw [List.getElem?_map, List.getElem?_eq_getElem hk2, List.getD_eq_getElem?_getD, List.getElem?_eq_getElem hk2] <;> rfl
    · have hb' : ¬ (k : Int) < ((ns.map V.int).length : Int) := of_decide_eq_false hb
      have hk2 : ns.length ≤ k := by rw [List.length_map] at hb'; omega
      rw [List.getD_eq_getElem?_getD, List.getElem?_eq_none hk2]
      exact ev_c
    · generalize ns.getD k 0 = c
      have hab : ∀ {σ : L2.St} {H : Hp}, σ[2]? = some (some (.int c)) → Ev (tCB (fun xs H Q => ∃ i, xs = [V.int i] ∧ Q (V.int (if i < 0 then -i else i)) H) (tCons (tVar 2) tNil)) σ H (.int (if c < 0 then -c else c)) := fun hs => ev_cb1 (ev_var hs) fun H1 Q q => ⟨c, rfl, q⟩
      have hnn : 0 ≤ (if c < 0 then -c else c) := by split <;> omega
      generalize (if c < 0 then -c else c) = ac at hab hnn
      have hbit : ∀ x : Bool, (0 : Int) ≤ (if x = true then 1 else 0) ∧ (if x = true then 1 else 0) ≤ (1 : Int) := fun x => by cases x <;> decide
      refine s_retL (el_lst (ea_cons (ev_op (hab rfl) (ev_cb1 (ev_op (hab rfl) (ev_op ev_c ev_c (rv_I ⟨by decide, by decide, by decide⟩)) rv_I0) fun H1 Q q => .inr ⟨_, rfl, q⟩) (rv_I (.inr ⟨by have := hbit (decide ((10 : Int) ^ (18 : Int).toNat ≤ ac)); omega, by have := hbit (decide ((10 : Int) ^ (18 : Int).toNat ≤ ac)); omega⟩)))
        (ea_cons (ev_op (ev_op (ev_op (ev_op (ev_op (ev_var rfl) ev_c (rv_I (by decide))) (ev_op ev_c (ev_var rfl) (rv_I (.inl ⟨by decide, by decide⟩))) rv_I0) ev_c rv_I0) ev_c (rv_I (.inr ⟨by decide, by decide⟩))) ev_c (rv_I (by decide))) (ea_cons ev_c ea_nil))) (by show 3 ≤ 100000; decide)) fun p H2 np e2 hp => ?_
      refine q p H2 (e1.trans e2) (fresh_back e1 np) ⟨_, _, _, hp, Int.mul_nonneg hnn (hbit _).1, ?_, ?_, Int.le_refl _, Int.le_refl _⟩
      · exact Int.emod_nonneg _ (by decide)
      · exact Int.emod_lt_of_pos _ (by decide)
theorem sc_law_take : FnScope ["_law_box_here", "_law_size", "_law_step", "_law_once", "_law_twice", "_law_found"] ["_law_box_here", "_law_size"] (defScope st_law_take) := ⟨rfl, rfl, rfl, by decide +kernel, rfl, by decide +kernel, by decide +kernel⟩
theorem ok0_law_take {f : Addr} {fd : FuncData} (F : Fun K "_law_take" "_law_take" st_law_take f fd) (B : Bm mg) : FnOk P w K mg base CX0 1 f fd ["_law_box_here", "_law_size"] spTake := by
  refine F.ok sc_law_take (fun vs H Q E h => ?_) (fun cdv A outer s H vs Q E hr h => ?_)
  · obtain ⟨b, m, n, rfl, _⟩ := h
    rfl
  · obtain ⟨b, m, n, rfl, hB, hn, hm1, hm2, q⟩ := h
    refine ⟨_, (pss_cons (ps_if (pt_cmpR op_gt (pe_ix (ixLK K) (pv 0) pe_int (fun _ _ => rfl)) pe_int (nomark _))
 (pss_cons (ps_asg (pe_callB call_divmod (by rfl) B.divmod (by decide +kernel) (pa_cons (pe_ix (ixLK K) (pv 0) pe_int (fun _ _ => rfl)) (pa_cons (pv 1) pa_nil))) (pg_tupK K (n := 2) rfl (pgs_cons (pg_sub (pv 0) pe_int set_list) (pgs_cons (pg_name (i := 5) sc_law_take.nd rfl (.inl rfl)) pgs_nil))))
 (pss_one (ps_ret (pv 5))))
 pss_nil)
 (pss_cons (ps_asg (pe_op op_add (pe_ix (ixLK K) (pv 0) pe_int (fun _ _ => rfl)) pe_int) (pg_sub (pv 0) pe_int set_list))
 (pss_cons (ps_set (i := 2) sc_law_take.nd rfl (.inl rfl) (pe_op op_add pe_int (pe_op op_mul (pe_ix (ixLK K) (pv 0) pe_int (fun _ _ => rfl)) (pe_ix (ixLK K) (pv 0) pe_int (fun _ _ => rfl)))))
 (pss_cons (ps_set (i := 3) sc_law_take.nd rfl (.inl rfl) (pe_op op_mod (pe_op op_mul (pe_op op_add (pe_ix (ixLK K) (pv 0) pe_int (fun _ _ => rfl)) (pe_op op_mul pe_int (pe_ix (ixLK K) (pv 0) pe_int (fun _ _ => rfl)))) (pv 2)) pe_int))
 (pss_cons (ps_set (i := 4) sc_law_take.nd rfl (.inl rfl) (pe_op op_mod (pe_op op_add (pe_op op_mul (pv 3) (pe_op op_add (pe_op op_mod (pv 3) pe_int) pe_int)) (pe_ix (ixLK K) (pv 0) pe_int (fun _ _ => rfl))) pe_int))
 (pss_one (ps_ret (pe_op op_mod (pe_op op_fdiv (pe_op op_mod (pe_op op_mul (pv 4) (pe_op op_add (pe_op op_mod (pv 4) pe_int) pe_int)) pe_int) pe_int) (pv 1))))))))), ?_⟩
    obtain ⟨r, sd, c, hb, hr0, hs0, hs1, hc0, hc1⟩ := hB
    have at0 : ∀ {σ : L2.St} {H : Hp} {x y z : V}, σ[0]? = some (some (.ref b)) → H b = some (.lst [x, y, z]) → Ev (tOp (rIxL K) (tVar 0) (tC (.int 0))) σ H x := fun hs hb => ev_op (ev_var hs) ev_c (rv_ixL (SqL.of hb) (atI_nat (j := 0) rfl))
    have at1 : ∀ {σ : L2.St} {H : Hp} {x y z : V}, σ[0]? = some (some (.ref b)) → H b = some (.lst [x, y, z]) → Ev (tOp (rIxL K) (tVar 0) (tC (.int 1))) σ H y := fun hs hb => ev_op (ev_var hs) ev_c (rv_ixL (SqL.of hb) (atI_nat (j := 1) rfl))
    have at2 : ∀ {σ : L2.St} {H : Hp} {x y z : V}, σ[0]? = some (some (.ref b)) → H b = some (.lst [x, y, z]) → Ev (tOp (rIxL K) (tVar 0) (tC (.int 2))) σ H z := fun hs hb => ev_op (ev_var hs) ev_c (rv_ixL (SqL.of hb) (atI_nat (j := 2) rfl))
    refine q_when (b := decide (0 < r)) (et_test (ev_op (at0 rfl hb) ev_c rv_I0)) (fun hp H1 e1 => ?_) fun hp H1 e1 => ?_
    · have hp' : 0 < r := of_decide_eq_true hp
      have hb1 := e1 _ _ hb
      refine at0 rfl hb1 H1 (Ex.refl _) _ fun H2 e2 => ?_
      have hb2 := e2 _ _ hb1
      refine ⟨.int m, rfl, r, m, rfl, ⟨by omega, by omega⟩, fun p np => ?_⟩
      have hpb : p ≠ b := (ne_of_none hb2 np).symm
      refine ⟨p, _, rfl, SqT.of upd_same, rfl, _, _, rfl, .ref b, rfl, b, _, 0, 0, rfl, rfl, by rw [upd_ne hpb.symm]; exact hb2, rfl, _, _, rfl, rfl, ?_⟩
      refine ⟨.int (r % m), rfl, ?_⟩
      have hq : 0 ≤ r / m := Int.ediv_nonneg hr0 (by omega)
      refine q (r % m) _ (Int.emod_nonneg _ (by omega)) (Int.emod_lt_of_pos _ (by omega)) ⟨r / m, sd, c, upd_same, hq, hs0, hs1, hc0, by omega⟩ ?_
      exact ((Keep.of (e1.trans e2)).new np).put (by simp)
    · have hb1 := e1 _ _ hb
      have e2 : Ex H1 H1 := Ex.refl _
      have hb2 := e2 _ _ hb1
      refine q_setL (j := 2) hb2 (ev_op (at2 rfl hb2) ev_c rv_I0) (ev_var rfl) ev_c (by show 2 < 3; decide) fun H3 e3 => ?_
      change tSeq _ _ _ _ (upd H3 b (.lst [.int r, .int sd, .int (c + 1)]))
      have k4 : Keep [b] H (upd H3 b (.lst [.int r, .int sd, .int (c + 1)])) := (Keep.of ((e1.trans e2).trans e3)).put (by simp)
      have hb4 : (upd H3 b (.lst [.int r, .int sd, .int (c + 1)])) b = some (.lst [.int r, .int sd, .int (c + 1)]) := upd_same
      generalize upd H3 b (.lst [.int r, .int sd, .int (c + 1)]) = H4 at k4 hb4
      have hcc : c + 1 ≤ 1000000001 := by omega
      refine q_asg (ev_op ev_c (ev_op (at2 rfl hb4) (at2 rfl hb4) (rv_I (.inl ⟨by omega, by omega⟩))) rv_I0) fun H5 e5 => ?_
      have hb5 := e5 _ _ hb4
      refine q_asg (ev_op (ev_op (ev_op (at1 rfl hb5) (ev_op ev_c (at2 rfl hb5) (rv_I (.inl ⟨by decide, by decide⟩))) rv_I0) (ev_var rfl) (rv_I (.inl ⟨by omega, by omega⟩))) ev_c (rv_I (by decide))) fun H6 e6 => ?_
      have hb6 := e6 _ _ hb5
      generalize ho : ((sd + 39373 * (c + 1)) * (69621 + (c + 1) * (c + 1))) % 2147483587 = once
      have ho1 : 0 ≤ once ∧ once < 2147483587 := by omega
      refine q_asg (ev_op (ev_op (ev_op (ev_var rfl) (ev_op (ev_op (ev_var rfl) ev_c (rv_I (by decide))) ev_c rv_I0) (rv_I (.inl ⟨by omega, by omega⟩))) (at2 rfl hb6) rv_I0) ev_c (rv_I (by decide))) fun H7 e7 => ?_
      generalize ht : (once * (once % 30011 + 5) + (c + 1)) % 2147483563 = twice
      have ht1 : 0 ≤ twice ∧ twice < 2147483563 := by omega
      refine s_ret (ev_op (ev_op (ev_op (ev_op (ev_var rfl) (ev_op (ev_op (ev_var rfl) ev_c (rv_I (by decide))) ev_c rv_I0) (rv_I (.inl ⟨by omega, by omega⟩))) ev_c (rv_I (by decide))) ev_c (rv_I ⟨by decide, by decide⟩)) (ev_var rfl) (rv_I (by show 0 < m; omega))) fun H8 e8 => ?_
      refine q _ H8 (Int.emod_nonneg _ (by omega)) (Int.emod_lt_of_pos _ (by omega)) ⟨r, sd, c + 1, ((e7.trans e8) _ _ (e6 _ _ hb5)), hr0, hs0, hs1, by omega, by omega⟩ (k4.ext (((e5.trans e6).trans e7).trans e8))
abbrev w_law_take : WF := w_take
theorem w_law_take_len {ds : List PyData} {N : Nat} {R : T → Nat → Prop} (h : w_law_take ds N R) : ds.length = 1 := w_take_len h
theorem ok_law_take {f : Addr} {fd : FuncData} (F : Fun K "_law_take" "_law_take" st_law_take f fd) (B : Bm mg) : FnOk P w K mg base CX0 1 f fd ["_law_box_here", "_law_size"] (spW true 1 w_law_take) := (ok0_law_take F B).imp fun _ _ _ _ h => sp_take h
theorem sc_law_folded : FnScope ["_law_script", "_law_size", "_law_cells", "_law_k", "_law_cell"] ["_law_script", "_law_size"] (defScope st_law_folded) := ⟨rfl, rfl, rfl, by decide +kernel, rfl, by decide +kernel, by decide +kernel⟩
theorem ok_law_folded {f : Addr} {fd : FuncData} (F : Fun K "_law_folded" "_law_folded" st_law_folded f fd) (B : Bm mg) : FnOk P w K mg base CX0 1 f fd ["_law_script", "_law_size"] (spFold K) := by
  refine F.ok sc_law_folded (fun vs H Q E h => ?_) (fun cdv A outer s H vs Q E hr h => ?_)
  · obtain ⟨a, ns, z, rfl, _⟩ := h
    rfl
  · obtain ⟨a, ns, z, rfl, hS, hz1, hz2, hl, q⟩ := h
    refine ⟨_, (pss_cons (ps_set (i := 2) sc_law_folded.nd rfl (.inl rfl) (pe_callTy (listK K) (by rfl) B.list (by decide +kernel) (pa_cons (pe_slice (slLK K) (pv 0) po_none (po_some (pv 1))) pa_nil)))
 (pss_cons (ps_for PassesOwn.never rfl (pi_enumK K (by rfl) B.enumerate (pa_cons (pe_slice (slLK K) (pv 0) (po_some (pv 1)) (po_some pe_int)) pa_nil)) (pg_tupK K (n := 2) rfl (pgs_cons (pg_name (i := 3) sc_law_folded.nd rfl (.inl rfl)) (pgs_cons (pg_name (i := 4) sc_law_folded.nd rfl (.inl rfl)) pgs_nil)))
 (pss_one (ps_asg (pe_op op_add (pe_ix (ixLK K) (pv 2) (pe_op op_mod (pv 3) (pv 1)) (fun _ _ => rfl)) (pe_op op_mul (pv 4) (pe_op op_add (pv 3) pe_int))) (pg_sub (pv 2) (pe_op op_mod (pv 3) (pv 1)) set_list))))
 (pss_one (ps_ret (pv 2))))), ?_⟩
    refine el_sl (ev_var rfl) eo_none (eo_some (ev_var rfl)) hS H (Ex.refl _) _ fun p0 H1 np0 e1 hp0 => ⟨p0, _, rfl, .inl (SqL.of hp0), fun l nl => ?_⟩
    rw [cut_hi, ← List.map_take]
    have s1 : Same H (upd H1 l (.lst ((ns.take z).map V.int))) := e1.trans (Ex.new nl)
    have hl0 : H l = none := fresh_back e1 nl
    refine q_forE (el_sl (ev_var rfl) (eo_some (ev_var rfl)) (eo_some ev_c) (s1.seq hS)) (fun p k σ H' => ∃ (ms : List Int) (y3 y4 : Option V), σ = [some (.ref a), some (.int (z : Int)), some (.ref l), y3, y4] ∧ Same H H' ∧ H' l = some (.lst (ms.map V.int)) ∧ ms.length = min z ns.length ∧ H' p = some (.lst (cutV (ns.map V.int) (some (z : Int)) (some 63))) ∧ p ≠ l)
      (fun p H2 np e2 hp => ⟨ns.take z, none, none, rfl, s1.trans e2, e2 _ _ upd_same, by rw [List.length_take], hp, fun h => ?_⟩) (fun p k σ' H' _ hP => ?_) (fun p k x T σ' H' hx hP hT => ?_) (fun p σ' H' hP => ?_)
    · rw [h, upd_same] at np
      cases np
    · obtain ⟨_, _, _, _, _, _, _, hp, _⟩ := hP
      exact SqL.of hp
    · obtain ⟨ms, y3, y4, rfl, sm, hl', len, hp, hpl⟩ := hP
      have hx2 := hx
      rw [show (63 : Int) = ((63 : Nat) : Int) from rfl, cut_both, ← List.map_drop, ← List.map_take] at hx2
      rw [List.getElem?_map, Option.map_eq_some_iff] at hx2
      obtain ⟨n, hn, rfl⟩ := hx2
      have hzn : z < ns.length := by
        have := (List.getElem?_eq_some_iff.mp hn).1
        rw [List.length_take, List.length_drop] at this
        omega
      have hml : ms.length = z := by rw [len]; omega
      have hk63 : k < 1000 := by
        have := (List.getElem?_eq_some_iff.mp hn).1
        rw [List.length_take, List.length_drop] at this
        omega
      have nTl : l ≠ T := ne_of_none hl' hT
      have nTp : p ≠ T := ne_of_none hp hT
      have hj : k % z < (ms.map V.int).length := by rw [List.length_map, hml]; exact Nat.mod_lt _ (by omega)
      have hlT : (upd H' T (.tup [.int (k : Nat), .int n])) l = some (.lst (ms.map V.int)) := by rw [upd_ne nTl]; exact hl'
      have hix : ∀ {σ : L2.St} {H : Hp}, σ[1]? = some (some (.int (z : Int))) → σ[3]? = some (some (.int (k : Nat))) → Ev (tOp (rI (fun _ j => 0 < j) fun i j => .int (i % j)) (tVar 3) (tVar 1)) σ H (.int ((k % z : Nat) : Int)) := fun h1 h2 => ev_is (ev_op (ev_var h2) (ev_var h1) (rv_I (by show (0 : Int) < z; omega))) (by rw [Int.natCast_emod])
      refine s_setL (j := k % z) hlT (v := .int (ms[k % z]'(by rw [List.length_map] at hj; exact hj) + n * ((k : Nat) + 2))) (ev_op (ev_op (ev_var rfl) (hix rfl rfl) (rv_ixL (SqL.of hlT) (atI_nat ?_))) (ev_op (ev_var rfl) (ev_op (ev_var rfl) ev_c rv_I0) (rv_I (.inr ⟨by omega, by omega⟩))) rv_I0) (ev_var rfl) (hix rfl rfl) hj fun H2 e2 => ?_
      · rw [List.getElem?_map, List.getElem?_eq_getElem] <;> rfl
      · refine ⟨ms.set (k % z) (ms[k % z]'(by rw [List.length_map] at hj; exact hj) + n * ((k : Nat) + 2)), _, _, rfl, fun c o ho => ?_, ?_, ?_, ?_, hpl⟩
        · rw [upd_ne (ne_of_none ho hl0)]
          exact e2 _ _ (Ex.new hT _ _ (sm _ _ ho))
        · rw [upd_same, List.map_set]
        · rw [List.length_set]; exact len
        · rw [upd_ne hpl]
          exact e2 _ _ (by rw [upd_ne nTp]; exact hp)
    · obtain ⟨ms, y3, y4, rfl, sm, hl', len, _, _⟩ := hP
      exact s_ret (ev_var rfl) fun H2 e2 => q l ms H2 (sm.trans e2) hl0 (e2 _ _ hl') len
theorem sc_law_same : FnScope ["_law_found", "_law_due", "_law_one", "_law_other"] ["_law_found", "_law_due"] (defScope st_law_same) := ⟨rfl, rfl, rfl, by decide +kernel, rfl, by decide +kernel, by decide +kernel⟩
theorem ok0_law_same {f : Addr} {fd : FuncData} (F : Fun K "_law_same" "_law_same" st_law_same f fd) (B : Bm mg) (g : mg "_law_same" = some (.ref f)) (b : Binds K fd ["_law_found", "_law_due"] []) : ∀ n : Nat, FnOk P w K mg base CX0 (n + 1) f fd ["_law_found", "_law_due"] (spSame n)
  | 0 => by
    refine F.ok sc_law_same (fun vs H Q E h => ?_) (fun cdv A outer s H vs Q E hr h => ?_)
    · obtain ⟨v, u, d, rfl, _⟩ := h
      rfl
    · obtain ⟨_, _, _, _, _, _, z, _⟩ := h
      exact z.elim
  | n + 1 => by
    have d_law_same : Df P w K mg base (n + 1) "_law_same" st_law_same ["_law_found", "_law_due"] f fd (spSame n) := ⟨F, g, b, ok0_law_same F B g b n⟩
    refine F.ok sc_law_same (fun vs H Q E h => ?_) (fun cdv A outer s H vs Q E hr h => ?_)
    · obtain ⟨v, u, d, rfl, _⟩ := h
      rfl
    · obtain ⟨v, u, d, rfl, hv, hu, hk, q⟩ := h
      refine ⟨_, (pss_cons (ps_if (pt_val (pe_callB (isiTK K) (by rfl) B.isinstance (by decide +kernel) (pa_cons (pv 1) (pa_cons (pe_tup (pa_cons (pe_bltn (v := .ty "list") (by rfl) B.list (by decide +kernel) rfl) (pa_cons (pe_bltn (v := .ty "tuple") (by rfl) B.tuple (by decide +kernel) rfl) pa_nil))) pa_nil))))
 (pss_cons (ps_if (PW.pt (pw_or (pt_cmpR op_ne (pe_callB (isiK K) (by rfl) B.isinstance (by decide +kernel) (pa_cons (pv 0) (pa_cons (pe_bltn (v := .ty "list") (by rfl) B.list (by decide +kernel) rfl) pa_nil))) (pe_callB (isiK K) (by rfl) B.isinstance (by decide +kernel) (pa_cons (pv 1) (pa_cons (pe_bltn (v := .ty "list") (by rfl) B.list (by decide +kernel) rfl) pa_nil))) (nomark _)) (pw_or1 (pt_cmpR op_ne (pe_callB (isiK K) (by rfl) B.isinstance (by decide +kernel) (pa_cons (pv 0) (pa_cons (pe_bltn (v := .ty "tuple") (by rfl) B.tuple (by decide +kernel) rfl) pa_nil))) (pe_callB (isiK K) (by rfl) B.isinstance (by decide +kernel) (pa_cons (pv 1) (pa_cons (pe_bltn (v := .ty "tuple") (by rfl) B.tuple (by decide +kernel) rfl) pa_nil))) (nomark _)))))
 (pss_one (ps_ret pe_bl))
 pss_nil)
 (pss_one (ps_ret (pe_and (pe_cmpR op_eq (pe_callB (lenK K) (by rfl) B.len (by decide +kernel) (pa_cons (pv 0) pa_nil)) (pe_callB (lenK K) (by rfl) B.len (by decide +kernel) (pa_cons (pv 1) pa_nil)) (nomark _)) (pe_one (pe_callB (allK K) (by rfl) B.all (by decide +kernel) (pa_cons (pe_lc (own := [("_law_one", 2), ("_law_other", 3)]) rfl sc_law_same.nd (pi_zipS K (by rfl) B.zip (pa_cons (pv 0) (pa_cons (pv 1) pa_nil))) (blkOk_by (own := [("_law_one", 2), ("_law_other", 3)]) (by kernel_rfl)) (fun _ _ _ _ _ => (pg_tupK K (n := 2) rfl (pgs_cons (pg_name (i := 2) sc_law_same.nd rfl (.inl rfl)) (pgs_cons (pg_name (i := 3) sc_law_same.nd rfl (.inl rfl)) pgs_nil)))) (fun _ _ _ _ _ => pts_nil) (fun _ _ _ _ _ => (pe_call d_law_same.G (hr.mono (by omega)) (by rfl) d_law_same.g d_law_same.F.kp d_law_same.b .nil pass0 (pa_cons (pv 2) (pa_cons (pv 3) pa_nil))))) pa_nil)))))))
 pss_nil)
 (pss_cons (ps_if (PW.pt (pw_or (pt_cmpR op_isN (pv 1) pe_non (nomark _)) (pw_or1 (pt_val (pe_callB (isiK K) (by rfl) B.isinstance (by decide +kernel) (pa_cons (pv 1) (pa_cons (pe_bltn (v := .ty "str") (by rfl) B.str (by decide +kernel) rfl) pa_nil)))))))
 (pss_one (ps_ret (pe_and (pe_cmpR op_eq (pv 0) (pv 1) (nomark _)) (pe_one (pe_cmpR op_eq (pe_callB (isiK K) (by rfl) B.isinstance (by decide +kernel) (pa_cons (pv 0) (pa_cons (pe_bltn (v := .ty "str") (by rfl) B.str (by decide +kernel) rfl) pa_nil))) (pe_callB (isiK K) (by rfl) B.isinstance (by decide +kernel) (pa_cons (pv 1) (pa_cons (pe_bltn (v := .ty "str") (by rfl) B.str (by decide +kernel) rfl) pa_nil))) (nomark _))))))
 pss_nil)
 (pss_one (ps_ret (pe_and (pe_callB (isiK K) (by rfl) B.isinstance (by decide +kernel) (pa_cons (pv 0) (pa_cons (pe_bltn (v := .ty "int") (by rfl) B.int (by decide +kernel) rfl) pa_nil))) (pe_and (pe_cmpR op_eq (pe_callB (isiK K) (by rfl) B.isinstance (by decide +kernel) (pa_cons (pv 0) (pa_cons (pe_bltn (v := .ty "bool") (by rfl) B.bool (by decide +kernel) rfl) pa_nil))) (pe_callB (isiK K) (by rfl) B.isinstance (by decide +kernel) (pa_cons (pv 1) (pa_cons (pe_bltn (v := .ty "bool") (by rfl) B.bool (by decide +kernel) rfl) pa_nil))) (nomark _)) (pe_one (pe_cmpR op_eq (pv 0) (pv 1) (nomark _))))))))), ?_⟩
      have hn : notI d = true := by
        cases d <;> first | rfl | exact hk.elim
      have cs : ((isList d || isTuple d) = false ∧ (decide (u = .non) || isStr d) = false ∧ v = u ∧ scal v u = true ∧ isInt d = true) ∨ ((isList d || isTuple d) = false ∧ (decide (u = .non) || isStr d) = true ∧ v = u ∧ scal v u = true) ∨
          (∃ (kd : Bool) (ds : List PyData), d = seqD kd ds ∧ ds.length ≤ 40000 ∧ (∀ x ∈ ds, Okn n x) ∧ (isList d || isTuple d) = true) := by
        cases d with
        | none => cases hv; cases hu; exact .inr (.inl ⟨rfl, rfl, rfl, rfl⟩)
        | str x => cases hv; cases hu; exact .inr (.inl ⟨rfl, by show (_ || true) = true; rw [Bool.or_true], rfl, rfl⟩)
        | bool x => cases hv; cases hu; exact .inl ⟨rfl, rfl, rfl, rfl, rfl⟩
        | int x => cases hv; cases hu; exact .inl ⟨rfl, rfl, rfl, rfl, rfl⟩
        | list xs => exact .inr (.inr ⟨true, xs, rfl, hk.1, hk.2, rfl⟩)
        | tuple xs => exact .inr (.inr ⟨false, xs, rfl, hk.1, hk.2, rfl⟩)
        | dict _ => exact hk.elim
      rcases cs with ⟨h1, h2, h3, h4, h5⟩ | ⟨h1, h2, h3, h4⟩ | ⟨kd, ds, e, hz, hi, ht⟩
      · refine q_when (b := false) (et_is (et_B (ev_isi2 (ev_var rfl) hu hn)) h1) (fun z => nomatch z) fun _ H1 e1 => ?_
        refine q_when (b := false) (et_is (et_or (et_test (ev_op (ev_var rfl) ev_c fun H2 _ Q q => ⟨rfl, q H2 (Ex.refl _)⟩)) fun _ => et_B (ev_isi (ev_var rfl) (hu.mono e1) hn (kit_str d))) h2) (fun z => nomatch z) fun _ H2 e2 => ?_
        have hv2 := hv.mono (e1.trans e2)
        have hu2 := hu.mono (e1.trans e2)
        refine s_ret (ev_is (ev_andV (ev_isi (ev_var rfl) hv2 hn (kit_int d)) fun _ => ev_andV (ev_op (ev_isi (ev_var rfl) hv2 hn (kit_bool d)) (ev_isi (ev_var rfl) hu2 hn (kit_bool d)) (rv_eq rfl)) fun _ => ev_op (ev_var rfl) (ev_var rfl) (rv_eq h4)) (w := .bl true) ?_) fun H3 e3 => q H3 ((e1.trans e2).trans e3)
        rw [h5, h3, decide_eq_true rfl, decide_eq_true rfl]
        rfl
      · refine q_when (b := false) (et_is (et_B (ev_isi2 (ev_var rfl) hu hn)) h1) (fun z => nomatch z) fun _ H1 e1 => ?_
        refine q_when (b := true) (et_is (et_or (et_test (ev_op (ev_var rfl) ev_c fun H2 _ Q q => ⟨rfl, q H2 (Ex.refl _)⟩)) fun _ => et_B (ev_isi (ev_var rfl) (hu.mono e1) hn (kit_str d))) h2) (fun _ H2 e2 => ?_) fun z => nomatch z
        have hv2 := hv.mono (e1.trans e2)
        have hu2 := hu.mono (e1.trans e2)
        refine s_ret (ev_is (ev_andV (ev_op (ev_var rfl) (ev_var rfl) (rv_eq h4)) fun _ => ev_op (ev_isi (ev_var rfl) hv2 hn (kit_str d)) (ev_isi (ev_var rfl) hu2 hn (kit_str d)) (rv_eq rfl)) (w := .bl true) ?_) fun H3 e3 => q H3 ((e1.trans e2).trans e3)
        rw [h3, decide_eq_true rfl, decide_eq_true rfl]
        rfl
      · refine q_when (b := true) (et_is (et_B (ev_isi2 (ev_var rfl) hu hn)) ht) (fun _ H1 e1 => ?_) fun z => nomatch z
        have hv1 := hv.mono e1
        have hu1 := hu.mono e1
        refine q_when (b := false) (et_is (et_or (et_test (ev_op (ev_isi (ev_var rfl) hv1 hn (kit_list d)) (ev_isi (ev_var rfl) hu1 hn (kit_list d)) (rv_ne rfl))) fun _ => et_test (ev_op (ev_isi (ev_var rfl) hv1 hn (kit_tuple d)) (ev_isi (ev_var rfl) hu1 hn (kit_tuple d)) (rv_ne rfl))) (by rw [ne_self, ne_self]; rfl)) (fun z => nomatch z) fun _ H2 e2 => ?_
        have hv2 := hv1.mono e2
        have hu2 := hu1.mono e2
        subst e
        refine s_ret (ev_is (ev_andV (ev_op (ev_lenSq (ev_var rfl) hv2) (ev_lenSq (ev_var rfl) hu2) (rv_eq rfl)) fun _ => ev_allZ (ev_var rfl) (ev_var rfl) hv2 hu2 hz (fun _ _ => rfl) fun x y d H3 hm hx hy => ev_call (ea_cons (ev_var rfl) (ea_cons (ev_var rfl) ea_nil)) (spv_same hx hy (hi d hm))) (w := .bl true) ?_) fun H3 e3 => q H3 ((e1.trans e2).trans e3)
        rw [decide_eq_true rfl]
        rfl
abbrev w_law_same : WF := w_same 6
theorem w_law_same_len {ds : List PyData} {N : Nat} {R : T → Nat → Prop} (h : w_law_same ds N R) : ds.length = 2 := w_same_len h
theorem ok_law_same {f : Addr} {fd : FuncData} (F : Fun K "_law_same" "_law_same" st_law_same f fd) (B : Bm mg) (g : mg "_law_same" = some (.ref f)) (b : Binds K fd ["_law_found", "_law_due"] []) : FnOk P w K mg base CX0 7 f fd ["_law_found", "_law_due"] (spW false 2 w_law_same) := (ok0_law_same F B g b 6).imp fun _ _ _ _ h => sp_same h
theorem sc_law_sizes : FnScope ["_law_box_here", "_law_most", "_law_some"] ["_law_box_here", "_law_most"] (defScope st_law_sizes) := ⟨rfl, rfl, rfl, by decide +kernel, rfl, by decide +kernel, by decide +kernel⟩
def w_law_sizes : WF := wFn true 1 1 (wSeq (wAsgT 2 (wLstT (wConsT (wSh (wTup (wCons (wOp oAdd (wC (.int 1)) (wCallB 0 w_law_take (wCons (wCb oMin2 (wCons (wC (.int 4)) (wCons (wVar 1) wNil))) wNil))) (wCons (wOp oAdd (wC (.int 1)) (wCallB 0 w_law_take (wCons (wCb oMin2 (wCons (wC (.int 4)) (wCons (wVar 1) wNil))) wNil))) wNil)))) (wConsT (wSh (wTup (wCons (wVar 1) (wCons (wVar 1) wNil)))) wNilT))))
 (wSeq (wApp 2 (wSh (wTup (wCons (wOp oAdd (wC (.int 1)) (wCallB 0 w_law_take (wCons (wVar 1) wNil))) (wCons (wOp oAdd (wC (.int 1)) (wCallB 0 w_law_take (wCons (wVar 1) wNil))) wNil)))))
 (wRet (wVt (wSh (wOp oIx (wVar 2) (wOp oIx (wLst (wCons (wC (.int 0)) (wCons (wC (.int 0)) (wCons (wC (.int 0)) (wCons (wC (.int 2)) (wCons (wC (.int 2)) (wCons (wC (.int 1)) wNil))))))) (wCallB 0 w_law_take (wCons (wC (.int 6)) wNil)))))))))
theorem w_law_sizes_len {ds : List PyData} {N : Nat} {R : T → Nat → Prop} (h : w_law_sizes ds N R) : ds.length = 1 := h.1
theorem ok_law_sizes {f : Addr} {fd : FuncData} (F : Fun K "_law_sizes" "_law_sizes" st_law_sizes f fd) (B : Bm mg) {f_law_take : Addr} {fd_law_take : FuncData} (d_law_take : Df P w K mg base 1 "_law_take" st_law_take ["_law_box_here", "_law_size"] f_law_take fd_law_take (spW true 1 w_law_take)) : FnOk P w K mg base CX0 2 f fd ["_law_box_here", "_law_most"] (spW true 1 w_law_sizes) := by
  refine F.ok sc_law_sizes (fun vs H Q E h => spW_len h) (fun cdv A outer s H vs Q E hr h => ?_)
  refine ⟨_, (pss_cons (ps_set (i := 2) sc_law_sizes.nd rfl (.inl rfl) (pe_lst (pa_cons (pe_tup (pa_cons (pe_op op_addU pe_int (pe_call d_law_take.G (hr.mono (by omega)) (by rfl) d_law_take.g d_law_take.F.kp d_law_take.b .nil pass0 (pa_cons (pv 0) (pa_cons (pe_callB (call_min2 rfl) (by rfl) B.min (by decide +kernel) (pa_cons pe_int (pa_cons (pv 1) pa_nil))) pa_nil)))) (pa_cons (pe_op op_addU pe_int (pe_call d_law_take.G (hr.mono (by omega)) (by rfl) d_law_take.g d_law_take.F.kp d_law_take.b .nil pass0 (pa_cons (pv 0) (pa_cons (pe_callB (call_min2 rfl) (by rfl) B.min (by decide +kernel) (pa_cons pe_int (pa_cons (pv 1) pa_nil))) pa_nil)))) pa_nil))) (pa_cons (pe_tup (pa_cons (pv 1) (pa_cons (pv 1) pa_nil))) pa_nil))))
 (pss_cons (ps_expr (pe_bm PySem.F.plainAttrs_list PySem.F.slot_list_append PySem.F.type_list_append mt_append (pv 2) (pa_cons (pe_tup (pa_cons (pe_op op_addU pe_int (pe_call d_law_take.G (hr.mono (by omega)) (by rfl) d_law_take.g d_law_take.F.kp d_law_take.b .nil pass0 (pa_cons (pv 0) (pa_cons (pv 1) pa_nil)))) (pa_cons (pe_op op_addU pe_int (pe_call d_law_take.G (hr.mono (by omega)) (by rfl) d_law_take.g d_law_take.F.kp d_law_take.b .nil pass0 (pa_cons (pv 0) (pa_cons (pv 1) pa_nil)))) pa_nil))) pa_nil)))
 (pss_one (ps_ret (pe_ix (ixSK K) (pv 2) (pe_ix (ixSK K) (pe_lst (pa_cons pe_int (pa_cons pe_int (pa_cons pe_int (pa_cons pe_int (pa_cons pe_int (pa_cons pe_int pa_nil))))))) (pe_call d_law_take.G (hr.mono (by omega)) (by rfl) d_law_take.g d_law_take.F.kp d_law_take.b .nil pass0 (pa_cons (pv 0) (pa_cons pe_int pa_nil))) (fun _ _ => rfl)) (fun _ _ => rfl)))))), ?_⟩
  exact run_w (k := 1) ((sim_seq (sim_asgT (sim_lstT (sim_consT (sim_sh (sim_tup (sim_cons (sim_op od_add sim_int (sim_callB w_law_take_len (sim_cons (sim_cb cb_min2 (sim_cons sim_int (sim_cons sim_var sim_nil))) sim_nil))) (sim_cons (sim_op od_add sim_int (sim_callB w_law_take_len (sim_cons (sim_cb cb_min2 (sim_cons sim_int (sim_cons sim_var sim_nil))) sim_nil))) sim_nil)))) (sim_consT (sim_sh (sim_tup (sim_cons sim_var (sim_cons sim_var sim_nil)))) sim_nilT))))
 (sim_seq (sim_app (sim_sh (sim_tup (sim_cons (sim_op od_add sim_int (sim_callB w_law_take_len (sim_cons sim_var sim_nil))) (sim_cons (sim_op od_add sim_int (sim_callB w_law_take_len (sim_cons sim_var sim_nil))) sim_nil)))))
 (sim_ret (sim_vt (sim_sh (sim_op od_ix sim_var (sim_op od_ix (sim_lst (sim_cons sim_int (sim_cons sim_int (sim_cons sim_int (sim_cons sim_int (sim_cons sim_int (sim_cons sim_int sim_nil))))))) (sim_callB w_law_take_len (sim_cons sim_int sim_nil)))))))))) rfl h
theorem sc_law_load : FnScope ["_law_box_here", "_law_most", "_law_much", "_law_size", "_law_n", "_law_m", "_law_beats", "_law_mode", "_law_i", "_law_j"] ["_law_box_here", "_law_most", "_law_much"] (defScope st_law_load) := ⟨rfl, rfl, rfl, by decide +kernel, rfl, by decide +kernel, by decide +kernel⟩
def w_law_load : WF := wFn true 2 7 (wSeq (wAsg (wCallB 0 w_law_sizes (wCons (wVar 1) wNil)) (wGTup 2 (wGCons (wName 4) (wGCons (wName 5) wGNil))))
 (wSeq (wParN [6, 7] (wConsT (wSh (wOp oAdd (wC (.int 1)) (wCallB 0 w_law_take (wCons (wOp oIx (wLst (wCons (wC (.int 4)) (wCons (wC (.int 24)) wNil))) (wCallB 0 w_law_take (wCons (wC (.int 2)) wNil))) wNil)))) (wConsT (wSh (wCallB 0 w_law_take (wCons (wC (.int 4)) wNil))) wNilT)))
 (wSeq (wAsg (wOp oIx (wLst (wCons (wC (.int 1)) (wCons (wC (.int 2)) (wCons (wC (.int 4)) (wCons (wVar 2) wNil))))) (wVar 7)) (wName 3))
 (wRet (wTupT (wConsT (wSh (wVar 6)) (wConsT (wLcT (wRng1 (wVar 4)) (wName 8) wYes (wLcT (wRng1 (wVar 5)) (wName 9) wYes (wSh (wOp oMul (wCallB 0 w_law_take (wCons (wVar 3) wNil)) (wCb oInt (wCons (wOp oGt (wCallB 0 w_law_take (wCons (wC (.int 3)) wNil)) (wC (.int 0))) wNil)))) [9]) [8]) wNilT)))))))
theorem w_law_load_len {ds : List PyData} {N : Nat} {R : T → Nat → Prop} (h : w_law_load ds N R) : ds.length = 2 := h.1
theorem ok_law_load {f : Addr} {fd : FuncData} (F : Fun K "_law_load" "_law_load" st_law_load f fd) (B : Bm mg) {f_law_sizes : Addr} {fd_law_sizes : FuncData} (d_law_sizes : Df P w K mg base 2 "_law_sizes" st_law_sizes ["_law_box_here", "_law_most"] f_law_sizes fd_law_sizes (spW true 1 w_law_sizes)) {f_law_take : Addr} {fd_law_take : FuncData} (d_law_take : Df P w K mg base 1 "_law_take" st_law_take ["_law_box_here", "_law_size"] f_law_take fd_law_take (spW true 1 w_law_take)) : FnOk P w K mg base CX0 3 f fd ["_law_box_here", "_law_most", "_law_much"] (spW true 2 w_law_load) := by
  refine F.ok sc_law_load (fun vs H Q E h => spW_len h) (fun cdv A outer s H vs Q E hr h => ?_)
  refine ⟨_, (pss_cons (ps_asg (pe_call d_law_sizes.G (hr.mono (by omega)) (by rfl) d_law_sizes.g d_law_sizes.F.kp d_law_sizes.b .nil pass0 (pa_cons (pv 0) (pa_cons (pv 1) pa_nil))) (pg_tupK K (n := 2) rfl (pgs_cons (pg_name (i := 4) sc_law_load.nd rfl (.inl rfl)) (pgs_cons (pg_name (i := 5) sc_law_load.nd rfl (.inr rfl)) pgs_nil))))
 (pss_cons (ps_par (i := 6) (j := 7) (by rfl) sc_law_load.nd rfl rfl (by decide) rfl rfl (pa_cons (pe_op op_addU pe_int (pe_call d_law_take.G (hr.mono (by omega)) (by rfl) d_law_take.g d_law_take.F.kp d_law_take.b .nil pass0 (pa_cons (pv 0) (pa_cons (pe_ix (ixSK K) (pe_lst (pa_cons pe_int (pa_cons pe_int pa_nil))) (pe_call d_law_take.G (hr.mono (by omega)) (by rfl) d_law_take.g d_law_take.F.kp d_law_take.b .nil pass0 (pa_cons (pv 0) (pa_cons pe_int pa_nil))) (fun _ _ => rfl)) pa_nil)))) (pa_cons (pe_call d_law_take.G (hr.mono (by omega)) (by rfl) d_law_take.g d_law_take.F.kp d_law_take.b .nil pass0 (pa_cons (pv 0) (pa_cons pe_int pa_nil))) pa_nil)) (by rfl))
 (pss_cons (ps_set (i := 3) sc_law_load.nd rfl (.inr rfl) (pe_ix (ixSK K) (pe_lst (pa_cons pe_int (pa_cons pe_int (pa_cons pe_int (pa_cons (pv 2) pa_nil))))) (pv 7) (fun _ _ => rfl)))
 (pss_one (ps_ret (pe_tup (pa_cons (pv 6) (pa_cons (pe_lc (own := [("_law_i", 8)]) rfl sc_law_load.nd (pi_range1 (by rfl) B.range (pa_cons (pv 4) pa_nil)) (blkOk_by (own := [("_law_i", 8)]) (by kernel_rfl)) (fun _ _ _ _ _ => (pg_name (i := 8) sc_law_load.nd rfl (.inl rfl))) (fun _ _ _ _ _ => pts_nil) (fun _ _ _ _ _ => (pe_lc (own := [("_law_j", 9)]) rfl sc_law_load.nd (pi_range1 (by rfl) B.range (pa_cons (pv 5) pa_nil)) (blkOk_by (own := [("_law_j", 9)]) (by kernel_rfl)) (fun _ _ _ _ _ => (pg_name (i := 9) sc_law_load.nd rfl (.inl rfl))) (fun _ _ _ _ _ => pts_nil) (fun _ _ _ _ _ => (pe_op op_mulU (pe_call d_law_take.G (hr.mono (by omega)) (by rfl) d_law_take.g d_law_take.F.kp d_law_take.b .nil pass0 (pa_cons (pv 0) (pa_cons (pv 3) pa_nil))) (pe_callTy call_int1 (by rfl) B.int (by decide +kernel) (pa_cons (pe_cmpR op_gt (pe_call d_law_take.G (hr.mono (by omega)) (by rfl) d_law_take.g d_law_take.F.kp d_law_take.b .nil pass0 (pa_cons (pv 0) (pa_cons pe_int pa_nil))) pe_int (nomark _)) pa_nil))))))) pa_nil)))))))), ?_⟩
  exact run_w (k := 7) ((sim_seq (sim_asg (sim_callB w_law_sizes_len (sim_cons sim_var sim_nil)) (sim_gtup (sim_gcons (sim_name (vs := [4, 5]) (by decide)) (sim_gcons (sim_name (vs := [4, 5]) (by decide)) sim_gnil))))
 (sim_seq (sim_par2 (sim_consT (sim_sh (sim_op od_add sim_int (sim_callB w_law_take_len (sim_cons (sim_op od_ix (sim_lst (sim_cons sim_int (sim_cons sim_int sim_nil))) (sim_callB w_law_take_len (sim_cons sim_int sim_nil))) sim_nil)))) (sim_consT (sim_sh (sim_callB w_law_take_len (sim_cons sim_int sim_nil))) sim_nilT)))
 (sim_seq (sim_asg (sim_op od_ix (sim_lst (sim_cons sim_int (sim_cons sim_int (sim_cons sim_int (sim_cons sim_var sim_nil))))) sim_var) (sim_name (vs := [3]) (by decide)))
 (sim_ret (sim_tupT (sim_consT (sim_sh sim_var) (sim_consT (sim_lcT (sim_r1 sim_var) (sim_name (vs := [8]) (by decide)) sim_yes (sim_lcT (sim_r1 sim_var) (sim_name (vs := [9]) (by decide)) sim_yes (sim_sh (sim_op od_mul (sim_callB w_law_take_len (sim_cons sim_var sim_nil)) (sim_cb cb_int (sim_cons (sim_op od_gt (sim_callB w_law_take_len (sim_cons sim_int sim_nil)) sim_int) sim_nil)))))) sim_nilT)))))))) rfl h
theorem sc_law_spread : FnScope ["_law_load_here", "_law_how", "_law_beat", "_law_beats", "_law_found", "_law_rows", "_law_i", "_law_row", "_law_j", "_law_x", "_law_at", "_law_c"] ["_law_load_here", "_law_how"] (defScope st_law_spread) := ⟨rfl, rfl, rfl, by decide +kernel, rfl, by decide +kernel, by decide +kernel⟩
def w_law_spread : WF := wFn false 2 10 (wSeq (wParN [3, 4] (wConsT (wSh (wOp oIx (wVar 0) (wC (.int 0)))) (wConsT (wLstT wNilT) wNilT)))
 (wSeq (wFor (wRng1 (wVar 3)) (wName 2)
 (wSeq (wAsgT 5 (wLstT wNilT))
 (wSeq (wFor (wEnum (wOp oIx (wVar 0) (wC (.int 1)))) (wGTup 2 (wGCons (wName 6) (wGCons (wName 7) wGNil)))
 (wFor (wEnum (wVar 7)) (wGTup 2 (wGCons (wName 8) (wGCons (wName 9) wGNil)))
 (wSeq (wAsg (wLc (wRng1 (wVar 9)) (wName 11) wYes (wOp oIx (wLst (wCons (wOp oFdiv (wOp oMul (wVar 11) (wVar 3)) (wVar 9)) (wCons (wC (.int 0)) (wCons (wOp oSub (wVar 3) (wC (.int 1))) wNil)))) (wBmL oIndexS (wLst (wCons (wC (.str "even")) (wCons (wC (.str "early")) (wCons (wC (.str "late")) wNil)))) (wCons (wVar 1) wNil))) [11]) (wName 10))
 (wIfS (wTest (wOp (oIn false) (wVar 2) (wVar 10)))
 (wApp 5 (wSh (wTup (wCons (wVar 6) (wCons (wVar 8) (wCons (wBmL oCount (wVar 10) (wCons (wVar 2) wNil)) wNil))))))
 wSkip))))
 (wAppOwn 4 5))))
 (wRetV 4)))
theorem w_law_spread_len {ds : List PyData} {N : Nat} {R : T → Nat → Prop} (h : w_law_spread ds N R) : ds.length = 2 := h.1
theorem ok_law_spread {f : Addr} {fd : FuncData} (F : Fun K "_law_spread" "_law_spread" st_law_spread f fd) (B : Bm mg)  : FnOk P w K mg base CX0 1 f fd ["_law_load_here", "_law_how"] (spW false 2 w_law_spread) := by
  refine F.ok sc_law_spread (fun vs H Q E h => spW_len h) (fun cdv A outer s H vs Q E hr h => ?_)
  refine ⟨_, (pss_cons (ps_asg (pe_tup (pa_cons (pe_ix (ixSK K) (pv 0) pe_int (fun _ _ => rfl)) (pa_cons (pe_lst pa_nil) pa_nil))) (pg_tupK K (n := 2) rfl (pgs_cons (pg_name (i := 3) sc_law_spread.nd rfl (.inr rfl)) (pgs_cons (pg_name (i := 4) sc_law_spread.nd rfl (.inl rfl)) pgs_nil))))
 (pss_cons (ps_for PassesOwn.never rfl (pi_range1 (by rfl) B.range (pa_cons (pv 3) pa_nil)) (pg_name (i := 2) sc_law_spread.nd rfl (.inl rfl))
 (pss_cons (ps_set (i := 5) sc_law_spread.nd rfl (.inl rfl) (pe_lst pa_nil))
 (pss_cons (ps_for PassesOwn.never rfl (pi_enumS K (by rfl) B.enumerate (pa_cons (pe_ix (ixSK K) (pv 0) pe_int (fun _ _ => rfl)) pa_nil)) (pg_tupK K (n := 2) rfl (pgs_cons (pg_name (i := 6) sc_law_spread.nd rfl (.inl rfl)) (pgs_cons (pg_name (i := 7) sc_law_spread.nd rfl (.inl rfl)) pgs_nil)))
 (pss_one (ps_for PassesOwn.never rfl (pi_enumS K (by rfl) B.enumerate (pa_cons (pv 7) pa_nil)) (pg_tupK K (n := 2) rfl (pgs_cons (pg_name (i := 8) sc_law_spread.nd rfl (.inl rfl)) (pgs_cons (pg_name (i := 9) sc_law_spread.nd rfl (.inr rfl)) pgs_nil)))
 (pss_cons (ps_setLc (i := 10) (own := [("_law_c", 11)]) rfl sc_law_spread.nd rfl rfl (sw_true rfl rfl rfl (by decide +kernel)) (pi_range1 (by rfl) B.range (pa_cons (pv 9) pa_nil)) (blkOk_by (own := [("_law_c", 11)]) (by kernel_rfl)) (fun _ _ _ _ _ => (pg_name (i := 11) sc_law_spread.nd rfl (.inl rfl))) (fun _ _ _ _ _ => pts_nil) (fun _ _ _ _ _ => (pe_ix (ixSK K) (pe_lst (pa_cons (pe_op op_fdiv (pe_op op_mulU (pv 11) (pv 3)) (pv 9)) (pa_cons pe_int (pa_cons (pe_op op_sub (pv 3) pe_int) pa_nil)))) (pe_bmK K PySem.F.plainAttrs_list PySem.F.slot_list_index PySem.F.type_list_index (indexK K) (pe_lst (pa_cons pe_str (pa_cons pe_str (pa_cons pe_str pa_nil)))) (pa_cons (pv 1) pa_nil)) (fun _ _ => rfl))))
 (pss_one (ps_if (pt_cmpR (inK K) (pv 2) (pv 10) (by with_unfolding_all rfl))
 (pss_one (ps_expr (pe_bm PySem.F.plainAttrs_list PySem.F.slot_list_append PySem.F.type_list_append mt_append (pv 5) (pa_cons (pe_tup (pa_cons (pv 6) (pa_cons (pv 8) (pa_cons (pe_bmK K PySem.F.plainAttrs_list PySem.F.slot_list_count PySem.F.type_list_count (countK K) (pv 10) (pa_cons (pv 2) pa_nil)) pa_nil)))) pa_nil))))
 pss_nil))))))
 (pss_one (ps_expr (pe_bm PySem.F.plainAttrs_list PySem.F.slot_list_append PySem.F.type_list_append mt_append (pv 4) (pa_cons (pv 5) pa_nil)))))))
 (pss_one (ps_ret (pv 4))))), ?_⟩
  exact run_w (k := 10) ((sim_seq (sim_parG2 (sim_consT (sim_sh (sim_op od_ix sim_var sim_int)) (sim_consT (sim_lstT sim_nilT) sim_nilT)))
 (sim_seq (sim_for (sim_r1 sim_var) (sim_name (vs := [2]) (by decide))
 (sim_seq (sim_asgT (sim_lstT sim_nilT))
 (sim_seq (sim_for (sim_enum (sim_op od_ix sim_var sim_int)) (sim_gtup (sim_gcons (sim_name (vs := [6, 7]) (by decide)) (sim_gcons (sim_name (vs := [6, 7]) (by decide)) sim_gnil)))
 (sim_for (sim_enum sim_var) (sim_gtup (sim_gcons (sim_name (vs := [8, 9]) (by decide)) (sim_gcons (sim_name (vs := [8, 9]) (by decide)) sim_gnil)))
 (sim_seq (sim_asg (sim_lc (sim_r1 sim_var) (sim_name (vs := [11]) (by decide)) sim_yes (sim_op od_ix (sim_lst (sim_cons (sim_op od_fdiv (sim_op od_mul sim_var sim_var) sim_var) (sim_cons sim_int (sim_cons (sim_op od_sub sim_var sim_int) sim_nil)))) (sim_bmL bm_index (sim_lst (sim_cons sim_str (sim_cons sim_str (sim_cons sim_str sim_nil)))) (sim_cons sim_var sim_nil)))) (sim_name (vs := [10]) (by decide)))
 (sim_ifS (sim_test (sim_op od_in sim_var sim_var))
 (sim_app (sim_sh (sim_tup (sim_cons sim_var (sim_cons sim_var (sim_cons (sim_bmL bm_count sim_var (sim_cons sim_var sim_nil)) sim_nil))))))
 sim_skip))))
 (sim_appOwn (by decide)))))
 sim_retV))) rfl h
theorem sc_law_right : FnScope ["_law_box_here", "_law_load_here", "_law_handed", "_law_how", "_law_again", "_law_due", "_law_kept", "_law_found", "_law_rows", "_law_i", "_law_row", "_law_j", "_law_count", "_law_came", "_law_one"] ["_law_box_here"] (defScope st_law_right) := ⟨rfl, rfl, rfl, by decide +kernel, rfl, by decide +kernel, by decide +kernel⟩
def w_law_right : WF := wFn true 0 14 (wSeq (wAsgT 1 (wCallBT 0 w_law_load (wCons (wC (.int 8)) (wCons (wC (.int 25)) wNil))))
 (wSeq (wNm 1 (wAlPick 2 1 (wVt (wSh (wTup (wCons (wOp oIx (wVar 1) (wC (.int 0))) (wCons (wCb oTuple (wCons (wLc (wIt (wOp oIx (wVar 1) (wC (.int 1)))) (wName 10) wYes (wCb oTuple (wCons (wVar 10) wNil)) [10]) wNil)) wNil))))) (wCallB 0 w_law_take (wCons (wC (.int 2)) wNil))))
 (wSeq (wFor (wIt (wTup (wCons (wC (.str "even")) (wCons (wC (.str "early")) (wCons (wC (.str "late")) wNil))))) (wName 3)
 (wSeq (wParN [5, 6] (wConsT (wVt (wCallT w_law_spread (wCons (wVar 1) (wCons (wVar 3) wNil)))) (wConsT (wSh (wVwB [(2, 1)] (wCb oRepr (wCons (wVar 2) wNil)))) wNilT)))
 (wSeq (wFor (wRng1 (wC (.int 2))) (wName 4)
 (wSeq (wAsgT 7 (wVtB [(2, 1)] (wIfT (wAnd (wTest (wOp oEq (wVar 3) (wC (.str "even")))) (wTest (wOp oEq (wVar 4) (wC (.int 0))))) (wCallDT w_arrivals [PyData.str "even"] (wCons (wVar 2) wNil)) (wCallNT w_arrivals (fun ds es => ds ++ es) 1 1 (wCons (wVar 2) wNil) (wCons (wVar 3) wNil)))))
 (wSeq (wIfS (wVbB [(2, 1)] (wOr (wNot (wTest (wCall w_law_same (wCons (wVar 7) (wCons (wVar 5) wNil))))) (wTest (wOp oNe (wCb oRepr (wCons (wVar 2) wNil)) (wVar 6)))))
 (wRet (wSh (wC (.bool false))))
 wSkip)
 (wSeq (wForA 7 (gOne 7 8)
 (wDropX (wPlApp 7 (wPA 8 7) (wSh (wTup (wCons (wC (.int 0)) (wCons (wC (.int 0)) (wCons (wC (.int 0)) wNil))))))))
 (wApp 7 (wLstT wNilT))))))
 (wBlk 1 [4, 5, 6, 7, 8, 9, 10, 11, 12, 13, 14] (wFor (wEnum (wOp oIx (wVar 1) (wC (.int 1)))) (wGTup 2 (wGCons (wName 9) (wGCons (wName 10) wGNil)))
 (wFor (wEnum (wVar 10)) (wGTup 2 (wGCons (wName 11) (wGCons (wName 12) wGNil)))
 (wSeq (wAsg (wC (.int 0)) (wName 13))
 (wSeq (wFrz 5 (wFor (wIt (wVar 5)) (wName 8)
 (wAsg (wVw (wOp oAdd (wVar 13) (wCb oSumS (wCons (wLc (wIt (wVar 8)) (wName 14) (wTest (wOp oEq (wSlU (wVar 14) wNoPart (wPart (wC (.int 2)))) (wTup (wCons (wVar 9) (wCons (wVar 11) wNil))))) (wOp oIx (wVar 14) (wC (.int 2))) [14]) wNil)))) (wName 13))))
 (wIfS (wTest (wOp oNe (wVar 13) (wVar 12)))
 (wRet (wSh (wC (.bool false))))
 wSkip)))))))))
 (wSeq (wSetPl 1 (wPI 1 (wPTa 1 (wPV 1) (wC (.int 1))) (wC (.int 0))) (wC (.int 0)) (wVt (wSh (wOp oMod (wOp oAdd (wOp oIx (wOp oIx (wOp oIx (wVar 1) (wC (.int 1))) (wC (.int 0))) (wC (.int 0))) (wC (.int 1))) (wC (.int 25))))))
 (wSeq (wFor (wIt (wTup (wCons (wC (.str "even")) (wCons (wC (.str "early")) (wCons (wC (.str "late")) wNil))))) (wName 3)
 (wIfS (wVb (wNot (wTest (wCall w_law_same (wCons (wCallN w_arrivals (fun ds es => ds ++ es) 1 1 (wCons (wVar 1) wNil) (wCons (wVar 3) wNil)) (wCons (wCall w_law_spread (wCons (wVar 1) (wCons (wVar 3) wNil))) wNil))))))
 (wRet (wSh (wC (.bool false))))
 wSkip))
 (wRet (wSh (wAndV (wOp oEq (wC (.str "even")) (wC (.str "even"))) (wAndV (wOp oEq (wC (.str "early")) (wC (.str "early"))) (wOp oEq (wC (.str "late")) (wC (.str "late"))))))))))))
theorem ok_law_right {f : Addr} {fd : FuncData} (F : Fun K "_law_right" "_law_right" st_law_right f fd) (B : Bm mg) {tk_EARLY : Tok} (C_EARLY : mg "EARLY" = some (.str "early" tk_EARLY)) {tk_EVEN : Tok} (C_EVEN : mg "EVEN" = some (.str "even" tk_EVEN)) {tk_LATE : Tok} (C_LATE : mg "LATE" = some (.str "late" tk_LATE)) {f_law_load : Addr} {fd_law_load : FuncData} (d_law_load : Df P w K mg base 3 "_law_load" st_law_load ["_law_box_here", "_law_most", "_law_much"] f_law_load fd_law_load (spW true 2 w_law_load)) {f_law_same : Addr} {fd_law_same : FuncData} (d_law_same : Df P w K mg base 7 "_law_same" st_law_same ["_law_found", "_law_due"] f_law_same fd_law_same (spW false 2 w_law_same)) {f_law_spread : Addr} {fd_law_spread : FuncData} (d_law_spread : Df P w K mg base 1 "_law_spread" st_law_spread ["_law_load_here", "_law_how"] f_law_spread fd_law_spread (spW false 2 w_law_spread)) {f_law_take : Addr} {fd_law_take : FuncData} (d_law_take : Df P w K mg base 1 "_law_take" st_law_take ["_law_box_here", "_law_size"] f_law_take fd_law_take (spW true 1 w_law_take)) {f_arrivals : Addr} {fd_arrivals : FuncData} (d_arrivals : DfK P w K mg base 3 "arrivals" st_arrivals ["load", "spread"] f_arrivals fd_arrivals (spW false 2 w_arrivals)) {ds_arrivals : List Value} (vd_arrivals : Vals [.str "even"] ds_arrivals) (bd_arrivals : Binds K fd_arrivals ["load", "spread"] ds_arrivals) {gk_arrivals : List Value → List Value → List Value} (kb_arrivals : KBn K fd_arrivals ["load", "spread"] 1 ["spread"] gk_arrivals (fun vs zs => vs ++ zs)) : FnG P w K mg base 8 f fd ["_law_box_here"] (spW true 0 w_law_right) := by
  refine fnG F sc_law_right (fun vs H Q E h => spW_len h) (fun cv A outer s H vs Q E hg hr h => ?_)
  refine ⟨_, (pss_cons (ps_set (i := 1) sc_law_right.nd rfl (.inl rfl) (pe_call d_law_load.G (hr.mono (by omega)) (by rfl) d_law_load.g d_law_load.F.kp d_law_load.b .nil pass0 (pa_cons (pv 0) (pa_cons pe_int (pa_cons pe_int pa_nil)))))
 (pss_cons (ps_set (i := 2) sc_law_right.nd rfl (.inl rfl) (pe_ix (ixSK K) (pe_lst (pa_cons (pv 1) (pa_cons (pe_tup (pa_cons (pe_ix (ixSK K) (pv 1) pe_int (fun _ _ => rfl)) (pa_cons (pe_callTy (tupK K) (by rfl) B.tuple (by decide +kernel) (pa_cons (pe_lc (own := [("_law_row", 10)]) rfl sc_law_right.nd (pi_seq K (pe_ix (ixSK K) (pv 1) pe_int (fun _ _ => rfl))) (blkOk_by (own := [("_law_row", 10)]) (by kernel_rfl)) (fun _ _ _ _ _ => (pg_name (i := 10) sc_law_right.nd rfl (.inl rfl))) (fun _ _ _ _ _ => pts_nil) (fun _ _ _ _ _ => (pe_callTy (tupK K) (by rfl) B.tuple (by decide +kernel) (pa_cons (pv 10) pa_nil)))) pa_nil)) pa_nil))) pa_nil))) (pe_call d_law_take.G (hr.mono (by omega)) (by rfl) d_law_take.g d_law_take.F.kp d_law_take.b .nil pass0 (pa_cons (pv 0) (pa_cons pe_int pa_nil))) (fun _ _ => rfl)))
 (pss_cons (ps_for PassesOwn.never rfl (pi_seq K (pe_tup (pa_cons (pe_glob (v := .str "even") (by rfl) C_EVEN ⟨_, rfl⟩) (pa_cons (pe_glob (v := .str "early") (by rfl) C_EARLY ⟨_, rfl⟩) (pa_cons (pe_glob (v := .str "late") (by rfl) C_LATE ⟨_, rfl⟩) pa_nil))))) (pg_name (i := 3) sc_law_right.nd rfl (.inl rfl))
 (pss_cons (ps_par (i := 5) (j := 6) (by rfl) sc_law_right.nd rfl rfl (by decide) rfl rfl (pa_cons (pe_call d_law_spread.G (hr.mono (by omega)) (by rfl) d_law_spread.g d_law_spread.F.kp d_law_spread.b .nil pass0 (pa_cons (pv 1) (pa_cons (pv 3) pa_nil))) (pa_cons (pe_callB (reprK K hg hr.units) (by rfl) B.repr (by decide +kernel) (pa_cons (pv 2) pa_nil)) pa_nil)) (by rfl))
 (pss_cons (ps_for PassesOwn.never rfl (pi_range1 (by rfl) B.range (pa_cons pe_int pa_nil)) (pg_name (i := 4) sc_law_right.nd rfl (.inl rfl))
 (pss_cons (ps_set (i := 7) sc_law_right.nd rfl (.inl rfl) (pe_ifExp (PW.pt (pw_and (pt_cmpR (op_eqU K hr.units) (pv 3) (pe_glob (v := .str "even") (by rfl) C_EVEN ⟨_, rfl⟩) (nomark _)) (pw_and1 (pt_cmpR (op_eqU K hr.units) (pv 4) pe_int (nomark _))))) (pe_call d_arrivals.G (hr.mono (by omega)) (by rfl) d_arrivals.g d_arrivals.F.kp bd_arrivals vd_arrivals pass0 (pa_cons (pv 2) pa_nil)) (pe_callNE d_arrivals.G (hr.mono (by omega)) (by rfl) d_arrivals.g d_arrivals.F.kp kb_arrivals (px0 pass0) (pa_cons (pv 2) pa_nil) (pk_cons (pv 3) pk_nil))))
 (pss_cons (ps_if (PW.pt (pw_or (pt_not (pt_val (pe_call d_law_same.G (hr.mono (by omega)) (by rfl) d_law_same.g d_law_same.F.kp d_law_same.b .nil pass0 (pa_cons (pv 7) (pa_cons (pv 5) pa_nil))))) (pw_or1 (pt_cmpR (op_neU K hr.units) (pe_callB (reprK K hg hr.units) (by rfl) B.repr (by decide +kernel) (pa_cons (pv 2) pa_nil)) (pv 6) (nomark _)))))
 (pss_one (ps_ret pe_bl))
 pss_nil)
 (pss_cons (ps_for PassesOwn.never rfl (pi_seq K (pv 7)) (pg_name (i := 8) sc_law_right.nd rfl (.inl rfl))
 (pss_one (ps_expr (pe_bm PySem.F.plainAttrs_list PySem.F.slot_list_append PySem.F.type_list_append mt_append (pv 8) (pa_cons (pe_tup (pa_cons pe_int (pa_cons pe_int (pa_cons pe_int pa_nil)))) pa_nil)))))
 (pss_one (ps_expr (pe_bm PySem.F.plainAttrs_list PySem.F.slot_list_append PySem.F.type_list_append mt_append (pv 7) (pa_cons (pe_lst pa_nil) pa_nil))))))))
 (pss_one (ps_for PassesOwn.never rfl (pi_enumS K (by rfl) B.enumerate (pa_cons (pe_ix (ixSK K) (pv 1) pe_int (fun _ _ => rfl)) pa_nil)) (pg_tupK K (n := 2) rfl (pgs_cons (pg_name (i := 9) sc_law_right.nd rfl (.inr rfl)) (pgs_cons (pg_name (i := 10) sc_law_right.nd rfl (.inl rfl)) pgs_nil)))
 (pss_one (ps_for PassesOwn.never rfl (pi_enumS K (by rfl) B.enumerate (pa_cons (pv 10) pa_nil)) (pg_tupK K (n := 2) rfl (pgs_cons (pg_name (i := 11) sc_law_right.nd rfl (.inr rfl)) (pgs_cons (pg_name (i := 12) sc_law_right.nd rfl (.inl rfl)) pgs_nil)))
 (pss_cons (ps_set (i := 13) sc_law_right.nd rfl (.inl rfl) pe_int)
 (pss_cons (ps_for PassesOwn.never rfl (pi_seq K (pv 5)) (pg_name (i := 8) sc_law_right.nd rfl (.inl rfl))
 (pss_one (ps_set (i := 13) sc_law_right.nd rfl (.inl rfl) (pe_op op_addU (pv 13) (pe_callB (sumSK K) (by rfl) B.sum (by decide +kernel) (pa_cons (pe_lc (own := [("_law_one", 14)]) rfl sc_law_right.nd (pi_seq K (pv 8)) (blkOk_by (own := [("_law_one", 14)]) (by kernel_rfl)) (fun _ _ _ _ _ => (pg_name (i := 14) sc_law_right.nd rfl (.inl rfl))) (fun _ _ _ _ _ => (pts_one (pt_cmpR (op_eqU K hr.units) (pe_slice (slTK2 K) (pv 14) po_none (po_some pe_int)) (pe_tup (pa_cons (pv 9) (pa_cons (pv 11) pa_nil))) (nomark _)))) (fun _ _ _ _ _ => (pe_ix (ixSK K) (pv 14) pe_int (fun _ _ => rfl)))) pa_nil))))))
 (pss_one (ps_if (pt_cmpR (op_neU K hr.units) (pv 13) (pv 12) (nomark _))
 (pss_one (ps_ret pe_bl))
 pss_nil)))))))))))
 (pss_cons (ps_asg (pe_op op_mod (pe_op op_addU (pe_ix (ixSK K) (pe_ix (ixSK K) (pe_ix (ixSK K) (pv 1) pe_int (fun _ _ => rfl)) pe_int (fun _ _ => rfl)) pe_int (fun _ _ => rfl)) pe_int) pe_int) (pg_sub (pe_ix (ixSK K) (pe_ix (ixSK K) (pv 1) pe_int (fun _ _ => rfl)) pe_int (fun _ _ => rfl)) pe_int set_list))
 (pss_cons (ps_for PassesOwn.never rfl (pi_seq K (pe_tup (pa_cons (pe_glob (v := .str "even") (by rfl) C_EVEN ⟨_, rfl⟩) (pa_cons (pe_glob (v := .str "early") (by rfl) C_EARLY ⟨_, rfl⟩) (pa_cons (pe_glob (v := .str "late") (by rfl) C_LATE ⟨_, rfl⟩) pa_nil))))) (pg_name (i := 3) sc_law_right.nd rfl (.inl rfl))
 (pss_one (ps_if (pt_not (pt_val (pe_call d_law_same.G (hr.mono (by omega)) (by rfl) d_law_same.g d_law_same.F.kp d_law_same.b .nil pass0 (pa_cons (pe_callNE d_arrivals.G (hr.mono (by omega)) (by rfl) d_arrivals.g d_arrivals.F.kp kb_arrivals (px0 pass0) (pa_cons (pv 1) pa_nil) (pk_cons (pv 3) pk_nil)) (pa_cons (pe_call d_law_spread.G (hr.mono (by omega)) (by rfl) d_law_spread.g d_law_spread.F.kp d_law_spread.b .nil pass0 (pa_cons (pv 1) (pa_cons (pv 3) pa_nil))) pa_nil)))))
 (pss_one (ps_ret pe_bl))
 pss_nil)))
 (pss_one (ps_ret (pe_and (pe_cmpR (op_eqU K hr.units) (pe_glob (v := .str "even") (by rfl) C_EVEN ⟨_, rfl⟩) pe_str (nomark _)) (pe_and (pe_cmpR (op_eqU K hr.units) (pe_glob (v := .str "early") (by rfl) C_EARLY ⟨_, rfl⟩) pe_str (nomark _)) (pe_one (pe_cmpR (op_eqU K hr.units) (pe_glob (v := .str "late") (by rfl) C_LATE ⟨_, rfl⟩) pe_str (nomark _)))))))))))), ?_⟩
  exact run_w (k := 14) ((sim_seq (sim_asgT (sim_callBT w_law_load_len (sim_cons sim_int (sim_cons sim_int sim_nil))))
 (sim_seq (sim_nm (sim_alPick (sim_vt (sim_sh (sim_tup (sim_cons (sim_op od_ix sim_var sim_int) (sim_cons (sim_cb cb_tuple (sim_cons (sim_lc (sim_it (sim_op od_ix sim_var sim_int)) (sim_name (vs := [10]) (by decide)) sim_yes (sim_cb cb_tuple (sim_cons sim_var sim_nil))) sim_nil)) sim_nil))))) (sim_callB w_law_take_len (sim_cons sim_int sim_nil))))
 (sim_seq (sim_for (sim_it (sim_tup (sim_cons sim_str (sim_cons sim_str (sim_cons sim_str sim_nil))))) (sim_name (vs := [3]) (by decide))
 (sim_seq (sim_par2 (sim_consT (sim_vt (sim_callT w_law_spread_len (sim_cons sim_var (sim_cons sim_var sim_nil)))) (sim_consT (sim_sh (sim_vwB (sim_cb cb_repr (sim_cons sim_var sim_nil)))) sim_nilT)))
 (sim_seq (sim_for (sim_r1 sim_int) (sim_name (vs := [4]) (by decide))
 (sim_seq (sim_asgT (sim_vtB (sim_ifT (sim_and (sim_test (sim_op od_eq sim_var sim_str)) (sim_test (sim_op od_eq sim_var sim_int))) (sim_callDT (fun _ => (.cons (.str _) .nil)) w_arrivals_len (sim_cons sim_var sim_nil)) (sim_callNT w_arrivals_len (fun h k => h.append k) (sim_cons sim_var sim_nil) (sim_cons sim_var sim_nil)))))
 (sim_seq (sim_ifS (sim_vbB (sim_or (sim_not (sim_tB (sim_call w_law_same_len (sim_cons sim_var (sim_cons sim_var sim_nil))))) (sim_test (sim_op od_ne (sim_cb cb_repr (sim_cons sim_var sim_nil)) sim_var))))
 (sim_ret (sim_sh sim_bl))
 sim_skip)
 (sim_seq (sim_forA (sim_one (by decide))
 (sim_dropX (sim_plApp sim_pa (sim_sh (sim_tup (sim_cons sim_int (sim_cons sim_int (sim_cons sim_int sim_nil))))))))
 (sim_app (sim_lstT sim_nilT))))))
 (sim_blk (sim_for (sim_enum (sim_op od_ix sim_var sim_int)) (sim_gtup (sim_gcons (sim_name (vs := [9, 10]) (by decide)) (sim_gcons (sim_name (vs := [9, 10]) (by decide)) sim_gnil)))
 (sim_for (sim_enum sim_var) (sim_gtup (sim_gcons (sim_name (vs := [11, 12]) (by decide)) (sim_gcons (sim_name (vs := [11, 12]) (by decide)) sim_gnil)))
 (sim_seq (sim_asg sim_int (sim_name (vs := [13]) (by decide)))
 (sim_seq (sim_frz (sim_for (sim_it sim_var) (sim_name (vs := [8]) (by decide))
 (sim_asg (sim_vw (sim_op od_add sim_var (sim_cb cb_sumS (sim_cons (sim_lc (sim_it sim_var) (sim_name (vs := [14]) (by decide)) (sim_test (sim_op od_eq (sim_slU sim_var sim_noPart (sim_part sim_int)) (sim_tup (sim_cons sim_var (sim_cons sim_var sim_nil))))) (sim_op od_ix sim_var sim_int)) sim_nil)))) (sim_name (vs := [13]) (by decide)))))
 (sim_ifS (sim_test (sim_op od_ne sim_var sim_var))
 (sim_ret (sim_sh sim_bl))
 sim_skip)))))))))
 (sim_seq (sim_setPl (sim_pi (sim_pta sim_pv sim_int) sim_int) sim_int (sim_vt (sim_sh (sim_op od_mod (sim_op od_add (sim_op od_ix (sim_op od_ix (sim_op od_ix sim_var sim_int) sim_int) sim_int) sim_int) sim_int))))
 (sim_seq (sim_for (sim_it (sim_tup (sim_cons sim_str (sim_cons sim_str (sim_cons sim_str sim_nil))))) (sim_name (vs := [3]) (by decide))
 (sim_ifS (sim_vb (sim_not (sim_tB (sim_call w_law_same_len (sim_cons (sim_callN w_arrivals_len (fun h k => h.append k) (sim_cons sim_var sim_nil) (sim_cons sim_var sim_nil)) (sim_cons (sim_call w_law_spread_len (sim_cons sim_var (sim_cons sim_var sim_nil))) sim_nil))))))
 (sim_ret (sim_sh sim_bl))
 sim_skip))
 (sim_ret (sim_sh (sim_andV (sim_op od_eq sim_str sim_str) (sim_andV (sim_op od_eq sim_str sim_str) (sim_op od_eq sim_str sim_str))))))))))) rfl h
theorem sc_law : FnScope ["_law_script", "_law_cells", "_law_k"] ["_law_script"] (defScope st_law) := ⟨rfl, rfl, rfl, by decide +kernel, rfl, by decide +kernel, by decide +kernel⟩
end
end K87

set_option Elab.async false
set_option linter.all false
set_option maxRecDepth 100000
set_option maxHeartbeats 1000000
namespace K87
open PySem PySem.Spec PyProof.Rows L2 Evl Cg
local macro_rules
  | `(tactic| sizeOf_list_dec) => `(tactic| simp (config := {failIfUnchanged := false}) only [↓wCallNE_eq, ↓wCallNT_eq, ↓wCallN_eq, ↓wCallDT_eq, ↓wCallD_eq, ↓wPlInsT_eq, ↓wPR_eq, ↓wPlSl_eq, sh_is, ↓wKUp_eq, ↓wKUpX_eq, rcK_is, ↓wLenSetU_eq, ↓wSlU_eq, ↓wEOp_eq, ↓wNotKD_eq, ↓wDisp_eq, ↓wWk_eq, ↓wk_nx, ↓wk_rt, ↓wk_rx, ↓wk_xe, ↓wk_w, ↓wTupC_eq, kids_tup, rekid_tup, ↓wFgE_eq, ↓fgE_nx, ↓fgE_rt, ↓fgE_rx, ↓fgE_xe, ↓fgE_w, ↓wFgJ_eq, ↓fgJ_nx, ↓fgJ_rt, ↓fgJ_rx, ↓fgJ_xe, ↓fgJ_w, ↓wEqI_eq, ↓wIsI_eq, ↓wPT_eq, ↓wXCallK_eq, ↓wXTupO_eq, ↓wXLstO_eq, ↓wXRcO_eq, ↓wAsgX2_eq, ↓wForPl_eq, ↓wPls_nil, ↓wPls_cons, ↓runP_nil, ↓runP_cons, ↓wPlRev_eq, ↓wPlRem_eq, ↓wAlME_eq, ↓wPlExtO_eq, ↓wSetPlT_eq, qD_eq, qX_eq, ↓wRaise_eq, ↓wXN_eq, ↓wMethE_eq, ↓wCallXE_eq, ↓wCallE_eq, ↓wMethVE_eq, ↓wMethVVE_eq, ↓wCallVE_eq, immX_fly, ↓wEF_eq, ↓wEIf_eq, ↓wAsgE_eq, ↓wDropE_eq, ↓wRetE_eq, ↓wRetEV_eq, ↓wAsgEG_eq, ↓wIsX_eq, ↓wIsXT_eq, ↓wIsB_eq, ↓wWhat_eq, ↓wTryK_eq, ↓tr_w, ↓tr_nx, ↓tr_rt, ↓tr_rx, ↓tr_xe, ↓seq_xe, ↓seq_w, ↓loop_xe, ↓loop_w, ↓fnE_nx, ↓fnE_rt, ↓fnE_xe, ↓fnE_w, ↓fnXE_nx, ↓fnXE_rx, ↓fnXE_xe, ↓fnXE_w, ↓wPlIns_eq, ↓wXLc_eq, ↓wTmpClr_eq, ↓wKSet_eq, rcK_is, ↓wLenI_eq, ↓wFAug_eq, ↓wAppX_eq, ↓wRgL2_eq, ↓wSetPlN_eq, ↓wParAl_eq, oMin3_int, ↓wXTake_eq, ↓wXCallM_eq, ↓wDictP_eq, ↓wDGet2_eq, oAnyI_list, ↓wVwA_eq, ↓wVbA_eq, ↓wVtA_eq, viewA_nil, viewA_cons, ↓wPA_eq, atPin_is, ↓wAl_eq, ↓wLend_eq, lend_0, lend_s, ↓wPlApp_eq, ↓wPlExt_eq, ↓wPlPop_eq, ↓wAppMv_eq, ↓wNm_eq, ↓wPlClr_eq, fg_lst, fg_lsa, fg_tup, fg_ins, nm_lst, nm_lsa, nm_ins, root_lsa, root_ins, root_rc, kids_lsa, rekid_lsa, outK_lsa, isLst_a, view_pin, oStr_list, oStr_tup, ↓wLenSet_eq, ↓wXOp_eq, ↓wXCb_eq, ↓wXUn_eq, ↓wXLst_eq, ↓wXTup_eq, ↓wXCall_eq, ↓wXCallB_eq, ↓wXMeth_eq, ↓wXMethV_eq, ↓wXB_eq, ↓wXTest_eq, ↓wXTru_eq, ↓wXNot_eq, ↓wXAnd_eq, ↓wXOr_eq, ↓wXIfS_eq, ↓wXAndV_eq, ↓wXOrV_eq, ↓wXNotV_eq, ↓wXIf_eq, ↓wRetXV_eq, ↓wAsgXG_eq, ↓wForX_eq, shT_is, allSh_nil, allSh_cons, ↓wVar_eq, ↓wFd_eq, ↓wKd_eq, ↓wPV_eq, ↓wPF_eq, ↓wPK_eq, ↓wPI_eq, atPl_eq, atT_is, atO_some, atP_nil, atP_cons, bindP_some, putAt_eq, setT_is, putP_nil, putP_cons, putO_some, kids_lst, kids_ins, kids_rc, rekid_lst, rekid_ins, rekid_rc, ↓wXT_eq, ↓wXF_eq, ↓wXNil_eq, ↓wXCons_eq, ↓wAsgX_eq, ↓wDropX_eq, ↓wRetX_eq, ↓wRetNX_eq, ↓wRetVX_eq, ↓wParX_eq, ↓wSetPl_eq, ↓wFSet_eq, ↓wFNew_eq, ↓wRc_eq, ↓wMeth_eq, ↓wMethV_eq, ↓wApP_eq, ↓wApC_eq, ↓wCallX_eq, ↓wCallXB_eq, ↓wMake_eq, ↓wAppOwn_eq, ↓fnG_nx, ↓fnG_rx, outG_nil, outG_0, outG_2, outG_ins, outG_lsa, kept_nil, kept_0, kept_1, kept_2, ↓wXCallG_eq, ↓wXCallGB_eq, ↓wXCallR_eq, ↓wXCallRB_eq, backE_nil, backE_some, backE_none, ↓fnX_nx, ↓fnX_rx, ↓seq_rx, ↓loop_rx, dropB_f, dropB_t, outK_nil, outK_f, outK_ins, outK_rc, envX_f, envX_t, atRec_is, isIns_is, isRc_is, isLst_is, insK_is, ↓wSortSet_eq, ↓wC_eq, ↓wRetV_eq, ↓wFrz_eq, isBox_eq, ↓wNil_eq, ↓wCons_eq, ↓wOp_eq, ↓wOpT_eq, ↓wUn_eq, ↓wCb_eq, ↓wCbT_eq, ↓wTest_eq, ↓wTru_eq, ↓wYes_eq, ↓wNot_eq, ↓wAnd_eq, ↓wOr_eq, ↓wAndV_eq, ↓wOrV_eq, ↓wNotV_eq, ↓wIf_eq, ↓wIfT_eq, ↓wChain_eq, ↓wLst_eq, ↓wTup_eq, ↓wNilT_eq, ↓wConsT_eq, ↓wLstT_eq, ↓wTupT_eq, ↓wSh_eq, ↓wFz_eq, ↓wVw_eq, ↓wVb_eq, ↓wVt_eq, view_nil, view_cons, view_no, view_box, view_is, ↓wCall_eq, ↓wCallT_eq, ↓wCallB_eq, ↓wCallBT_eq, ↓wIs_eq, ↓wNoPart_eq, ↓wPart_eq, ↓wSl_eq, ↓wSlT_eq, ↓wRevT_eq, ↓wRgL_eq, ↓wSkip_eq, ↓wBreak_eq, ↓wCont_eq, ↓wSeq_eq, ↓seq_nx, ↓seq_rt, ↓seq_bk, ↓seq_ct, ↓loop_nx, ↓loop_rt, ↓loop_bk, ↓loop_ct, ↓fn_nx, ↓fn_rt, ↓wRet_eq, ↓wRetN_eq, ↓wIfS_eq, ↓wAsgT_eq, ↓wAsg_eq, ↓wParN_eq, setsE_cons, setsE_nil, ↓wDrop_eq, ↓wName_eq, ↓wGNil_eq, ↓wGCons_eq, ↓wGTup_eq, ↓wApp_eq, ↓wRev_eq, ↓wClr_eq, ↓wExt_eq, ↓wSet_eq, ↓wPop_eq, ↓wipe_nil, ↓wipe_cons, env0_f, env0_t, atSh_is, atIs_is, atOwn_is, atBox_is, bIf_t, bIf_f, bIf_not, dBool_is, dInt_is, dTup_is, dList_is, dSeq_list, dSeq_tup, dSeq_seq, dTru_none, dTru_bool, dTru_int, dTru_list, dTru_tup, dCons_is, oI_int, oI0_int, oAdd_int, oAdd_list, oMul_int, oMul_list, oNeg_int, oEq_int, oEq_bool, oEq_nn, oEq_in, oEq_ni, oNe_int, oNe_bool, oNe_nn, oNe_in, oNe_ni, oEq_list, oNe_list, oEq_tup, oNe_tup, oEq_str, oNe_str, oIx_list, oIx_tup, oIx_seq, oLen_list, oLen_tup, oLen_seq, oInt_int, oInt_bool, oAbs_int, oMin2_int, oMax2_int, oAll_is, oSum_is, oListD_list, oListD_tup, oListD_seq, oTuple_list, oTuple_tup, oTuple_seq, oRepr_is, oIs_none, oIsNot_none, in_nats_t, in_nats_f, oIn_list, oIn_seq, oList_list, oList_tup, oList_seq, oCat_list, oRep_list, atI_l0, atI_l1, atI_l2, exists_eq_left', exists_eq_left, wPickT_eq, ↓wDNew_eq, ↓wDPut_eq, ↓wDList_eq, atDic_is, ↓wDGet_eq, ↓wDIn_eq, ↓wDNotIn_eq, ↓wDGet1_eq, ↓wD0_eq, ↓wDKeys_eq, ↓wDSort_eq, ↓wDSet_eq, ↓wLk_eq, ↓wKeys_eq, ↓wItems_eq, atD_own, atD_frz, atD_sh, atDO_is, atF_is, ↓wPop0_eq, ↓wSelf_eq, ↓wMove_eq, ↓wRetVT_eq, ↓wApp2_eq, ↓wSet2_eq, ↓wSetP_eq, ↓wAug_eq, oCount_list, ↓wRetPick_eq, oIsB_is, ↓wBmL_eq, oIndexS_is, ↓wAppPop_eq, ↓wAppPopT_eq, ↓wRev2_eq, oSumS_list, oSumS_tup, oSumS_seq, ↓wRetV2_eq, atOwnB_lst, atOwnB_tup, atL_int, mkT_t, mkT_f, w_take_is, w_same_is, notI_none, notI_bool, notI_int, notI_str, notI_list, notI_tup, notI_seq, isNone_none, isNone_bool, isNone_int, isNone_str, isNone_list, isNone_tup, isInt_none, isInt_bool, isInt_int, isInt_str, isInt_list, isInt_tup, isBool_none, isBool_bool, isBool_int, isBool_str, isBool_list, isBool_tup, isList_none, isList_bool, isList_int, isList_str, isList_list, isList_tup, isTuple_none, isTuple_bool, isTuple_int, isTuple_str, isTuple_list, isTuple_tup, isStr_none, isStr_bool, isStr_int, isStr_str, isStr_list, isStr_tup, isNone_seq, isList_seq, isTuple_seq, isInt_seq, isBool_seq, isStr_seq, dTru_seq, List.isEmpty_nil, List.isEmpty_cons, beq_self_eq_true, decide_true, decide_false, T.clean, T.cleans, T.data, T.datas, imm, immAll, List.getElem?_cons_zero, List.getElem?_cons_succ, List.set_cons_zero, List.set_cons_succ, List.map_cons, List.map_nil, List.cons_append, List.nil_append, List.replicate_succ, List.replicate_zero, List.length_cons, List.length_nil, List.length_map, if_true, if_false, Bool.true_and, Bool.and_true, Bool.false_and, Bool.and_false, Bool.not_true, Bool.not_false, Bool.or_true, Bool.true_or, Bool.false_or, Bool.or_false, Bool.false_eq_true, reduceIte, reduceCtorEq, true_and, and_true, Option.some.injEq, Nat.reduceAdd, Nat.reduceLeDiff, Int.reduceLE, Int.reduceLT, Int.cast_ofNat_Int, Int.reduceBEq, Int.reduceToNat])
/-! cells of a load, beat by beat: by the program and by the law -/
section
variable {N : Nat} {R : T → Nat → Prop} {k1 k2 : Bool}
/-- a load's numbers -/
abbrev NMat := List (List Nat)
abbrev nmD (k1 k2 : Bool) (M : NMat) : PyData := seqD k1 (M.map fun r => seqD k2 (r.map nD))
def IsHow (h : Str) : Prop := h = "even" ∨ h = "early" ∨ h = "late"
/-- the beat of the k-th of c cells -/
def boN (h : Str) (b c k : Nat) : Nat := if h = "early" then 0 else if h = "late" then b - 1 else k * b / c
/-- how many of c cells come ahead of beat t -/
def atN (h : Str) (b c t : Nat) : Nat := ((List.range c).filter fun k => boN h b c k == t).length
def triA (i j c : Nat) : PyData := .tuple [.int (i : Int), .int (j : Int), .int (c : Int)]
theorem beat_of_spec {h : Str} {k c b : Nat} (hc : k < c) (hc2 : c ≤ 1000) (hb : 1 ≤ b) (hb2 : b ≤ 1000) (hh : IsHow h) (h' : R (.sh (.int (boN h b c k : Nat))) N) : w_beat_of [.int (k : Int), .int (c : Int), .int (b : Int), .str h] N R := by
  have e1 : ((Str.ofString "even") == (Str.ofString "early")) = false := by decide +kernel
  have e2 : ((Str.ofString "even") == (Str.ofString "late")) = false := by decide +kernel
  have e3 : ((Str.ofString "late") == (Str.ofString "early")) = false := by decide +kernel
  have e4 : ((Str.ofString "early") == (Str.ofString "early")) = true := by decide +kernel
  have e5 : ((Str.ofString "late") == (Str.ofString "late")) = true := by decide +kernel
  refine ⟨rfl, ?_⟩
  rcases hh with rfl | rfl | rfl
  · sizeOf_list_dec
    rw [e1, e2]
    have e : boN "even" b c k = k * b / c := by
      unfold boN
      rw [if_neg (by decide +kernel), if_neg (by decide +kernel)]
    rw [e] at h'
    have hm : k * b ≤ 1000 * 1000 := Nat.mul_le_mul (by omega) hb2
    have ek : (k : Int) * (b : Int) / (c : Int) = ((k * b / c : Nat) : Int) := by rw [Int.natCast_ediv, Int.natCast_mul]
    rw [ek]
    exact ⟨by unfold CMul; omega, by unfold CDiv; omega, h'⟩
  · sizeOf_list_dec
    have e : boN "early" b c k = 0 := by
      unfold boN
      rw [if_pos rfl]
    rw [e] at h'
    exact h'
  · sizeOf_list_dec
    rw [e3]
    have e : boN "late" b c k = b - 1 := by
      unfold boN
      rw [if_neg (by decide +kernel), if_pos rfl]
    rw [e] at h'
    rw [show (b : Int) - 1 = ((b - 1 : Nat) : Int) by omega]
    exact h'
theorem coming_in_spec {h : Str} {t b : Nat} {M : NMat} (hl : M.length ≤ 12) (hr : ∀ r ∈ M, r.length ≤ 12) (hc : ∀ r ∈ M, ∀ c ∈ r, c ≤ 1000) (hb : 1 ≤ b) (hb2 : b ≤ 1000) (hh : IsHow h) (h' : R (.lst (M.map fun r => .lst (r.map fun c => .sh (nD (atN h b c t))))) N) : w_coming_in [.int (t : Int), .tuple [.int (b : Int), nmD k1 k2 M], .str h] N R := by
  refine ⟨rfl, ?_⟩
  sizeOf_list_dec
  refine lcT_m M (fun r => seqD k2 (r.map nD)) (fun r => .lst (r.map fun c => .sh (nD (atN h b c t)))) (gv_it (d := nmD k1 k2 M) (fun R h => by sizeOf_list_dec; exact h) (seqOf_seqD k1 _)) (by omega) (fun r A hr' hA => ?_) h'
  sizeOf_list_dec
  refine lcT_m r nD (fun c => .sh (nD (atN h b c t))) (gv_it (d := seqD k2 (r.map nD)) (fun R h => by sizeOf_list_dec; exact h) (seqOf_seqD k2 _)) (by have := hr r hr'; omega) (fun c A2 hc' hA2 => ?_) hA
  have hc2 := hc r hr' c hc'
  sizeOf_list_dec
  refine lc_f (List.range c) nD (fun k => if (boN h b c k == t) = true then some (nD k) else none) (gv_r1 (n := c) (fun R h => by sizeOf_list_dec; exact h) (by omega)) (by rw [List.length_range]; omega) (fun k A3 B3 hk hA3 hB3 => ?_) ?_
  · sizeOf_list_dec
    refine beat_of_spec (List.mem_range.mp hk) hc2 hb hb2 hh ?_
    sizeOf_list_dec
    by_cases e : boN h b c k = t
    · rw [e, beq_self_eq_true]
      exact hA3 _ (by rw [e, beq_self_eq_true]; rfl)
    · rw [show (((boN h b c k : Nat) : Int) == (t : Int)) = false from by rw [beq_eq_false_iff_ne]; omega]
      exact hB3 (by rw [show (boN h b c k == t) = false from beq_eq_false_iff_ne.mpr e]; rfl)
  rw [filter_map_if]
  sizeOf_list_dec
  exact hA2
theorem flat_len {α β : Type} {xs : List α} {f : α → List β} {b : Nat} (h : ∀ x ∈ xs, (f x).length ≤ b) : (xs.flatMap f).length ≤ xs.length * b := by
  induction xs with
  | nil => exact Nat.zero_le _
  | cons x xs ih =>
    rw [List.flatMap_cons, List.length_append, List.length_cons, Nat.add_mul, Nat.one_mul]
    have h1 := h x (List.mem_cons_self ..)
    have h2 := ih fun y hy => h y (List.mem_cons_of_mem _ hy)
    omega
/-- all numbers of a table that aren't 0, with their places -/
def cellsN (X : NMat) : List (Nat × Nat × Nat) := X.zipIdx.flatMap fun p => p.1.zipIdx.filterMap fun q => if q.1 = 0 then none else some (p.2, q.2, q.1)
theorem cells_of_spec {X : NMat} {k1 k2 : Bool} (hl : X.length ≤ 12) (hr : ∀ r ∈ X, r.length ≤ 12) (h' : R (.lst ((cellsN X).map fun t => .sh (triA t.1 t.2.1 t.2.2))) N) : w_cells_of [nmD k1 k2 X] N R := by
  refine ⟨rfl, ?_⟩
  sizeOf_list_dec
  refine lcT2_f X.zipIdx (fun p => .tuple [.int (p.2 : Nat), seqD k2 (p.1.map nD)]) (fun p => p.1.zipIdx) (fun p q => .tuple [.int (q.2 : Nat), nD q.1]) (fun p q => if q.1 = 0 then none else some (triA p.2 q.2 q.1)) (fun _ => true) ?_ (fun x X' B hx hX hB => ?_) ?_ ?_
  · rw [← enum_map (fun r : List Nat => seqD k2 (r.map nD))]
    exact gv_en (fun R h => by sizeOf_list_dec; exact h) (seqOf_seqD k1 _)
  · sizeOf_list_dec
    refine gv_en (d := seqD k2 (x.1.map nD)) (fun R h => by sizeOf_list_dec; exact h) (seqOf_seqD k2 _) _ ?_
    rw [enum_map]
    refine hX rfl _ fun q A B2 hq hA hB2 => ?_
    unfold nD
    sizeOf_list_dec
    by_cases e : q.1 = 0
    · rw [e]
      exact hB2 (by rw [if_pos e])
    · rw [show decide (0 < ((q.1 : Nat) : Int)) = true from decide_eq_true (by omega)]
      exact hA _ (by rw [if_neg e]; rfl)
  · have e : (fun x : List Nat × Nat => if true = true then x.1.zipIdx.filterMap (fun q => if q.1 = 0 then none else some (triA x.2 q.2 q.1)) else []) = fun x => x.1.zipIdx.filterMap (fun q => if q.1 = 0 then none else some (triA x.2 q.2 q.1)) := funext fun x => if_pos rfl
    rw [e]
    refine Nat.le_trans (flat_len (b := 12) fun x hx => Nat.le_trans (List.length_filterMap_le ..) ?_) ?_
    · rw [List.length_zipIdx]
      have hx2 : x.1 ∈ X := by
        have := List.mem_zipIdx hx
        exact this.2.2 ▸ List.getElem_mem _
      exact hr _ hx2
    · rw [List.length_zipIdx]
      omega
  · have e : (fun x : List Nat × Nat => if true = true then x.1.zipIdx.filterMap (fun q => if q.1 = 0 then none else some (triA x.2 q.2 q.1)) else []) = fun x => (x.1.zipIdx.filterMap fun q => if q.1 = 0 then none else some (x.2, q.2, q.1)).map fun t : Nat × Nat × Nat => triA t.1 t.2.1 t.2.2 := by
      funext x
      rw [if_pos rfl, List.map_filterMap]
      congr 1
      funext q
      by_cases z : q.1 = 0
      · rw [if_pos z, if_pos z]; rfl
      · rw [if_neg z, if_neg z]; rfl
    rw [e, ← List.map_flatMap, List.map_map]
    exact h'
/-- what comes ahead of beat t, as a table -/
def atM (h : Str) (b t : Nat) (M : NMat) : NMat := M.map fun r => r.map fun c => atN h b c t
abbrev triT (t : Nat × Nat × Nat) : T := .sh (triA t.1 t.2.1 t.2.2)
abbrev arrL (h : Str) (b : Nat) (M : NMat) : T := .lst ((List.range b).map fun t => .lst ((cellsN (atM h b t M)).map triT))
theorem arrivals_spec {h : Str} {b : Nat} {M : NMat} (hl : M.length ≤ 12) (hr : ∀ r ∈ M, r.length ≤ 12) (hc : ∀ r ∈ M, ∀ c ∈ r, c ≤ 1000) (hb : 1 ≤ b) (hb2 : b ≤ 1000) (hh : IsHow h) (h' : R (arrL h b M) N) : w_arrivals [.tuple [.int (b : Int), nmD k1 k2 M], .str h] N R := by
  refine ⟨rfl, ?_⟩
  sizeOf_list_dec
  refine lcT_rp (n := b) (fun t => .lst ((cellsN (atM h b t M)).map triT)) (fun R h => by sizeOf_list_dec; exact h) (by omega) (fun t R2 ht h2 => ?_) h'
  sizeOf_list_dec
  refine coming_in_spec hl hr hc hb hb2 hh ?_
  have e : (T.lst (M.map fun r => T.lst (r.map fun c => T.sh (nD (atN h b c t))))).data = nmD true true (atM h b t M) := by
    show PyData.list (T.datas _) = _
    rw [datas_map, List.map_map]
    unfold atM
    show _ = PyData.list ((M.map _).map _)
    rw [List.map_map]
    congr 1
    refine List.map_congr_left fun r _ => ?_
    show PyData.list (T.datas _) = PyData.list ((r.map _).map nD)
    rw [datas_map, List.map_map, List.map_map]
    rfl
  rw [e]
  refine cells_of_spec (by unfold atM; rw [List.length_map]; exact hl) (fun r hr' => ?_) h2
  unfold atM at hr'
  obtain ⟨r2, hr2, rfl⟩ := List.mem_map.mp hr'
  rw [List.length_map]
  exact hr r2 hr2
def rowP (h : Str) (b t i : Nat) (Q : List (Nat × Nat)) : List (Nat × Nat × Nat) := Q.filterMap fun q => if atN h b q.1 t = 0 then none else some (i, q.2, atN h b q.1 t)
theorem cells_P {h : Str} {b t : Nat} {M : NMat} : cellsN (atM h b t M) = M.zipIdx.flatMap fun p => rowP h b t p.2 p.1.zipIdx := by
  unfold cellsN atM
  rw [List.zipIdx_map, List.flatMap_map]
  congr 1
  funext p
  show ((p.1.map _).zipIdx.filterMap _) = _
  rw [List.zipIdx_map, List.filterMap_map]
  rfl
theorem count_at {h : Str} {b c t : Nat} : ((((List.range c).map (boN h b c)).map fun n : Nat => (n : Int)).count (t : Int)) = atN h b c t := by
  unfold atN
  rw [List.count_eq_countP, List.countP_map, List.countP_map, List.countP_eq_length_filter]
  congr 1
  refine List.filter_congr fun k _ => ?_
  show (((boN h b c k : Nat) : Int) == (t : Int)) = (boN h b c k == t)
  by_cases e : boN h b c k = t
  · rw [e, beq_self_eq_true, beq_self_eq_true]
  · rw [beq_eq_false_iff_ne.mpr e, beq_eq_false_iff_ne]
    omega
theorem has_at {h : Str} {b c t : Nat} : ((List.range c).map (boN h b c)).contains t = true ↔ atN h b c t ≠ 0 := by
  unfold atN
  rw [List.contains_iff_mem, List.mem_map]
  constructor
  · rintro ⟨k, hk, e⟩ z
    have : k ∈ (List.range c).filter fun k => boN h b c k == t := List.mem_filter.mpr ⟨hk, by rw [e, beq_self_eq_true]⟩
    rw [List.length_eq_zero_iff.mp z] at this
    cases this
  · intro z
    cases hf : (List.range c).filter fun k => boN h b c k == t with
    | nil => rw [hf] at z; exact absurd rfl z
    | cons k l =>
      have := List.mem_filter.mp (hf ▸ List.mem_cons_self .. : k ∈ (List.range c).filter fun k => boN h b c k == t)
      exact ⟨k, this.1, beq_iff_eq.mp this.2⟩
theorem row_len {h : Str} {b t i : Nat} {Q : List (Nat × Nat)} : (rowP h b t i Q).length ≤ Q.length := List.length_filterMap_le ..
theorem law_spread_spec {h : Str} {b : Nat} {M : NMat} (hl : M.length ≤ 12) (hr : ∀ r ∈ M, r.length ≤ 12) (hc : ∀ r ∈ M, ∀ c ∈ r, c ≤ 1000) (hb : 1 ≤ b) (hb2 : b ≤ 1000) (hh : IsHow h) (h' : R (arrL h b M) N) : w_law_spread [.tuple [.int (b : Int), nmD k1 k2 M], .str h] N R := by
  refine ⟨rfl, ?_⟩
  sizeOf_list_dec
  refine for_r1 (n := b) (fun t ε M' => M' = N ∧ ∃ x2 x5 x6 x7 x8 x9 x10, ε = [.is (.sh (.tuple [.int (b : Int), nmD k1 k2 M])), .is (.sh (.str h)), x2, .is (.sh (.int (b : Int))), .is (.lst ((List.range t).map fun t => .lst ((cellsN (atM h b t M)).map triT))), x5, x6, x7, x8, x9, x10, .no]) (fun R h => by sizeOf_list_dec; exact h) (by omega) ⟨rfl, _, _, _, _, _, _, _, rfl⟩ (fun t ε M' ht hI => ?_) fun ε M' hI => ?_
  · obtain ⟨rfl, x2, x5, x6, x7, x8, x9, x10, rfl⟩ := hI
    sizeOf_list_dec
    refine for_f M.zipIdx (fun p => .tuple [.int (p.2 : Nat), seqD k2 (p.1.map nD)]) (fun k ε M2 => M2 = M' ∧ ∃ x6 x7 x8 x9 x10, ε = [.is (.sh (.tuple [.int (b : Int), nmD k1 k2 M])), .is (.sh (.str h)), .is (.sh (.int (t : Int))), .is (.sh (.int (b : Int))), .is (.lst ((List.range t).map fun t => .lst ((cellsN (atM h b t M)).map triT))), .is (.lst (((M.zipIdx.take k).flatMap fun p => rowP h b t p.2 p.1.zipIdx).map triT)), x6, x7, x8, x9, x10, .no]) (by
      rw [← enum_map (fun r : List Nat => seqD k2 (r.map nD))]
      exact gv_en (d := nmD k1 k2 M) (fun R h => by sizeOf_list_dec; exact h) (seqOf_seqD k1 _)) ⟨rfl, _, _, _, _, _, rfl⟩ (fun k p ε M2 hk hI => ?_) fun ε M2 hI => ?_
    · obtain ⟨rfl, x6, x7, x8, x9, x10, rfl⟩ := hI
      have hp1 : p.1 ∈ M := by
        have := List.mem_zipIdx (List.mem_of_getElem? hk)
        exact this.2.2 ▸ List.getElem_mem _
      have ek : (M.zipIdx.take (k + 1)).flatMap (fun p => rowP h b t p.2 p.1.zipIdx) = (M.zipIdx.take k).flatMap (fun p => rowP h b t p.2 p.1.zipIdx) ++ rowP h b t p.2 p.1.zipIdx := by
        rw [List.take_add_one, hk, List.flatMap_append]
        show _ ++ (rowP h b t p.2 p.1.zipIdx ++ []) = _
        rw [List.append_nil]
      rw [ek]
      have hacc : ((M.zipIdx.take k).flatMap fun p => rowP h b t p.2 p.1.zipIdx).length ≤ 144 := by
        refine Nat.le_trans (flat_len (b := 12) fun x hx => Nat.le_trans row_len ?_) ?_
        · rw [List.length_zipIdx]
          have := List.mem_zipIdx (List.mem_of_mem_take hx)
          exact hr _ (this.2.2 ▸ List.getElem_mem _)
        · rw [List.length_take, List.length_zipIdx]
          omega
      generalize (M.zipIdx.take k).flatMap (fun p => rowP h b t p.2 p.1.zipIdx) = acc at *
      sizeOf_list_dec
      refine for_f p.1.zipIdx (fun q => .tuple [.int (q.2 : Nat), nD q.1]) (fun l ε M3 => M3 = M2 ∧ ∃ x8 x9 x10, ε = [.is (.sh (.tuple [.int (b : Int), nmD k1 k2 M])), .is (.sh (.str h)), .is (.sh (.int (t : Int))), .is (.sh (.int (b : Int))), .is (.lst ((List.range t).map fun t => .lst ((cellsN (atM h b t M)).map triT))), .is (.lst ((acc ++ rowP h b t p.2 (p.1.zipIdx.take l)).map triT)), .is (.sh (.int (p.2 : Nat))), .is (.sh (seqD k2 (p.1.map nD))), x8, x9, x10, .no]) (by
        rw [← enum_map nD]
        exact gv_en (d := seqD k2 (p.1.map nD)) (fun R h => by sizeOf_list_dec; exact h) (seqOf_seqD k2 _)) ⟨rfl, _, _, _, by rw [List.take_zero, show rowP h b t p.2 [] = [] from rfl, List.append_nil]⟩ (fun l q ε M3 hq hI => ?_) fun ε M3 hI => ?_
      · obtain ⟨rfl, x8, x9, x10, rfl⟩ := hI
        have hq1 : q.1 ∈ p.1 := by
          have := List.mem_zipIdx (List.mem_of_getElem? hq)
          exact this.2.2 ▸ List.getElem_mem _
        have hc1 := hc p.1 hp1 q.1 hq1
        have el : rowP h b t p.2 (p.1.zipIdx.take (l + 1)) = rowP h b t p.2 (p.1.zipIdx.take l) ++ (if atN h b q.1 t = 0 then [] else [(p.2, q.2, atN h b q.1 t)]) := by
          unfold rowP
          rw [List.take_add_one, hq, List.filterMap_append]
          congr 1
          show List.filterMap _ [q] = _
          by_cases z : atN h b q.1 t = 0
          · rw [List.filterMap_cons_none (by rw [if_pos z]), if_pos z]; rfl
          · rw [List.filterMap_cons_some (b := (p.2, q.2, atN h b q.1 t)) (by rw [if_neg z]), if_neg z]; rfl
        rw [el]
        sizeOf_list_dec
        refine lc_rp (n := q.1) (fun k => nD (boN h b q.1 k)) (fun R h => by sizeOf_list_dec; exact h) (by omega) (fun k R3 hk3 h3 => ?_) ?_
        · unfold nD
          sizeOf_list_dec
          have hm : k * b ≤ 1000 * 1000 := Nat.mul_le_mul (by omega) hb2
          refine ⟨by unfold CMul; omega, ?_⟩
          have ediv : (k : Int) * (b : Int) / (q.1 : Int) = ((k * b / q.1 : Nat) : Int) := by rw [Int.natCast_ediv, Int.natCast_mul]
          have n1 : Str.ofString "even" ≠ Str.ofString "early" := by decide +kernel
          have n2 : Str.ofString "even" ≠ Str.ofString "late" := by decide +kernel
          have n3 : Str.ofString "early" ≠ Str.ofString "late" := by decide +kernel
          rcases hh with rfl | rfl | rfl
          · have e : boN "even" b q.1 k = k * b / q.1 := by unfold boN; rw [if_neg n1, if_neg n2]
            rw [e] at h3
            refine ⟨by unfold CDiv; omega, ["even", "early", "late"], rfl, 0, rfl, fun m hm => absurd hm (Nat.not_lt_zero _), _, atI_l0, ?_⟩
            rw [ediv]
            exact h3
          · have e : boN "early" b q.1 k = 0 := by unfold boN; rw [if_pos rfl]
            rw [e] at h3
            refine ⟨by unfold CDiv; omega, ["even", "early", "late"], rfl, 1, rfl, fun m hm => ?_, _, atI_l1, h3⟩
            obtain rfl : m = 0 := by omega
            exact fun z => n1 (Option.some.inj z)
          · have e : boN "late" b q.1 k = b - 1 := by unfold boN; rw [if_neg (Ne.symm n3), if_pos rfl]
            rw [e] at h3
            refine ⟨by unfold CDiv; omega, ["even", "early", "late"], rfl, 2, rfl, fun m hm => ?_, _, atI_l2, ?_⟩
            · rcases (by omega : m = 0 ∨ m = 1) with rfl | rfl
              · exact fun z => n2 (Option.some.inj z)
              · exact fun z => n3 (Option.some.inj z)
            · rw [show (b : Int) - 1 = ((b - 1 : Nat) : Int) by omega]
              exact h3
        rw [show (List.range q.1).map (fun k => nD (boN h b q.1 k)) = ((List.range q.1).map (boN h b q.1)).map nD from by rw [List.map_map]; rfl, show ∀ l : List PyData, PyData.list l = seqD true l from fun _ => rfl, in_nats_f]
        sizeOf_list_dec
        refine bIf_of (fun hb1 => ?_) fun hb1 => ?_
        · have z := has_at.mp hb1
          rw [show ((List.range q.1).map (boN h b q.1)).map nD = (((List.range q.1).map (boN h b q.1)).map fun n : Nat => (n : Int)).map PyData.int from by rw [List.map_map (f := fun n : Nat => (n : Int))]; rfl, show ∀ l : List PyData, seqD true l = .list l from fun _ => rfl, oCount_list, count_at, if_neg z]
          have hrl := row_len (h := h) (b := b) (t := t) (i := p.2) (Q := p.1.zipIdx.take l)
          rw [List.length_take, List.length_zipIdx] at hrl
          have hpl := hr p.1 hp1
          have e : (acc ++ (rowP h b t p.2 (p.1.zipIdx.take l) ++ [(p.2, q.2, atN h b q.1 t)])).map triT = (acc ++ rowP h b t p.2 (p.1.zipIdx.take l)).map triT ++ [.sh (.tuple [.int (p.2 : Int), .int (q.2 : Int), .int (atN h b q.1 t : Int)])] := by
            rw [← List.append_assoc, List.map_append]
            rfl
          rw [e]
          exact ⟨by rw [List.length_append]; omega, _, _, _, rfl⟩
        · have z : atN h b q.1 t = 0 := by
            by_cases z : atN h b q.1 t = 0
            · exact z
            · rw [has_at.mpr z] at hb1; cases hb1
          rw [if_pos z, List.append_nil]
          exact ⟨_, _, _, rfl⟩
      · obtain ⟨rfl, x8, x9, x10, rfl⟩ := hI
        rw [List.take_of_length_le (Nat.le_refl _)]
        exact ⟨rfl, _, _, _, _, _, rfl⟩
    · obtain ⟨rfl, x6, x7, x8, x9, x10, rfl⟩ := hI
      rw [List.take_of_length_le (Nat.le_refl _), ← cells_P]
      sizeOf_list_dec
      rw [List.range_succ, List.map_append]
      exact ⟨by rw [List.length_range]; omega, _, _, _, _, _, _, _, rfl⟩
  · obtain ⟨rfl, x2, x5, x6, x7, x8, x9, x10, rfl⟩ := hI
    sizeOf_list_dec
    exact h'
end
/-! the law's draws -/
section
variable {N : Nat} {R : T → Nat → Prop}
theorem law_sizes_spec {mx : Nat} (h1 : 1 ≤ mx) (h2 : mx ≤ 1000) (hN : N ≤ 900000000) (h : ∀ n m : Nat, 1 ≤ n → n ≤ mx → 1 ≤ m → m ≤ mx → R (.sh (pD (n, m))) (N + 5)) : w_law_sizes [.int (mx : Int)] N R := by
  refine ⟨rfl, ?_⟩
  sizeOf_list_dec
  have hmin : ∃ q : Nat, (if (mx : Int) < 4 then (mx : Int) else 4) = (q : Int) ∧ 1 ≤ q ∧ q ≤ mx := by
    by_cases hc : (mx : Int) < 4
    · exact ⟨mx, by rw [if_pos hc], h1, Nat.le_refl _⟩
    · exact ⟨4, by rw [if_neg hc]; rfl, by decide, by omega⟩
  obtain ⟨q, hq, q1, q2⟩ := hmin
  rw [hq]
  refine ⟨⟨by omega, by omega, by omega⟩, fun a ha => ⟨⟨by omega, by omega, by omega⟩, fun b hb => ?_⟩⟩
  refine ⟨⟨by omega, by omega, by omega⟩, fun c hc => ⟨⟨by omega, by omega, by omega⟩, fun d hd => ?_⟩⟩
  refine ⟨by omega, fun k hk => ?_⟩
  have e1 : ((1 : Int) + (a : Int)) = ((1 + a : Nat) : Int) := by omega
  have e2 : ((1 : Int) + (b : Int)) = ((1 + b : Nat) : Int) := by omega
  have e3 : ((1 : Int) + (c : Int)) = ((1 + c : Nat) : Int) := by omega
  have e4 : ((1 : Int) + (d : Int)) = ((1 + d : Nat) : Int) := by omega
  rw [e1, e2, e3, e4]
  have i0 : ∀ {k : Int}, atI [PyData.int 0, .int 0, .int 0, .int 2, .int 2, .int 1] k = some (.int 0) → True := fun _ => trivial
  rcases (by omega : k = 0 ∨ k = 1 ∨ k = 2 ∨ k = 3 ∨ k = 4 ∨ k = 5) with rfl | rfl | rfl | rfl | rfl | rfl
  · exact ⟨.int 0, rfl, _, rfl, rfl, h _ _ (by omega) (by omega) (by omega) (by omega)⟩
  · exact ⟨.int 0, rfl, _, rfl, rfl, h _ _ (by omega) (by omega) (by omega) (by omega)⟩
  · exact ⟨.int 0, rfl, _, rfl, rfl, h _ _ (by omega) (by omega) (by omega) (by omega)⟩
  · exact ⟨.int 2, rfl, _, rfl, rfl, h _ _ (by omega) (by omega) (by omega) (by omega)⟩
  · exact ⟨.int 2, rfl, _, rfl, rfl, h _ _ (by omega) (by omega) (by omega) (by omega)⟩
  · exact ⟨.int 1, rfl, _, rfl, rfl, h _ _ (by omega) (by omega) (by omega) (by omega)⟩
end
/-! a load is drawn -/
section
variable {N : Nat} {R : T → Nat → Prop}
def SzN (n m : Nat) (X : NMat) : Prop := X.length = n ∧ ∀ r ∈ X, r.length = m
abbrev nmT (M : NMat) : T := .lst (M.map fun r => .lst (r.map fun x => .sh (nD x)))
theorem law_load_spec {mx much : Nat} (h1 : 1 ≤ mx) (h2 : mx ≤ 12) (u1 : 1 ≤ much) (u2 : much ≤ 100) (hN : N ≤ 800000000) (h : ∀ (n m b : Nat) (M : NMat) (N' : Nat), 1 ≤ n → n ≤ mx → 1 ≤ m → m ≤ mx → 1 ≤ b → b ≤ 24 → SzN n m M → (∀ r ∈ M, ∀ c ∈ r, c ≤ 100) → N' ≤ N + 300 → R (.tup [.sh (.int (b : Int)), nmT M]) N') : w_law_load [.int (mx : Int), .int (much : Int)] N R := by
  refine ⟨rfl, ?_⟩
  sizeOf_list_dec
  refine law_sizes_spec h1 (by omega) (by omega) fun n m n1 n2 m1 m2 => ?_
  show dTup (.tuple [.int (n : Int), .int (m : Int)]) _
  sizeOf_list_dec
  refine ⟨by omega, fun k1 hk1 => ?_⟩
  obtain ⟨lim, e1, l1, l2⟩ : ∃ lim : Nat, atI [PyData.int 4, .int 24] (k1 : Int) = some (.int (lim : Int)) ∧ 1 ≤ lim ∧ lim ≤ 24 := by
    rcases (by omega : k1 = 0 ∨ k1 = 1) with rfl | rfl
    · exact ⟨4, rfl, by decide, by decide⟩
    · exact ⟨24, rfl, by decide, by decide⟩
  refine ⟨_, e1, ?_⟩
  sizeOf_list_dec
  refine ⟨⟨by omega, by omega, by omega⟩, fun k2 hk2 => ⟨by omega, fun k3 hk3 => ?_⟩⟩
  obtain ⟨sz, e2, z1, z2⟩ : ∃ sz : Nat, atI [PyData.int 1, .int 2, .int 4, .int (much : Int)] (k3 : Int) = some (.int (sz : Int)) ∧ 1 ≤ sz ∧ sz ≤ 100 := by
    rcases (by omega : k3 = 0 ∨ k3 = 1 ∨ k3 = 2 ∨ k3 = 3) with rfl | rfl | rfl | rfl
    · exact ⟨1, rfl, by decide, by decide⟩
    · exact ⟨2, rfl, by decide, by decide⟩
    · exact ⟨4, rfl, by decide, by decide⟩
    · exact ⟨much, rfl, u1, u2⟩
  refine ⟨_, e2, ?_⟩
  refine lcT_r1 (n := n) (fun i ts M' => ∃ Ms : NMat, ts = Ms.map (fun r => T.lst (r.map fun x => .sh (nD x))) ∧ SzN i m Ms ∧ (∀ r ∈ Ms, ∀ c ∈ r, c ≤ 100) ∧ M' ≤ N + 5 + 1 + 1 + 1 + 24 * i) (fun R h => by sizeOf_list_dec; exact h) (by omega) ⟨[], rfl, ⟨rfl, fun _ z => nomatch z⟩, (fun _ z => nomatch z), by omega⟩ (fun i ts M' hi hI => ?_) fun ts M' hI => ?_
  · obtain ⟨Ms, rfl, hMs, hcs, hM'⟩ := hI
    sizeOf_list_dec
    refine lcT_r1 (n := m) (fun j es M2 => ∃ r : List Nat, es = r.map (fun x => T.sh (nD x)) ∧ r.length = j ∧ (∀ c ∈ r, c ≤ 100) ∧ M2 ≤ M' + 2 * j) (fun R h => by sizeOf_list_dec; exact h) (by omega) ⟨[], rfl, rfl, (fun _ z => nomatch z), by omega⟩ (fun j es M2 hj hI => ?_) fun es M2 hI => ?_
    · obtain ⟨r, rfl, hl, hb, hM2⟩ := hI
      sizeOf_list_dec
      refine ⟨⟨by omega, by omega, by omega⟩, fun x hx => ⟨by omega, fun y hy => ?_⟩⟩
      have hx2 : x ≤ 100 := by omega
      obtain ⟨z, hz, hz2, hz3⟩ : ∃ z : Nat, (x : Int) * (if decide ((0 : Int) < (y : Int)) = true then 1 else 0) = (z : Int) ∧ z ≤ 100 ∧ CMul (x : Int) (if decide ((0 : Int) < (y : Int)) = true then 1 else 0) := by
        by_cases hy0 : (0 : Int) < (y : Int)
        · rw [if_pos (decide_eq_true hy0)]
          exact ⟨x, by omega, hx2, by unfold CMul; omega⟩
        · rw [if_neg (by rw [decide_eq_false hy0]; decide)]
          exact ⟨0, by omega, by omega, by unfold CMul; omega⟩
      rw [hz]
      refine ⟨hz3, r ++ [z], by rw [List.map_append]; rfl, by rw [List.length_append, hl]; rfl, fun c hc => ?_, by omega⟩
      rcases List.mem_append.mp hc with hc | hc
      · exact hb c hc
      · rw [List.mem_singleton.mp hc]; exact hz2
    · obtain ⟨r, rfl, hl, hb, hM2⟩ := hI
      have h1 := hMs.1
      refine ⟨Ms ++ [r], by rw [List.map_append]; rfl, ⟨by rw [List.length_append, h1]; rfl, fun s hs => ?_⟩, fun s hs => ?_, by omega⟩
      · rcases List.mem_append.mp hs with hs | hs
        · exact hMs.2 s hs
        · rw [List.mem_singleton.mp hs]; exact hl
      · rcases List.mem_append.mp hs with hs | hs
        · exact hcs s hs
        · rw [List.mem_singleton.mp hs]; exact hb
  · obtain ⟨Ms, rfl, hMs, hcs, hM'⟩ := hI
    have e : (1 : Int) + (k2 : Int) = ((1 + k2 : Nat) : Int) := by rw [Int.natCast_add]; rfl
    rw [e]
    exact h n m (1 + k2) Ms _ n1 n2 m1 m2 (by omega) (by omega) hMs hcs (by omega)
end
end K87

set_option Elab.async false
set_option linter.all false
set_option maxRecDepth 100000
set_option maxHeartbeats 1000000
namespace K87
open PySem PySem.Spec PyProof.Rows L2 Evl Cg
local macro_rules
  | `(tactic| sizeOf_list_dec) => `(tactic| simp (config := {failIfUnchanged := false}) only [↓wCallNE_eq, ↓wCallNT_eq, ↓wCallN_eq, ↓wCallDT_eq, ↓wCallD_eq, ↓wPlInsT_eq, ↓wPR_eq, ↓wPlSl_eq, sh_is, ↓wKUp_eq, ↓wKUpX_eq, rcK_is, ↓wLenSetU_eq, ↓wSlU_eq, ↓wEOp_eq, ↓wNotKD_eq, ↓wDisp_eq, ↓wWk_eq, ↓wk_nx, ↓wk_rt, ↓wk_rx, ↓wk_xe, ↓wk_w, ↓wTupC_eq, kids_tup, rekid_tup, ↓wFgE_eq, ↓fgE_nx, ↓fgE_rt, ↓fgE_rx, ↓fgE_xe, ↓fgE_w, ↓wFgJ_eq, ↓fgJ_nx, ↓fgJ_rt, ↓fgJ_rx, ↓fgJ_xe, ↓fgJ_w, ↓wEqI_eq, ↓wIsI_eq, ↓wPT_eq, ↓wXCallK_eq, ↓wXTupO_eq, ↓wXLstO_eq, ↓wXRcO_eq, ↓wAsgX2_eq, ↓wForPl_eq, ↓wPls_nil, ↓wPls_cons, ↓runP_nil, ↓runP_cons, ↓wPlRev_eq, ↓wPlRem_eq, ↓wAlME_eq, ↓wPlExtO_eq, ↓wSetPlT_eq, qD_eq, qX_eq, ↓wRaise_eq, ↓wXN_eq, ↓wMethE_eq, ↓wCallXE_eq, ↓wCallE_eq, ↓wMethVE_eq, ↓wMethVVE_eq, ↓wCallVE_eq, immX_fly, ↓wEF_eq, ↓wEIf_eq, ↓wAsgE_eq, ↓wDropE_eq, ↓wRetE_eq, ↓wRetEV_eq, ↓wAsgEG_eq, ↓wIsX_eq, ↓wIsXT_eq, ↓wIsB_eq, ↓wWhat_eq, ↓wTryK_eq, ↓tr_w, ↓tr_nx, ↓tr_rt, ↓tr_rx, ↓tr_xe, ↓seq_xe, ↓seq_w, ↓loop_xe, ↓loop_w, ↓fnE_nx, ↓fnE_rt, ↓fnE_xe, ↓fnE_w, ↓fnXE_nx, ↓fnXE_rx, ↓fnXE_xe, ↓fnXE_w, ↓wPlIns_eq, ↓wXLc_eq, ↓wTmpClr_eq, ↓wKSet_eq, rcK_is, ↓wLenI_eq, ↓wFAug_eq, ↓wAppX_eq, ↓wRgL2_eq, ↓wSetPlN_eq, ↓wParAl_eq, oMin3_int, ↓wXTake_eq, ↓wXCallM_eq, ↓wDictP_eq, ↓wDGet2_eq, oAnyI_list, ↓wVwA_eq, ↓wVbA_eq, ↓wVtA_eq, viewA_nil, viewA_cons, ↓wPA_eq, atPin_is, ↓wAl_eq, ↓wLend_eq, lend_0, lend_s, ↓wPlApp_eq, ↓wPlExt_eq, ↓wPlPop_eq, ↓wAppMv_eq, ↓wNm_eq, ↓wPlClr_eq, fg_lst, fg_lsa, fg_tup, fg_ins, nm_lst, nm_lsa, nm_ins, root_lsa, root_ins, root_rc, kids_lsa, rekid_lsa, outK_lsa, isLst_a, view_pin, oStr_list, oStr_tup, ↓wLenSet_eq, ↓wXOp_eq, ↓wXCb_eq, ↓wXUn_eq, ↓wXLst_eq, ↓wXTup_eq, ↓wXCall_eq, ↓wXCallB_eq, ↓wXMeth_eq, ↓wXMethV_eq, ↓wXB_eq, ↓wXTest_eq, ↓wXTru_eq, ↓wXNot_eq, ↓wXAnd_eq, ↓wXOr_eq, ↓wXIfS_eq, ↓wXAndV_eq, ↓wXOrV_eq, ↓wXNotV_eq, ↓wXIf_eq, ↓wRetXV_eq, ↓wAsgXG_eq, ↓wForX_eq, shT_is, allSh_nil, allSh_cons, ↓wVar_eq, ↓wFd_eq, ↓wKd_eq, ↓wPV_eq, ↓wPF_eq, ↓wPK_eq, ↓wPI_eq, atPl_eq, atT_is, atO_some, atP_nil, atP_cons, bindP_some, putAt_eq, setT_is, putP_nil, putP_cons, putO_some, kids_lst, kids_ins, kids_rc, rekid_lst, rekid_ins, rekid_rc, ↓wXT_eq, ↓wXF_eq, ↓wXNil_eq, ↓wXCons_eq, ↓wAsgX_eq, ↓wDropX_eq, ↓wRetX_eq, ↓wRetNX_eq, ↓wRetVX_eq, ↓wParX_eq, ↓wSetPl_eq, ↓wFSet_eq, ↓wFNew_eq, ↓wRc_eq, ↓wMeth_eq, ↓wMethV_eq, ↓wApP_eq, ↓wApC_eq, ↓wCallX_eq, ↓wCallXB_eq, ↓wMake_eq, ↓wAppOwn_eq, ↓fnG_nx, ↓fnG_rx, outG_nil, outG_0, outG_2, outG_ins, outG_lsa, kept_nil, kept_0, kept_1, kept_2, ↓wXCallG_eq, ↓wXCallGB_eq, ↓wXCallR_eq, ↓wXCallRB_eq, backE_nil, backE_some, backE_none, ↓fnX_nx, ↓fnX_rx, ↓seq_rx, ↓loop_rx, dropB_f, dropB_t, outK_nil, outK_f, outK_ins, outK_rc, envX_f, envX_t, atRec_is, isIns_is, isRc_is, isLst_is, insK_is, ↓wSortSet_eq, ↓wC_eq, ↓wRetV_eq, ↓wFrz_eq, isBox_eq, ↓wNil_eq, ↓wCons_eq, ↓wOp_eq, ↓wOpT_eq, ↓wUn_eq, ↓wCb_eq, ↓wCbT_eq, ↓wTest_eq, ↓wTru_eq, ↓wYes_eq, ↓wNot_eq, ↓wAnd_eq, ↓wOr_eq, ↓wAndV_eq, ↓wOrV_eq, ↓wNotV_eq, ↓wIf_eq, ↓wIfT_eq, ↓wChain_eq, ↓wLst_eq, ↓wTup_eq, ↓wNilT_eq, ↓wConsT_eq, ↓wLstT_eq, ↓wTupT_eq, ↓wSh_eq, ↓wFz_eq, ↓wVw_eq, ↓wVb_eq, ↓wVt_eq, view_nil, view_cons, view_no, view_box, view_is, ↓wCall_eq, ↓wCallT_eq, ↓wCallB_eq, ↓wCallBT_eq, ↓wIs_eq, ↓wNoPart_eq, ↓wPart_eq, ↓wSl_eq, ↓wSlT_eq, ↓wRevT_eq, ↓wRgL_eq, ↓wSkip_eq, ↓wBreak_eq, ↓wCont_eq, ↓wSeq_eq, ↓seq_nx, ↓seq_rt, ↓seq_bk, ↓seq_ct, ↓loop_nx, ↓loop_rt, ↓loop_bk, ↓loop_ct, ↓fn_nx, ↓fn_rt, ↓wRet_eq, ↓wRetN_eq, ↓wIfS_eq, ↓wAsgT_eq, ↓wAsg_eq, ↓wParN_eq, setsE_cons, setsE_nil, ↓wDrop_eq, ↓wName_eq, ↓wGNil_eq, ↓wGCons_eq, ↓wGTup_eq, ↓wApp_eq, ↓wRev_eq, ↓wClr_eq, ↓wExt_eq, ↓wSet_eq, ↓wPop_eq, ↓wipe_nil, ↓wipe_cons, env0_f, env0_t, atSh_is, atIs_is, atOwn_is, atBox_is, bIf_t, bIf_f, bIf_not, dBool_is, dInt_is, dTup_is, dList_is, dSeq_list, dSeq_tup, dSeq_seq, dTru_none, dTru_bool, dTru_int, dTru_list, dTru_tup, dCons_is, oI_int, oI0_int, oAdd_int, oAdd_list, oMul_int, oMul_list, oNeg_int, oEq_int, oEq_bool, oEq_nn, oEq_in, oEq_ni, oNe_int, oNe_bool, oNe_nn, oNe_in, oNe_ni, oEq_list, oNe_list, oEq_tup, oNe_tup, oEq_str, oNe_str, oIx_list, oIx_tup, oIx_seq, oLen_list, oLen_tup, oLen_seq, oInt_int, oInt_bool, oAbs_int, oMin2_int, oMax2_int, oAll_is, oSum_is, oListD_list, oListD_tup, oListD_seq, oTuple_list, oTuple_tup, oTuple_seq, oRepr_is, oIs_none, oIsNot_none, in_nats_t, in_nats_f, oIn_list, oIn_seq, oList_list, oList_tup, oList_seq, oCat_list, oRep_list, atI_l0, atI_l1, atI_l2, exists_eq_left', exists_eq_left, wPickT_eq, ↓wDNew_eq, ↓wDPut_eq, ↓wDList_eq, atDic_is, ↓wDGet_eq, ↓wDIn_eq, ↓wDNotIn_eq, ↓wDGet1_eq, ↓wD0_eq, ↓wDKeys_eq, ↓wDSort_eq, ↓wDSet_eq, ↓wLk_eq, ↓wKeys_eq, ↓wItems_eq, atD_own, atD_frz, atD_sh, atDO_is, atF_is, ↓wPop0_eq, ↓wSelf_eq, ↓wMove_eq, ↓wRetVT_eq, ↓wApp2_eq, ↓wSet2_eq, ↓wSetP_eq, ↓wAug_eq, oCount_list, ↓wRetPick_eq, oIsB_is, ↓wBmL_eq, oIndexS_is, ↓wAppPop_eq, ↓wAppPopT_eq, ↓wRev2_eq, oSumS_list, oSumS_tup, oSumS_seq, ↓wRetV2_eq, atOwnB_lst, atOwnB_tup, atL_int, mkT_t, mkT_f, w_take_is, w_same_is, notI_none, notI_bool, notI_int, notI_str, notI_list, notI_tup, notI_seq, isNone_none, isNone_bool, isNone_int, isNone_str, isNone_list, isNone_tup, isInt_none, isInt_bool, isInt_int, isInt_str, isInt_list, isInt_tup, isBool_none, isBool_bool, isBool_int, isBool_str, isBool_list, isBool_tup, isList_none, isList_bool, isList_int, isList_str, isList_list, isList_tup, isTuple_none, isTuple_bool, isTuple_int, isTuple_str, isTuple_list, isTuple_tup, isStr_none, isStr_bool, isStr_int, isStr_str, isStr_list, isStr_tup, isNone_seq, isList_seq, isTuple_seq, isInt_seq, isBool_seq, isStr_seq, dTru_seq, List.isEmpty_nil, List.isEmpty_cons, beq_self_eq_true, decide_true, decide_false, T.clean, T.cleans, T.data, T.datas, imm, immAll, List.getElem?_cons_zero, List.getElem?_cons_succ, List.set_cons_zero, List.set_cons_succ, List.map_cons, List.map_nil, List.cons_append, List.nil_append, List.replicate_succ, List.replicate_zero, List.length_cons, List.length_nil, List.length_map, if_true, if_false, Bool.true_and, Bool.and_true, Bool.false_and, Bool.and_false, Bool.not_true, Bool.not_false, Bool.or_true, Bool.true_or, Bool.false_or, Bool.or_false, Bool.false_eq_true, reduceIte, reduceCtorEq, true_and, and_true, Option.some.injEq, Nat.reduceAdd, Nat.reduceLeDiff, Int.reduceLE, Int.reduceLT, Int.cast_ofNat_Int, Int.reduceBEq, Int.reduceToNat])
/-! what comes of a cell in all beats -/
section
variable {n m b k : Nat}
def arrN (h : Str) (b : Nat) (M : NMat) : List (List (Nat × Nat × Nat)) := (List.range b).map fun t => cellsN (atM h b t M)
def ind (p : Pr) (v : Int) (i j : Nat) : Int := if i = p.1 ∧ j = p.2 then v else 0
theorem sum_add {α : Type} (f g : α → Nat) : ∀ l : List α, (l.map fun t => f t + g t).sum = (l.map f).sum + (l.map g).sum
  | [] => rfl
  | x :: l => by
    rw [List.map_cons, List.map_cons, List.map_cons, List.sum_cons, List.sum_cons, List.sum_cons, sum_add f g l]
    omega
theorem sum_zero {α : Type} : ∀ l : List α, (l.map fun _ => 0).sum = 0
  | [] => rfl
  | x :: l => by
    rw [List.map_cons, List.sum_cons, sum_zero l]
theorem one_of (i : Nat) : ∀ b : Nat, ((List.range b).map fun t => if (i == t) = true then 1 else 0).sum = if i < b then 1 else 0
  | 0 => by rw [if_neg (Nat.not_lt_zero _)]; rfl
  | b + 1 => by
    rw [List.range_succ, List.map_append, List.sum_append, one_of i b]
    show _ + ((if (i == b) = true then 1 else 0) + 0) = _
    by_cases h : i = b
    · rw [if_neg (show ¬ i < b by omega), if_pos (beq_iff_eq.mpr h), if_pos (show i < b + 1 by omega)]; rfl
    · rw [if_neg (show ¬ (i == b) = true from fun z => h (beq_iff_eq.mp z))]
      by_cases h2 : i < b
      · rw [if_pos h2, if_pos (show i < b + 1 by omega)]; rfl
      · rw [if_neg h2, if_neg (show ¬ i < b + 1 by omega)]; rfl
theorem parts_of (f : Nat → Nat) (b : Nat) : ∀ ks : List Nat, (∀ k ∈ ks, f k < b) → ((List.range b).map fun t => (ks.filter fun k => f k == t).length).sum = ks.length
  | [], _ => sum_zero _
  | k :: ks, h => by
    have e : (fun t => ((k :: ks).filter fun k => f k == t).length) = fun t => (if (f k == t) = true then 1 else 0) + (ks.filter fun k => f k == t).length := by
      funext t
      rw [List.filter_cons]
      split
      · rw [List.length_cons]; omega
      · omega
    rw [e, sum_add, one_of, if_pos (h k (List.mem_cons_self ..)), parts_of f b ks fun x hx => h x (List.mem_cons_of_mem _ hx), List.length_cons]
    omega
theorem bo_lt {h : Str} {b c k : Nat} (hk : k < c) (hb : 1 ≤ b) : boN h b c k < b := by
  unfold boN
  split
  · omega
  · split
    · omega
    · rw [Nat.div_lt_iff_lt_mul (by omega), Nat.mul_comm b c]
      exact (Nat.mul_lt_mul_right (by omega)).mpr hk
theorem at_sum {h : Str} {b c : Nat} (hb : 1 ≤ b) : ((List.range b).map fun t => atN h b c t).sum = c := by
  have := parts_of (boN h b c) b (List.range c) fun k hk => bo_lt (List.mem_range.mp hk) hb
  rw [List.length_range] at this
  exact this
/-! arrivals, cell by cell -/
def arrC (cs : List (Nat × Nat × Nat)) (i j : Nat) : Int := (cs.map fun c => ind (c.1, c.2.1) (c.2.2 : Int) i j).sum
theorem arrC_cons (c : Nat × Nat × Nat) (cs : List (Nat × Nat × Nat)) (i j : Nat) : arrC (c :: cs) i j = ind (c.1, c.2.1) (c.2.2 : Int) i j + arrC cs i j := rfl
theorem arrC_app (a c : List (Nat × Nat × Nat)) (i j : Nat) : arrC (a ++ c) i j = arrC a i j + arrC c i j := by
  unfold arrC
  rw [List.map_append, List.sum_append]
theorem row_arr (i2 i j : Nat) : ∀ (r : List Nat) (o : Nat), arrC ((r.zipIdx o).filterMap fun q => if q.1 = 0 then none else some (i2, q.2, q.1)) i j = if i = i2 ∧ o ≤ j then ((r.getD (j - o) 0 : Nat) : Int) else 0
  | [], o => by
    show (0 : Int) = _
    split <;> rfl
  | c :: r, o => by
    have ih := row_arr i2 i j r (o + 1)
    rw [List.zipIdx_cons, List.filterMap_cons]
    have key : arrC ((r.zipIdx (o + 1)).filterMap fun q => if q.1 = 0 then none else some (i2, q.2, q.1)) i j + ind (i2, o) (c : Int) i j = if i = i2 ∧ o ≤ j then (((c :: r).getD (j - o) 0 : Nat) : Int) else 0 := by
      rw [ih]
      unfold ind
      by_cases e1 : i = i2
      · rcases Nat.lt_trichotomy j o with e2 | e2 | e2
        · rw [if_neg (by omega), if_neg (by intro z; have := z.2; show False; have : j = o := this; omega), if_neg (by omega)]
          rfl
        · subst e2
          rw [if_neg (by omega), if_pos ⟨e1, rfl⟩, if_pos ⟨e1, Nat.le_refl _⟩, Nat.sub_self]
          show (0 : Int) + c = c
          omega
        · rw [if_pos ⟨e1, by omega⟩, if_neg (by intro z; have : j = o := z.2; omega), if_pos ⟨e1, by omega⟩]
          rw [show j - o = (j - (o + 1)) + 1 by omega, List.getD_cons_succ]
          omega
      · rw [if_neg (fun z => e1 z.1), if_neg (fun z => e1 z.1), if_neg (fun z => e1 z.1)]
        rfl
    by_cases h : c = 0
    · subst h
      rw [← key]
      unfold ind
      simp
    · simp only [h, if_false]
      rw [arrC_cons, Int.add_comm]
      exact key
theorem cells_arr_o (i j : Nat) : ∀ (X : NMat) (o : Nat), arrC ((X.zipIdx o).flatMap fun p => p.1.zipIdx.filterMap fun q => if q.1 = 0 then none else some (p.2, q.2, q.1)) i j = if o ≤ i then (((X.getD (i - o) []).getD j 0 : Nat) : Int) else 0
  | [], o => by
    show (0 : Int) = _
    split <;> rfl
  | r :: X, o => by
    rw [List.zipIdx_cons, List.flatMap_cons, arrC_app, cells_arr_o i j X (o + 1), row_arr]
    rcases Nat.lt_trichotomy i o with e2 | e2 | e2
    · rw [if_neg (by omega), if_neg (by omega), if_neg (by omega)]; rfl
    · subst e2
      rw [if_pos ⟨rfl, by omega⟩, if_neg (by omega), if_pos (Nat.le_refl _), Nat.sub_self]
      show _ + (0 : Int) = _
      rw [Int.add_zero]
      rfl
    · rw [if_neg (by omega), if_pos (by omega), if_pos (by omega), show i - o = (i - (o + 1)) + 1 by omega, List.getD_cons_succ]
      omega
/-- a load's number -/
def cellN (M : NMat) (i j : Nat) : Nat := (M.getD i []).getD j 0
theorem cells_arr (X : NMat) (i j : Nat) : arrC (cellsN X) i j = ((cellN X i j : Nat) : Int) := by
  have h := cells_arr_o i j X 0
  rw [if_pos (Nat.zero_le _)] at h
  exact h
theorem at_cell {h : Str} {t : Nat} {M : NMat} (hM : SzN n m M) {i j : Nat} (hi : i < n) (hj : j < m) : cellN (atM h b t M) i j = atN h b (cellN M i j) t := by
  have hil : i < M.length := by rw [hM.1]; exact hi
  have hjl : j < (M[i]).length := by rw [hM.2 _ (List.getElem_mem hil)]; exact hj
  unfold cellN atM
  rw [List.getD_eq_getElem?_getD (l := M.map _), List.getElem?_map, List.getD_eq_getElem?_getD (l := M), List.getElem?_eq_getElem hil]
  show ((M[i]).map fun c => atN h b c t).getD j 0 = atN h b ((M[i]).getD j 0) t
  rw [List.getD_eq_getElem?_getD, List.getElem?_map, List.getD_eq_getElem?_getD, List.getElem?_eq_getElem hjl]
  rfl
theorem cast_sum : ∀ r : List Nat, (r.map fun c : Nat => (c : Int)).sum = ((r.sum : Nat) : Int)
  | [] => rfl
  | c :: r => by
    rw [List.map_cons, List.sum_cons, List.sum_cons, cast_sum r, Int.natCast_add]
/-- what came in k beats -/
def arrK (L : List (List (Nat × Nat × Nat))) (k i j : Nat) : Int := ((L.take k).map fun cs => arrC cs i j).sum
theorem arrK_succ {L : List (List (Nat × Nat × Nat))} {cs : List (Nat × Nat × Nat)} (h : L[k]? = some cs) (i j : Nat) : arrK L (k + 1) i j = arrK L k i j + arrC cs i j := by
  unfold arrK
  rw [List.take_add_one, h, List.map_append, List.sum_append]
  show _ + (arrC cs i j + 0) = _
  omega
theorem arrK_all {h : Str} {M : NMat} (hb : 1 ≤ b) (hM : SzN n m M) {i j : Nat} (hi : i < n) (hj : j < m) : arrK (arrN h b M) b i j = ((cellN M i j : Nat) : Int) := by
  unfold arrK arrN
  rw [List.take_of_length_le (by rw [List.length_map, List.length_range]; exact Nat.le_refl _), List.map_map]
  have e : ((fun cs => arrC cs i j) ∘ fun t => cellsN (atM h b t M)) = (fun c : Nat => (c : Int)) ∘ fun t => atN h b (cellN M i j) t := funext fun t => by
    show arrC (cellsN (atM h b t M)) i j = _
    rw [cells_arr, at_cell hM hi hj]
    rfl
  rw [e, ← List.map_map, cast_sum, at_sum hb]
end
section
variable {n m b : Nat} {h : Str} {M : NMat}
abbrev arrD (h : Str) (b : Nat) (M : NMat) : PyData := .list ((arrN h b M).map fun cs => .list (cs.map fun t => triA t.1 t.2.1 t.2.2))
theorem arrL_data : (arrL h b M).data = arrD h b M := by
  show PyData.list (T.datas _) = PyData.list _
  rw [datas_map]
  unfold arrN
  simp only [List.map_map]
  refine congrArg _ (List.map_congr_left fun t _ => ?_)
  show PyData.list (T.datas _) = PyData.list _
  rw [datas_map, List.map_map]
  rfl
theorem arrL_clean : (arrL h b M).clean = true := by
  show T.cleans _ = true
  generalize List.range b = ts
  induction ts with
  | nil => rfl
  | cons t ts ih =>
    show (T.cleans ((cellsN (atM h b t M)).map triT) && T.cleans _) = true
    rw [ih, Bool.and_true]
    generalize cellsN (atM h b t M) = cs
    induction cs with
    | nil => rfl
    | cons x cs ih2 =>
      show (imm (triA x.1 x.2.1 x.2.2) && T.cleans _) = true
      rw [ih2]
      rfl
theorem cells_len {X : NMat} (hl : X.length ≤ 12) (hr : ∀ r ∈ X, r.length ≤ 12) : (cellsN X).length ≤ 144 := by
  have h2 : ∀ (X : NMat) (o : Nat), (∀ r ∈ X, r.length ≤ 12) → ((X.zipIdx o).flatMap fun p => p.1.zipIdx.filterMap fun q : Nat × Nat => if q.1 = 0 then none else some (p.2, q.2, q.1)).length ≤ 12 * X.length := by
    intro X
    induction X with
    | nil => intro o _; exact Nat.zero_le _
    | cons r X ih =>
      intro o hr
      rw [List.zipIdx_cons, List.flatMap_cons, List.length_append, List.length_cons]
      have h1 := ih (o + 1) fun x hx => hr x (List.mem_cons_of_mem _ hx)
      have h3 := List.length_filterMap_le (fun q : Nat × Nat => if q.1 = 0 then none else some (o, q.2, q.1)) (r.zipIdx)
      rw [List.length_zipIdx] at h3
      have h4 := hr r (List.mem_cons_self ..)
      have h5 : (List.filterMap (fun q : Nat × Nat => if q.1 = 0 then none else some (o, q.2, q.1)) r.zipIdx).length ≤ 12 := Nat.le_trans h3 h4
      show (List.filterMap (fun q : Nat × Nat => if q.1 = 0 then none else some (o, q.2, q.1)) r.zipIdx).length + _ ≤ _
      omega
  have := h2 X 0 hr
  unfold cellsN
  omega
theorem okn_arr (hl : M.length ≤ 12) (hr : ∀ r ∈ M, r.length ≤ 12) (hb : b ≤ 1000) : Okn 6 (arrD h b M) := by
  refine Okn.list (fun x hx => ?_) (by rw [List.length_map]; unfold arrN; rw [List.length_map, List.length_range]; omega)
  obtain ⟨cs, hcs, rfl⟩ := List.mem_map.mp hx
  obtain ⟨t, _, rfl⟩ := List.mem_map.mp hcs
  refine Okn.list (fun x hx => ?_) ?_
  · obtain ⟨t, _, rfl⟩ := List.mem_map.mp hx
    exact Okn.tuple (all_cons Okn.int (all_cons Okn.int (all_cons Okn.int all_nil))) (by show 3 ≤ 40000; decide)
  · rw [List.length_map]
    have := cells_len (X := atM h b t M) (by unfold atM; rw [List.length_map]; exact hl) fun r hr2 => by
      unfold atM at hr2
      obtain ⟨q, hq, rfl⟩ := List.mem_map.mp hr2
      rw [List.length_map]
      exact hr q hq
    omega
/-- one cell's numbers among what comes -/
theorem sum_pick (i j : Nat) : ∀ cs : List (Nat × Nat × Nat), ((cs.filterMap fun t => if t.1 = i ∧ t.2.1 = j then some (t.2.2 : Int) else none)).sum = arrC cs i j
  | [] => rfl
  | t :: cs => by
    rw [List.filterMap_cons, arrC_cons, ← sum_pick i j cs]
    unfold ind
    by_cases e : t.1 = i ∧ t.2.1 = j
    · rw [if_pos e, if_pos ⟨e.1.symm, e.2.symm⟩]
      rfl
    · rw [if_neg e, if_neg fun z => e ⟨z.1.symm, z.2.symm⟩, Int.zero_add]
theorem eqv_two (a c i j : Nat) : PyData.eqv (.tuple [.int (a : Int), .int (c : Int)]) (.tuple [.int (i : Int), .int (j : Int)]) = decide (a = i ∧ c = j) := by
  have : PyData.eqv (.tuple [.int (a : Int), .int (c : Int)]) (.tuple [.int (i : Int), .int (j : Int)]) = (((a : Int) == i) && (((c : Int) == j) && true)) := rfl
  rw [this, Bool.eq_iff_iff]
  simp only [Bool.and_eq_true, beq_iff_eq, decide_eq_true_eq, and_true]
  omega
end
end K87

set_option Elab.async false
set_option linter.all false
set_option maxRecDepth 100000
set_option maxHeartbeats 1000000
namespace K87
open PySem PySem.Spec PyProof.Rows L2 Evl Cg
local macro_rules
  | `(tactic| sizeOf_list_dec) => `(tactic| simp (config := {failIfUnchanged := false}) only [↓wVwB_eq, ↓wVtB_eq, ↓wVbB_eq, viewB_nil, viewB_cons, ↓wAlPick_eq, ↓wBlk_eq, ↓blk_nx, ↓blk_rt, ↓blk_w, cleanE_nil, cleanE_cons, cln_no, cln_box, cln_pin, cln_is, atSh_shr, ↓wPTa_eq, ↓wLendA_eq, lendV_nil, lendV_cons, lendK_0, lendK_s, viewK_nil, viewK_cons, vk_pin, vk_is, vk_no, vk_box, ↓wAlUnp_eq, isTp2_tup, isTp2_tpa, root_tpa, nm_tup, nm_tpa, fg_tpa, kids_tpa, rekid_tpa, outK_tpa, ↓wDctP_eq, ↓wDctI_eq, isDct_is, ↓wPD_eq, ↓wDcSet_eq, ↓wDcSetX_eq, ↓wKdD_eq, ↓wInD_eq, ↓wGetD_eq, atDct_is, root_dct, nm_dct, kids_dct, rekid_dct, outK_dct, outG_dct, ↓wCallNE_eq, ↓wCallNT_eq, ↓wCallN_eq, ↓wCallDT_eq, ↓wCallD_eq, ↓wPlInsT_eq, ↓wPR_eq, ↓wPlSl_eq, sh_is, ↓wKUp_eq, ↓wKUpX_eq, rcK_is, ↓wLenSetU_eq, ↓wSlU_eq, ↓wEOp_eq, ↓wNotKD_eq, ↓wDisp_eq, ↓wWk_eq, ↓wk_nx, ↓wk_rt, ↓wk_rx, ↓wk_xe, ↓wk_w, ↓wTupC_eq, kids_tup, rekid_tup, ↓wFgE_eq, ↓fgE_nx, ↓fgE_rt, ↓fgE_rx, ↓fgE_xe, ↓fgE_w, ↓wFgJ_eq, ↓fgJ_nx, ↓fgJ_rt, ↓fgJ_rx, ↓fgJ_xe, ↓fgJ_w, ↓wEqI_eq, ↓wIsI_eq, ↓wPT_eq, ↓wXCallK_eq, ↓wXTupO_eq, ↓wXLstO_eq, ↓wXRcO_eq, ↓wAsgX2_eq, ↓wForPl_eq, ↓wPls_nil, ↓wPls_cons, ↓runP_nil, ↓runP_cons, ↓wPlRev_eq, ↓wPlRem_eq, ↓wAlME_eq, ↓wPlExtO_eq, ↓wSetPlT_eq, qD_eq, qX_eq, ↓wRaise_eq, ↓wXN_eq, ↓wMethE_eq, ↓wCallXE_eq, ↓wCallE_eq, ↓wMethVE_eq, ↓wMethVVE_eq, ↓wCallVE_eq, immX_fly, ↓wEF_eq, ↓wEIf_eq, ↓wAsgE_eq, ↓wDropE_eq, ↓wRetE_eq, ↓wRetEV_eq, ↓wAsgEG_eq, ↓wIsX_eq, ↓wIsXT_eq, ↓wIsB_eq, ↓wWhat_eq, ↓wTryK_eq, ↓tr_w, ↓tr_nx, ↓tr_rt, ↓tr_rx, ↓tr_xe, ↓seq_xe, ↓seq_w, ↓loop_xe, ↓loop_w, ↓fnE_nx, ↓fnE_rt, ↓fnE_xe, ↓fnE_w, ↓fnXE_nx, ↓fnXE_rx, ↓fnXE_xe, ↓fnXE_w, ↓wPlIns_eq, ↓wXLc_eq, ↓wTmpClr_eq, ↓wKSet_eq, rcK_is, ↓wLenI_eq, ↓wFAug_eq, ↓wAppX_eq, ↓wRgL2_eq, ↓wSetPlN_eq, ↓wParAl_eq, oMin3_int, ↓wXTake_eq, ↓wXCallM_eq, ↓wDictP_eq, ↓wDGet2_eq, oAnyI_list, ↓wVwA_eq, ↓wVbA_eq, ↓wVtA_eq, viewA_nil, viewA_cons, ↓wPA_eq, atPin_is, ↓wAl_eq, ↓wLend_eq, lend_0, lend_s, ↓wPlApp_eq, ↓wPlExt_eq, ↓wPlPop_eq, ↓wAppMv_eq, ↓wNm_eq, ↓wPlClr_eq, fg_lst, fg_lsa, fg_tup, fg_ins, nm_lst, nm_lsa, nm_ins, root_lsa, root_ins, root_rc, kids_lsa, rekid_lsa, outK_lsa, isLst_a, view_pin, oStr_list, oStr_tup, ↓wLenSet_eq, ↓wXOp_eq, ↓wXCb_eq, ↓wXUn_eq, ↓wXLst_eq, ↓wXTup_eq, ↓wXCall_eq, ↓wXCallB_eq, ↓wXMeth_eq, ↓wXMethV_eq, ↓wXB_eq, ↓wXTest_eq, ↓wXTru_eq, ↓wXNot_eq, ↓wXAnd_eq, ↓wXOr_eq, ↓wXIfS_eq, ↓wXAndV_eq, ↓wXOrV_eq, ↓wXNotV_eq, ↓wXIf_eq, ↓wRetXV_eq, ↓wAsgXG_eq, ↓wForX_eq, shT_is, allSh_nil, allSh_cons, ↓wVar_eq, ↓wFd_eq, ↓wKd_eq, ↓wPV_eq, ↓wPF_eq, ↓wPK_eq, ↓wPI_eq, atPl_eq, atT_is, atO_some, atP_nil, atP_cons, bindP_some, putAt_eq, setT_is, putP_nil, putP_cons, putO_some, kids_lst, kids_ins, kids_rc, rekid_lst, rekid_ins, rekid_rc, ↓wXT_eq, ↓wXF_eq, ↓wXNil_eq, ↓wXCons_eq, ↓wAsgX_eq, ↓wDropX_eq, ↓wRetX_eq, ↓wRetNX_eq, ↓wRetVX_eq, ↓wParX_eq, ↓wSetPl_eq, ↓wFSet_eq, ↓wFNew_eq, ↓wRc_eq, ↓wMeth_eq, ↓wMethV_eq, ↓wApP_eq, ↓wApC_eq, ↓wCallX_eq, ↓wCallXB_eq, ↓wMake_eq, ↓wAppOwn_eq, ↓fnG_nx, ↓fnG_rx, outG_nil, outG_0, outG_2, outG_ins, outG_lsa, kept_nil, kept_0, kept_1, kept_2, ↓wXCallG_eq, ↓wXCallGB_eq, ↓wXCallR_eq, ↓wXCallRB_eq, backE_nil, backE_some, backE_none, ↓fnX_nx, ↓fnX_rx, ↓seq_rx, ↓loop_rx, dropB_f, dropB_t, outK_nil, outK_f, outK_ins, outK_rc, envX_f, envX_t, atRec_is, isIns_is, isRc_is, isLst_is, insK_is, ↓wSortSet_eq, ↓wC_eq, ↓wRetV_eq, ↓wFrz_eq, isBox_eq, ↓wNil_eq, ↓wCons_eq, ↓wOp_eq, ↓wOpT_eq, ↓wUn_eq, ↓wCb_eq, ↓wCbT_eq, ↓wTest_eq, ↓wTru_eq, ↓wYes_eq, ↓wNot_eq, ↓wAnd_eq, ↓wOr_eq, ↓wAndV_eq, ↓wOrV_eq, ↓wNotV_eq, ↓wIf_eq, ↓wIfT_eq, ↓wChain_eq, ↓wLst_eq, ↓wTup_eq, ↓wNilT_eq, ↓wConsT_eq, ↓wLstT_eq, ↓wTupT_eq, ↓wSh_eq, ↓wFz_eq, ↓wVw_eq, ↓wVb_eq, ↓wVt_eq, view_nil, view_cons, view_no, view_box, view_is, ↓wCall_eq, ↓wCallT_eq, ↓wCallB_eq, ↓wCallBT_eq, ↓wIs_eq, ↓wNoPart_eq, ↓wPart_eq, ↓wSl_eq, ↓wSlT_eq, ↓wRevT_eq, ↓wRgL_eq, ↓wSkip_eq, ↓wBreak_eq, ↓wCont_eq, ↓wSeq_eq, ↓seq_nx, ↓seq_rt, ↓seq_bk, ↓seq_ct, ↓loop_nx, ↓loop_rt, ↓loop_bk, ↓loop_ct, ↓fn_nx, ↓fn_rt, ↓wRet_eq, ↓wRetN_eq, ↓wIfS_eq, ↓wAsgT_eq, ↓wAsg_eq, ↓wParN_eq, setsE_cons, setsE_nil, ↓wDrop_eq, ↓wName_eq, ↓wGNil_eq, ↓wGCons_eq, ↓wGTup_eq, ↓wApp_eq, ↓wRev_eq, ↓wClr_eq, ↓wExt_eq, ↓wSet_eq, ↓wPop_eq, ↓wipe_nil, ↓wipe_cons, env0_f, env0_t, atSh_is, atIs_is, atOwn_is, atBox_is, bIf_t, bIf_f, bIf_not, dBool_is, dInt_is, dTup_is, dList_is, dSeq_list, dSeq_tup, dSeq_seq, dTru_none, dTru_bool, dTru_int, dTru_list, dTru_tup, dCons_is, oI_int, oI0_int, oAdd_int, oAdd_list, oMul_int, oMul_list, oNeg_int, oEq_int, oEq_bool, oEq_nn, oEq_in, oEq_ni, oNe_int, oNe_bool, oNe_nn, oNe_in, oNe_ni, oEq_list, oNe_list, oEq_tup, oNe_tup, oEq_str, oNe_str, oIx_list, oIx_tup, oIx_seq, oLen_list, oLen_tup, oLen_seq, oInt_int, oInt_bool, oAbs_int, oMin2_int, oMax2_int, oAll_is, oSum_is, oListD_list, oListD_tup, oListD_seq, oTuple_list, oTuple_tup, oTuple_seq, oRepr_is, oIs_none, oIsNot_none, in_nats_t, in_nats_f, oIn_list, oIn_seq, oList_list, oList_tup, oList_seq, oCat_list, oRep_list, atI_l0, atI_l1, atI_l2, exists_eq_left', exists_eq_left, wPickT_eq, ↓wDNew_eq, ↓wDPut_eq, ↓wDList_eq, atDic_is, ↓wDGet_eq, ↓wDIn_eq, ↓wDNotIn_eq, ↓wDGet1_eq, ↓wD0_eq, ↓wDKeys_eq, ↓wDSort_eq, ↓wDSet_eq, ↓wLk_eq, ↓wKeys_eq, ↓wItems_eq, atD_own, atD_frz, atD_sh, atDO_is, atF_is, ↓wPop0_eq, ↓wSelf_eq, ↓wMove_eq, ↓wRetVT_eq, ↓wApp2_eq, ↓wSet2_eq, ↓wSetP_eq, ↓wAug_eq, oCount_list, ↓wRetPick_eq, oIsB_is, ↓wBmL_eq, oIndexS_is, ↓wAppPop_eq, ↓wAppPopT_eq, ↓wRev2_eq, oSumS_list, oSumS_tup, oSumS_seq, ↓wRetV2_eq, atOwnB_lst, atOwnB_tup, atL_int, mkT_t, mkT_f, w_take_is, w_same_is, notI_none, notI_bool, notI_int, notI_str, notI_list, notI_tup, notI_seq, isNone_none, isNone_bool, isNone_int, isNone_str, isNone_list, isNone_tup, isInt_none, isInt_bool, isInt_int, isInt_str, isInt_list, isInt_tup, isBool_none, isBool_bool, isBool_int, isBool_str, isBool_list, isBool_tup, isList_none, isList_bool, isList_int, isList_str, isList_list, isList_tup, isTuple_none, isTuple_bool, isTuple_int, isTuple_str, isTuple_list, isTuple_tup, isStr_none, isStr_bool, isStr_int, isStr_str, isStr_list, isStr_tup, isNone_seq, isList_seq, isTuple_seq, isInt_seq, isBool_seq, isStr_seq, dTru_seq, List.isEmpty_nil, List.isEmpty_cons, beq_self_eq_true, decide_true, decide_false, T.clean, T.cleans, T.data, T.datas, imm, immAll, List.getElem?_cons_zero, List.getElem?_cons_succ, List.set_cons_zero, List.set_cons_succ, List.map_cons, List.map_nil, List.cons_append, List.nil_append, List.replicate_succ, List.replicate_zero, List.length_cons, List.length_nil, List.length_map, if_true, if_false, Bool.true_and, Bool.and_true, Bool.false_and, Bool.and_false, Bool.not_true, Bool.not_false, Bool.or_true, Bool.true_or, Bool.false_or, Bool.or_false, Bool.false_eq_true, reduceIte, reduceCtorEq, true_and, and_true, Option.some.injEq, Nat.reduceAdd, Nat.reduceLeDiff, Int.reduceLE, Int.reduceLT, Int.cast_ofNat_Int, Int.reduceBEq, Int.reduceToNat])
def wCame : WS := wFrz 5 (wFor (wIt (wVar 5)) (wName 8)
 (wAsg (wVw (wOp oAdd (wVar 13) (wCb oSumS (wCons (wLc (wIt (wVar 8)) (wName 14) (wTest (wOp oEq (wSlU (wVar 14) wNoPart (wPart (wC (.int 2)))) (wTup (wCons (wVar 9) (wCons (wVar 11) wNil))))) (wOp oIx (wVar 14) (wC (.int 2))) [14]) wNil)))) (wName 13)))
def wSums : WS := (wFor (wEnum (wOp oIx (wVar 1) (wC (.int 1)))) (wGTup 2 (wGCons (wName 9) (wGCons (wName 10) wGNil)))
 (wFor (wEnum (wVar 10)) (wGTup 2 (wGCons (wName 11) (wGCons (wName 12) wGNil)))
 (wSeq (wAsg (wC (.int 0)) (wName 13))
 (wSeq wCame
 (wIfS (wTest (wOp oNe (wVar 13) (wVar 12)))
 (wRet (wSh (wC (.bool false))))
 wSkip)))))
section
variable {n m b N : Nat} {h : Str} {M : NMat} {a : Addr} {D : EW} {s0 s2 s3 x4 x6 x7 x8 x9 x10 x11 x12 x13 x14 : Sl} {L : PyData}
theorem came_spec {t5 : T} {i j : Nat} (h5 : t5.data = arrD h b M) (hl : M.length ≤ 12) (hr : ∀ r ∈ M, r.length ≤ 12) (hb2 : b ≤ 1000) (hx : ∀ y8 y14, D.nx [s0, .is (.shr a L), s2, s3, x4, .is (.sh (arrD h b M)), x6, x7, y8, .is (.sh (.int (i : Int))), x10, .is (.sh (.int (j : Int))), x12, .is (.sh (.int (arrK (arrN h b M) b i j))), y14] N) :
    wCame D [s0, .is (.shr a L), s2, s3, x4, .is t5, x6, x7, x8, .is (.sh (.int (i : Int))), x10, .is (.sh (.int (j : Int))), x12, .is (.sh (.int 0)), x14] N := by
  unfold wCame
  sizeOf_list_dec
  rw [h5]
  have hlen : (arrN h b M).length = b := by unfold arrN; rw [List.length_map, List.length_range]
  refine for_f (arrN h b M) (fun cs => .list (cs.map fun t => triA t.1 t.2.1 t.2.2)) (fun k ε M' => M' = N ∧ ∃ y8 y14, ε = [s0, .is (.shr a L), s2, s3, x4, .is (.sh (arrD h b M)), x6, x7, y8, .is (.sh (.int (i : Int))), x10, .is (.sh (.int (j : Int))), x12, .is (.sh (.int (arrK (arrN h b M) k i j))), y14]) (gv_it (d := arrD h b M) (fun R h => by sizeOf_list_dec; exact h) rfl) ⟨rfl, _, _, rfl⟩ (fun k cs ε M' hk hI => ?_) fun ε M' hI => ?_
  · obtain ⟨rfl, y8, y14, rfl⟩ := hI
    have hcs : cs.length ≤ 144 := by
      have := List.mem_of_getElem? hk
      unfold arrN at this
      obtain ⟨t, _, rfl⟩ := List.mem_map.mp this
      refine cells_len (by unfold atM; rw [List.length_map]; exact hl) fun r hr2 => ?_
      unfold atM at hr2
      obtain ⟨q, hq, rfl⟩ := List.mem_map.mp hr2
      rw [List.length_map]
      exact hr q hq
    rw [arrK_succ hk]
    sizeOf_list_dec
    refine lc_f cs (fun t => triA t.1 t.2.1 t.2.2) (fun t => if t.1 = i ∧ t.2.1 = j then some (.int (t.2.2 : Int)) else none) (gv_it (d := .list (cs.map fun t => triA t.1 t.2.1 t.2.2)) (fun R h => by sizeOf_list_dec; exact h) rfl) (by omega) (fun t A B ht hA hB => ?_) ?_
    · unfold triA
      sizeOf_list_dec
      have st : ∀ x y : Nat, SeqAt.shaped (PyData.tuple [PyData.int (x : Int), .int (y : Int)]) = true := fun x y => (Shp.tuple (n := 1) (all_cons (Shp.int _) (all_cons (Shp.int _) all_nil))).shaped (by decide)
      rw [show cutG [PyData.int (t.1 : Int), .int (t.2.1 : Int), .int (t.2.2 : Int)] none (some 2) = [.int (t.1 : Int), .int (t.2.1 : Int)] from rfl, eqv_two]
      exact ⟨by decide, st _ _, st _ _, bIf_dec (fun e => hA _ (if_pos e)) fun e => hB (if_neg e)⟩
    · have e : cs.filterMap (fun t => if t.1 = i ∧ t.2.1 = j then some (PyData.int (t.2.2 : Int)) else none) = (cs.filterMap fun t => if t.1 = i ∧ t.2.1 = j then some (t.2.2 : Int) else none).map PyData.int := by
        rw [List.map_filterMap]
        congr 1
        funext t
        split <;> rfl
      rw [e]
      sizeOf_list_dec
      rw [sum_pick]
      exact ⟨_, _, rfl⟩
  · obtain ⟨rfl, y8, y14, rfl⟩ := hI
    rw [hlen]
    exact hx _ _
theorem sums_spec {t5 : T} (h5 : t5.data = arrD h b M) (hM : SzN n m M) (hn : n ≤ 12) (hm : m ≤ 12) (hb : 1 ≤ b) (hb2 : b ≤ 1000) (hx : ∀ y5 y8 y9 y10 y11 y12 y13 y14, D.nx [s0, .is (.shr a (.tuple [.int (b : Int), nmD true true M])), s2, s3, x4, y5, x6, x7, y8, y9, y10, y11, y12, y13, y14] N) :
    wSums D [s0, .is (.shr a (.tuple [.int (b : Int), nmD true true M])), s2, s3, x4, .is t5, x6, x7, x8, x9, x10, x11, x12, x13, x14] N := by
  have hl : M.length ≤ 12 := by have := hM.1; omega
  have hr : ∀ r ∈ M, r.length ≤ 12 := fun r hr => by have := hM.2 r hr; omega
  unfold wSums
  refine for_f M.zipIdx (fun p => .tuple [.int (p.2 : Nat), seqD true (p.1.map nD)]) (fun k ε M2 => M2 = N ∧ ∃ t5 x8 x9 x10 x11 x12 x13 x14, T.data t5 = arrD h b M ∧ ε = [s0, .is (.shr a (.tuple [.int (b : Int), nmD true true M])), s2, s3, x4, .is t5, x6, x7, x8, x9, x10, x11, x12, x13, x14]) (by
    rw [← enum_map (fun r : List Nat => seqD true (r.map nD))]
    exact gv_en (d := nmD true true M) (fun R h => by sizeOf_list_dec; exact h) (seqOf_seqD true _)) ⟨rfl, _, _, _, _, _, _, _, _, h5, rfl⟩ (fun k p ε M2 hk hI => ?_) fun ε M2 hI => ?_
  · obtain ⟨rfl, t5, x8, x9, x10, x11, x12, x13, x14, h5, rfl⟩ := hI
    have hp := List.mem_zipIdx (List.mem_of_getElem? hk)
    have hpn : p.2 < M.length := by have := hp.2.1; omega
    have hp1 : M[p.2]? = some p.1 := by
      rw [List.getElem?_eq_getElem hpn, hp.2.2]
      rfl
    sizeOf_list_dec
    refine for_f p.1.zipIdx (fun q => .tuple [.int (q.2 : Nat), nD q.1]) (fun l ε M3 => M3 = M2 ∧ ∃ t5 x8 x11 x12 x13 x14, T.data t5 = arrD h b M ∧ ε = [s0, .is (.shr a (.tuple [.int (b : Int), nmD true true M])), s2, s3, x4, .is t5, x6, x7, x8, .is (.sh (.int (p.2 : Nat))), .is (.sh (seqD true (p.1.map nD))), x11, x12, x13, x14]) (by
      rw [← enum_map nD]
      exact gv_en (d := seqD true (p.1.map nD)) (fun R h => by sizeOf_list_dec; exact h) (seqOf_seqD true _)) ⟨rfl, _, _, _, _, _, _, h5, rfl⟩ (fun l q ε M3 hq hI => ?_) fun ε M3 hI => ?_
    · obtain ⟨rfl, t5, x8, x11, x12, x13, x14, h5, rfl⟩ := hI
      have hq2 := List.mem_zipIdx (List.mem_of_getElem? hq)
      have hqn : q.2 < p.1.length := by have := hq2.2.1; omega
      have hq1 : p.1[q.2]? = some q.1 := by
        rw [List.getElem?_eq_getElem hqn, hq2.2.2]
        rfl
      have hpl := hM.2 _ (List.mem_of_getElem? hp1)
      have hi : p.2 < n := by rw [← hM.1]; exact hpn
      have hj : q.2 < m := by rw [← hpl]; exact hqn
      have hcell : cellN M p.2 q.2 = q.1 := by
        unfold cellN
        rw [List.getD_eq_getElem?_getD (l := M), hp1]
        show p.1.getD q.2 0 = _
        rw [List.getD_eq_getElem?_getD, hq1]
        rfl
      sizeOf_list_dec
      refine came_spec h5 hl hr hb2 fun y8 y14 => ?_
      rw [arrK_all hb hM hi hj, hcell]
      unfold nD
      sizeOf_list_dec
      exact ⟨.sh (arrD h b M), _, _, _, _, _, rfl, rfl⟩
    · obtain ⟨rfl, t5, x8, x11, x12, x13, x14, h5, rfl⟩ := hI
      exact ⟨rfl, _, _, _, _, _, _, _, _, h5, rfl⟩
  · obtain ⟨rfl, t5, x8, x9, x10, x11, x12, x13, x14, h5, rfl⟩ := hI
    exact hx _ _ _ _ _ _ _ _
end
end K87

set_option Elab.async false
set_option linter.all false
set_option maxRecDepth 100000
set_option maxHeartbeats 1000000
namespace K87
open PySem PySem.Spec PyProof.Rows L2 Evl Cg
local macro_rules
  | `(tactic| sizeOf_list_dec) => `(tactic| simp (config := {failIfUnchanged := false}) only [↓wVwB_eq, ↓wVtB_eq, ↓wVbB_eq, ↓wAlPick_eq, ↓wBlk_eq, ↓blk_nx, ↓blk_rt, ↓blk_w, cleanE_nil, cleanE_cons, cln_no, cln_box, cln_pin, cln_is, atSh_shr, ↓wPTa_eq, ↓wLendA_eq, lendV_nil, lendV_cons, lendK_0, lendK_s, viewK_nil, viewK_cons, vk_pin, vk_is, vk_no, vk_box, ↓wAlUnp_eq, isTp2_tup, isTp2_tpa, root_tpa, nm_tup, nm_tpa, fg_tpa, kids_tpa, rekid_tpa, outK_tpa, ↓wDctP_eq, ↓wDctI_eq, isDct_is, ↓wPD_eq, ↓wDcSet_eq, ↓wDcSetX_eq, ↓wKdD_eq, ↓wInD_eq, ↓wGetD_eq, atDct_is, root_dct, nm_dct, kids_dct, rekid_dct, outK_dct, outG_dct, ↓wCallNE_eq, ↓wCallNT_eq, ↓wCallN_eq, ↓wCallDT_eq, ↓wCallD_eq, ↓wPlInsT_eq, ↓wPR_eq, ↓wPlSl_eq, sh_is, ↓wKUp_eq, ↓wKUpX_eq, rcK_is, ↓wLenSetU_eq, ↓wSlU_eq, ↓wEOp_eq, ↓wNotKD_eq, ↓wDisp_eq, ↓wWk_eq, ↓wk_nx, ↓wk_rt, ↓wk_rx, ↓wk_xe, ↓wk_w, ↓wTupC_eq, kids_tup, rekid_tup, ↓wFgE_eq, ↓fgE_nx, ↓fgE_rt, ↓fgE_rx, ↓fgE_xe, ↓fgE_w, ↓wFgJ_eq, ↓fgJ_nx, ↓fgJ_rt, ↓fgJ_rx, ↓fgJ_xe, ↓fgJ_w, ↓wEqI_eq, ↓wIsI_eq, ↓wPT_eq, ↓wXCallK_eq, ↓wXTupO_eq, ↓wXLstO_eq, ↓wXRcO_eq, ↓wAsgX2_eq, ↓wForPl_eq, ↓wPls_nil, ↓wPls_cons, ↓runP_nil, ↓runP_cons, ↓wPlRev_eq, ↓wPlRem_eq, ↓wAlME_eq, ↓wPlExtO_eq, ↓wSetPlT_eq, qD_eq, qX_eq, ↓wRaise_eq, ↓wXN_eq, ↓wMethE_eq, ↓wCallXE_eq, ↓wCallE_eq, ↓wMethVE_eq, ↓wMethVVE_eq, ↓wCallVE_eq, immX_fly, ↓wEF_eq, ↓wEIf_eq, ↓wAsgE_eq, ↓wDropE_eq, ↓wRetE_eq, ↓wRetEV_eq, ↓wAsgEG_eq, ↓wIsX_eq, ↓wIsXT_eq, ↓wIsB_eq, ↓wWhat_eq, ↓wTryK_eq, ↓tr_w, ↓tr_nx, ↓tr_rt, ↓tr_rx, ↓tr_xe, ↓seq_xe, ↓seq_w, ↓loop_xe, ↓loop_w, ↓fnE_nx, ↓fnE_rt, ↓fnE_xe, ↓fnE_w, ↓fnXE_nx, ↓fnXE_rx, ↓fnXE_xe, ↓fnXE_w, ↓wPlIns_eq, ↓wXLc_eq, ↓wTmpClr_eq, ↓wKSet_eq, rcK_is, ↓wLenI_eq, ↓wFAug_eq, ↓wAppX_eq, ↓wRgL2_eq, ↓wSetPlN_eq, ↓wParAl_eq, oMin3_int, ↓wXTake_eq, ↓wXCallM_eq, ↓wDictP_eq, ↓wDGet2_eq, oAnyI_list, ↓wVwA_eq, ↓wVbA_eq, ↓wVtA_eq, viewA_nil, viewA_cons, ↓wPA_eq, atPin_is, ↓wAl_eq, ↓wLend_eq, lend_0, lend_s, ↓wPlApp_eq, ↓wPlExt_eq, ↓wPlPop_eq, ↓wAppMv_eq, ↓wNm_eq, ↓wPlClr_eq, fg_lst, fg_lsa, fg_tup, fg_ins, nm_lst, nm_lsa, nm_ins, root_lsa, root_ins, root_rc, kids_lsa, rekid_lsa, outK_lsa, isLst_a, view_pin, oStr_list, oStr_tup, ↓wLenSet_eq, ↓wXOp_eq, ↓wXCb_eq, ↓wXUn_eq, ↓wXLst_eq, ↓wXTup_eq, ↓wXCall_eq, ↓wXCallB_eq, ↓wXMeth_eq, ↓wXMethV_eq, ↓wXB_eq, ↓wXTest_eq, ↓wXTru_eq, ↓wXNot_eq, ↓wXAnd_eq, ↓wXOr_eq, ↓wXIfS_eq, ↓wXAndV_eq, ↓wXOrV_eq, ↓wXNotV_eq, ↓wXIf_eq, ↓wRetXV_eq, ↓wAsgXG_eq, ↓wForX_eq, shT_is, allSh_nil, allSh_cons, ↓wVar_eq, ↓wFd_eq, ↓wKd_eq, ↓wPV_eq, ↓wPF_eq, ↓wPK_eq, ↓wPI_eq, atPl_eq, atT_is, atO_some, atP_nil, atP_cons, bindP_some, putAt_eq, setT_is, putP_nil, putP_cons, putO_some, kids_lst, kids_ins, kids_rc, rekid_lst, rekid_ins, rekid_rc, ↓wXT_eq, ↓wXF_eq, ↓wXNil_eq, ↓wXCons_eq, ↓wAsgX_eq, ↓wDropX_eq, ↓wRetX_eq, ↓wRetNX_eq, ↓wRetVX_eq, ↓wParX_eq, ↓wSetPl_eq, ↓wFSet_eq, ↓wFNew_eq, ↓wRc_eq, ↓wMeth_eq, ↓wMethV_eq, ↓wApP_eq, ↓wApC_eq, ↓wCallX_eq, ↓wCallXB_eq, ↓wMake_eq, ↓wAppOwn_eq, ↓fnG_nx, ↓fnG_rx, outG_nil, outG_0, outG_2, outG_ins, outG_lsa, kept_nil, kept_0, kept_1, kept_2, ↓wXCallG_eq, ↓wXCallGB_eq, ↓wXCallR_eq, ↓wXCallRB_eq, backE_nil, backE_some, backE_none, ↓fnX_nx, ↓fnX_rx, ↓seq_rx, ↓loop_rx, dropB_f, dropB_t, outK_nil, outK_f, outK_ins, outK_rc, envX_f, envX_t, atRec_is, isIns_is, isRc_is, isLst_is, insK_is, ↓wSortSet_eq, ↓wC_eq, ↓wRetV_eq, ↓wFrz_eq, isBox_eq, ↓wNil_eq, ↓wCons_eq, ↓wOp_eq, ↓wOpT_eq, ↓wUn_eq, ↓wCb_eq, ↓wCbT_eq, ↓wTest_eq, ↓wTru_eq, ↓wYes_eq, ↓wNot_eq, ↓wAnd_eq, ↓wOr_eq, ↓wAndV_eq, ↓wOrV_eq, ↓wNotV_eq, ↓wIf_eq, ↓wIfT_eq, ↓wChain_eq, ↓wLst_eq, ↓wTup_eq, ↓wNilT_eq, ↓wConsT_eq, ↓wLstT_eq, ↓wTupT_eq, ↓wSh_eq, ↓wFz_eq, ↓wVw_eq, ↓wVb_eq, ↓wVt_eq, view_nil, view_cons, view_no, view_box, view_is, ↓wCall_eq, ↓wCallT_eq, ↓wCallB_eq, ↓wCallBT_eq, ↓wIs_eq, ↓wNoPart_eq, ↓wPart_eq, ↓wSl_eq, ↓wSlT_eq, ↓wRevT_eq, ↓wRgL_eq, ↓wSkip_eq, ↓wBreak_eq, ↓wCont_eq, ↓wSeq_eq, ↓seq_nx, ↓seq_rt, ↓seq_bk, ↓seq_ct, ↓loop_nx, ↓loop_rt, ↓loop_bk, ↓loop_ct, ↓fn_nx, ↓fn_rt, ↓wRet_eq, ↓wRetN_eq, ↓wIfS_eq, ↓wAsgT_eq, ↓wAsg_eq, ↓wParN_eq, setsE_cons, setsE_nil, ↓wDrop_eq, ↓wName_eq, ↓wGNil_eq, ↓wGCons_eq, ↓wGTup_eq, ↓wApp_eq, ↓wRev_eq, ↓wClr_eq, ↓wExt_eq, ↓wSet_eq, ↓wPop_eq, ↓wipe_nil, ↓wipe_cons, env0_f, env0_t, atSh_is, atIs_is, atOwn_is, atBox_is, bIf_t, bIf_f, bIf_not, dBool_is, dInt_is, dTup_is, dList_is, dSeq_list, dSeq_tup, dSeq_seq, dTru_none, dTru_bool, dTru_int, dTru_list, dTru_tup, dCons_is, oI_int, oI0_int, oAdd_int, oAdd_list, oMul_int, oMul_list, oNeg_int, oEq_int, oEq_bool, oEq_nn, oEq_in, oEq_ni, oNe_int, oNe_bool, oNe_nn, oNe_in, oNe_ni, oEq_list, oNe_list, oEq_tup, oNe_tup, oEq_str, oNe_str, oIx_list, oIx_tup, oIx_seq, oLen_list, oLen_tup, oLen_seq, oInt_int, oInt_bool, oAbs_int, oMin2_int, oMax2_int, oAll_is, oSum_is, oListD_list, oListD_tup, oListD_seq, oTuple_list, oTuple_tup, oTuple_seq, oRepr_is, oIs_none, oIsNot_none, in_nats_t, in_nats_f, oIn_list, oIn_seq, oList_list, oList_tup, oList_seq, oCat_list, oRep_list, atI_l0, atI_l1, atI_l2, exists_eq_left', exists_eq_left, wPickT_eq, ↓wDNew_eq, ↓wDPut_eq, ↓wDList_eq, atDic_is, ↓wDGet_eq, ↓wDIn_eq, ↓wDNotIn_eq, ↓wDGet1_eq, ↓wD0_eq, ↓wDKeys_eq, ↓wDSort_eq, ↓wDSet_eq, ↓wLk_eq, ↓wKeys_eq, ↓wItems_eq, atD_own, atD_frz, atD_sh, atDO_is, atF_is, ↓wPop0_eq, ↓wSelf_eq, ↓wMove_eq, ↓wRetVT_eq, ↓wApp2_eq, ↓wSet2_eq, ↓wSetP_eq, ↓wAug_eq, oCount_list, ↓wRetPick_eq, oIsB_is, ↓wBmL_eq, oIndexS_is, ↓wAppPop_eq, ↓wAppPopT_eq, ↓wRev2_eq, oSumS_list, oSumS_tup, oSumS_seq, ↓wRetV2_eq, atOwnB_lst, atOwnB_tup, atL_int, mkT_t, mkT_f, w_take_is, w_same_is, notI_none, notI_bool, notI_int, notI_str, notI_list, notI_tup, notI_seq, isNone_none, isNone_bool, isNone_int, isNone_str, isNone_list, isNone_tup, isInt_none, isInt_bool, isInt_int, isInt_str, isInt_list, isInt_tup, isBool_none, isBool_bool, isBool_int, isBool_str, isBool_list, isBool_tup, isList_none, isList_bool, isList_int, isList_str, isList_list, isList_tup, isTuple_none, isTuple_bool, isTuple_int, isTuple_str, isTuple_list, isTuple_tup, isStr_none, isStr_bool, isStr_int, isStr_str, isStr_list, isStr_tup, isNone_seq, isList_seq, isTuple_seq, isInt_seq, isBool_seq, isStr_seq, dTru_seq, List.isEmpty_nil, List.isEmpty_cons, beq_self_eq_true, decide_true, decide_false, T.clean, T.cleans, T.data, T.datas, imm, immAll, List.getElem?_cons_zero, List.getElem?_cons_succ, List.set_cons_zero, List.set_cons_succ, List.map_cons, List.map_nil, List.cons_append, List.nil_append, List.replicate_succ, List.replicate_zero, List.length_cons, List.length_nil, List.length_map, if_true, if_false, Bool.true_and, Bool.and_true, Bool.false_and, Bool.and_false, Bool.not_true, Bool.not_false, Bool.or_true, Bool.true_or, Bool.false_or, Bool.or_false, Bool.false_eq_true, reduceIte, reduceCtorEq, true_and, and_true, Option.some.injEq, Nat.reduceAdd, Nat.reduceLeDiff, Int.reduceLE, Int.reduceLT, Int.cast_ofNat_Int, Int.reduceBEq, Int.reduceToNat])
def wSpoil : WS := (wForA 7 (gOne 7 8)
 (wDropX (wPlApp 7 (wPA 8 7) (wSh (wTup (wCons (wC (.int 0)) (wCons (wC (.int 0)) (wCons (wC (.int 0)) wNil))))))))
section
variable {D : EW} {M : Nat} {s0 s1 s2 s3 s4 s5 s6 x8 s9 s10 s11 s12 s13 s14 : Sl}
theorem spoil_spec {us0 : List T} {L : List (List (Nat × Nat × Nat))} (hu0 : us0 = L.map fun cs => T.lst (cs.map triT)) (hz : ∀ x ∈ L, x.length ≤ 1000) (h : ∀ ts y8, ts.length = L.length → D.nx [s0, s1, s2, s3, s4, s5, s6, .is (.lst ts), y8, s9, s10, s11, s12, s13, s14] M) :
    wSpoil D [s0, s1, s2, s3, s4, s5, s6, .is (.lst us0), x8, s9, s10, s11, s12, s13, s14] M := by
  subst hu0
  unfold wSpoil
  rw [wForA_eq]
  sizeOf_list_dec
  refine ⟨fun q ε M' => M' = M ∧ ∃ ts y8, ε = [s0, s1, s2, s3, s4, s5, s6, .is (.lst ts), y8, s9, s10, s11, s12, s13, s14] ∧ ts.length = L.length ∧ ∀ i, q ≤ i → ts[i]? = (L.map fun cs => T.lst (cs.map triT))[i]?, ⟨rfl, _, _, rfl, by rw [List.length_map], fun _ _ => rfl⟩, fun q ε M' hI => ?_, fun q ε M' hq hI => ?_, fun ε M' hI => ?_⟩
  · obtain ⟨rfl, ts, y8, rfl, hl, _⟩ := hI
    exact ⟨ts, rfl, hl⟩
  · obtain ⟨rfl, ts, y8, rfl, hl, hi⟩ := hI
    obtain ⟨cs, hcs⟩ : ∃ cs, L[q]? = some cs := ⟨_, List.getElem?_eq_getElem hq⟩
    have hts : ts[q]? = some (.lst (cs.map triT)) := by
      rw [hi q (Nat.le_refl _), List.getElem?_map, hcs]
      rfl
    sizeOf_list_dec
    intro a
    show ∃ s, ts[q]? = some s ∧ ∀ b, ∃ x, (s.nm b).root = some x ∧ _
    refine ⟨_, hts, fun b => ⟨b, rfl, ?_⟩⟩
    sizeOf_list_dec
    have hql : q < ts.length := by omega
    have hu : (ts.set q (T.lsa b (cs.map triT)))[q]? = some (.lsa b (cs.map triT)) := List.getElem?_set_self hql
    have h0 : atP [q] (T.lsa a (ts.set q (.lsa b (cs.map triT)))) = some (.lsa b (cs.map triT)) := by
      rw [atP_cons, kids_lsa, hu]
      rfl
    have p0 : ∀ y : T, putO (ts.set q (T.lsa b (cs.map triT)))[q]? (T.lsa a (ts.set q (.lsa b (cs.map triT)))) q [] y = T.lsa a (ts.set q y) := fun y => by
      rw [hu]
      show T.lsa a ((ts.set q _).set q y) = _
      rw [List.set_set]
    refine ⟨[q], ?_⟩
    refine ⟨by rw [h0]; rfl, ?_⟩
    rw [h0]
    sizeOf_list_dec
    rw [p0]
    have hc := hz cs (List.mem_of_getElem? hcs)
    refine ⟨by omega, _, rfl, rfl, _, _, rfl, by rw [List.length_map, List.length_set, hl], fun i hiq => ?_⟩
    rw [List.getElem?_map, List.getElem?_set_ne (by omega), hi i (by omega), List.getElem?_map]
    cases L[i]? <;> rfl
  · obtain ⟨rfl, ts, y8, rfl, hl, hi⟩ := hI
    exact h _ _ hl
/-- what is handed in: the load itself by another name, or its numbers as tuples -/
def Hd (y : T) (b : Nat) (M : NMat) (s2 : Sl) (d2 : PyData) : Prop := (∃ a, y.root = some a ∧ s2 = .pin a ∧ d2 = y.data) ∨ s2 = .is (.sh d2) ∧ imm d2 = true
theorem view2 {y : T} {b : Nat} {NM : NMat} {s2 : Sl} {d2 : PyData} {x0 y0 y1 : Sl} {rest rest' : Cg.Env} {k : Cg.Env → Prop} (hd : Hd y b NM s2 d2) (h : k (y0 :: y1 :: .is (.sh d2) :: rest')) : viewB (x0 :: .is y :: s2 :: rest) [(2, 1)] (y0 :: y1 :: s2.view :: rest') k := by
  rw [viewB_cons]
  rcases hd with ⟨a, hr, rfl, rfl⟩ | ⟨rfl, _⟩
  · refine .inr ?_
    show ∃ π, atPl _ 1 π _
    refine ⟨[], ?_⟩
    show y.root = some a ∧ viewB _ [] (y0 :: y1 :: .is (.sh y.data) :: rest') k
    exact ⟨hr, h⟩
  · exact .inl h
theorem Hd.cln {y : T} {b : Nat} {NM : NMat} {s2 : Sl} {d2 : PyData} (hd : Hd y b NM s2 d2) : s2.cln = true := by
  rcases hd with ⟨a, _, rfl, _⟩ | ⟨rfl, h⟩
  · rfl
  · exact h
end
end K87

set_option Elab.async false
set_option linter.all false
set_option maxRecDepth 100000
set_option maxHeartbeats 1000000
namespace K87
open PySem PySem.Spec PyProof.Rows L2 Evl Cg
local macro_rules
  | `(tactic| sizeOf_list_dec) => `(tactic| simp (config := {failIfUnchanged := false}) only [↓wVwB_eq, ↓wVtB_eq, ↓wVbB_eq, ↓wAlPick_eq, ↓wBlk_eq, ↓blk_nx, ↓blk_rt, ↓blk_w, cleanE_nil, cleanE_cons, cln_no, cln_box, cln_pin, cln_is, atSh_shr, ↓wPTa_eq, ↓wLendA_eq, lendV_nil, lendV_cons, lendK_0, lendK_s, viewK_nil, viewK_cons, vk_pin, vk_is, vk_no, vk_box, ↓wAlUnp_eq, isTp2_tup, isTp2_tpa, root_tpa, nm_tup, nm_tpa, fg_tpa, kids_tpa, rekid_tpa, outK_tpa, ↓wDctP_eq, ↓wDctI_eq, isDct_is, ↓wPD_eq, ↓wDcSet_eq, ↓wDcSetX_eq, ↓wKdD_eq, ↓wInD_eq, ↓wGetD_eq, atDct_is, root_dct, nm_dct, kids_dct, rekid_dct, outK_dct, outG_dct, ↓wCallNE_eq, ↓wCallNT_eq, ↓wCallN_eq, ↓wCallDT_eq, ↓wCallD_eq, ↓wPlInsT_eq, ↓wPR_eq, ↓wPlSl_eq, sh_is, ↓wKUp_eq, ↓wKUpX_eq, rcK_is, ↓wLenSetU_eq, ↓wSlU_eq, ↓wEOp_eq, ↓wNotKD_eq, ↓wDisp_eq, ↓wWk_eq, ↓wk_nx, ↓wk_rt, ↓wk_rx, ↓wk_xe, ↓wk_w, ↓wTupC_eq, kids_tup, rekid_tup, ↓wFgE_eq, ↓fgE_nx, ↓fgE_rt, ↓fgE_rx, ↓fgE_xe, ↓fgE_w, ↓wFgJ_eq, ↓fgJ_nx, ↓fgJ_rt, ↓fgJ_rx, ↓fgJ_xe, ↓fgJ_w, ↓wEqI_eq, ↓wIsI_eq, ↓wPT_eq, ↓wXCallK_eq, ↓wXTupO_eq, ↓wXLstO_eq, ↓wXRcO_eq, ↓wAsgX2_eq, ↓wForPl_eq, ↓wPls_nil, ↓wPls_cons, ↓runP_nil, ↓runP_cons, ↓wPlRev_eq, ↓wPlRem_eq, ↓wAlME_eq, ↓wPlExtO_eq, ↓wSetPlT_eq, qD_eq, qX_eq, ↓wRaise_eq, ↓wXN_eq, ↓wMethE_eq, ↓wCallXE_eq, ↓wCallE_eq, ↓wMethVE_eq, ↓wMethVVE_eq, ↓wCallVE_eq, immX_fly, ↓wEF_eq, ↓wEIf_eq, ↓wAsgE_eq, ↓wDropE_eq, ↓wRetE_eq, ↓wRetEV_eq, ↓wAsgEG_eq, ↓wIsX_eq, ↓wIsXT_eq, ↓wIsB_eq, ↓wWhat_eq, ↓wTryK_eq, ↓tr_w, ↓tr_nx, ↓tr_rt, ↓tr_rx, ↓tr_xe, ↓seq_xe, ↓seq_w, ↓loop_xe, ↓loop_w, ↓fnE_nx, ↓fnE_rt, ↓fnE_xe, ↓fnE_w, ↓fnXE_nx, ↓fnXE_rx, ↓fnXE_xe, ↓fnXE_w, ↓wPlIns_eq, ↓wXLc_eq, ↓wTmpClr_eq, ↓wKSet_eq, rcK_is, ↓wLenI_eq, ↓wFAug_eq, ↓wAppX_eq, ↓wRgL2_eq, ↓wSetPlN_eq, ↓wParAl_eq, oMin3_int, ↓wXTake_eq, ↓wXCallM_eq, ↓wDictP_eq, ↓wDGet2_eq, oAnyI_list, ↓wVwA_eq, ↓wVbA_eq, ↓wVtA_eq, viewA_nil, viewA_cons, ↓wPA_eq, atPin_is, ↓wAl_eq, ↓wLend_eq, lend_0, lend_s, ↓wPlApp_eq, ↓wPlExt_eq, ↓wPlPop_eq, ↓wAppMv_eq, ↓wNm_eq, ↓wPlClr_eq, fg_lst, fg_lsa, fg_tup, fg_ins, nm_lst, nm_lsa, nm_ins, root_lsa, root_ins, root_rc, kids_lsa, rekid_lsa, outK_lsa, isLst_a, view_pin, oStr_list, oStr_tup, ↓wLenSet_eq, ↓wXOp_eq, ↓wXCb_eq, ↓wXUn_eq, ↓wXLst_eq, ↓wXTup_eq, ↓wXCall_eq, ↓wXCallB_eq, ↓wXMeth_eq, ↓wXMethV_eq, ↓wXB_eq, ↓wXTest_eq, ↓wXTru_eq, ↓wXNot_eq, ↓wXAnd_eq, ↓wXOr_eq, ↓wXIfS_eq, ↓wXAndV_eq, ↓wXOrV_eq, ↓wXNotV_eq, ↓wXIf_eq, ↓wRetXV_eq, ↓wAsgXG_eq, ↓wForX_eq, shT_is, allSh_nil, allSh_cons, ↓wVar_eq, ↓wFd_eq, ↓wKd_eq, ↓wPV_eq, ↓wPF_eq, ↓wPK_eq, ↓wPI_eq, atPl_eq, atT_is, atO_some, atP_nil, atP_cons, bindP_some, putAt_eq, setT_is, putP_nil, putP_cons, putO_some, kids_lst, kids_ins, kids_rc, rekid_lst, rekid_ins, rekid_rc, ↓wXT_eq, ↓wXF_eq, ↓wXNil_eq, ↓wXCons_eq, ↓wAsgX_eq, ↓wDropX_eq, ↓wRetX_eq, ↓wRetNX_eq, ↓wRetVX_eq, ↓wParX_eq, ↓wSetPl_eq, ↓wFSet_eq, ↓wFNew_eq, ↓wRc_eq, ↓wMeth_eq, ↓wMethV_eq, ↓wApP_eq, ↓wApC_eq, ↓wCallX_eq, ↓wCallXB_eq, ↓wMake_eq, ↓wAppOwn_eq, ↓fnG_nx, ↓fnG_rx, outG_nil, outG_0, outG_2, outG_ins, outG_lsa, kept_nil, kept_0, kept_1, kept_2, ↓wXCallG_eq, ↓wXCallGB_eq, ↓wXCallR_eq, ↓wXCallRB_eq, backE_nil, backE_some, backE_none, ↓fnX_nx, ↓fnX_rx, ↓seq_rx, ↓loop_rx, dropB_f, dropB_t, outK_nil, outK_f, outK_ins, outK_rc, envX_f, envX_t, atRec_is, isIns_is, isRc_is, isLst_is, insK_is, ↓wSortSet_eq, ↓wC_eq, ↓wRetV_eq, ↓wFrz_eq, isBox_eq, ↓wNil_eq, ↓wCons_eq, ↓wOp_eq, ↓wOpT_eq, ↓wUn_eq, ↓wCb_eq, ↓wCbT_eq, ↓wTest_eq, ↓wTru_eq, ↓wYes_eq, ↓wNot_eq, ↓wAnd_eq, ↓wOr_eq, ↓wAndV_eq, ↓wOrV_eq, ↓wNotV_eq, ↓wIf_eq, ↓wIfT_eq, ↓wChain_eq, ↓wLst_eq, ↓wTup_eq, ↓wNilT_eq, ↓wConsT_eq, ↓wLstT_eq, ↓wTupT_eq, ↓wSh_eq, ↓wFz_eq, ↓wVw_eq, ↓wVb_eq, ↓wVt_eq, view_nil, view_cons, view_no, view_box, view_is, ↓wCall_eq, ↓wCallT_eq, ↓wCallB_eq, ↓wCallBT_eq, ↓wIs_eq, ↓wNoPart_eq, ↓wPart_eq, ↓wSl_eq, ↓wSlT_eq, ↓wRevT_eq, ↓wRgL_eq, ↓wSkip_eq, ↓wBreak_eq, ↓wCont_eq, ↓wSeq_eq, ↓seq_nx, ↓seq_rt, ↓seq_bk, ↓seq_ct, ↓loop_nx, ↓loop_rt, ↓loop_bk, ↓loop_ct, ↓fn_nx, ↓fn_rt, ↓wRet_eq, ↓wRetN_eq, ↓wIfS_eq, ↓wAsgT_eq, ↓wAsg_eq, ↓wParN_eq, setsE_cons, setsE_nil, ↓wDrop_eq, ↓wName_eq, ↓wGNil_eq, ↓wGCons_eq, ↓wGTup_eq, ↓wApp_eq, ↓wRev_eq, ↓wClr_eq, ↓wExt_eq, ↓wSet_eq, ↓wPop_eq, ↓wipe_nil, ↓wipe_cons, env0_f, env0_t, atSh_is, atIs_is, atOwn_is, atBox_is, bIf_t, bIf_f, bIf_not, dBool_is, dInt_is, dTup_is, dList_is, dSeq_list, dSeq_tup, dSeq_seq, dTru_none, dTru_bool, dTru_int, dTru_list, dTru_tup, dCons_is, oI_int, oI0_int, oAdd_int, oAdd_list, oMul_int, oMul_list, oNeg_int, oEq_int, oEq_bool, oEq_nn, oEq_in, oEq_ni, oNe_int, oNe_bool, oNe_nn, oNe_in, oNe_ni, oEq_list, oNe_list, oEq_tup, oNe_tup, oEq_str, oNe_str, oIx_list, oIx_tup, oIx_seq, oLen_list, oLen_tup, oLen_seq, oInt_int, oInt_bool, oAbs_int, oMin2_int, oMax2_int, oAll_is, oSum_is, oListD_list, oListD_tup, oListD_seq, oTuple_list, oTuple_tup, oTuple_seq, oRepr_is, oIs_none, oIsNot_none, in_nats_t, in_nats_f, oIn_list, oIn_seq, oList_list, oList_tup, oList_seq, oCat_list, oRep_list, atI_l0, atI_l1, atI_l2, exists_eq_left', exists_eq_left, wPickT_eq, ↓wDNew_eq, ↓wDPut_eq, ↓wDList_eq, atDic_is, ↓wDGet_eq, ↓wDIn_eq, ↓wDNotIn_eq, ↓wDGet1_eq, ↓wD0_eq, ↓wDKeys_eq, ↓wDSort_eq, ↓wDSet_eq, ↓wLk_eq, ↓wKeys_eq, ↓wItems_eq, atD_own, atD_frz, atD_sh, atDO_is, atF_is, ↓wPop0_eq, ↓wSelf_eq, ↓wMove_eq, ↓wRetVT_eq, ↓wApp2_eq, ↓wSet2_eq, ↓wSetP_eq, ↓wAug_eq, oCount_list, ↓wRetPick_eq, oIsB_is, ↓wBmL_eq, oIndexS_is, ↓wAppPop_eq, ↓wAppPopT_eq, ↓wRev2_eq, oSumS_list, oSumS_tup, oSumS_seq, ↓wRetV2_eq, atOwnB_lst, atOwnB_tup, atL_int, mkT_t, mkT_f, w_take_is, w_same_is, notI_none, notI_bool, notI_int, notI_str, notI_list, notI_tup, notI_seq, isNone_none, isNone_bool, isNone_int, isNone_str, isNone_list, isNone_tup, isInt_none, isInt_bool, isInt_int, isInt_str, isInt_list, isInt_tup, isBool_none, isBool_bool, isBool_int, isBool_str, isBool_list, isBool_tup, isList_none, isList_bool, isList_int, isList_str, isList_list, isList_tup, isTuple_none, isTuple_bool, isTuple_int, isTuple_str, isTuple_list, isTuple_tup, isStr_none, isStr_bool, isStr_int, isStr_str, isStr_list, isStr_tup, isNone_seq, isList_seq, isTuple_seq, isInt_seq, isBool_seq, isStr_seq, dTru_seq, List.isEmpty_nil, List.isEmpty_cons, beq_self_eq_true, decide_true, decide_false, T.clean, T.cleans, T.data, T.datas, imm, immAll, List.getElem?_cons_zero, List.getElem?_cons_succ, List.set_cons_zero, List.set_cons_succ, List.map_cons, List.map_nil, List.cons_append, List.nil_append, List.replicate_succ, List.replicate_zero, List.length_cons, List.length_nil, List.length_map, if_true, if_false, Bool.true_and, Bool.and_true, Bool.false_and, Bool.and_false, Bool.not_true, Bool.not_false, Bool.or_true, Bool.true_or, Bool.false_or, Bool.or_false, Bool.false_eq_true, reduceIte, reduceCtorEq, true_and, and_true, Option.some.injEq, Nat.reduceAdd, Nat.reduceLeDiff, Int.reduceLE, Int.reduceLT, Int.cast_ofNat_Int, Int.reduceBEq, Int.reduceToNat])
def wTold : WS := (wFor (wRng1 (wC (.int 2))) (wName 4)
 (wSeq (wAsgT 7 (wVtB [(2, 1)] (wIfT (wAnd (wTest (wOp oEq (wVar 3) (wC (.str "even")))) (wTest (wOp oEq (wVar 4) (wC (.int 0))))) (wCallDT w_arrivals [PyData.str "even"] (wCons (wVar 2) wNil)) (wCallNT w_arrivals (fun ds es => ds ++ es) 1 1 (wCons (wVar 2) wNil) (wCons (wVar 3) wNil)))))
 (wSeq (wIfS (wVbB [(2, 1)] (wOr (wNot (wTest (wCall w_law_same (wCons (wVar 7) (wCons (wVar 5) wNil))))) (wTest (wOp oNe (wCb oRepr (wCons (wVar 2) wNil)) (wVar 6)))))
 (wRet (wSh (wC (.bool false))))
 wSkip)
 (wSeq wSpoil
 (wApp 7 (wLstT wNilT))))))
def wHow : WS := (wSeq (wParN [5, 6] (wConsT (wVt (wCallT w_law_spread (wCons (wVar 1) (wCons (wVar 3) wNil)))) (wConsT (wSh (wVwB [(2, 1)] (wCb oRepr (wCons (wVar 2) wNil)))) wNilT)))
 (wSeq wTold
 (wBlk 1 [4, 5, 6, 7, 8, 9, 10, 11, 12, 13, 14] wSums)))
section
variable {D : EW} {N n m b : Nat} {M : NMat} {h : Str} {y : T} {s2 : Sl} {k1 k2 : Bool} {x4 x7 x8 s9 s10 s11 s12 s13 s14 : Sl}
theorem arr_short (hl : M.length ≤ 12) (hr : ∀ r ∈ M, r.length ≤ 12) : ∀ x ∈ arrN h b M, x.length ≤ 1000 := fun x hx => by
  unfold arrN at hx
  obtain ⟨t, _, rfl⟩ := List.mem_map.mp hx
  have := cells_len (X := atM h b t M) (by unfold atM; rw [List.length_map]; exact hl) fun r hr2 => by
    unfold atM at hr2
    obtain ⟨q, hq, rfl⟩ := List.mem_map.mp hr2
    rw [List.length_map]
    exact hr q hq
  omega
theorem told_spec (hy : y.data = .tuple [.int (b : Int), nmD true true M]) (hd : Hd y b M s2 (.tuple [.int (b : Int), nmD k1 k2 M])) (hM : SzN n m M) (hc : ∀ r ∈ M, ∀ c ∈ r, c ≤ 1000) (hn : n ≤ 12) (hm : m ≤ 12) (hb : 1 ≤ b) (hb2 : b ≤ 1000) (hh : IsHow h) (hRp : okD (PyData.tuple [.int (b : Int), nmD k1 k2 M]) = true ∧ (PyData.tuple [.int (b : Int), nmD k1 k2 M]).depth ≤ 40 ∧ wz (PyData.tuple [.int (b : Int), nmD k1 k2 M]) ≤ 1000000) (hx : ∀ y4 y7 y8, D.nx [.box, .is y, s2, .is (.sh (.str h)), y4, .is (arrL h b M), .is (.sh (.str (PyData.tuple [.int (b : Int), nmD k1 k2 M]).shown)), y7, y8, s9, s10, s11, s12, s13, s14] N) :
    wTold D [.box, .is y, s2, .is (.sh (.str h)), x4, .is (arrL h b M), .is (.sh (.str (PyData.tuple [.int (b : Int), nmD k1 k2 M]).shown)), x7, x8, s9, s10, s11, s12, s13, s14] N := by
  have hl : M.length ≤ 12 := by have := hM.1; omega
  have hr : ∀ r ∈ M, r.length ≤ 12 := fun r hr => by have := hM.2 r hr; omega
  unfold wTold
  refine for_r1 (n := 2) (fun k ε M' => M' = N ∧ ∃ y4 y7 y8, ε = [.box, .is y, s2, .is (.sh (.str h)), y4, .is (arrL h b M), .is (.sh (.str (PyData.tuple [.int (b : Int), nmD k1 k2 M]).shown)), y7, y8, s9, s10, s11, s12, s13, s14]) (fun R h => by sizeOf_list_dec; exact h) (by omega) ⟨rfl, _, _, _, rfl⟩ (fun k ε M' hk2 hI => ?_) fun ε M' hI => ?_
  · obtain ⟨rfl, y4, y7, y8, rfl⟩ := hI
    sizeOf_list_dec
    refine view2 hd ?_
    sizeOf_list_dec
    have hlen : (arrN h b M).length = b := by unfold arrN; rw [List.length_map, List.length_range]
    have hok := okn_arr (h := h) hl hr hb2
    rw [← arrL_data] at hok
    refine bIf_of (fun z => bIf_of (fun _ => ?_) (fun _ => ?_)) (fun _ => ?_)
    · rw [← eq_of_beq z]
      refine arrivals_spec hl hr hc hb hb2 hh ?_
      refine ⟨arrL_clean, view2 hd ?_⟩
      sizeOf_list_dec
      refine ⟨hok, hRp, ?_⟩
      refine spoil_spec (L := arrN h b M) (by unfold arrN; rw [List.map_map]; rfl) (arr_short hl hr) fun ts y8 hts => ?_
      sizeOf_list_dec
      exact ⟨by omega, _, _, _, rfl⟩
    · refine arrivals_spec hl hr hc hb hb2 hh ?_
      refine ⟨arrL_clean, view2 hd ?_⟩
      sizeOf_list_dec
      refine ⟨hok, hRp, ?_⟩
      refine spoil_spec (L := arrN h b M) (by unfold arrN; rw [List.map_map]; rfl) (arr_short hl hr) fun ts y8 hts => ?_
      sizeOf_list_dec
      exact ⟨by omega, _, _, _, rfl⟩
    · refine arrivals_spec hl hr hc hb hb2 hh ?_
      refine ⟨arrL_clean, view2 hd ?_⟩
      sizeOf_list_dec
      refine ⟨hok, hRp, ?_⟩
      refine spoil_spec (L := arrN h b M) (by unfold arrN; rw [List.map_map]; rfl) (arr_short hl hr) fun ts y8 hts => ?_
      sizeOf_list_dec
      exact ⟨by omega, _, _, _, rfl⟩
  · obtain ⟨rfl, y4, y7, y8, rfl⟩ := hI
    exact hx _ _ _
/-- nothing is left behind a way to spread -/
theorem how_spec (hy : y.data = .tuple [.int (b : Int), nmD true true M]) {a : Addr} (hya : y.root = some a) (hd : Hd y b M s2 (.tuple [.int (b : Int), nmD k1 k2 M])) (hM : SzN n m M) (hc : ∀ r ∈ M, ∀ c ∈ r, c ≤ 1000) (hn : n ≤ 12) (hm : m ≤ 12) (hb : 1 ≤ b) (hb2 : b ≤ 1000) (hh : IsHow h) (hi : imm (.str h) = true) (hRp : okD (PyData.tuple [.int (b : Int), nmD k1 k2 M]) = true ∧ (PyData.tuple [.int (b : Int), nmD k1 k2 M]).depth ≤ 40 ∧ wz (PyData.tuple [.int (b : Int), nmD k1 k2 M]) ≤ 1000000) (hx : D.nx [.box, .is y, s2, .is (.sh (.str h)), .no, .no, .no, .no, .no, .no, .no, .no, .no, .no, .no] N) :
    wHow D [.box, .is y, s2, .is (.sh (.str h)), .no, .no, .no, .no, .no, .no, .no, .no, .no, .no, .no] N := by
  have hl : M.length ≤ 12 := by have := hM.1; omega
  have hr : ∀ r ∈ M, r.length ≤ 12 := fun r hr => by have := hM.2 r hr; omega
  unfold wHow
  sizeOf_list_dec
  rw [hy]
  refine law_spread_spec hl hr hc hb hb2 hh ?_
  refine ⟨arrL_clean, ?_⟩
  refine view2 hd ?_
  sizeOf_list_dec
  refine ⟨hRp, ?_⟩
  refine told_spec hy hd hM hc hn hm hb hb2 hh hRp fun y4 y7 y8 => ?_
  sizeOf_list_dec
  refine ⟨a, hya, ?_⟩
  rw [hy]
  refine sums_spec (t5 := arrL h b M) arrL_data hM hn hm hb hb2 fun y5 y8 y9 y10 y11 y12 y13 y14 => ?_
  sizeOf_list_dec
  refine ⟨?_, hx⟩
  show (true && (true && (s2.cln && (imm (.str h) && _)))) = true
  rw [hd.cln, hi]
  rfl
end
end K87

set_option Elab.async false
set_option linter.all false
set_option maxRecDepth 100000
set_option maxHeartbeats 1000000
namespace K87
open PySem PySem.Spec PyProof.Rows L2 Evl Cg
local macro_rules
  | `(tactic| sizeOf_list_dec) => `(tactic| simp (config := {failIfUnchanged := false}) only [↓wVwB_eq, ↓wVtB_eq, ↓wVbB_eq, ↓wAlPick_eq, ↓wBlk_eq, ↓blk_nx, ↓blk_rt, ↓blk_w, cleanE_nil, cleanE_cons, cln_no, cln_box, cln_pin, cln_is, atSh_shr, ↓wPTa_eq, ↓wLendA_eq, lendV_nil, lendV_cons, lendK_0, lendK_s, viewK_nil, viewK_cons, vk_pin, vk_is, vk_no, vk_box, ↓wAlUnp_eq, isTp2_tup, isTp2_tpa, root_tpa, nm_tup, nm_tpa, fg_tpa, kids_tpa, rekid_tpa, outK_tpa, ↓wDctP_eq, ↓wDctI_eq, isDct_is, ↓wPD_eq, ↓wDcSet_eq, ↓wDcSetX_eq, ↓wKdD_eq, ↓wInD_eq, ↓wGetD_eq, atDct_is, root_dct, nm_dct, kids_dct, rekid_dct, outK_dct, outG_dct, ↓wCallNE_eq, ↓wCallNT_eq, ↓wCallN_eq, ↓wCallDT_eq, ↓wCallD_eq, ↓wPlInsT_eq, ↓wPR_eq, ↓wPlSl_eq, sh_is, ↓wKUp_eq, ↓wKUpX_eq, rcK_is, ↓wLenSetU_eq, ↓wSlU_eq, ↓wEOp_eq, ↓wNotKD_eq, ↓wDisp_eq, ↓wWk_eq, ↓wk_nx, ↓wk_rt, ↓wk_rx, ↓wk_xe, ↓wk_w, ↓wTupC_eq, kids_tup, rekid_tup, ↓wFgE_eq, ↓fgE_nx, ↓fgE_rt, ↓fgE_rx, ↓fgE_xe, ↓fgE_w, ↓wFgJ_eq, ↓fgJ_nx, ↓fgJ_rt, ↓fgJ_rx, ↓fgJ_xe, ↓fgJ_w, ↓wEqI_eq, ↓wIsI_eq, ↓wPT_eq, ↓wXCallK_eq, ↓wXTupO_eq, ↓wXLstO_eq, ↓wXRcO_eq, ↓wAsgX2_eq, ↓wForPl_eq, ↓wPls_nil, ↓wPls_cons, ↓runP_nil, ↓runP_cons, ↓wPlRev_eq, ↓wPlRem_eq, ↓wAlME_eq, ↓wPlExtO_eq, ↓wSetPlT_eq, qD_eq, qX_eq, ↓wRaise_eq, ↓wXN_eq, ↓wMethE_eq, ↓wCallXE_eq, ↓wCallE_eq, ↓wMethVE_eq, ↓wMethVVE_eq, ↓wCallVE_eq, immX_fly, ↓wEF_eq, ↓wEIf_eq, ↓wAsgE_eq, ↓wDropE_eq, ↓wRetE_eq, ↓wRetEV_eq, ↓wAsgEG_eq, ↓wIsX_eq, ↓wIsXT_eq, ↓wIsB_eq, ↓wWhat_eq, ↓wTryK_eq, ↓tr_w, ↓tr_nx, ↓tr_rt, ↓tr_rx, ↓tr_xe, ↓seq_xe, ↓seq_w, ↓loop_xe, ↓loop_w, ↓fnE_nx, ↓fnE_rt, ↓fnE_xe, ↓fnE_w, ↓fnXE_nx, ↓fnXE_rx, ↓fnXE_xe, ↓fnXE_w, ↓wPlIns_eq, ↓wXLc_eq, ↓wTmpClr_eq, ↓wKSet_eq, rcK_is, ↓wLenI_eq, ↓wFAug_eq, ↓wAppX_eq, ↓wRgL2_eq, ↓wSetPlN_eq, ↓wParAl_eq, oMin3_int, ↓wXTake_eq, ↓wXCallM_eq, ↓wDictP_eq, ↓wDGet2_eq, oAnyI_list, ↓wVwA_eq, ↓wVbA_eq, ↓wVtA_eq, viewA_nil, viewA_cons, ↓wPA_eq, atPin_is, ↓wAl_eq, ↓wLend_eq, lend_0, lend_s, ↓wPlApp_eq, ↓wPlExt_eq, ↓wPlPop_eq, ↓wAppMv_eq, ↓wNm_eq, ↓wPlClr_eq, fg_lst, fg_lsa, fg_tup, fg_ins, nm_lst, nm_lsa, nm_ins, root_lsa, root_ins, root_rc, kids_lsa, rekid_lsa, outK_lsa, isLst_a, view_pin, oStr_list, oStr_tup, ↓wLenSet_eq, ↓wXOp_eq, ↓wXCb_eq, ↓wXUn_eq, ↓wXLst_eq, ↓wXTup_eq, ↓wXCall_eq, ↓wXCallB_eq, ↓wXMeth_eq, ↓wXMethV_eq, ↓wXB_eq, ↓wXTest_eq, ↓wXTru_eq, ↓wXNot_eq, ↓wXAnd_eq, ↓wXOr_eq, ↓wXIfS_eq, ↓wXAndV_eq, ↓wXOrV_eq, ↓wXNotV_eq, ↓wXIf_eq, ↓wRetXV_eq, ↓wAsgXG_eq, ↓wForX_eq, shT_is, allSh_nil, allSh_cons, ↓wVar_eq, ↓wFd_eq, ↓wKd_eq, ↓wPV_eq, ↓wPF_eq, ↓wPK_eq, ↓wPI_eq, atPl_eq, atT_is, atO_some, atP_nil, atP_cons, bindP_some, putAt_eq, setT_is, putP_nil, putP_cons, putO_some, kids_lst, kids_ins, kids_rc, rekid_lst, rekid_ins, rekid_rc, ↓wXT_eq, ↓wXF_eq, ↓wXNil_eq, ↓wXCons_eq, ↓wAsgX_eq, ↓wDropX_eq, ↓wRetX_eq, ↓wRetNX_eq, ↓wRetVX_eq, ↓wParX_eq, ↓wSetPl_eq, ↓wFSet_eq, ↓wFNew_eq, ↓wRc_eq, ↓wMeth_eq, ↓wMethV_eq, ↓wApP_eq, ↓wApC_eq, ↓wCallX_eq, ↓wCallXB_eq, ↓wMake_eq, ↓wAppOwn_eq, ↓fnG_nx, ↓fnG_rx, outG_nil, outG_0, outG_2, outG_ins, outG_lsa, kept_nil, kept_0, kept_1, kept_2, ↓wXCallG_eq, ↓wXCallGB_eq, ↓wXCallR_eq, ↓wXCallRB_eq, backE_nil, backE_some, backE_none, ↓fnX_nx, ↓fnX_rx, ↓seq_rx, ↓loop_rx, dropB_f, dropB_t, outK_nil, outK_f, outK_ins, outK_rc, envX_f, envX_t, atRec_is, isIns_is, isRc_is, isLst_is, insK_is, ↓wSortSet_eq, ↓wC_eq, ↓wRetV_eq, ↓wFrz_eq, isBox_eq, ↓wNil_eq, ↓wCons_eq, ↓wOp_eq, ↓wOpT_eq, ↓wUn_eq, ↓wCb_eq, ↓wCbT_eq, ↓wTest_eq, ↓wTru_eq, ↓wYes_eq, ↓wNot_eq, ↓wAnd_eq, ↓wOr_eq, ↓wAndV_eq, ↓wOrV_eq, ↓wNotV_eq, ↓wIf_eq, ↓wIfT_eq, ↓wChain_eq, ↓wLst_eq, ↓wTup_eq, ↓wNilT_eq, ↓wConsT_eq, ↓wLstT_eq, ↓wTupT_eq, ↓wSh_eq, ↓wFz_eq, ↓wVw_eq, ↓wVb_eq, ↓wVt_eq, view_nil, view_cons, view_no, view_box, view_is, ↓wCall_eq, ↓wCallT_eq, ↓wCallB_eq, ↓wCallBT_eq, ↓wIs_eq, ↓wNoPart_eq, ↓wPart_eq, ↓wSl_eq, ↓wSlT_eq, ↓wRevT_eq, ↓wRgL_eq, ↓wSkip_eq, ↓wBreak_eq, ↓wCont_eq, ↓wSeq_eq, ↓seq_nx, ↓seq_rt, ↓seq_bk, ↓seq_ct, ↓loop_nx, ↓loop_rt, ↓loop_bk, ↓loop_ct, ↓fn_nx, ↓fn_rt, ↓wRet_eq, ↓wRetN_eq, ↓wIfS_eq, ↓wAsgT_eq, ↓wAsg_eq, ↓wParN_eq, setsE_cons, setsE_nil, ↓wDrop_eq, ↓wName_eq, ↓wGNil_eq, ↓wGCons_eq, ↓wGTup_eq, ↓wApp_eq, ↓wRev_eq, ↓wClr_eq, ↓wExt_eq, ↓wSet_eq, ↓wPop_eq, ↓wipe_nil, ↓wipe_cons, env0_f, env0_t, atSh_is, atIs_is, atOwn_is, atBox_is, bIf_t, bIf_f, bIf_not, dBool_is, dInt_is, dTup_is, dList_is, dSeq_list, dSeq_tup, dSeq_seq, dTru_none, dTru_bool, dTru_int, dTru_list, dTru_tup, dCons_is, oI_int, oI0_int, oAdd_int, oAdd_list, oMul_int, oMul_list, oNeg_int, oEq_int, oEq_bool, oEq_nn, oEq_in, oEq_ni, oNe_int, oNe_bool, oNe_nn, oNe_in, oNe_ni, oEq_list, oNe_list, oEq_tup, oNe_tup, oEq_str, oNe_str, oIx_list, oIx_tup, oIx_seq, oLen_list, oLen_tup, oLen_seq, oInt_int, oInt_bool, oAbs_int, oMin2_int, oMax2_int, oAll_is, oSum_is, oListD_list, oListD_tup, oListD_seq, oTuple_list, oTuple_tup, oTuple_seq, oRepr_is, oIs_none, oIsNot_none, in_nats_t, in_nats_f, oIn_list, oIn_seq, oList_list, oList_tup, oList_seq, oCat_list, oRep_list, atI_l0, atI_l1, atI_l2, exists_eq_left', exists_eq_left, wPickT_eq, ↓wDNew_eq, ↓wDPut_eq, ↓wDList_eq, atDic_is, ↓wDGet_eq, ↓wDIn_eq, ↓wDNotIn_eq, ↓wDGet1_eq, ↓wD0_eq, ↓wDKeys_eq, ↓wDSort_eq, ↓wDSet_eq, ↓wLk_eq, ↓wKeys_eq, ↓wItems_eq, atD_own, atD_frz, atD_sh, atDO_is, atF_is, ↓wPop0_eq, ↓wSelf_eq, ↓wMove_eq, ↓wRetVT_eq, ↓wApp2_eq, ↓wSet2_eq, ↓wSetP_eq, ↓wAug_eq, oCount_list, ↓wRetPick_eq, oIsB_is, ↓wBmL_eq, oIndexS_is, ↓wAppPop_eq, ↓wAppPopT_eq, ↓wRev2_eq, oSumS_list, oSumS_tup, oSumS_seq, ↓wRetV2_eq, atOwnB_lst, atOwnB_tup, atL_int, mkT_t, mkT_f, w_take_is, w_same_is, notI_none, notI_bool, notI_int, notI_str, notI_list, notI_tup, notI_seq, isNone_none, isNone_bool, isNone_int, isNone_str, isNone_list, isNone_tup, isInt_none, isInt_bool, isInt_int, isInt_str, isInt_list, isInt_tup, isBool_none, isBool_bool, isBool_int, isBool_str, isBool_list, isBool_tup, isList_none, isList_bool, isList_int, isList_str, isList_list, isList_tup, isTuple_none, isTuple_bool, isTuple_int, isTuple_str, isTuple_list, isTuple_tup, isStr_none, isStr_bool, isStr_int, isStr_str, isStr_list, isStr_tup, isNone_seq, isList_seq, isTuple_seq, isInt_seq, isBool_seq, isStr_seq, dTru_seq, List.isEmpty_nil, List.isEmpty_cons, beq_self_eq_true, decide_true, decide_false, T.clean, T.cleans, T.data, T.datas, imm, immAll, List.getElem?_cons_zero, List.getElem?_cons_succ, List.set_cons_zero, List.set_cons_succ, List.map_cons, List.map_nil, List.cons_append, List.nil_append, List.replicate_succ, List.replicate_zero, List.length_cons, List.length_nil, List.length_map, if_true, if_false, Bool.true_and, Bool.and_true, Bool.false_and, Bool.and_false, Bool.not_true, Bool.not_false, Bool.or_true, Bool.true_or, Bool.false_or, Bool.or_false, Bool.false_eq_true, reduceIte, reduceCtorEq, true_and, and_true, Option.some.injEq, Nat.reduceAdd, Nat.reduceLeDiff, Int.reduceLE, Int.reduceLT, Int.cast_ofNat_Int, Int.reduceBEq, Int.reduceToNat])
/-! another number at a load's first place -/
section
variable {n m : Nat} {B : NMat}
theorem nmT_datas {B : NMat} : T.datas (B.map fun r => T.lst (r.map fun x => T.sh (nD x))) = B.map fun r => seqD true (r.map nD) := by
  rw [datas_map, List.map_map]
  refine List.map_congr_left fun r _ => ?_
  show PyData.list (T.datas _) = PyData.list _
  rw [datas_map, List.map_map]
  rfl
/-- another number at the first place -/
def put0 (B : NMat) (v : Nat) : NMat := B.set 0 ((B.getD 0 []).set 0 v)
theorem put0_sz {v : Nat} (h : SzN n m B) : SzN n m (put0 B v) := by
  unfold put0
  refine ⟨by rw [List.length_set, h.1], fun r hr => ?_⟩
  rcases List.mem_or_eq_of_mem_set hr with hr | rfl
  · exact h.2 r hr
  · cases B with
    | nil => cases hr
    | cons r0 B =>
      show (r0.set 0 v).length = m
      rw [List.length_set]
      exact h.2 r0 (List.mem_cons_self ..)
theorem put0_c {v k : Nat} (hc : ∀ r ∈ B, ∀ c ∈ r, c ≤ k) (hv : v ≤ k) : ∀ r ∈ put0 B v, ∀ c ∈ r, c ≤ k := fun r hr c hcr => by
  unfold put0 at hr
  rcases List.mem_or_eq_of_mem_set hr with hr | rfl
  · exact hc r hr c hcr
  · cases B with
    | nil => cases hr
    | cons r0 B =>
      have hcr : c ∈ r0.set 0 v := hcr
      rcases List.mem_or_eq_of_mem_set hcr with hcr | rfl
      · exact hc r0 (List.mem_cons_self ..) c hcr
      · exact hv
end
def wAgain : WS := (wFor (wIt (wTup (wCons (wC (.str "even")) (wCons (wC (.str "early")) (wCons (wC (.str "late")) wNil))))) (wName 3)
 (wIfS (wVb (wNot (wTest (wCall w_law_same (wCons (wCallN w_arrivals (fun ds es => ds ++ es) 1 1 (wCons (wVar 1) wNil) (wCons (wVar 3) wNil)) (wCons (wCall w_law_spread (wCons (wVar 1) (wCons (wVar 3) wNil))) wNil))))))
 (wRet (wSh (wC (.bool false))))
 wSkip))
def wRest : WS := (wSeq (wSetPl 1 (wPI 1 (wPTa 1 (wPV 1) (wC (.int 1))) (wC (.int 0))) (wC (.int 0)) (wVt (wSh (wOp oMod (wOp oAdd (wOp oIx (wOp oIx (wOp oIx (wVar 1) (wC (.int 1))) (wC (.int 0))) (wC (.int 0))) (wC (.int 1))) (wC (.int 25))))))
 (wSeq wAgain
 (wRet (wSh (wAndV (wOp oEq (wC (.str "even")) (wC (.str "even"))) (wAndV (wOp oEq (wC (.str "early")) (wC (.str "early"))) (wOp oEq (wC (.str "late")) (wC (.str "late")))))))))
section
variable {D : EW} {R : T → Nat → Prop} {N n m b : Nat} {M : NMat} {h : Str} {y : T} {s2 s3 s4 s5 s6 s7 s8 s9 s10 s11 s12 s13 s14 : Sl} {k1 k2 : Bool} {a : Addr}
theorem how_is {k : Nat} {d : PyData} (h : [PyData.str (Str.ofString "even"), .str (Str.ofString "early"), .str (Str.ofString "late")][k]? = some d) : ∃ w : Str, d = .str w ∧ IsHow w := by
  match k, h with
  | 0, h => exact ⟨_, (Option.some.inj h).symm, .inl rfl⟩
  | 1, h => exact ⟨_, (Option.some.inj h).symm, .inr (.inl rfl)⟩
  | 2, h => exact ⟨_, (Option.some.inj h).symm, .inr (.inr rfl)⟩
  | k + 3, h => cases h
theorem again_spec (hy : y.data = .tuple [.int (b : Int), nmD true true M]) (hM : SzN n m M) (hc : ∀ r ∈ M, ∀ c ∈ r, c ≤ 1000) (hn : n ≤ 12) (hm : m ≤ 12) (hb : 1 ≤ b) (hb2 : b ≤ 1000) (hx : ∀ s3, D.nx [.box, .is y, s2, s3, s4, s5, s6, s7, s8, s9, s10, s11, s12, s13, s14] N) :
    wAgain D [.box, .is y, s2, s3, s4, s5, s6, s7, s8, s9, s10, s11, s12, s13, s14] N := by
  have hl : M.length ≤ 12 := by have := hM.1; omega
  have hr : ∀ r ∈ M, r.length ≤ 12 := fun r hr => by have := hM.2 r hr; omega
  unfold wAgain
  refine for_it (d := .tuple [PyData.str (Str.ofString "even"), .str (Str.ofString "early"), .str (Str.ofString "late")]) (ds := [PyData.str (Str.ofString "even"), .str (Str.ofString "early"), .str (Str.ofString "late")]) (fun k ε M' => M' = N ∧ ∃ s3, ε = [.box, .is y, s2, s3, s4, s5, s6, s7, s8, s9, s10, s11, s12, s13, s14]) (fun R h => by sizeOf_list_dec; exact h) rfl ⟨rfl, _, rfl⟩ (fun k x ε M' hk hI => ?_) fun ε M' hI => ?_
  · obtain ⟨rfl, s3, rfl⟩ := hI
    obtain ⟨w, rfl, hw⟩ := how_is hk
    sizeOf_list_dec
    rw [hy]
    refine arrivals_spec hl hr hc hb hb2 hw ?_
    refine law_spread_spec hl hr hc hb hb2 hw ?_
    exact ⟨rfl, by rw [arrL_data]; exact okn_arr hl hr hb2, _, rfl⟩
  · obtain ⟨rfl, s3, rfl⟩ := hI
    exact hx _
theorem rest_spec (hM : SzN n m M) (hc : ∀ r ∈ M, ∀ c ∈ r, c ≤ 100) (n1 : 1 ≤ n) (hn : n ≤ 12) (m1 : 1 ≤ m) (hm : m ≤ 12) (hb : 1 ≤ b) (hb2 : b ≤ 1000) (hR : R (.sh (.bool true)) N) :
    wRest (EW.fn R) [.box, .is (.tpa a [.sh (.int (b : Int)), nmT M]), s2, s3, s4, s5, s6, s7, s8, s9, s10, s11, s12, s13, s14] N := by
  obtain ⟨r0, M', rfl⟩ : ∃ r0 M', M = r0 :: M' := by
    cases M with
    | nil => exact absurd hM.1 (by show ¬ 0 = n; omega)
    | cons r0 M' => exact ⟨r0, M', rfl⟩
  have hr0 := hM.2 r0 (List.mem_cons_self ..)
  obtain ⟨c0, rs, rfl⟩ : ∃ c0 rs, r0 = c0 :: rs := by
    cases r0 with
    | nil => exact absurd hr0 (by show ¬ 0 = m; omega)
    | cons c0 rs => exact ⟨c0, rs, rfl⟩
  have ey : ∀ X : NMat, (T.tpa a [T.sh (.int (b : Int)), nmT X]).data = .tuple [.int (b : Int), nmD true true X] := fun X => by
    show PyData.tuple [_, PyData.list (T.datas (X.map fun r => T.lst (r.map fun x => T.sh (nD x))))] = _
    rw [nmT_datas]
    rfl
  unfold wRest
  sizeOf_list_dec
  unfold nD
  sizeOf_list_dec
  refine ⟨a, _, rfl, 1, rfl, ?_⟩
  rw [show [T.sh (.int (b : Int)), nmT ((c0 :: rs) :: M')][1]? = some (nmT ((c0 :: rs) :: M')) from rfl]
  sizeOf_list_dec
  refine ⟨0, ixN_nat (Nat.succ_pos _), ?_⟩
  sizeOf_list_dec
  trace_state
  refine ⟨0, ixN_nat (Nat.succ_pos _), ?_⟩
  rw [show ((c0 : Int) + 1) % 25 = (((c0 + 1) % 25 : Nat) : Int) by omega]
  show wAgain _ [.box, .is (.tpa a [.sh (.int (b : Int)), nmT (put0 ((c0 :: rs) :: M') ((c0 + 1) % 25))]), s2, s3, s4, s5, s6, s7, s8, s9, s10, s11, s12, s13, s14] N
  refine again_spec (ey _) (put0_sz hM) (put0_c (fun r hr c hcr => Nat.le_trans (hc r hr c hcr) (by decide)) (by omega)) hn hm hb hb2 fun s3 => ?_
  sizeOf_list_dec
  trace_state
  exact hR
end
end K87

set_option Elab.async false
set_option linter.all false
set_option maxRecDepth 100000
set_option maxHeartbeats 1000000
namespace K87
open PySem PySem.Spec PyProof.Rows L2 Evl Cg
local macro_rules
  | `(tactic| sizeOf_list_dec) => `(tactic| simp (config := {failIfUnchanged := false}) only [↓wVwB_eq, ↓wVtB_eq, ↓wVbB_eq, ↓wAlPick_eq, ↓wBlk_eq, ↓blk_nx, ↓blk_rt, ↓blk_w, cleanE_nil, cleanE_cons, cln_no, cln_box, cln_pin, cln_is, atSh_shr, ↓wPTa_eq, ↓wLendA_eq, lendV_nil, lendV_cons, lendK_0, lendK_s, viewK_nil, viewK_cons, vk_pin, vk_is, vk_no, vk_box, ↓wAlUnp_eq, isTp2_tup, isTp2_tpa, root_tpa, nm_tup, nm_tpa, fg_tpa, kids_tpa, rekid_tpa, outK_tpa, ↓wDctP_eq, ↓wDctI_eq, isDct_is, ↓wPD_eq, ↓wDcSet_eq, ↓wDcSetX_eq, ↓wKdD_eq, ↓wInD_eq, ↓wGetD_eq, atDct_is, root_dct, nm_dct, kids_dct, rekid_dct, outK_dct, outG_dct, ↓wCallNE_eq, ↓wCallNT_eq, ↓wCallN_eq, ↓wCallDT_eq, ↓wCallD_eq, ↓wPlInsT_eq, ↓wPR_eq, ↓wPlSl_eq, sh_is, ↓wKUp_eq, ↓wKUpX_eq, rcK_is, ↓wLenSetU_eq, ↓wSlU_eq, ↓wEOp_eq, ↓wNotKD_eq, ↓wDisp_eq, ↓wWk_eq, ↓wk_nx, ↓wk_rt, ↓wk_rx, ↓wk_xe, ↓wk_w, ↓wTupC_eq, kids_tup, rekid_tup, ↓wFgE_eq, ↓fgE_nx, ↓fgE_rt, ↓fgE_rx, ↓fgE_xe, ↓fgE_w, ↓wFgJ_eq, ↓fgJ_nx, ↓fgJ_rt, ↓fgJ_rx, ↓fgJ_xe, ↓fgJ_w, ↓wEqI_eq, ↓wIsI_eq, ↓wPT_eq, ↓wXCallK_eq, ↓wXTupO_eq, ↓wXLstO_eq, ↓wXRcO_eq, ↓wAsgX2_eq, ↓wForPl_eq, ↓wPls_nil, ↓wPls_cons, ↓runP_nil, ↓runP_cons, ↓wPlRev_eq, ↓wPlRem_eq, ↓wAlME_eq, ↓wPlExtO_eq, ↓wSetPlT_eq, qD_eq, qX_eq, ↓wRaise_eq, ↓wXN_eq, ↓wMethE_eq, ↓wCallXE_eq, ↓wCallE_eq, ↓wMethVE_eq, ↓wMethVVE_eq, ↓wCallVE_eq, immX_fly, ↓wEF_eq, ↓wEIf_eq, ↓wAsgE_eq, ↓wDropE_eq, ↓wRetE_eq, ↓wRetEV_eq, ↓wAsgEG_eq, ↓wIsX_eq, ↓wIsXT_eq, ↓wIsB_eq, ↓wWhat_eq, ↓wTryK_eq, ↓tr_w, ↓tr_nx, ↓tr_rt, ↓tr_rx, ↓tr_xe, ↓seq_xe, ↓seq_w, ↓loop_xe, ↓loop_w, ↓fnE_nx, ↓fnE_rt, ↓fnE_xe, ↓fnE_w, ↓fnXE_nx, ↓fnXE_rx, ↓fnXE_xe, ↓fnXE_w, ↓wPlIns_eq, ↓wXLc_eq, ↓wTmpClr_eq, ↓wKSet_eq, rcK_is, ↓wLenI_eq, ↓wFAug_eq, ↓wAppX_eq, ↓wRgL2_eq, ↓wSetPlN_eq, ↓wParAl_eq, oMin3_int, ↓wXTake_eq, ↓wXCallM_eq, ↓wDictP_eq, ↓wDGet2_eq, oAnyI_list, ↓wVwA_eq, ↓wVbA_eq, ↓wVtA_eq, viewA_nil, viewA_cons, ↓wPA_eq, atPin_is, ↓wAl_eq, ↓wLend_eq, lend_0, lend_s, ↓wPlApp_eq, ↓wPlExt_eq, ↓wPlPop_eq, ↓wAppMv_eq, ↓wNm_eq, ↓wPlClr_eq, fg_lst, fg_lsa, fg_tup, fg_ins, nm_lst, nm_lsa, nm_ins, root_lsa, root_ins, root_rc, kids_lsa, rekid_lsa, outK_lsa, isLst_a, view_pin, oStr_list, oStr_tup, ↓wLenSet_eq, ↓wXOp_eq, ↓wXCb_eq, ↓wXUn_eq, ↓wXLst_eq, ↓wXTup_eq, ↓wXCall_eq, ↓wXCallB_eq, ↓wXMeth_eq, ↓wXMethV_eq, ↓wXB_eq, ↓wXTest_eq, ↓wXTru_eq, ↓wXNot_eq, ↓wXAnd_eq, ↓wXOr_eq, ↓wXIfS_eq, ↓wXAndV_eq, ↓wXOrV_eq, ↓wXNotV_eq, ↓wXIf_eq, ↓wRetXV_eq, ↓wAsgXG_eq, ↓wForX_eq, shT_is, allSh_nil, allSh_cons, ↓wVar_eq, ↓wFd_eq, ↓wKd_eq, ↓wPV_eq, ↓wPF_eq, ↓wPK_eq, ↓wPI_eq, atPl_eq, atT_is, atO_some, atP_nil, atP_cons, bindP_some, putAt_eq, setT_is, putP_nil, putP_cons, putO_some, kids_lst, kids_ins, kids_rc, rekid_lst, rekid_ins, rekid_rc, ↓wXT_eq, ↓wXF_eq, ↓wXNil_eq, ↓wXCons_eq, ↓wAsgX_eq, ↓wDropX_eq, ↓wRetX_eq, ↓wRetNX_eq, ↓wRetVX_eq, ↓wParX_eq, ↓wSetPl_eq, ↓wFSet_eq, ↓wFNew_eq, ↓wRc_eq, ↓wMeth_eq, ↓wMethV_eq, ↓wApP_eq, ↓wApC_eq, ↓wCallX_eq, ↓wCallXB_eq, ↓wMake_eq, ↓wAppOwn_eq, ↓fnG_nx, ↓fnG_rx, outG_nil, outG_0, outG_2, outG_ins, outG_lsa, kept_nil, kept_0, kept_1, kept_2, ↓wXCallG_eq, ↓wXCallGB_eq, ↓wXCallR_eq, ↓wXCallRB_eq, backE_nil, backE_some, backE_none, ↓fnX_nx, ↓fnX_rx, ↓seq_rx, ↓loop_rx, dropB_f, dropB_t, outK_nil, outK_f, outK_ins, outK_rc, envX_f, envX_t, atRec_is, isIns_is, isRc_is, isLst_is, insK_is, ↓wSortSet_eq, ↓wC_eq, ↓wRetV_eq, ↓wFrz_eq, isBox_eq, ↓wNil_eq, ↓wCons_eq, ↓wOp_eq, ↓wOpT_eq, ↓wUn_eq, ↓wCb_eq, ↓wCbT_eq, ↓wTest_eq, ↓wTru_eq, ↓wYes_eq, ↓wNot_eq, ↓wAnd_eq, ↓wOr_eq, ↓wAndV_eq, ↓wOrV_eq, ↓wNotV_eq, ↓wIf_eq, ↓wIfT_eq, ↓wChain_eq, ↓wLst_eq, ↓wTup_eq, ↓wNilT_eq, ↓wConsT_eq, ↓wLstT_eq, ↓wTupT_eq, ↓wSh_eq, ↓wFz_eq, ↓wVw_eq, ↓wVb_eq, ↓wVt_eq, view_nil, view_cons, view_no, view_box, view_is, ↓wCall_eq, ↓wCallT_eq, ↓wCallB_eq, ↓wCallBT_eq, ↓wIs_eq, ↓wNoPart_eq, ↓wPart_eq, ↓wSl_eq, ↓wSlT_eq, ↓wRevT_eq, ↓wRgL_eq, ↓wSkip_eq, ↓wBreak_eq, ↓wCont_eq, ↓wSeq_eq, ↓seq_nx, ↓seq_rt, ↓seq_bk, ↓seq_ct, ↓loop_nx, ↓loop_rt, ↓loop_bk, ↓loop_ct, ↓fn_nx, ↓fn_rt, ↓wRet_eq, ↓wRetN_eq, ↓wIfS_eq, ↓wAsgT_eq, ↓wAsg_eq, ↓wParN_eq, setsE_cons, setsE_nil, ↓wDrop_eq, ↓wName_eq, ↓wGNil_eq, ↓wGCons_eq, ↓wGTup_eq, ↓wApp_eq, ↓wRev_eq, ↓wClr_eq, ↓wExt_eq, ↓wSet_eq, ↓wPop_eq, ↓wipe_nil, ↓wipe_cons, env0_f, env0_t, atSh_is, atIs_is, atOwn_is, atBox_is, bIf_t, bIf_f, bIf_not, dBool_is, dInt_is, dTup_is, dList_is, dSeq_list, dSeq_tup, dSeq_seq, dTru_none, dTru_bool, dTru_int, dTru_list, dTru_tup, dCons_is, oI_int, oI0_int, oAdd_int, oAdd_list, oMul_int, oMul_list, oNeg_int, oEq_int, oEq_bool, oEq_nn, oEq_in, oEq_ni, oNe_int, oNe_bool, oNe_nn, oNe_in, oNe_ni, oEq_list, oNe_list, oEq_tup, oNe_tup, oEq_str, oNe_str, oIx_list, oIx_tup, oIx_seq, oLen_list, oLen_tup, oLen_seq, oInt_int, oInt_bool, oAbs_int, oMin2_int, oMax2_int, oAll_is, oSum_is, oListD_list, oListD_tup, oListD_seq, oTuple_list, oTuple_tup, oTuple_seq, oRepr_is, oIs_none, oIsNot_none, in_nats_t, in_nats_f, oIn_list, oIn_seq, oList_list, oList_tup, oList_seq, oCat_list, oRep_list, atI_l0, atI_l1, atI_l2, exists_eq_left', exists_eq_left, wPickT_eq, ↓wDNew_eq, ↓wDPut_eq, ↓wDList_eq, atDic_is, ↓wDGet_eq, ↓wDIn_eq, ↓wDNotIn_eq, ↓wDGet1_eq, ↓wD0_eq, ↓wDKeys_eq, ↓wDSort_eq, ↓wDSet_eq, ↓wLk_eq, ↓wKeys_eq, ↓wItems_eq, atD_own, atD_frz, atD_sh, atDO_is, atF_is, ↓wPop0_eq, ↓wSelf_eq, ↓wMove_eq, ↓wRetVT_eq, ↓wApp2_eq, ↓wSet2_eq, ↓wSetP_eq, ↓wAug_eq, oCount_list, ↓wRetPick_eq, oIsB_is, ↓wBmL_eq, oIndexS_is, ↓wAppPop_eq, ↓wAppPopT_eq, ↓wRev2_eq, oSumS_list, oSumS_tup, oSumS_seq, ↓wRetV2_eq, atOwnB_lst, atOwnB_tup, atL_int, mkT_t, mkT_f, w_take_is, w_same_is, notI_none, notI_bool, notI_int, notI_str, notI_list, notI_tup, notI_seq, isNone_none, isNone_bool, isNone_int, isNone_str, isNone_list, isNone_tup, isInt_none, isInt_bool, isInt_int, isInt_str, isInt_list, isInt_tup, isBool_none, isBool_bool, isBool_int, isBool_str, isBool_list, isBool_tup, isList_none, isList_bool, isList_int, isList_str, isList_list, isList_tup, isTuple_none, isTuple_bool, isTuple_int, isTuple_str, isTuple_list, isTuple_tup, isStr_none, isStr_bool, isStr_int, isStr_str, isStr_list, isStr_tup, isNone_seq, isList_seq, isTuple_seq, isInt_seq, isBool_seq, isStr_seq, dTru_seq, List.isEmpty_nil, List.isEmpty_cons, beq_self_eq_true, decide_true, decide_false, T.clean, T.cleans, T.data, T.datas, imm, immAll, List.getElem?_cons_zero, List.getElem?_cons_succ, List.set_cons_zero, List.set_cons_succ, List.map_cons, List.map_nil, List.cons_append, List.nil_append, List.replicate_succ, List.replicate_zero, List.length_cons, List.length_nil, List.length_map, if_true, if_false, Bool.true_and, Bool.and_true, Bool.false_and, Bool.and_false, Bool.not_true, Bool.not_false, Bool.or_true, Bool.true_or, Bool.false_or, Bool.or_false, Bool.false_eq_true, reduceIte, reduceCtorEq, true_and, and_true, Option.some.injEq, Nat.reduceAdd, Nat.reduceLeDiff, Int.reduceLE, Int.reduceLT, Int.cast_ofNat_Int, Int.reduceBEq, Int.reduceToNat])
def wHows : WS := (wFor (wIt (wTup (wCons (wC (.str "even")) (wCons (wC (.str "early")) (wCons (wC (.str "late")) wNil))))) (wName 3) wHow)
theorem wR_eq : w_law_right = wFn true 0 14 (wSeq (wAsgT 1 (wCallBT 0 w_law_load (wCons (wC (.int 8)) (wCons (wC (.int 25)) wNil))))
 (wSeq (wNm 1 (wAlPick 2 1 (wVt (wSh (wTup (wCons (wOp oIx (wVar 1) (wC (.int 0))) (wCons (wCb oTuple (wCons (wLc (wIt (wOp oIx (wVar 1) (wC (.int 1)))) (wName 10) wYes (wCb oTuple (wCons (wVar 10) wNil)) [10]) wNil)) wNil))))) (wCallB 0 w_law_take (wCons (wC (.int 2)) wNil))))
 (wSeq wHows wRest))) := rfl
section
variable {R : T → Nat → Prop} {N n m b : Nat} {M : NMat}
theorem rp_load (hM : SzN n m M) (hc : ∀ r ∈ M, ∀ c ∈ r, c ≤ 100) (hn : n ≤ 12) (hm : m ≤ 12) (hb2 : b ≤ 1000) (k : Bool) : okD (PyData.tuple [.int (b : Int), nmD k k M]) = true ∧ (PyData.tuple [.int (b : Int), nmD k k M]).depth ≤ 40 ∧ wz (PyData.tuple [.int (b : Int), nmD k k M]) ≤ 1000000 := by
  have h1 : Rp 2 _ (nmD k k M) := Rp.seq (n := 1) (b := 291) k (m := 12) (all_map fun r hr => Rp.seq (n := 0) (b := 22) k (m := 12) (all_map fun x hx => Rp.int (by have := hc r hr x hx; omega)) (by rw [List.length_map, hM.2 r hr]; omega)) (by rw [List.length_map, hM.1]; omega)
  exact (Rp.tuple (n := 2) (b := 3519) (m := 2) (all_cons ((Rp.int (by omega)).up (by decide) (by decide)) (all_cons h1 all_nil)) (Nat.le_refl 2)).ok (by decide) (by decide)
theorem imm_nm : imm (nmD false false M) = true := by
  show immAll (M.map fun r => PyData.tuple (r.map nD)) = true
  induction M with
  | nil => rfl
  | cons r B ih =>
    show (immAll (r.map nD) && immAll _) = true
    rw [ih, Bool.and_true]
    clear ih
    induction r with
    | nil => rfl
    | cons x r ih2 => exact ih2
theorem hows_spec {y : T} {a : Addr} {s2 s3 : Sl} {k1 k2 : Bool} {D : EW} (hy : y.data = .tuple [.int (b : Int), nmD true true M]) (hya : y.root = some a) (hd : Hd y b M s2 (.tuple [.int (b : Int), nmD k1 k2 M])) (hM : SzN n m M) (hc : ∀ r ∈ M, ∀ c ∈ r, c ≤ 1000) (hn : n ≤ 12) (hm : m ≤ 12) (hb : 1 ≤ b) (hb2 : b ≤ 1000) (hRp : okD (PyData.tuple [.int (b : Int), nmD k1 k2 M]) = true ∧ (PyData.tuple [.int (b : Int), nmD k1 k2 M]).depth ≤ 40 ∧ wz (PyData.tuple [.int (b : Int), nmD k1 k2 M]) ≤ 1000000) (hx : ∀ s3, D.nx [.box, .is y, s2, s3, .no, .no, .no, .no, .no, .no, .no, .no, .no, .no, .no] N) :
    wHows D [.box, .is y, s2, s3, .no, .no, .no, .no, .no, .no, .no, .no, .no, .no, .no] N := by
  unfold wHows
  refine for_it (d := .tuple [PyData.str (Str.ofString "even"), .str (Str.ofString "early"), .str (Str.ofString "late")]) (ds := [PyData.str (Str.ofString "even"), .str (Str.ofString "early"), .str (Str.ofString "late")]) (fun k ε M' => M' = N ∧ ∃ s3, ε = [.box, .is y, s2, s3, .no, .no, .no, .no, .no, .no, .no, .no, .no, .no, .no]) (fun R h => by sizeOf_list_dec; exact h) rfl ⟨rfl, _, rfl⟩ (fun k x ε M' hk hI => ?_) fun ε M' hI => ?_
  · obtain ⟨rfl, s3, rfl⟩ := hI
    obtain ⟨w, rfl, hw⟩ := how_is hk
    sizeOf_list_dec
    refine how_spec hy hya hd hM hc hn hm hb hb2 hw rfl hRp ?_
    sizeOf_list_dec
    exact ⟨_, rfl⟩
  · obtain ⟨rfl, s3, rfl⟩ := hI
    exact hx _
theorem law_right_all (hN : N ≤ 700000) (hR : ∀ N', N' ≤ N + 1000 → R (.sh (.bool true)) N') : w_law_right [] N R := by
  rw [wR_eq]
  refine ⟨rfl, ?_⟩
  sizeOf_list_dec
  refine law_load_spec (mx := 8) (much := 25) (by decide) (by decide) (by decide) (by decide) (by omega) fun n m b M N1 n1 hn m1 hm b1 b2 hM hc hN1 => ?_
  sizeOf_list_dec
  intro a
  have ey : (T.tpa a [T.sh (.int (b : Int)), nmT M]).data = .tuple [.int (b : Int), nmD true true M] := by
    show PyData.tuple [_, PyData.list (T.datas (M.map fun r => T.lst (r.map fun x => T.sh (nD x))))] = _
    rw [nmT_datas]
    rfl
  rw [nmT_datas]
  have hl : M.length ≤ 12 := by have := hM.1; omega
  have hc2 : ∀ r ∈ M, ∀ c ∈ r, c ≤ 1000 := fun r hr c hcr => Nat.le_trans (hc r hr c hcr) (by decide)
  refine lc_m M (fun r => seqD true (r.map nD)) (fun r => .tuple (r.map nD)) (gv_it (d := nmD true true M) (fun R h => by sizeOf_list_dec; exact h) (seqOf_seqD true _)) (by omega) (fun r A hr hA => ?_) ?_
  · sizeOf_list_dec
    exact hA
  sizeOf_list_dec
  have key : ∀ (s2 : Sl) (k : Bool), Hd (.tpa a [T.sh (.int (b : Int)), nmT M]) b M s2 (.tuple [.int (b : Int), nmD k k M]) → wHows ((EW.fn R).seq (wRest (EW.fn R))) [.box, .is (.tpa a [T.sh (.int (b : Int)), nmT M]), s2, .no, .no, .no, .no, .no, .no, .no, .no, .no, .no, .no, .no] (N1 + 1) := fun s2 k hd => by
    refine hows_spec ey rfl hd hM hc2 (by omega) (by omega) b1 (by omega) (rp_load hM hc (by omega) (by omega) (by omega) k) fun s3 => ?_
    sizeOf_list_dec
    exact rest_spec hM hc n1 (by omega) m1 (by omega) b1 (by omega) (hR _ (by omega))
  refine ⟨imm_nm, by omega, fun k hk => ?_⟩
  rcases (by omega : k = 0 ∨ k = 1) with rfl | rfl
  · exact .inl ⟨rfl, key _ true (.inl ⟨a, rfl, rfl, ey.symm⟩)⟩
  · refine .inr ⟨rfl, key _ false (.inr ⟨rfl, ?_⟩)⟩
    show (true && (imm (nmD false false M) && true)) = true
    rw [imm_nm]
    rfl
theorem law_right_spec (hNN : N ≤ 700000) : w_law_right [] N fun t N' => t.data = .bool true ∧ N' ≤ N + 1000 := law_right_all hNN fun N' h => ⟨rfl, h⟩
end
end K87

set_option Elab.async false
set_option linter.all false
set_option maxRecDepth 100000
set_option maxHeartbeats 1000000
namespace K87
open PySem PySem.Spec PyProof.Rows L2 Evl Cg
section
variable {P : Program} {w : World} {K : PySem.W.Frag} {mg : Str → Option Value} {base : Heap} {κ : Nat → Addr}
theorem ok_law {f : Addr} {fd : FuncData} (F : Fun K "law" "law" st_law f fd) (B : Bm mg) {f1 : Addr} {fd1 : FuncData} (d_law_folded : Df P w K mg base 1 "_law_folded" st_law_folded ["_law_script", "_law_size"] f1 fd1 (spFold K)) {f2 : Addr} {fd2 : FuncData} (d_law_box : Df P w K mg base 1 "_law_box" st_law_box ["_law_script", "_law_k"] f2 fd2 (spBox K)) {f3 : Addr} {fd3 : FuncData} (d_law_right : DfG P w K mg base 8 "_law_right" st_law_right ["_law_box_here"] f3 fd3 (spRt 700000 1000)) : FnG P w K mg base 9 f fd ["_law_script"] (spLaw K) := by
  refine fnG F sc_law (fun vs H Q E h => ?_) (fun cv A outer s H vs Q E hg hr h => ?_)
  · obtain ⟨a, ns, rfl, _⟩ := h
    rfl
  · obtain ⟨a, ns, rfl, hS, hl, q⟩ := h
    refine ⟨_, (pss_cons (ps_set (i := 1) sc_law.nd rfl (.inr rfl) (pe_call d_law_folded.G (hr.mono (by omega)) (by rfl) d_law_folded.g d_law_folded.F.kp d_law_folded.b .nil pass0 (pa_cons (pv 0) (pa_cons pe_int pa_nil))))
 (pss_one (ps_ret (pe_callB (allK K) (by rfl) B.all (by decide +kernel) (pa_cons (pe_lc (own := [("_law_k", 2)]) rfl sc_law.nd (pi_range1 (by rfl) B.range (pa_cons (pe_callB (call_max2 rfl) (by rfl) B.max (by decide +kernel) (pa_cons pe_int (pa_cons (pe_callB (lenK K) (by rfl) B.len (by decide +kernel) (pa_cons (pv 1) pa_nil)) pa_nil))) pa_nil)) (blkOk_by (own := [("_law_k", 2)]) (by kernel_rfl)) (fun _ _ _ _ _ => (pg_name (i := 2) sc_law.nd rfl (.inl rfl))) (fun _ _ _ _ _ => pts_nil) (fun _ _ _ _ _ => (pe_callG d_law_right.G hg (hr.mono (by omega)) (by rfl) d_law_right.g d_law_right.F.kp d_law_right.b (pa_cons (pe_call d_law_box.G (hr.mono (by omega)) (by rfl) d_law_box.g d_law_box.F.kp d_law_box.b .nil pass0 (pa_cons (pv 1) (pa_cons (pv 2) pa_nil))) pa_nil)))) pa_nil))))), ?_⟩
    refine ⟨.ref a, rfl, a, ns, 4, rfl, hS, by decide, by decide, by omega, fun l ms H1 e1 nl hl1 hlen => ?_⟩
    exact law_comp (s := 1) (j := 2) (ms := ms) (ev_maxN (m := 2) rfl (SqL.of hl1)) (by rw [List.length_map]; omega) rfl (by decide) (by show _ < 3; decide) (fun H' e => SqL.of (e _ _ hl1)) (fun H' => q H')
end
theorem all_mk {l : PySem.W.OpenLaw} {w : World} {K : PySem.W.Frag} {h : Heap} {mg : Str → Option Value} {fa : Addr} (X : K.In h) (G : h.Ns mainGlobals mg) (hfa : mg "law" = some (.ref fa))
    {f0 : Addr} {od0 an0 : Option Addr} {sl0 : Array (Option Value)} {oc0 kV0 dc0 pm0 cd0 ct0 : Value}
    {f1 : Addr} {od1 an1 : Option Addr} {sl1 : Array (Option Value)} {oc1 kV1 dc1 pm1 cd1 ct1 : Value}
    {f2 : Addr} {od2 an2 : Option Addr} {sl2 : Array (Option Value)} {oc2 kV2 dc2 pm2 cd2 ct2 : Value}
    {f3 : Addr} {od3 an3 : Option Addr} {sl3 : Array (Option Value)} {oc3 kV3 dc3 pm3 cd3 ct3 : Value}
    {f4 : Addr} {od4 an4 : Option Addr} {sl4 : Array (Option Value)} {oc4 kV4 dc4 pm4 cd4 ct4 : Value}
    {f5 : Addr} {od5 an5 : Option Addr} {sl5 : Array (Option Value)} {oc5 kV5 dc5 pm5 cd5 ct5 : Value}
    {f6 : Addr} {od6 an6 : Option Addr} {sl6 : Array (Option Value)} {oc6 kV6 dc6 pm6 cd6 ct6 : Value}
    {f7 : Addr} {od7 an7 : Option Addr} {sl7 : Array (Option Value)} {oc7 kV7 dc7 pm7 cd7 ct7 : Value}
    {f8 : Addr} {od8 an8 : Option Addr} {sl8 : Array (Option Value)} {oc8 kV8 dc8 pm8 cd8 ct8 : Value}
    {f9 : Addr} {od9 an9 : Option Addr} {sl9 : Array (Option Value)} {oc9 kV9 dc9 pm9 cd9 ct9 : Value}
    {f10 : Addr} {od10 an10 : Option Addr} {sl10 : Array (Option Value)} {oc10 kV10 dc10 pm10 cd10 ct10 : Value}
    {f11 : Addr} {od11 an11 : Option Addr} {sl11 : Array (Option Value)} {oc11 kV11 dc11 pm11 cd11 ct11 : Value}
    {f12 : Addr} {od12 an12 : Option Addr} {sl12 : Array (Option Value)} {oc12 kV12 dc12 pm12 cd12 ct12 : Value}
    {tk0 : Tok}
    {tk1 : Tok}
    {tk2 : Tok}
    (a0 : PySem.W.nsIn K mainGlobals "beat_of" = some (some (.ref f0)))
    (l0 : K.lookup f0 = some ⟨oc0, od0, .func (PySem.W.fnOf "beat_of" "beat_of" (defArgs st_beat_of) (defBody st_beat_of) (defScope st_beat_of) .none kV0 dc0 pm0 an0 cd0 ct0), sl0⟩) (c0 : PySem.W.codeIn K cd0 "beat_of" = true) (k0 : PySem.W.keepIn K (.ref f0) = true)
    (a1 : PySem.W.nsIn K mainGlobals "coming_in" = some (some (.ref f1)))
    (l1 : K.lookup f1 = some ⟨oc1, od1, .func (PySem.W.fnOf "coming_in" "coming_in" (defArgs st_coming_in) (defBody st_coming_in) (defScope st_coming_in) .none kV1 dc1 pm1 an1 cd1 ct1), sl1⟩) (c1 : PySem.W.codeIn K cd1 "coming_in" = true) (k1 : PySem.W.keepIn K (.ref f1) = true)
    (a2 : PySem.W.nsIn K mainGlobals "cells_of" = some (some (.ref f2)))
    (l2 : K.lookup f2 = some ⟨oc2, od2, .func (PySem.W.fnOf "cells_of" "cells_of" (defArgs st_cells_of) (defBody st_cells_of) (defScope st_cells_of) .none kV2 dc2 pm2 an2 cd2 ct2), sl2⟩) (c2 : PySem.W.codeIn K cd2 "cells_of" = true) (k2 : PySem.W.keepIn K (.ref f2) = true)
    (a3 : PySem.W.nsIn K mainGlobals "arrivals" = some (some (.ref f3)))
    (l3 : K.lookup f3 = some ⟨oc3, od3, .func (PySem.W.fnOf "arrivals" "arrivals" (defArgs st_arrivals) (defBody st_arrivals) (defScope st_arrivals) .none kV3 dc3 pm3 an3 cd3 ct3), sl3⟩) (c3 : PySem.W.codeIn K cd3 "arrivals" = true) (k3 : PySem.W.keepIn K (.ref f3) = true)
    (q3 : L2.KwdV K kV3 [("spread", V.str "even")])
    (a4 : PySem.W.nsIn K mainGlobals "_law_box" = some (some (.ref f4)))
    (l4 : K.lookup f4 = some ⟨oc4, od4, .func (PySem.W.fnOf "_law_box" "_law_box" (defArgs st_law_box) (defBody st_law_box) (defScope st_law_box) .none kV4 dc4 pm4 an4 cd4 ct4), sl4⟩) (c4 : PySem.W.codeIn K cd4 "_law_box" = true) (k4 : PySem.W.keepIn K (.ref f4) = true)
    (a5 : PySem.W.nsIn K mainGlobals "_law_take" = some (some (.ref f5)))
    (l5 : K.lookup f5 = some ⟨oc5, od5, .func (PySem.W.fnOf "_law_take" "_law_take" (defArgs st_law_take) (defBody st_law_take) (defScope st_law_take) .none kV5 dc5 pm5 an5 cd5 ct5), sl5⟩) (c5 : PySem.W.codeIn K cd5 "_law_take" = true) (k5 : PySem.W.keepIn K (.ref f5) = true)
    (a6 : PySem.W.nsIn K mainGlobals "_law_folded" = some (some (.ref f6)))
    (l6 : K.lookup f6 = some ⟨oc6, od6, .func (PySem.W.fnOf "_law_folded" "_law_folded" (defArgs st_law_folded) (defBody st_law_folded) (defScope st_law_folded) .none kV6 dc6 pm6 an6 cd6 ct6), sl6⟩) (c6 : PySem.W.codeIn K cd6 "_law_folded" = true) (k6 : PySem.W.keepIn K (.ref f6) = true)
    (a7 : PySem.W.nsIn K mainGlobals "_law_same" = some (some (.ref f7)))
    (l7 : K.lookup f7 = some ⟨oc7, od7, .func (PySem.W.fnOf "_law_same" "_law_same" (defArgs st_law_same) (defBody st_law_same) (defScope st_law_same) .none kV7 dc7 pm7 an7 cd7 ct7), sl7⟩) (c7 : PySem.W.codeIn K cd7 "_law_same" = true) (k7 : PySem.W.keepIn K (.ref f7) = true)
    (a8 : PySem.W.nsIn K mainGlobals "_law_sizes" = some (some (.ref f8)))
    (l8 : K.lookup f8 = some ⟨oc8, od8, .func (PySem.W.fnOf "_law_sizes" "_law_sizes" (defArgs st_law_sizes) (defBody st_law_sizes) (defScope st_law_sizes) .none kV8 dc8 pm8 an8 cd8 ct8), sl8⟩) (c8 : PySem.W.codeIn K cd8 "_law_sizes" = true) (k8 : PySem.W.keepIn K (.ref f8) = true)
    (a9 : PySem.W.nsIn K mainGlobals "_law_load" = some (some (.ref f9)))
    (l9 : K.lookup f9 = some ⟨oc9, od9, .func (PySem.W.fnOf "_law_load" "_law_load" (defArgs st_law_load) (defBody st_law_load) (defScope st_law_load) .none kV9 dc9 pm9 an9 cd9 ct9), sl9⟩) (c9 : PySem.W.codeIn K cd9 "_law_load" = true) (k9 : PySem.W.keepIn K (.ref f9) = true)
    (a10 : PySem.W.nsIn K mainGlobals "_law_spread" = some (some (.ref f10)))
    (l10 : K.lookup f10 = some ⟨oc10, od10, .func (PySem.W.fnOf "_law_spread" "_law_spread" (defArgs st_law_spread) (defBody st_law_spread) (defScope st_law_spread) .none kV10 dc10 pm10 an10 cd10 ct10), sl10⟩) (c10 : PySem.W.codeIn K cd10 "_law_spread" = true) (k10 : PySem.W.keepIn K (.ref f10) = true)
    (a11 : PySem.W.nsIn K mainGlobals "_law_right" = some (some (.ref f11)))
    (l11 : K.lookup f11 = some ⟨oc11, od11, .func (PySem.W.fnOf "_law_right" "_law_right" (defArgs st_law_right) (defBody st_law_right) (defScope st_law_right) .none kV11 dc11 pm11 an11 cd11 ct11), sl11⟩) (c11 : PySem.W.codeIn K cd11 "_law_right" = true) (k11 : PySem.W.keepIn K (.ref f11) = true)
    (a12 : PySem.W.nsIn K mainGlobals "law" = some (some (.ref f12)))
    (l12 : K.lookup f12 = some ⟨oc12, od12, .func (PySem.W.fnOf "law" "law" (defArgs st_law) (defBody st_law) (defScope st_law) .none kV12 dc12 pm12 an12 cd12 ct12), sl12⟩) (c12 : PySem.W.codeIn K cd12 "law" = true) (k12 : PySem.W.keepIn K (.ref f12) = true)
    (C_EVEN : mg "EVEN" = some (.str "even" tk0))
    (C_EARLY : mg "EARLY" = some (.str "early" tk1))
    (C_LATE : mg "LATE" = some (.str "late" tk2))
    (z0 : PySem.W.nsIn K mainGlobals "int" = some none)
    (z1 : PySem.W.nsIn K mainGlobals "bool" = some none)
    (z2 : PySem.W.nsIn K mainGlobals "list" = some none)
    (z3 : PySem.W.nsIn K mainGlobals "tuple" = some none)
    (z4 : PySem.W.nsIn K mainGlobals "str" = some none)
    (z5 : PySem.W.nsIn K mainGlobals "len" = some none)
    (z6 : PySem.W.nsIn K mainGlobals "all" = some none)
    (z7 : PySem.W.nsIn K mainGlobals "isinstance" = some none)
    (z8 : PySem.W.nsIn K mainGlobals "range" = some none)
    (z9 : PySem.W.nsIn K mainGlobals "enumerate" = some none)
    (z10 : PySem.W.nsIn K mainGlobals "zip" = some none)
    (z11 : PySem.W.nsIn K mainGlobals "repr" = some none)
    (z12 : PySem.W.nsIn K mainGlobals "abs" = some none)
    (z13 : PySem.W.nsIn K mainGlobals "min" = some none)
    (z14 : PySem.W.nsIn K mainGlobals "max" = some none)
    (z15 : PySem.W.nsIn K mainGlobals "divmod" = some none)
    (z16 : PySem.W.nsIn K mainGlobals "sum" = some none)
    (z17 : PySem.W.nsIn K mainGlobals "sorted" = some none)
    (z18 : PySem.W.nsIn K mainGlobals "any" = some none)
    (z19 : PySem.W.nsIn K mainGlobals "set" = some none)
    (z20 : PySem.W.nsIn K mainGlobals "reversed" = some none)
    (z21 : PySem.W.nsIn K mainGlobals "dict" = some none) :
    ∃ fd : FuncData, (∀ (s : Shared) (v : Value), BindsTo s fd ⟨[v], []⟩ [("_law_script", v)]) ∧ ∀ base : Heap, K.In base → base.Ns mainGlobals mg → FnG l.prog w K mg base 9 fa fd ["_law_script"] (spLaw K) := by
  have e := hfa.symm.trans (PySem.W.mg_of X G a12)
  cases e
  have F_beat_of := fun_mk (st := st_beat_of) l0 c0 k0
  have b_beat_of := F_beat_of.binds (ps := ["cell", "number", "beats", "spread"]) fun _ _ _ _ _ _ us hl => match us, hl with | [_, _, _, _], _ => rfl
  have g_beat_of := PySem.W.mg_of X G a0
  have F_coming_in := fun_mk (st := st_coming_in) l1 c1 k1
  have b_coming_in := F_coming_in.binds (ps := ["beat", "load", "spread"]) fun _ _ _ _ _ _ us hl => match us, hl with | [_, _, _], _ => rfl
  have g_coming_in := PySem.W.mg_of X G a1
  have F_cells_of := fun_mk (st := st_cells_of) l2 c2 k2
  have b_cells_of := F_cells_of.binds (ps := ["numbers"]) fun _ _ _ _ _ _ us hl => match us, hl with | [_], _ => rfl
  have g_cells_of := PySem.W.mg_of X G a2
  have F_arrivals := fun_mk (st := st_arrivals) l3 c3 k3
  have kb_arrivals := (⟨fun s us ws _ l1 l2 => .of_eq (match us, ws, l1, l2 with | [_], [_], _, _ => rfl), fun r1 r2 => r1.append r2⟩ : KBn K (PySem.W.fnOf "arrivals" "arrivals" (defArgs st_arrivals) (defBody st_arrivals) (defScope st_arrivals) .none kV3 dc3 pm3 an3 cd3 ct3) ["load", "spread"] 1 ["spread"] (fun us ws => us ++ ws) (fun vs zs => vs ++ zs))
  have FD_arrivals : FunD K "arrivals" "arrivals" (defArgs st_arrivals) (defBody st_arrivals) (defScope st_arrivals) [] [("spread", V.str "even")] f3 (PySem.W.fnOf "arrivals" "arrivals" (defArgs st_arrivals) (defBody st_arrivals) (defScope st_arrivals) .none kV3 dc3 pm3 an3 cd3 ct3) := ⟨⟨_, _, _, _, _, _, _, _, _, _, rfl, l3, c3, .inl ⟨rfl, rfl⟩, q3⟩, k3⟩
  obtain ⟨ds_arrivals, vd_arrivals, bd_arrivals⟩ := FD_arrivals.binds0 (ps := ["load", "spread"]) 1 (List.cons_ne_nil _ _) rfl fun D doc pm an cdv ct us ks h1 h2 => match us, ks, h1, h2 with | [_], [_], _, _ => ⟨_, _, _, _, _, _, rfl, rfl, rfl⟩
  have g_arrivals := PySem.W.mg_of X G a3
  have F_law_box := fun_mk (st := st_law_box) l4 c4 k4
  have b_law_box := F_law_box.binds (ps := ["_law_script", "_law_k"]) fun _ _ _ _ _ _ us hl => match us, hl with | [_, _], _ => rfl
  have g_law_box := PySem.W.mg_of X G a4
  have F_law_take := fun_mk (st := st_law_take) l5 c5 k5
  have b_law_take := F_law_take.binds (ps := ["_law_box_here", "_law_size"]) fun _ _ _ _ _ _ us hl => match us, hl with | [_, _], _ => rfl
  have g_law_take := PySem.W.mg_of X G a5
  have F_law_folded := fun_mk (st := st_law_folded) l6 c6 k6
  have b_law_folded := F_law_folded.binds (ps := ["_law_script", "_law_size"]) fun _ _ _ _ _ _ us hl => match us, hl with | [_, _], _ => rfl
  have g_law_folded := PySem.W.mg_of X G a6
  have F_law_same := fun_mk (st := st_law_same) l7 c7 k7
  have b_law_same := F_law_same.binds (ps := ["_law_found", "_law_due"]) fun _ _ _ _ _ _ us hl => match us, hl with | [_, _], _ => rfl
  have g_law_same := PySem.W.mg_of X G a7
  have F_law_sizes := fun_mk (st := st_law_sizes) l8 c8 k8
  have b_law_sizes := F_law_sizes.binds (ps := ["_law_box_here", "_law_most"]) fun _ _ _ _ _ _ us hl => match us, hl with | [_, _], _ => rfl
  have g_law_sizes := PySem.W.mg_of X G a8
  have F_law_load := fun_mk (st := st_law_load) l9 c9 k9
  have b_law_load := F_law_load.binds (ps := ["_law_box_here", "_law_most", "_law_much"]) fun _ _ _ _ _ _ us hl => match us, hl with | [_, _, _], _ => rfl
  have g_law_load := PySem.W.mg_of X G a9
  have F_law_spread := fun_mk (st := st_law_spread) l10 c10 k10
  have b_law_spread := F_law_spread.binds (ps := ["_law_load_here", "_law_how"]) fun _ _ _ _ _ _ us hl => match us, hl with | [_, _], _ => rfl
  have g_law_spread := PySem.W.mg_of X G a10
  have F_law_right := fun_mk (st := st_law_right) l11 c11 k11
  have b_law_right := F_law_right.binds (ps := ["_law_box_here"]) fun _ _ _ _ _ _ us hl => match us, hl with | [_], _ => rfl
  have g_law_right := PySem.W.mg_of X G a11
  have F_law := fun_mk (st := st_law) l12 c12 k12
  have b_law := F_law.binds (ps := ["_law_script"]) fun _ _ _ _ _ _ us hl => match us, hl with | [_], _ => rfl
  have g_law := PySem.W.mg_of X G a12
  have B : Bm mg := ⟨PySem.W.mg_none_of X G z0, PySem.W.mg_none_of X G z1, PySem.W.mg_none_of X G z2, PySem.W.mg_none_of X G z3, PySem.W.mg_none_of X G z4, PySem.W.mg_none_of X G z5, PySem.W.mg_none_of X G z6, PySem.W.mg_none_of X G z7, PySem.W.mg_none_of X G z8, PySem.W.mg_none_of X G z9, PySem.W.mg_none_of X G z10, PySem.W.mg_none_of X G z11, PySem.W.mg_none_of X G z12, PySem.W.mg_none_of X G z13, PySem.W.mg_none_of X G z14, PySem.W.mg_none_of X G z15, PySem.W.mg_none_of X G z16, PySem.W.mg_none_of X G z17, PySem.W.mg_none_of X G z18, PySem.W.mg_none_of X G z19, PySem.W.mg_none_of X G z20, PySem.W.mg_none_of X G z21⟩
  refine ⟨PySem.W.fnOf "law" "law" (defArgs st_law) (defBody st_law) (defScope st_law) .none kV12 dc12 pm12 an12 cd12 ct12, fun s v => .of_eq rfl, fun base _ _ => ?_⟩
  have D_beat_of : Df l.prog w K mg base 1 _ _ _ _ _ _ := ⟨F_beat_of, g_beat_of, b_beat_of, ok_beat_of (P := l.prog) (w := w) (base := base) F_beat_of B C_EARLY C_LATE⟩
  have D_coming_in : Df l.prog w K mg base 2 _ _ _ _ _ _ := ⟨F_coming_in, g_coming_in, b_coming_in, ok_coming_in (P := l.prog) (w := w) (base := base) F_coming_in B D_beat_of⟩
  have D_cells_of : Df l.prog w K mg base 1 _ _ _ _ _ _ := ⟨F_cells_of, g_cells_of, b_cells_of, ok_cells_of (P := l.prog) (w := w) (base := base) F_cells_of B ⟩
  have D_arrivals : DfK l.prog w K mg base 3 _ _ _ _ _ _ := ⟨F_arrivals, g_arrivals, ok_arrivals (P := l.prog) (w := w) (base := base) F_arrivals B D_cells_of D_coming_in⟩
  have D_law_box : Df l.prog w K mg base 1 _ _ _ _ _ _ := ⟨F_law_box, g_law_box, b_law_box, ok_law_box (P := l.prog) (w := w) (base := base) F_law_box B⟩
  have D_law_take : Df l.prog w K mg base 1 _ _ _ _ _ _ := ⟨F_law_take, g_law_take, b_law_take, ok_law_take (P := l.prog) (w := w) (base := base) F_law_take B⟩
  have D_law_folded : Df l.prog w K mg base 1 _ _ _ _ _ _ := ⟨F_law_folded, g_law_folded, b_law_folded, ok_law_folded (P := l.prog) (w := w) (base := base) F_law_folded B⟩
  have D_law_same : Df l.prog w K mg base 7 _ _ _ _ _ _ := ⟨F_law_same, g_law_same, b_law_same, ok_law_same (P := l.prog) (w := w) (base := base) F_law_same B g_law_same b_law_same⟩
  have D_law_sizes : Df l.prog w K mg base 2 _ _ _ _ _ _ := ⟨F_law_sizes, g_law_sizes, b_law_sizes, ok_law_sizes (P := l.prog) (w := w) (base := base) F_law_sizes B D_law_take⟩
  have D_law_load : Df l.prog w K mg base 3 _ _ _ _ _ _ := ⟨F_law_load, g_law_load, b_law_load, ok_law_load (P := l.prog) (w := w) (base := base) F_law_load B D_law_sizes D_law_take⟩
  have D_law_spread : Df l.prog w K mg base 1 _ _ _ _ _ _ := ⟨F_law_spread, g_law_spread, b_law_spread, ok_law_spread (P := l.prog) (w := w) (base := base) F_law_spread B ⟩
  have D_law_right : DfG l.prog w K mg base 8 _ _ _ _ _ _ := ⟨F_law_right, g_law_right, b_law_right, ok_law_right (P := l.prog) (w := w) (base := base) F_law_right B C_EARLY C_EVEN C_LATE D_law_load D_law_same D_law_spread D_law_take D_arrivals vd_arrivals bd_arrivals kb_arrivals⟩
  have D_right : DfG l.prog w K mg base 8 "_law_right" st_law_right ["_law_box_here"] _ _ (spRt 700000 1000) := ⟨F_law_right, g_law_right, b_law_right, D_law_right.G.imp fun _ _ _ _ h => sp_right (fun N hN => law_right_spec hN) h⟩
  exact ok_law F_law B D_law_folded D_law_box D_right
theorem all_of {l : PySem.W.OpenLaw} {w : World} {K : PySem.W.Frag} {h : Heap} {mg : Str → Option Value} {fa : Addr} (X : K.In h) (G : h.Ns mainGlobals mg) (hfa : mg "law" = some (.ref fa)) (c : He.SaysD [] fnA K) (b : (ttA.all fun f => f K) = true) (t : tabB tbA K = tabV tbA w) :
    ∃ fd : FuncData, (∀ (s : Shared) (v : Value), BindsTo s fd ⟨[v], []⟩ [("_law_script", v)]) ∧ ∀ base : Heap, K.In base → base.Ns mainGlobals mg → FnG l.prog w K mg base 9 fa fd ["_law_script"] (spLaw K) := by
  have T0 : PySem.W.nsIn K mainGlobals "beat_of" = some (some (.ref (He.fAd K ("beat_of", none)))) := of_decide_eq_true (test_at b 0 (f := tt0) rfl)
  obtain ⟨_, _, _, _, _, _, _, _, _, l0, c0, k0, q0⟩ := def_at2 c 0 rfl
  have T1 : PySem.W.nsIn K mainGlobals "coming_in" = some (some (.ref (He.fAd K ("coming_in", none)))) := of_decide_eq_true (test_at b 1 (f := tt1) rfl)
  obtain ⟨_, _, _, _, _, _, _, _, _, l1, c1, k1, q1⟩ := def_at2 c 1 rfl
  have T2 : PySem.W.nsIn K mainGlobals "cells_of" = some (some (.ref (He.fAd K ("cells_of", none)))) := of_decide_eq_true (test_at b 2 (f := tt2) rfl)
  obtain ⟨_, _, _, _, _, _, _, _, _, l2, c2, k2, q2⟩ := def_at2 c 2 rfl
  have T3 : PySem.W.nsIn K mainGlobals "arrivals" = some (some (.ref (He.fAd K ("arrivals", none)))) := of_decide_eq_true (test_at b 3 (f := tt3) rfl)
  obtain ⟨_, _, _, _, _, _, _, _, _, l3, c3, k3, q3⟩ := def_at2 c 3 rfl
  have T4 : PySem.W.nsIn K mainGlobals "_law_box" = some (some (.ref (He.fAd K ("_law_box", none)))) := of_decide_eq_true (test_at b 4 (f := tt4) rfl)
  obtain ⟨_, _, _, _, _, _, _, _, _, l4, c4, k4, q4⟩ := def_at2 c 4 rfl
  have T5 : PySem.W.nsIn K mainGlobals "_law_take" = some (some (.ref (He.fAd K ("_law_take", none)))) := of_decide_eq_true (test_at b 5 (f := tt5) rfl)
  obtain ⟨_, _, _, _, _, _, _, _, _, l5, c5, k5, q5⟩ := def_at2 c 5 rfl
  have T6 : PySem.W.nsIn K mainGlobals "_law_folded" = some (some (.ref (He.fAd K ("_law_folded", none)))) := of_decide_eq_true (test_at b 6 (f := tt6) rfl)
  obtain ⟨_, _, _, _, _, _, _, _, _, l6, c6, k6, q6⟩ := def_at2 c 6 rfl
  have T7 : PySem.W.nsIn K mainGlobals "_law_same" = some (some (.ref (He.fAd K ("_law_same", none)))) := of_decide_eq_true (test_at b 7 (f := tt7) rfl)
  obtain ⟨_, _, _, _, _, _, _, _, _, l7, c7, k7, q7⟩ := def_at2 c 7 rfl
  have T8 : PySem.W.nsIn K mainGlobals "_law_sizes" = some (some (.ref (He.fAd K ("_law_sizes", none)))) := of_decide_eq_true (test_at b 8 (f := tt8) rfl)
  obtain ⟨_, _, _, _, _, _, _, _, _, l8, c8, k8, q8⟩ := def_at2 c 8 rfl
  have T9 : PySem.W.nsIn K mainGlobals "_law_load" = some (some (.ref (He.fAd K ("_law_load", none)))) := of_decide_eq_true (test_at b 9 (f := tt9) rfl)
  obtain ⟨_, _, _, _, _, _, _, _, _, l9, c9, k9, q9⟩ := def_at2 c 9 rfl
  have T10 : PySem.W.nsIn K mainGlobals "_law_spread" = some (some (.ref (He.fAd K ("_law_spread", none)))) := of_decide_eq_true (test_at b 10 (f := tt10) rfl)
  obtain ⟨_, _, _, _, _, _, _, _, _, l10, c10, k10, q10⟩ := def_at2 c 10 rfl
  have T11 : PySem.W.nsIn K mainGlobals "_law_right" = some (some (.ref (He.fAd K ("_law_right", none)))) := of_decide_eq_true (test_at b 11 (f := tt11) rfl)
  obtain ⟨_, _, _, _, _, _, _, _, _, l11, c11, k11, q11⟩ := def_at2 c 11 rfl
  have T12 : PySem.W.nsIn K mainGlobals "law" = some (some (.ref (He.fAd K ("law", none)))) := of_decide_eq_true (test_at b 12 (f := tt12) rfl)
  obtain ⟨_, _, _, _, _, _, _, _, _, l12, c12, k12, q12⟩ := def_at2 c 12 rfl
  obtain ⟨_, V0⟩ := He.str_ok (x := "EVEN") (z := "even") X G (test_at b 13 (f := tt13) rfl)
  obtain ⟨_, V1⟩ := He.str_ok (x := "EARLY") (z := "early") X G (test_at b 14 (f := tt14) rfl)
  obtain ⟨_, V2⟩ := He.str_ok (x := "LATE") (z := "late") X G (test_at b 15 (f := tt15) rfl)
  have T16 : PySem.W.nsIn K mainGlobals "int" = some none := of_decide_eq_true (test_at b 16 (f := tt16) rfl)
  have T17 : PySem.W.nsIn K mainGlobals "bool" = some none := of_decide_eq_true (test_at b 17 (f := tt17) rfl)
  have T18 : PySem.W.nsIn K mainGlobals "list" = some none := of_decide_eq_true (test_at b 18 (f := tt18) rfl)
  have T19 : PySem.W.nsIn K mainGlobals "tuple" = some none := of_decide_eq_true (test_at b 19 (f := tt19) rfl)
  have T20 : PySem.W.nsIn K mainGlobals "str" = some none := of_decide_eq_true (test_at b 20 (f := tt20) rfl)
  have T21 : PySem.W.nsIn K mainGlobals "len" = some none := of_decide_eq_true (test_at b 21 (f := tt21) rfl)
  have T22 : PySem.W.nsIn K mainGlobals "all" = some none := of_decide_eq_true (test_at b 22 (f := tt22) rfl)
  have T23 : PySem.W.nsIn K mainGlobals "isinstance" = some none := of_decide_eq_true (test_at b 23 (f := tt23) rfl)
  have T24 : PySem.W.nsIn K mainGlobals "range" = some none := of_decide_eq_true (test_at b 24 (f := tt24) rfl)
  have T25 : PySem.W.nsIn K mainGlobals "enumerate" = some none := of_decide_eq_true (test_at b 25 (f := tt25) rfl)
  have T26 : PySem.W.nsIn K mainGlobals "zip" = some none := of_decide_eq_true (test_at b 26 (f := tt26) rfl)
  have T27 : PySem.W.nsIn K mainGlobals "repr" = some none := of_decide_eq_true (test_at b 27 (f := tt27) rfl)
  have T28 : PySem.W.nsIn K mainGlobals "abs" = some none := of_decide_eq_true (test_at b 28 (f := tt28) rfl)
  have T29 : PySem.W.nsIn K mainGlobals "min" = some none := of_decide_eq_true (test_at b 29 (f := tt29) rfl)
  have T30 : PySem.W.nsIn K mainGlobals "max" = some none := of_decide_eq_true (test_at b 30 (f := tt30) rfl)
  have T31 : PySem.W.nsIn K mainGlobals "divmod" = some none := of_decide_eq_true (test_at b 31 (f := tt31) rfl)
  have T32 : PySem.W.nsIn K mainGlobals "sum" = some none := of_decide_eq_true (test_at b 32 (f := tt32) rfl)
  have T33 : PySem.W.nsIn K mainGlobals "sorted" = some none := of_decide_eq_true (test_at b 33 (f := tt33) rfl)
  have T34 : PySem.W.nsIn K mainGlobals "any" = some none := of_decide_eq_true (test_at b 34 (f := tt34) rfl)
  have T35 : PySem.W.nsIn K mainGlobals "set" = some none := of_decide_eq_true (test_at b 35 (f := tt35) rfl)
  have T36 : PySem.W.nsIn K mainGlobals "reversed" = some none := of_decide_eq_true (test_at b 36 (f := tt36) rfl)
  have T37 : PySem.W.nsIn K mainGlobals "dict" = some none := of_decide_eq_true (test_at b 37 (f := tt37) rfl)
  exact all_mk X G hfa T0 l0 c0 k0 T1 l1 c1 k1 T2 l2 c2 k2 T3 l3 c3 k3 q3 T4 l4 c4 k4 T5 l5 c5 k5 T6 l6 c6 k6 T7 l7 c7 k7 T8 l8 c8 k8 T9 l9 c9 k9 T10 l10 c10 k10 T11 l11 c11 k11 T12 l12 c12 k12 V0 V1 V2 T16 T17 T18 T19 T20 T21 T22 T23 T24 T25 T26 T27 T28 T29 T30 T31 T32 T33 T34 T35 T36 T37
end K87
open PySem PySem.W PySem.Calls PyProof.Rows
set_option maxHeartbeats 0 in
theorem PySem.Challenge.cw_crossgrants_k87_arrivals_of_loads_holds : PySem.Challenge.rw_crossgrants_k87_arrivals_of_loads.Holds := by
  w_on; o_law
  refine HandSHeadRun.head_any (r := OpenLaw.row PySem.Challenge.rw_crossgrants_k87_arrivals_of_loads) (q := view (OpenLaw.row PySem.Challenge.rw_crossgrants_k87_arrivals_of_loads).prog [17]) (H := K87.hk) (ob := K87.ob) (M := 9000) (loose := K87.nms) (d := HandSHeadRun.topDef (OpenLaw.row PySem.Challenge.rw_crossgrants_k87_arrivals_of_loads).prog 17) (kwd := []) K87.ob_eq
    (by kernel_rfl) (fun s => by kernel_rfl) K87.run (by kernel_rfl) (by kernel_rfl) (by kernel_rfl) (by rfl) (by first | assumption | decide +kernel) (by decide +kernel) ⟨rfl, rfl, rfl, rfl, rfl, by decide +kernel⟩ ?hw ?hc
  case hw => w_witness2
  case hc =>
    refine Cg.walkGE (l := PySem.Challenge.rw_crossgrants_k87_arrivals_of_loads) (n := 63) (k := 9) (x := "_law_script") (sp := Cg.spLaw) rfl (by decide) (by kernel_rfl) ⟨rfl, by decide, by decide⟩ ?F (fun K H a ns hl hS => ⟨a, ns, rfl, hS, hl, fun _ => rfl⟩)
    intro w mg fa h Y G hmg0
    obtain ⟨K, KX, c, b, t⟩ := Y
    have hmg : mg ("law" : PySem.Str) = some (.ref fa) := by
      have e : (HandSHeadRun.topDef (OpenLaw.row PySem.Challenge.rw_crossgrants_k87_arrivals_of_loads).prog 17).name = ("law" : PySem.Str) := by kernel_rfl
      rw [← e]
      exact hmg0
    obtain ⟨fd, hb, hF⟩ := K87.all_of (w := w) KX G hmg c b t
    exact ⟨K, fd, KX, hb, hF⟩
